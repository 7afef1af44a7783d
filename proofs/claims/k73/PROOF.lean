import PyProof.Rows.All
import Wide.All
import OpenK.AllK
import Wide.FinOn
import Lean
import PyProof.EqAt
import PyProof.EqKinds
import PyProof.TupleCall
import KE.KSortTup
import PyProof.CollectWalk
import PyProof.DictWalks
import PyProof.Rows.SortWalk
import KE.KItemsList
import PyProof.ReprText
import PyProof.Rows.StrIntSpec
import PyProof.RowDictHeap
import KE.KRevIter
import KE.KMinKey
import PyProof.P3In
import KE.KIntText
import PyProof.StrLawsTight
import PyProof.StrWalks
import PyProof.ListRange
import PySem.Challenge.RW_fourpoints_k73_whole_views_of_changing_s
set_option Elab.async false
set_option linter.all false
set_option maxRecDepth 100000
set_option maxHeartbeats 4000000
-- CHANGE: your row's module here, as the last of these rows
abbrev L2.PL := List (Int × Int)
namespace L2
open PySem PySem.Spec PyProof.Rows
abbrev Key := Sum Int Str
def ZIn : Key → Value → Bool
 | .inl k, v => Value.isInt k v
 | .inr x, v => Value.isStrOf x v
def ZX4 (w : World) : Key → Int
 | .inl k => hashInt k
 | .inr x => hashStr w x
theorem ZFF : ∀ {k : Key} {v : Value}, ZIn k v = true → (∃ i t, k = Sum.inl i ∧ v = Value.int i t) ∨ (∃ x t, k = Sum.inr x ∧ v = Value.str x t)
 | .inl i, v, h => by
  obtain ⟨t, e⟩ := Value.isInt_shape (k := i) (v := v) h
  exact .inl ⟨i, t, rfl, e⟩
 | .inr x, v, h => by
  obtain ⟨t, e⟩ := Value.isStrOf_shape (x := x) (v := v) h
  exact .inr ⟨x, t, rfl, e⟩
theorem ZPy (i : Int) (t : Tok) : ZIn (.inl i) (.int i t) = true := by simp [ZIn, Value.isInt]
theorem ZPz (x : Str) (t : Tok) : ZIn (.inr x) (.str x t) = true := by simp [ZIn, Value.isStrOf]
theorem ZVx (a b : Int) : decide ((Sum.inl a : Key) = Sum.inl b) = (a == b) := by
 by_cases e : a = b
 ·subst e; simp
 ·have h : ¬ (Sum.inl a : Key) = Sum.inl b := fun q => e (Sum.inl.inj q)
  rw [decide_eq_false h]
  exact (beq_eq_false_iff_ne.mpr e).symm
theorem ZVy (a b : Str) : decide ((Sum.inr a : Key) = Sum.inr b) = decide (a = b) := by
 by_cases e : a = b
 ·subst e; simp
 ·have h : ¬ (Sum.inr a : Key) = Sum.inr b := fun q => e (Sum.inr.inj q)
  rw [decide_eq_false h, decide_eq_false e]
theorem ZVz (a : Int) (b : Str) : decide ((Sum.inl a : Key) = Sum.inr b) = false := decide_eq_false (fun q => nomatch q)
theorem ZV0 (a : Str) (b : Int) : decide ((Sum.inr a : Key) = Sum.inl b) = false := decide_eq_false (fun q => nomatch q)
def ZEy (prog : Program) (w : World) : PySem.KeyKind prog w Key where
 is := ZIn
 hash := ZX4 w
 inj := fun v a b ha hb => by
  rcases ZFF ha with ⟨i, t, rfl, rfl⟩ | ⟨x, t, rfl, rfl⟩
  ·rcases ZFF hb with ⟨j, u, rfl, e⟩ | ⟨y, u, rfl, e⟩
   ·injection e with e1 _; rw [e1]
   ·exact nomatch e
  ·rcases ZFF hb with ⟨j, u, rfl, e⟩ | ⟨y, u, rfl, e⟩
   ·exact nomatch e
   ·injection e with e1 _; rw [e1]
 byValue := fun k v h => by
  rcases ZFF h with ⟨i, t, rfl, rfl⟩ | ⟨x, t, rfl, rfl⟩ <;> rfl
 pyHash := fun hv h => by
  rcases ZFF hv with ⟨i, t, rfl, rfl⟩ | ⟨x, t, rfl, rfl⟩
  ·exact wpAny_pyHash_int h
  ·exact wpAny_pyHash_str h
 eqBool := fun hu hv h => by
  rcases ZFF hu with ⟨i, t, rfl, rfl⟩ | ⟨x, t, rfl, rfl⟩
  ·rcases ZFF hv with ⟨j, u, rfl, rfl⟩ | ⟨y, u, rfl, rfl⟩
   ·rw [ZVx] at h; exact wpAny_eqBool_int h
   ·rw [ZVz] at h; exact SeqAt.EqAt.int_str i t y u _ _ _ _ h
  ·rcases ZFF hv with ⟨j, u, rfl, rfl⟩ | ⟨y, u, rfl, rfl⟩
   ·rw [ZV0] at h; exact SeqAt.EqAt.str_int x t j u _ _ _ _ h
   ·rw [ZVy] at h; exact wpAny_eqBool_str h
 «strs» := fun k x t v h => by
  rcases ZFF h with ⟨i, u, rfl, e⟩ | ⟨y, u, rfl, e⟩
  ·exact nomatch e
  ·injection e with e1 _
   subst e1
   cases v <;> rfl
theorem ZN1 (prog : Program) (w : World) (i : Int) (t : Tok) : (ZEy prog w).is (.inl i) (.int i t) = true := ZPy i t
theorem ZN2 (prog : Program) (w : World) (x : Str) (t : Tok) : (ZEy prog w).is (.inr x) (.str x t) = true := ZPz x t
inductive V where
 | non | bl (b : Bool) | int (i : Int) | str (x : Str) | byt (b : Array UInt8) | flt (b : UInt64) | ref (a : Addr) | ty (n : String)
 deriving DecidableEq
def ZER : V → Value → Prop
 | .non, u => u = Value.none
 | .bl b, u => u = Value.bool b
 | .int i, u => ∃ t, u = Value.int i t
 | .str x, u => ∃ t, u = Value.str x t
 | .byt b, u => ∃ t, u = Value.bytes b t
 | .flt b, u => ∃ t, u = Value.float b t
 | .ref a, u => u = Value.ref a
 | .ty n, u => u = Value.type n
abbrev ZEU : List V → List Value → Prop := Paired ZER
theorem ZEU.length {xs : List V} {us : List Value} (r : ZEU xs us) : xs.length = us.length := Paired.length r
theorem ZEU.get : ∀ {xs : List V} {us : List Value} {i : Nat} {x : V}, ZEU xs us → xs[i]? = some x → ∃ u, us[i]? = some u ∧ ZER x u
 | _, _, _, _, .nil, e => by simp at e
 | _, _, 0, _, .cons r _, e => by simp at e; subst e; exact ⟨_, rfl, r⟩
 | _, _, i + 1, x, .cons _ t, e => by
  obtain ⟨u, h1, h2⟩ := ZEU.get (i := i) (x := x) t (by simpa using e)
  exact ⟨u, by simpa using h1, h2⟩
theorem ZEU.set {x : V} {u : Value} (r : ZER x u) : ∀ {xs : List V} {us : List Value} (i : Nat), ZEU xs us → ZEU (xs.set i x) (us.set i u)
 | _, _, _, .nil => .nil
 | _, _, 0, .cons _ t => .cons r t
 | _, _, i + 1, .cons q t => .cons q (ZEU.set r i t)
theorem ZEU.append : ∀ {xs ys : List V} {us ws : List Value}, ZEU xs us → ZEU ys ws → ZEU (xs ++ ys) (us ++ ws)
 | _, _, _, _, .nil, s => s
 | _, _, _, _, .cons r t, s => .cons r (ZEU.append t s)
theorem ZEU.take : ∀ {xs : List V} {us : List Value} (n : Nat), ZEU xs us → ZEU (xs.take n) (us.take n)
 | _, _, 0, _ => .nil
 | _, _, _ + 1, .nil => .nil
 | _, _, n + 1, .cons r t => .cons r (ZEU.take n t)
theorem ZEU.drop : ∀ {xs : List V} {us : List Value} (n : Nat), ZEU xs us → ZEU (xs.drop n) (us.drop n)
 | _, _, 0, r => r
 | _, _, _ + 1, .nil => .nil
 | _, _, n + 1, .cons _ t => ZEU.drop n t
def ZFw : Option V → Option Value → Prop
 | some v, some u => ZER v u
 | none, none => True
 | _, _ => False
def KV {κ : Type} : List (κ × V) → List (κ × Value) → Prop := Paired fun (p : κ × V) (q : κ × Value) => p.1 = q.1 ∧ ZER p.2 q.2
def kV : Key → V
 | .inl i => .int i
 | .inr x => .str x
inductive HO where
 | lst (xs : List V)
 | tup (xs : List V)
 | dK (kvs : List (Key × V)) | dT (kvs : List (List Key × V))
 | set (S : Int → Bool) (n : Nat)
 | ins (C dx : Addr) (fs : List (Str × V))
 | own (x : Addr)
 | xd (fs : List (Str × V))
 | met (f x : Addr)
 | rng (lo hi : Int)
 | frz (o : Obj) (u : HO)
 | tbl (ps : Array Value)
 | ext (φ : Heap → Prop)
abbrev Hp := Addr → Option HO
def upd (H : Hp) (a : Addr) (o : HO) : Hp := fun b => if b = a then some o else H b
theorem ZEN {H : Hp} {a : Addr} {o : HO} : upd H a o a = some o := by unfold upd; rw [if_pos rfl]
theorem ZEV {H : Hp} {a b : Addr} {o : HO} (h : b ≠ a) : upd H a o b = H b := by unfold upd; rw [if_neg h]
theorem ZTo {H : Hp} {a b : Addr} {o u : HO} (h : H a = some o) (h' : H b = some u) (d : o ≠ u) : a ≠ b := by
 intro e; subst e; rw [h] at h'; exact d (Option.some.inj h')
theorem ZET {H : Hp} {a b : Addr} {o : HO} (h : H a = some o) (h' : H b = none) : a ≠ b := by
 intro e; subst e; rw [h] at h'; cases h'
section
variable (P : Program) (w : World)
def ZEv (H : Hp) (h : Heap) (a : Addr) : HO → Prop
 | .lst xs => xs.length ≤ sizeLine ∧ ∃ (its : List Value) (n : Nat), ZEU xs its ∧ h.get? a = some { cls := .type "list", data := .seq its.toArray n }
 | .tup xs => (xs.length ≤ sizeLine ∧ ((∀ i : Int, xs.head? ≠ some (.int i)) → ∃ o, h.get? a = some o ∧ o.dict = none ∧ o.slots = #[])) ∧ ∃ its : List Value, ZEU xs its ∧ IsTup h a its.toArray
 | .dK kvs => kvs.length ≤ sizeLine ∧ (a == sysModules) = false ∧ ∃ vs, KV kvs vs ∧ h.DictOf (ZEy P w) a vs
 | .dT kvs => kvs.length ≤ sizeLine ∧ (a == sysModules) = false ∧ ∃ xs : List (List Key × Addr × Value),
  Paired (fun (p : List Key × V) (q : List Key × Addr × Value) => p.1 = q.1 ∧ H q.2.1 = some (.tup (p.1.map kV)) ∧ ZER p.2 q.2.2) kvs xs ∧
  ∃ o es ep, h.get? a = some o ∧ o.ExactDict ∧ o.data = .dict es ep ∧ es.toList = xs.map (entryOfKey (tupleKind (ZEy P w))) ∧ (xs.map (·.1)).Nodup
 | .set S n => h.SetOf (intKind P w) a S n
 | .ins C dx fs => H dx = some (.own a) ∧ fs.length ≤ 1000 ∧ dx ≠ a ∧ h.get? a = some (PySem.W.instObj C dx) ∧
  ∃ mA, h.Ns1 dx mA ∧ (∀ f, ZFw (fs.lookup f) (mA f)) ∧ PySem.Within mA (fs.map (·.1))
 | .own _ => ∃ o, h.get? a = some o
 | .xd fs => ∃ mA, h.Ns1 a mA ∧ ∀ f, ZFw (fs.lookup f) (mA f)
 | .rng lo hi => ∃ t u v, h.get? a = some { cls := .type "range", data := .fields #[.int lo t, .int hi u, .int 1 v] }
 | .frz o u => h.get? a = some o ∧ ZEv H h a u
 | .tbl ps => h.get? a = some { cls := .none, data := .fields ps }
 | .met f x => h.get? a = some (PySem.W.methodObj (.ref f) (.ref x))
 | .ext φ => φ h ∧ (∃ o, h.get? a = some o) ∧ ∀ h1 h2 : Heap, φ h1 → (∀ o, h1.get? a = some o → h2.get? a = some o) → φ h2
def HOk (H : Hp) (h : Heap) : Prop := ∀ a o, H a = some o → ZEv P w H h a o
end
section
variable {P : Program} {w : World} {H H' : Hp} {h h' : Heap} {a : Addr} {o : HO}
theorem ZEv.lt (x : ZEv P w H h a o) : a < h.objs.size := by
 cases o with
 | lst xs => obtain ⟨_, _, _, _, e⟩ := x; exact Heap.lt_size e
 | tup xs => obtain ⟨_, _, _, p⟩ := x; exact p.lt
 | dK kvs => obtain ⟨_, _, _, _, o, _, _, e, _⟩ := x; exact Heap.lt_size e
 | dT kvs => obtain ⟨_, _, _, _, o, _, _, e, _⟩ := x; exact Heap.lt_size e
 | set S n => obtain ⟨o, _, _, _, e, _⟩ := x; exact Heap.lt_size e
 | ins C dx fs => obtain ⟨_, _, _, e, _⟩ := x; exact Heap.lt_size e
 | own y => obtain ⟨_, e⟩ := x; exact Heap.lt_size e
 | xd fs => obtain ⟨_, ⟨_, _, _, e, _⟩, _⟩ := x; exact Heap.lt_size e
 | rng lo hi => obtain ⟨_, _, _, e⟩ := x; exact Heap.lt_size e
 | frz ob u => obtain ⟨e, _⟩ := x; exact Heap.lt_size e
 | tbl ps => exact Heap.lt_size (show h.get? a = some _ from x)
 | met f y => exact Heap.lt_size (show h.get? a = some _ from x)
 | ext φ => obtain ⟨_, ⟨_, e⟩, _⟩ := x; exact Heap.lt_size e
theorem Paired.mapP {α β : Type} {F G : α → β → Prop} : ∀ {l₁ : List α} {l₂ : List β}, Paired F l₁ l₂ → (∀ a b, F a b → G a b) → Paired G l₁ l₂
 | _, _, .nil, _ => .nil
 | _, _, .cons r t, f => .cons (f _ _ r) (Paired.mapP t f)
theorem ZEv.stay (x : ZEv P w H h a o) (k : ∀ b u, (b = a ∨ H b = some (.own a)) → h.get? b = some u → h'.get? b = some u)
  (ho : ∀ b, H b = some (.own a) → H' b = some (.own a)) (ht : ∀ b xs, H b = some (.tup xs) → H' b = some (.tup xs)) : ZEv P w H' h' a o := by
 induction o with
 | lst xs => obtain ⟨z, its, n, r, e⟩ := x; exact ⟨z, its, n, r, k _ _ (.inl rfl) e⟩
 | tup xs =>
  obtain ⟨⟨z, pd⟩, its, r, ob, e, c⟩ := x
  exact ⟨⟨z, fun q => let ⟨od, ed, cd⟩ := pd q; ⟨od, k _ _ (.inl rfl) ed, cd⟩⟩, its, r, ob, k _ _ (.inl rfl) e, c⟩
 | dK kvs => obtain ⟨z, y, vs, r, ob, es, ep, e, c⟩ := x; exact ⟨z, y, vs, r, ob, es, ep, k _ _ (.inl rfl) e, c⟩
 | dT kvs =>
  obtain ⟨z, y, xs, r, ob, es, ep, e, c⟩ := x
  exact ⟨z, y, xs, Paired.mapP r fun p q z => ⟨z.1, ht _ _ z.2.1, z.2.2⟩, ob, es, ep, k _ _ (.inl rfl) e, c⟩
 | set S n => obtain ⟨ob, es, ep, t, e, c⟩ := x; exact ⟨ob, es, ep, t, k _ _ (.inl rfl) e, c⟩
 | ins C dx fs =>
  obtain ⟨d, z, ne, e, mA, ⟨od, es, ep, e2, c⟩, r⟩ := x
  exact ⟨ho _ d, z, ne, k _ _ (.inl rfl) e, mA, ⟨od, es, ep, k _ _ (.inr d) e2, c⟩, r⟩
 | own y => obtain ⟨ob, e⟩ := x; exact ⟨ob, k _ _ (.inl rfl) e⟩
 | xd fs => obtain ⟨mA, ⟨od, es, ep, e, c⟩, r⟩ := x; exact ⟨mA, ⟨od, es, ep, k _ _ (.inl rfl) e, c⟩, r⟩
 | rng lo hi => obtain ⟨t, u, v, e⟩ := x; exact ⟨t, u, v, k _ _ (.inl rfl) e⟩
 | frz ob u ih => obtain ⟨e, q⟩ := x; exact ⟨k _ _ (.inl rfl) e, ih q⟩
 | tbl ps =>
  have e : h.get? a = some { cls := .none, data := .fields ps } := x
  show h'.get? a = some { cls := .none, data := .fields ps }
  exact k a _ (.inl rfl) e
 | met f y =>
  have e : h.get? a = some (PySem.W.methodObj (.ref f) (.ref y)) := x
  show h'.get? a = some (PySem.W.methodObj (.ref f) (.ref y))
  exact k a _ (.inl rfl) e
 | ext φ => obtain ⟨p, ⟨o, e⟩, st⟩ := x; exact ⟨st _ _ p fun o q => k _ _ (.inl rfl) q, ⟨o, k _ _ (.inl rfl) e⟩, st⟩
theorem HOk.lt (x : HOk P w H h) (e : H a = some o) : a < h.objs.size := (x a o e).lt
theorem HOk.fresh (x : HOk P w H h) (e : h.objs.size ≤ a) : H a = none := by
 cases q : H a with
 | none => rfl
 | some u => exact absurd (Nat.lt_of_lt_of_le (x.lt q) e) (Nat.lt_irrefl _)
theorem HOk.kept (x : HOk P w H h) (k : ∀ b u, h.get? b = some u → h'.get? b = some u) : HOk P w H h' := fun a o e =>
 (x a o e).stay (fun b u _ q => k b u q) (fun _ q => q) fun _ _ q => q
theorem HOk.laid (x : HOk P w H h) (k : ∀ b u, h.get? b = some u → h'.get? b = some u) (hp : h.objs.size ≤ a) (new : ZEv P w (upd H a o) h' a o) : HOk P w (upd H a o) h' := fun b u e => by
 have hn := x.fresh hp
 by_cases hb : b = a
 ·subst hb; rw [ZEN] at e; cases e; exact new
 ·rw [ZEV hb] at e
  exact (x b u e).stay (fun c v _ q => k c v q) (fun c q => by rw [ZEV (ZET q hn)]; exact q) fun c xs q => by rw [ZEV (ZET q hn)]; exact q
end
def Rd (H : Hp) (a : Addr) (u : HO) : Prop := H a = some u ∨ ∃ o, H a = some (.frz o u)
theorem Rd.ok {P : Program} {w : World} {H : Hp} {h : Heap} {a : Addr} {u : HO} (r : Rd H a u) (x : HOk P w H h) : ZEv P w H h a u := by
 rcases r with r | ⟨o, r⟩
 ·exact x a u r
 ·obtain ⟨_, q⟩ := x a _ r
  exact q
def Mut : Option HO → Prop
 | some (.lst _) => True
 | some (.dK _) => True
 | some (.dT _) => True
 | some (.set _ _) => True
 | some (.ins _ _ _) => True
 | some (.ext _) => True
 | _ => False
section
variable {P : Program} {w : World} {H : Hp} {h h' : Heap} {x e : Addr} {o' : HO}
theorem HOk.write (ok : HOk P w H h) (mu : Mut (H x)) (he : e = x ∨ H e = some (.own x)) (k : ∀ b u, b ≠ e → h.get? b = some u → h'.get? b = some u) (heo : ∃ u, h'.get? e = some u)
  (new : ZEv P w (upd H x o') h' x o') : HOk P w (upd H x o') h' := fun b u q => by
 have nown : ∀ c y, H c = some (.own y) → c ≠ x := fun c y r z => by subst z; rw [r] at mu; exact mu
 have ntup : ∀ c xs, H c = some (.tup xs) → c ≠ x := fun c xs r z => by subst z; rw [r] at mu; exact mu
 by_cases hb : b = x
 ·subst hb; rw [ZEN] at q; cases q; exact new
 ·rw [ZEV hb] at q
  by_cases hbe : b = e
  ·have q' : H b = some (.own x) := by
    rcases he with z | z
    ·exact absurd (hbe.trans z) hb
    ·rw [hbe]; exact z
   rw [q] at q'; cases q'
   obtain ⟨v, hv⟩ := heo
   exact ⟨v, by rw [hbe]; exact hv⟩
  ·refine (ok b u q).stay (fun c v hc r => k c v ?_ r) (fun c r => by rw [ZEV (nown c b r)]; exact r) fun c xs r => by rw [ZEV (ntup c xs r)]; exact r
   rcases hc with rfl | hc
   ·exact hbe
   ·rintro rfl
    rcases he with z | z
    ·exact nown c b hc z
    ·rw [hc] at z; cases z; exact hb rfl
end
structure Un (fs ex : List Addr) (H H' : Hp) (h h' : Heap) : Prop where
 keep : ∀ b o, h.get? b = some o → H b = none → b ∉ fs → b ∉ ex → h'.get? b = some o
 slot : ∀ b o, h.get? b = some o → H b = none → b ∈ fs → b ∉ ex → ∃ sl, h'.get? b = some { o with slots := sl }
 free : ∀ b o, h.get? b = some o → H b = none → b ∉ ex → H' b = none
 there : ∀ b o, h.get? b = some o → b ∉ ex → ∃ o', h'.get? b = some o'
 tups : ∀ b xs, H b = some (.tup xs) → H' b = some (.tup xs)
 frzs : ∀ b o u, H b = some (.frz o u) → H' b = some (.frz o u)
 tbls : ∀ b ps, H b = some (.tbl ps) → ∃ more, H' b = some (.tbl (ps ++ more))
section
variable {fs fs' ex ex' : List Addr} {H H1 H2 : Hp} {h h1 h2 h' : Heap} {a x e : Addr} {o : HO}
theorem Un.any (u : Un fs ex H H1 h h1) {b : Addr} {ob : Obj} (q : h.get? b = some ob) (n : H b = none) (hx : b ∉ ex) : ∃ sl, h1.get? b = some { ob with slots := sl } := by
 by_cases hb : b ∈ fs
 ·exact u.slot b ob q n hb hx
 ·exact ⟨ob.slots, u.keep b ob q n hb hx⟩
theorem Un.kept (k : ∀ b u, h.get? b = some u → h'.get? b = some u) : Un fs ex H H h h' :=
 ⟨fun b ob q _ _ _ => k b ob q, fun b ob q _ _ _ => ⟨ob.slots, k b ob q⟩, fun _ _ _ n _ => n, fun b ob q _ => ⟨ob, k b ob q⟩, fun _ _ q => q, fun _ _ _ q => q, fun _ ps q => ⟨#[], by rw [q]; simp⟩⟩
theorem Un.refl : Un fs ex H H h h := Un.kept fun _ _ q => q
theorem Un.laid (k : ∀ b u, h.get? b = some u → h'.get? b = some u) (hp : h.objs.size ≤ a) (hn : H a = none) : Un fs ex H (upd H a o) h h' where
 keep := fun b u q _ _ _ => k b u q
 slot := fun b u q _ _ _ => ⟨u.slots, k b u q⟩
 free := fun b u q n _ => by rw [ZEV (Nat.ne_of_lt (Nat.lt_of_lt_of_le (Heap.lt_size q) hp))]; exact n
 there := fun b u q _ => ⟨u, k b u q⟩
 tups := fun b xs q => by rw [ZEV (ZET q hn)]; exact q
 frzs := fun b u xs q => by rw [ZEV (ZET q hn)]; exact q
 tbls := fun b ps q => ⟨#[], by rw [ZEV (ZET q hn), q]; simp⟩
theorem Un.write (mu : Mut (H x)) (he : e = x ∨ H e = some (.own x)) (k : ∀ b u, b ≠ e → h.get? b = some u → h'.get? b = some u) (heo : ∃ u, h'.get? e = some u) : Un fs ex H (upd H x o) h h' := by
 have hx : ∀ b, H b = none → b ≠ x := fun b n z => by subst z; rw [n] at mu; exact mu
 have hb : ∀ b, H b = none → b ≠ e := fun b n z => by
  subst z
  rcases he with r | r
  ·exact hx b n r
  ·rw [n] at r; cases r
 have hm : ∀ b u, H b = some u → ¬ Mut (some u) → b ≠ x := fun b u q nm z => by subst z; rw [q] at mu; exact nm mu
 refine ⟨fun b u q n _ _ => k b u (hb b n) q, fun b u q n _ _ => ⟨u.slots, k b u (hb b n) q⟩, fun b u q n _ => by rw [ZEV (hx b n)]; exact n, fun b u q _ => ?_,
  fun b xs q => by rw [ZEV (hm b _ q fun z => z)]; exact q, fun b u xs q => by rw [ZEV (hm b _ q fun z => z)]; exact q, fun b ps q => ⟨#[], by rw [ZEV (hm b _ q fun z => z), q]; simp⟩⟩
 by_cases hbe : b = e
 ·subst hbe; exact heo
 ·exact ⟨u, k b u hbe q⟩
end
def trk (h : Heap) (H : Hp) : List Addr := (List.range h.objs.size).filter fun a => (H a).isSome
def ZIo (h : Heap) (H : Hp) : Heap := PySem.W.hideAll h (trk h H)
theorem ZP0 (h : Heap) (H : Hp) : (ZIo h H).objs.size = h.objs.size := PySem.W.hideAll_size _ _
theorem ZRb {h : Heap} {H : Hp} {b : Addr} {o : Obj} (e : h.get? b = some o) (n : H b = none) : (ZIo h H).get? b = some o :=
 PySem.W.hideAll_get _ e fun hm => by
  have q : (H b).isSome = true := (List.mem_filter.mp hm).2
  rw [n] at q; simp at q
theorem ZT6 {h : Heap} {H : Hp} {b : Addr} {o : Obj} (e : (ZIo h H).get? b = some o) : h.get? b = some o ∧ H b = none := by
 have e' : h.get? b = some o := PySem.W.of_hideAll (trk h H) e
 refine ⟨e', ?_⟩
 cases q : H b with
 | none => rfl
 | some x =>
  have hm : b ∈ trk h H := List.mem_filter.mpr ⟨List.mem_range.mpr (Heap.lt_size e'), by simp [q]⟩
  have z : (ZIo h H).get? b = none := PySem.W.hideAll_none (trk h H) hm
  rw [z] at e; cases e
def ZT7 (g h : Heap) (L : Addr) : List (Addr × Obj) := (List.range h.objs.size).filterMap fun a => if a = L ∨ (g.get? a).isSome = true then none else (h.get? a).map fun o => (a, o)
def ZFp (g h : Heap) (L d : Addr) : List (Addr × Obj) := (ZT7 g h L).filter fun p => decide (p.1 ≠ d)
structure Mod (K : W.Frag) (mg : Str → Option Value) (base : Heap) : Prop where
 kin : K.In base
 glob : base.Ns mainGlobals mg
 blt : ∃ mb, base.Ns builtinsNs mb ∧ ∀ x : Str, x ≠ "__name__" → mb x = bootBuiltins x
 nolimit : base.NoLimit
structure Cx where
 prog : Program
 w : World
 K : W.Frag
 mg : Str → Option Value
 base : Heap
 A : Around
 N : List Str
 s₀ : Shared
 H₀ : Hp
 env : Env
 outer : List Env
 stack : List Env
 ex : List Addr
 fn : Str → Bool
 calm : Bool
 pn : List (Addr × Obj)
 xe : Value → Shared → Prop
def frs (l : List Env) : List Addr := l.filterMap (·.frame)
abbrev Cx.fs (X : Cx) : List Addr := frs X.outer
def Vis (sc : Scope) (x : Str) : Prop := sc.names.lookup x = some .local ∨ sc.names.lookup x = some .cell ∨ sc.names.lookup x = some .free
def Loc (sc : Scope) (x : Str) : Prop := sc.names.lookup x = some .local ∨ sc.names.lookup x = some .cell
def ZX5 (env : Env) (h : Heap) (m : Str → Option Value) (x : Str) (u : Value) : Prop :=
 (env.kindOf x = some .local ∧ m x = some u) ∨ ((env.kindOf x = some .cell ∨ env.kindOf x = some .free) ∧ ∃ c, env.cells.lookup x = some c ∧ h.IsCell c (some u))
structure Cx.Ok (X : Cx) : Prop where
 mod : Mod X.K X.mg X.base
 kind : X.env.scope.kind = .function
 glob : X.env.globals = mainGlobals
 blt : X.env.builtins = builtinsNs
 above : X.s₀.heap.objs.size ≤ X.env.locals
 inj : ∀ x y c, X.env.cells.lookup x = some c → X.env.cells.lookup y = some c → x = y
 has : ∀ x, (X.env.kindOf x = some .cell ∨ X.env.kindOf x = some .free) → ∃ c, X.env.cells.lookup x = some c
 cab : ∀ x c, X.fn x = true → X.env.cells.lookup x = some c → X.s₀.heap.objs.size ≤ c
 hd : X.calm = true → X.A.handled = none
 frames : X.A.frames = some X.stack
 stk : X.stack = X.outer ∨ (X.stack = X.env :: X.outer ∧ X.env.frame = some X.env.locals)
 exf : ∀ b ∈ X.ex, b ≠ X.env.locals ∧ ∀ x c, X.env.cells.lookup x = some c → c ≠ b
 bs : ∀ b o, X.base.get? b = some o → X.s₀.heap.get? b = some o ∧ X.H₀ b = none
 bsz : X.base.objs.size ≤ X.s₀.heap.objs.size
 noex : ∀ b o, X.base.get? b = some o → b ∉ X.ex
 exfs : ∀ b ∈ X.ex, b ∉ X.fs
 funs : X.s₀.heap.FunFrames X.base X.outer
 frf : ∀ b ∈ X.fs, X.H₀ b = none
structure Inv (X : Cx) (pins : List (Addr × Obj)) (σ : List (Option V)) (H : Hp) (s : Shared) : Prop where
 ok : X.Ok
 os : s.os = X.s₀.os
 bare : AllBare s.gens
 base : Un X.fs X.ex X.H₀ H X.s₀.heap s.heap
 loc : ∃ m, s.heap.Ns X.env.locals m ∧ ∀ (i : Nat) (x : Str) (v : V), X.N[i]? = some x → σ[i]? = some (some v) → Vis X.env.scope x → ∃ u, ZER v u ∧ ZX5 X.env s.heap m x u
 cell : ∀ x c, X.env.cells.lookup x = some c → ∃ v, s.heap.IsCell c v
 free : H X.env.locals = none
 freeC : ∀ x c, X.env.cells.lookup x = some c → H c = none
 pin : ∀ p ∈ X.pn ++ pins, s.heap.get? p.1 = some p.2 ∧ H p.1 = none ∧ p.1 ≠ X.env.locals ∧ p.1 ∉ X.fs ∧ ∀ v, p.2.data ≠ .cell v
 hok : HOk X.prog X.w H s.heap
 len : σ.length = X.N.length
section
variable {X : Cx} {pins : List (Addr × Obj)} {σ : List (Option V)} {H H' : Hp} {s : Shared} {h' : Heap}
theorem Cx.Ok.nofr (ok : X.Ok) {b : Addr} {o : Obj} (e : X.base.get? b = some o) : b ∉ X.fs := fun hb => by
 have := (ok.funs.mem hb).1
 rw [e] at this; cases this
theorem Inv.bs (I : Inv X pins σ H s) : ∀ b o, X.base.get? b = some o → s.heap.get? b = some o ∧ H b = none := fun b o e =>
 ⟨I.base.keep b o (I.ok.bs b o e).1 (I.ok.bs b o e).2 (I.ok.nofr e) (I.ok.noex b o e), I.base.free b o (I.ok.bs b o e).1 (I.ok.bs b o e).2 (I.ok.noex b o e)⟩
theorem Inv.bk (I : Inv X pins σ H s) : ∀ b o, X.base.get? b = some o → s.heap.get? b = some o := fun b o e => (I.bs b o e).1
theorem Inv.mod (I : Inv X pins σ H s) : Mod X.K X.mg X.base := I.ok.mod
theorem Inv.kIn (I : Inv X pins σ H s) : X.K.In s.heap := I.ok.mod.kin.keeps I.bk
theorem Inv.lt (I : Inv X pins σ H s) : X.env.locals < s.heap.objs.size := let ⟨_, hn, _⟩ := I.loc; hn.lt
theorem Inv.sz (I : Inv X pins σ H s) : X.s₀.heap.objs.size ≤ s.heap.objs.size := Nat.le_trans I.ok.above (Nat.le_of_lt I.lt)
theorem Inv.nofs (I : Inv X pins σ H s) {a : Addr} (h : s.heap.objs.size ≤ a) : a ∉ X.fs := fun hb => by
 obtain ⟨_, o, ho, _⟩ := I.ok.funs.mem hb
 exact absurd (Nat.lt_of_lt_of_le (Heap.lt_size ho) (Nat.le_trans I.sz h)) (Nat.lt_irrefl _)
theorem Inv.cne (I : Inv X pins σ H s) : ∀ x c, X.env.cells.lookup x = some c → c ≠ X.env.locals := fun x c e z => by
 obtain ⟨v, o, ho, hd⟩ := I.cell x c e
 obtain ⟨m, ⟨o', es, ep, ho', hd', _⟩, _⟩ := I.loc
 rw [z, ho'] at ho; cases ho; rw [hd'] at hd; cases hd
theorem Inv.funs (I : Inv X pins σ H s) : s.heap.FunFrames X.base X.outer := by
 have all : ∀ (l : List Env), (∀ b ∈ frs l, b ∈ X.fs) → X.s₀.heap.FunFrames X.base l → s.heap.FunFrames X.base l := by
  intro l
  induction l with
  | nil => intro _ _; trivial
  | cons env r ih =>
   intro hs hl
   obtain ⟨hk, ⟨L, o, hf, hn, ho, hd⟩, hr⟩ := hl
   have hL : L ∈ X.fs := hs L (by unfold frs; rw [List.filterMap_cons, hf]; exact List.mem_cons_self)
   obtain ⟨sl, e⟩ := I.base.slot L o ho (I.ok.frf L hL) hL fun z => I.ok.exfs L z hL
   exact ⟨hk, ⟨L, _, hf, hn, e, hd⟩, ih (fun b hb => hs b (by unfold frs; rw [List.filterMap_cons, hf]; exact List.mem_cons_of_mem _ hb)) hr⟩
 exact all X.outer (fun _ hb => hb) I.ok.funs
theorem Inv.stack (I : Inv X pins σ H s) : s.heap.FunFrames X.base X.stack := by
 rcases I.ok.stk with e | ⟨e, hf⟩
 ·rw [e]; exact I.funs
 ·rw [e]
  obtain ⟨m, hn, _⟩ := I.loc
  refine .cons (by rw [I.ok.kind]; decide) hf hn ?_ I.funs
  exact Heap.get?_none_of_le (Nat.le_trans I.ok.bsz I.ok.above)
theorem Inv.stkSub (I : Inv X pins σ H s) : ∀ b ∈ frs X.stack, b ∈ X.env.locals :: X.fs := fun b hb => by
 rcases I.ok.stk with e | ⟨e, hf⟩
 ·rw [e] at hb; exact List.mem_cons_of_mem _ hb
 ·rw [e] at hb
  unfold frs at hb
  rw [List.filterMap_cons, hf] at hb
  exact hb
theorem Inv.stkFree (I : Inv X pins σ H s) : ∀ b ∈ frs X.stack, H b = none := fun b hb => by
 rcases List.mem_cons.mp (I.stkSub b hb) with e | hb
 ·rw [e]; exact I.free
 ·obtain ⟨_, o, ho, _⟩ := I.ok.funs.mem hb
  exact I.base.free b o ho (I.ok.frf b hb) fun z => I.ok.exfs b z hb
theorem Inv.step {g' : Array GenState} {t' : Nat} {d' : Drawn} {ch : List Addr} (I : Inv X pins σ H s)
  (hch : ∀ b ∈ ch, (b ∈ X.ex ∨ X.s₀.heap.objs.size ≤ b) ∧ b ≠ X.env.locals ∧ (∀ x c, X.env.cells.lookup x = some c → c ≠ b) ∧ ∀ p ∈ X.pn ++ pins, p.1 ≠ b)
  (keep : ∀ b o, b ≠ X.env.locals → b ∉ X.fs → b ∉ ch → s.heap.get? b = some o → H b = none → h'.get? b = some o)
  (slot : ∀ b o, b ≠ X.env.locals → b ∈ X.fs → b ∉ ch → s.heap.get? b = some o → H b = none → ∃ sl, h'.get? b = some { o with slots := sl }) (free : ∀ b o, b ∉ ch → s.heap.get? b = some o → H b = none → H' b = none)
  (there : ∀ b o, b ∉ ch → s.heap.get? b = some o → ∃ o', h'.get? b = some o')
  (tups : ∀ b xs, H b = some (.tup xs) → H' b = some (.tup xs)) (frzs : ∀ b o u, H b = some (.frz o u) → H' b = some (.frz o u)) (tbls : ∀ b ps, H b = some (.tbl ps) → ∃ more, H' b = some (.tbl (ps ++ more)))
  (ns : ∀ m, s.heap.Ns X.env.locals m → h'.Ns X.env.locals m) (hok : HOk X.prog X.w H' h') (hg : AllBare g') :
  Inv X pins σ H' { s with heap := h', gens := g', drawn := d', toks := t' } := by
 have neL : ∀ b o, X.s₀.heap.get? b = some o → b ≠ X.env.locals := fun b o e => Nat.ne_of_lt (Nat.lt_of_lt_of_le (Heap.lt_size e) I.ok.above)
 have neC : ∀ b o, X.s₀.heap.get? b = some o → b ∉ X.ex → b ∉ ch := fun b o e hx hb => by
  rcases (hch b hb).1 with z | z
  ·exact hx z
  ·exact absurd (Nat.lt_of_lt_of_le (Heap.lt_size e) z) (Nat.lt_irrefl _)
 have cellK : ∀ x c, X.env.cells.lookup x = some c → ∀ v, s.heap.IsCell c v → h'.IsCell c v := fun x c e v ⟨o, ho, hd⟩ => by
  have nch : c ∉ ch := fun z => (hch c z).2.2.1 x c e rfl
  by_cases hc : c ∈ X.fs
  ·obtain ⟨sl, q⟩ := slot c o (I.cne x c e) hc nch ho (I.freeC x c e)
   exact ⟨_, q, hd⟩
  ·exact ⟨o, keep c o (I.cne x c e) hc nch ho (I.freeC x c e), hd⟩
 refine ⟨I.ok, I.os, hg, ⟨fun b o e n hb hx => ?_, fun b o e n hb hx => ?_, fun b o e n hx => ?_, fun b o e hx => ?_, fun b xs e => tups b xs (I.base.tups b xs e), fun b o xs e => frzs b o xs (I.base.frzs b o xs e), fun b ps e => ?_⟩, ?_, fun x c e => ?_, ?_, fun x c e => ?_, fun p hp => ?_, hok, I.len⟩
 ·exact keep b o (neL b o e) hb (neC b o e hx) (I.base.keep b o e n hb hx) (I.base.free b o e n hx)
 ·obtain ⟨sl, e1⟩ := I.base.slot b o e n hb hx
  obtain ⟨sl', e2⟩ := slot b _ (neL b o e) hb (neC b o e hx) e1 (I.base.free b o e n hx)
  exact ⟨sl', e2⟩
 ·obtain ⟨o', e1⟩ := I.base.there b o e hx
  exact free b o' (neC b o e hx) e1 (I.base.free b o e n hx)
 ·obtain ⟨o', e1⟩ := I.base.there b o e hx
  exact there b o' (neC b o e hx) e1
 ·obtain ⟨m1, e1⟩ := I.base.tbls b ps e
  obtain ⟨m2, e2⟩ := tbls b _ e1
  exact ⟨m1 ++ m2, by rw [e2, Array.append_assoc]⟩
 ·obtain ⟨m, hn, hl⟩ := I.loc
  refine ⟨m, ns m hn, fun i x v e1 e2 e3 => ?_⟩
  obtain ⟨u, r, l⟩ := hl i x v e1 e2 e3
  refine ⟨u, r, ?_⟩
  rcases l with l | ⟨k, c, e, z⟩
  ·exact .inl l
  ·exact .inr ⟨k, c, e, cellK x c e _ z⟩
 ·obtain ⟨v, z⟩ := I.cell x c e
  exact ⟨v, cellK x c e v z⟩
 ·obtain ⟨m, ⟨o, _, _, ho, _⟩, _⟩ := I.loc
  exact free _ o (fun z => (hch _ z).2.1 rfl) ho I.free
 ·obtain ⟨v, o, ho, hd⟩ := I.cell x c e
  exact free c o (fun z => (hch c z).2.2.1 x c e rfl) ho (I.freeC x c e)
 ·obtain ⟨e, n, ne, nf, d⟩ := I.pin p hp
  have nch : p.1 ∉ ch := fun z => (hch p.1 z).2.2.2 p hp rfl
  exact ⟨keep p.1 p.2 ne nf nch e n, free p.1 p.2 nch e n, ne, nf, d⟩
theorem Inv.un {t' : Nat} (I : Inv X pins σ H s) (u : Un X.fs [] H H' s.heap h') (hok : HOk X.prog X.w H' h') : Inv X pins σ H' { s with heap := h', toks := t' } := by
 obtain ⟨m, ⟨o, es, ep, ho, r⟩, _⟩ := id I.loc
 obtain ⟨sl, hL⟩ := u.any ho I.free (by simp)
 exact I.step (g' := s.gens) (d' := s.drawn) (ch := []) (fun _ z => nomatch z) (fun b o _ hb _ e n => u.keep b o e n hb (by simp)) (fun b o _ hb _ e n => u.slot b o e n hb (by simp)) (fun b o _ e n => u.free b o e n (by simp)) (fun b o _ e => u.there b o e (by simp)) u.tups u.frzs u.tbls (fun m' hm => by
  obtain ⟨o', es', ep', ho', r'⟩ := hm
  rw [ho] at ho'; cases ho'
  exact ⟨_, es', ep', hL, r'⟩) hok I.bare
theorem Inv.call {g' : Array GenState} {t' : Nat} {d' : Drawn} {ch : List Addr} (I : Inv X pins σ H s) (u : Un (frs X.stack) ch H H' s.heap h') (hok : HOk X.prog X.w H' h') (hg : AllBare g')
  (hch : ∀ b ∈ ch, (b ∈ X.ex ∨ X.s₀.heap.objs.size ≤ b) ∧ b ≠ X.env.locals ∧ (∀ x c, X.env.cells.lookup x = some c → c ≠ b) ∧ ∀ p ∈ X.pn ++ pins, p.1 ≠ b) :
  Inv X pins σ H' { s with heap := h', gens := g', drawn := d', toks := t' } := by
 obtain ⟨m, ⟨o, es, ep, ho, r⟩, _⟩ := id I.loc
 obtain ⟨sl, hL⟩ := u.any ho I.free fun z => (hch _ z).2.1 rfl
 exact I.step (ch := ch) hch (fun b o hL hb hc e n => u.keep b o e n (fun z => (List.mem_cons.mp (I.stkSub b z)).elim hL hb) hc) (fun b o _ _ hc e n => u.any e n hc) (fun b o hc e n => u.free b o e n hc) (fun b o hc e => u.there b o e hc) u.tups u.frzs u.tbls (fun m' hm => by
  obtain ⟨o', es', ep', ho', r'⟩ := hm
  rw [ho] at ho'; cases ho'
  exact ⟨_, es', ep', hL, r'⟩) hok hg
theorem Inv.turned {t' : Nat} {it : Addr} (I : Inv X pins σ H s) (k : ∀ b o, b ≠ it → s.heap.get? b = some o → h'.get? b = some o) (hn : H it = none) (hL : it ≠ X.env.locals)
  (h1 : it ∈ X.ex ∨ X.s₀.heap.objs.size ≤ it) (h2 : ∀ x c, X.env.cells.lookup x = some c → c ≠ it) (h3 : ∀ p ∈ X.pn ++ pins, p.1 ≠ it) : Inv X pins σ H { s with heap := h', toks := t' } := by
 have nit : ∀ b u, H b = some u → b ≠ it := fun b u e z => by rw [z, hn] at e; cases e
 refine I.step (g' := s.gens) (d' := s.drawn) (ch := [it]) (fun b hb => ?_) (fun b o _ _ hc e _ => k b o (fun z => hc (by simp [z])) e) (fun b o _ _ hc e _ => ⟨o.slots, k b o (fun z => hc (by simp [z])) e⟩) (fun _ _ _ _ n => n)
  (fun b o hc e => ⟨o, k b o (fun z => hc (by simp [z])) e⟩) (fun _ _ e => e) (fun _ _ _ e => e) (fun b ps e => ⟨#[], by rw [e]; simp⟩) (fun m hm => ?_) (fun b u e => ?_) I.bare
 ·have e : b = it := by simpa using hb
  subst e
  exact ⟨h1, hL, h2, h3⟩
 ·obtain ⟨o, es, ep, ho, r⟩ := hm
  exact ⟨o, es, ep, k _ o (Ne.symm hL) ho, r⟩
 ·refine (I.hok b u e).stay (fun c v hc q => k c v ?_ q) (fun _ q => q) fun _ _ q => q
  rcases hc with z | z
  ·rw [z]; exact nit b u e
  ·exact nit c _ z
theorem Inv.tok (I : Inv X pins σ H s) (t : Nat) : Inv X pins σ H { s with toks := t } := I.un (h' := s.heap) (t' := t) Un.refl I.hok
theorem Inv.kept {t' : Nat} (I : Inv X pins σ H s) (k : ∀ b u, s.heap.get? b = some u → h'.get? b = some u) : Inv X pins σ H { s with heap := h', toks := t' } := I.un (Un.kept k) (I.hok.kept k)
theorem Inv.laid {a : Addr} {o : HO} {t' : Nat} (I : Inv X pins σ H s) (k : ∀ b u, s.heap.get? b = some u → h'.get? b = some u) (hp : s.heap.objs.size ≤ a) (new : ZEv X.prog X.w (upd H a o) h' a o) :
 Inv X pins σ (upd H a o) { s with heap := h', toks := t' } := I.un (Un.laid k hp (I.hok.fresh hp)) (I.hok.laid k hp new)
theorem Inv.write {x e : Addr} {o : HO} {t' : Nat} (I : Inv X pins σ H s) (mu : Mut (H x)) (he : e = x ∨ H e = some (.own x)) (k : ∀ b u, b ≠ e → s.heap.get? b = some u → h'.get? b = some u) (heo : ∃ u, h'.get? e = some u)
 (new : ZEv X.prog X.w (upd H x o) h' x o) : Inv X pins σ (upd H x o) { s with heap := h', toks := t' } := I.un (Un.write mu he k heo) (I.hok.write mu he k heo new)
theorem Inv.pins_of {pins' : List (Addr × Obj)} (I : Inv X pins σ H s) (h : ∀ p ∈ pins', s.heap.get? p.1 = some p.2 ∧ H p.1 = none ∧ p.1 ≠ X.env.locals ∧ p.1 ∉ X.fs ∧ ∀ v, p.2.data ≠ .cell v) : Inv X pins' σ H s :=
 ⟨I.ok, I.os, I.bare, I.base, I.loc, I.cell, I.free, I.freeC, fun p hp => (List.mem_append.mp hp).elim (fun z => I.pin p (List.mem_append_left _ z)) (h p), I.hok, I.len⟩
theorem ZMg {N : List Str} (hN : N.Nodup) {i j : Nat} {x : Str} (a : N[i]? = some x) (b : N[j]? = some x) : i = j := by
 obtain ⟨h1, e1⟩ := List.getElem?_eq_some_iff.mp a
 obtain ⟨h2, e2⟩ := List.getElem?_eq_some_iff.mp b
 exact (List.getElem_inj hN).mp (e1.trans e2.symm)
theorem ZP1 {M : Model} {A : Around} {E : Value → Shared → Prop} {i : Nat} {x : Str} {v : V} {u : Value} {Q : Unit → Shared → Prop} (I : Inv X pins σ H s) (hN : X.N.Nodup) (hi : X.N[i]? = some x) (hx : Loc X.env.scope x) (r : ZER v u)
  (h : ∀ s', Inv X pins (σ.set i (some v)) H s' → (∃ a, Heap.SameBut a s.heap s'.heap ∧ (a = X.env.locals ∨ X.env.cells.lookup x = some a)) → Q () s') (hf : X.fn x = true ∨ X.env.scope.names.lookup x = some .local := by first | exact .inl rfl | exact .inr rfl | assumption) : wpAny M A (storeName X.env x u) Q E s := by
 obtain ⟨m, hn, hl⟩ := id I.loc
 have hcls : (X.env.scope.kind == .class || (X.env.scope.kind == .module && X.env.locals != X.env.globals)) = false := by rw [I.ok.kind]; rfl
 have hiσ : i < σ.length := by rw [I.len]; exact (List.getElem?_eq_some_iff.mp hi).1
 have cne := I.cne
 have tracked : ∀ {a : Addr} {h' : Heap}, (∃ o, s.heap.get? a = some o ∧ H a = none) → Heap.SameBut a s.heap h' → HOk X.prog X.w H h' := fun {a h'} ha hs b ob e => by
  obtain ⟨_, _, hfree⟩ := ha
  refine (I.hok b ob e).stay (fun c w' hc q => (hs.2 c ?_).trans q) (fun _ q => q) fun _ _ q => q
  rintro rfl
  rcases hc with rfl | hc
  ·rw [hfree] at e; cases e
  ·rw [hfree] at hc; cases hc
 rcases hx with hk | hk
 ·refine wpAny_storeName_local hk hn (fun h' hn' hs => ?_) hcls
  obtain ⟨oL, _, _, hoL, _⟩ := id hn
  refine h _ ⟨I.ok, I.os, I.bare, ⟨fun b o e n hb hx => ?_, fun b o e n hb hx => ?_, I.base.free, fun b o e hx => ?_, I.base.tups, I.base.frzs, I.base.tbls⟩, ⟨_, hn', fun j y v' e1 e2 e3 => ?_⟩, fun y c e => ?_, I.free, I.freeC, fun p hp => ?_, tracked ⟨oL, hoL, I.free⟩ hs, by simpa using I.len⟩ ⟨_, hs, .inl rfl⟩
  ·exact (hs.2 b (Nat.ne_of_lt (Nat.lt_of_lt_of_le (Heap.lt_size e) I.ok.above))).trans (I.base.keep b o e n hb hx)
  ·obtain ⟨sl, e1⟩ := I.base.slot b o e n hb hx
   exact ⟨sl, (hs.2 b (Nat.ne_of_lt (Nat.lt_of_lt_of_le (Heap.lt_size e) I.ok.above))).trans e1⟩
  ·obtain ⟨o', e1⟩ := I.base.there b o e hx
   exact ⟨o', (hs.2 b (Nat.ne_of_lt (Nat.lt_of_lt_of_le (Heap.lt_size e) I.ok.above))).trans e1⟩
  ·by_cases hj : j = i
   ·subst hj
    rw [hi] at e1; cases e1
    rw [List.getElem?_set_self hiσ] at e2
    cases e2
    exact ⟨u, r, .inl ⟨hk, by simp⟩⟩
   ·rw [List.getElem?_set_ne (Ne.symm hj)] at e2
    obtain ⟨u', r', q⟩ := hl j y v' e1 e2 e3
    refine ⟨u', r', ?_⟩
    rcases q with ⟨k, e⟩ | ⟨k, c, e, z⟩
    ·refine .inl ⟨k, ?_⟩
     have : y ≠ x := fun e => hj (ZMg hN e1 (e ▸ hi))
     simp [this, e]
    ·exact .inr ⟨k, c, e, z.sameBut hs (cne y c e)⟩
  ·obtain ⟨w', z⟩ := I.cell y c e
   exact ⟨w', z.sameBut hs (cne y c e)⟩
  ·obtain ⟨e, n, ne, nf, d⟩ := I.pin p hp
   exact ⟨(hs.2 p.1 ne).trans e, n, ne, nf, d⟩
 ·have hfn : X.fn x = true := by
   rcases hf with z | z
   ·exact z
   ·rw [z] at hk; cases hk
  obtain ⟨c, hc⟩ := I.ok.has x (.inl hk)
  obtain ⟨w', z⟩ := I.cell x c hc
  refine wpAny_storeName_cell I.ok.kind hk hc z (fun h' hc' hs => ?_)
  obtain ⟨oc, hoc, hocd⟩ := id z
  refine h { s with heap := h' } ⟨I.ok, I.os, I.bare, ⟨fun b o e n hb hx => ?_, fun b o e n hb hx => ?_, I.base.free, fun b o e hx => ?_, I.base.tups, I.base.frzs, I.base.tbls⟩, ⟨m, hn.sameBut hs (Ne.symm (cne x c hc)), fun j y v' e1 e2 e3 => ?_⟩, fun y c' e => ?_, I.free, I.freeC, fun p hp => ?_, tracked ⟨oc, hoc, I.freeC x c hc⟩ hs, by simpa using I.len⟩ ⟨c, hs, .inr hc⟩
  ·exact (hs.2 b (Nat.ne_of_lt (Nat.lt_of_lt_of_le (Heap.lt_size e) (I.ok.cab x c hfn hc)))).trans (I.base.keep b o e n hb hx)
  ·obtain ⟨sl, e1⟩ := I.base.slot b o e n hb hx
   exact ⟨sl, (hs.2 b (Nat.ne_of_lt (Nat.lt_of_lt_of_le (Heap.lt_size e) (I.ok.cab x c hfn hc)))).trans e1⟩
  ·obtain ⟨o', e1⟩ := I.base.there b o e hx
   exact ⟨o', (hs.2 b (Nat.ne_of_lt (Nat.lt_of_lt_of_le (Heap.lt_size e) (I.ok.cab x c hfn hc)))).trans e1⟩
  ·by_cases hj : j = i
   ·subst hj
    rw [hi] at e1; cases e1
    rw [List.getElem?_set_self hiσ] at e2
    cases e2
    exact ⟨u, r, .inr ⟨.inl hk, c, hc, hc'⟩⟩
   ·rw [List.getElem?_set_ne (Ne.symm hj)] at e2
    obtain ⟨u', r', q⟩ := hl j y v' e1 e2 e3
    refine ⟨u', r', ?_⟩
    rcases q with q | ⟨k, c', e, z'⟩
    ·exact .inl q
    ·refine .inr ⟨k, c', e, z'.sameBut hs ?_⟩
     rintro rfl
     exact hj (ZMg hN e1 (I.ok.inj _ _ _ e hc ▸ hi))
  ·by_cases hcc : c' = c
   ·subst hcc; exact ⟨_, hc'⟩
   ·obtain ⟨w2, z2⟩ := I.cell y c' e
    exact ⟨w2, z2.sameBut hs hcc⟩
  ·obtain ⟨e, n, ne, nf, d⟩ := I.pin p hp
   refine ⟨(hs.2 p.1 ?_).trans e, n, ne, nf, d⟩
   intro q
   rw [q, hoc] at e
   have q' : oc = p.2 := Option.some.inj e
   exact d w' (by rw [← q']; exact hocd)
theorem ZKN {M : Model} {A : Around} {E : Value → Shared → Prop} {i : Nat} {x : Str} {v : V} {u : Value} {Q : Unit → Shared → Prop} (I : Inv X pins σ H s) (hN : X.N.Nodup) (hi : X.N[i]? = some x) (hx : Loc X.env.scope x) (r : ZER v u)
  (h : ∀ s', Inv X pins (σ.set i (some v)) H s' → Q () s') (hf : X.fn x = true ∨ X.env.scope.names.lookup x = some .local := by first | exact .inl rfl | exact .inr rfl | assumption) : wpAny M A (storeName X.env x u) Q E s :=
 ZP1 I hN hi hx r (fun s' I' _ => h s' I') hf
theorem Inv.call' {s' : Shared} {ch : List Addr} (I : Inv X pins σ H s) (ho : s'.os = s.os) (u : Un (frs X.stack) ch H H' s.heap s'.heap) (hok : HOk X.prog X.w H' s'.heap) (hg : AllBare s'.gens)
  (hch : ∀ b ∈ ch, (b ∈ X.ex ∨ X.s₀.heap.objs.size ≤ b) ∧ b ≠ X.env.locals ∧ (∀ x c, X.env.cells.lookup x = some c → c ≠ b) ∧ ∀ p ∈ X.pn ++ pins, p.1 ≠ b) : Inv X pins σ H' s' := by
 obtain ⟨h', g', d', t', o'⟩ := s'
 have e : o' = s.os := ho
 subst e
 exact I.call (g' := g') (t' := t') (d' := d') u hok hg hch
end
abbrev XK := Value → Option Addr → Hp → Prop
abbrev St := List (Option V)
abbrev VK := V → Hp → Prop
abbrev TE := St → Hp → VK → Prop
abbrev TT := St → Hp → (Bool → Hp → Prop) → Prop
abbrev TA := St → Hp → (List V → Hp → Prop) → Prop
structure ZFI where
 nx : St → Hp → Prop
 rt : VK
 bk : St → Hp → Prop := fun _ _ => False
 ct : St → Hp → Prop := fun _ _ => False
abbrev TS := ZFI → St → Hp → Prop
def EP (X : Cx) (pins : List (Addr × Obj)) (σ : St) (Q : VK) (u : Value) (s' : Shared) : Prop := ∃ v H', Inv X pins σ H' s' ∧ ZER v u ∧ Q v H'
def TP (X : Cx) (pins : List (Addr × Obj)) (σ : St) (Q : Bool → Hp → Prop) (b : Bool) (s' : Shared) : Prop := ∃ H', Inv X pins σ H' s' ∧ Q b H'
def AP (X : Cx) (pins : List (Addr × Obj)) (σ : St) (Q : List V → Hp → Prop) (us : List Value) (s' : Shared) : Prop := ∃ vs H', Inv X pins σ H' s' ∧ ZEU vs us ∧ Q vs H'
def SP (X : Cx) (pins : List (Addr × Obj)) (D : ZFI) (f : Flow) (s' : Shared) : Prop :=
 match f with
 | .next => ∃ σ' H', Inv X pins σ' H' s' ∧ D.nx σ' H'
 | .brk => ∃ σ' H', Inv X pins σ' H' s' ∧ D.bk σ' H'
 | .cont => ∃ σ' H', Inv X pins σ' H' s' ∧ D.ct σ' H'
 | .ret u => ∃ v σ' H', Inv X pins σ' H' s' ∧ ZER v u ∧ D.rt v H'
def PE (X : Cx) (e : Expr) (t : TE) : Prop :=
 ∀ (pins : List (Addr × Obj)) (s : Shared) (σ : St) (H : Hp) (Q : VK), Inv X pins σ H s → t σ H Q → wpAny (model X.prog X.w) X.A (eval e X.env) (EP X pins σ Q) X.xe s
def PT (X : Cx) (e : Expr) (t : TT) : Prop :=
 ∀ (pins : List (Addr × Obj)) (s : Shared) (σ : St) (H : Hp) (Q : Bool → Hp → Prop), Inv X pins σ H s → t σ H Q → wpAny (model X.prog X.w) X.A (isTrue e X.env (eval e X.env)) (TP X pins σ Q) X.xe s
def PW (X : Cx) (e : Expr) (t : TT) : Prop :=
 ∀ (whole : Sem Value) (pins : List (Addr × Obj)) (s : Shared) (σ : St) (H : Hp) (Q : Bool → Hp → Prop), Inv X pins σ H s → t σ H Q → wpAny (model X.prog X.w) X.A (isTrue e X.env whole) (TP X pins σ Q) X.xe s
theorem PW.pt {X : Cx} {e : Expr} {t : TT} (h : PW X e t) : PT X e t := h _
def PA (X : Cx) (es : List Expr) (t : TA) : Prop :=
 ∀ (pos : Pos) (pins : List (Addr × Obj)) (s : Shared) (σ : St) (H : Hp) (Q : List V → Hp → Prop), Inv X pins σ H s → t σ H Q → wpAny (model X.prog X.w) X.A (spliced (backTo pos (starEach es X.env))) (AP X pins σ Q) X.xe s
def PS (X : Cx) (st : Stmt) (t : TS) : Prop :=
 ∀ (pins : List (Addr × Obj)) (s : Shared) (σ : St) (H : Hp) (D : ZFI), Inv X pins σ H s → t D σ H → wpAny (model X.prog X.w) X.A (exec st X.env) (SP X pins D) X.xe s
def PSs (X : Cx) (st : List Stmt) (t : TS) : Prop :=
 ∀ (pins : List (Addr × Obj)) (s : Shared) (σ : St) (H : Hp) (D : ZFI), Inv X pins σ H s → t D σ H → wpAny (model X.prog X.w) X.A (execs st X.env) (SP X pins D) X.xe s
theorem thn {α : Type} {t : Sem α} {Q Q' : α → Shared → Prop} {M : Model} {A : Around} {E : Value → Shared → Prop} {s : Shared} (h : wpAny M A t Q E s) (hQ : ∀ a s, Q a s → Q' a s) : wpAny M A t Q' E s := wpAny_mono h hQ fun _ _ x => x
section
variable {X : Cx}
def ZRc (i : Nat) : TE := fun σ H Q => ∃ v, σ[i]? = some (some v) ∧ Q v H
def tC (v : V) : TE := fun _ H Q => Q v H
theorem ZV1 {i : Nat} {x : Str} {pos : Pos} (hN : X.N[i]? = some x) (hv : Vis X.env.scope x) (hd : (x == ("__debug__" : Str)) = false := by decide) (hcd : (x == ("__classdict__" : Str)) = false := by decide) : PE X (.Name x pos) (ZRc i) := by
 intro pins s σ H Q I h
 obtain ⟨v, e, h⟩ := h
 obtain ⟨m, hn, hl⟩ := I.loc
 obtain ⟨u, r, l⟩ := hl i x v hN e hv
 have fin : EP X pins σ Q u s := ⟨v, H, I, r, h⟩
 rcases l with ⟨hk, hm⟩ | ⟨hk, c, hc, hcell⟩
 ·exact wpAny_Name (wpAny_loadName_local I.ok.kind hk hn hm fin) hd
 ·rcases hk with hk | hk
  ·exact wpAny_Name (wpAny_loadName_cell I.ok.kind hk hc hcell fin) hd
  ·exact wpAny_Name (wpAny_loadName_free I.ok.kind hk hc hcell fin hcd) hd
theorem ZV2 {i j pos} : PE X (.Constant (.int i) j pos) (tC (.int i)) := fun _ _ _ H _ I h => wpAny_Constant_int ⟨.int i, H, I.tok _, ⟨_, rfl⟩, h⟩
theorem ZXe {b j pos} : PE X (.Constant (.bool b) j pos) (tC (.bl b)) := fun _ _ _ H _ I h => Constant_bool ⟨.bl b, H, I, rfl, h⟩
theorem ZV3 {j pos} : PE X (.Constant .none j pos) (tC .non) := fun _ _ _ H _ I h => Constant_none ⟨.non, H, I, rfl, h⟩
theorem ZV4 {x j pos} : PE X (.Constant (.str x) j pos) (tC (.str x)) := fun _ _ _ H _ I h => Calls.Constant_str ⟨.str x, H, I.tok _, ⟨_, rfl⟩, h⟩
def Gl (X : Cx) (x : Str) : Prop := X.env.kindOf x = some .globalImplicit
theorem ZGp {E : Value → Shared → Prop} {pins : List (Addr × Obj)} {s : Shared} {σ : St} {H : Hp} {x : Str} {u : Value} {pos : Pos} {Q : Value → Shared → Prop} (I : Inv X pins σ H s) (hg : Gl X x) (hm : X.mg x = some u) (h : Q u s)
  (hd : (x == ("__debug__" : Str)) = false := by decide) : wpAny (model X.prog X.w) X.A (eval (.Name x pos) X.env) Q E s :=
 Calls.Name_function_global I.ok.kind hg (Calls.loadGlobal_global (by rw [I.ok.glob]; exact I.mod.glob.keeps I.bk) hm h) hd
theorem ZHO {E : Value → Shared → Prop} {pins : List (Addr × Obj)} {s : Shared} {σ : St} {H : Hp} {x : Str} {u : Value} {pos : Pos} {Q : Value → Shared → Prop} (I : Inv X pins σ H s) (hg : Gl X x) (hm : X.mg x = none) (hv : bootBuiltins x = some u) (h : Q u s)
  (hn : x ≠ "__name__" := by decide) (hd : (x == ("__debug__" : Str)) = false := by decide) : wpAny (model X.prog X.w) X.A (eval (.Name x pos) X.env) Q E s := by
 obtain ⟨mb, h1, h2⟩ := I.mod.blt
 exact Calls.Name_function_global I.ok.kind hg (Calls.loadGlobal_builtin (by rw [I.ok.glob]; exact I.mod.glob.keeps I.bk) hm (by rw [I.ok.blt]; exact h1.keeps I.bk) ((h2 x hn).trans hv) h) hd
theorem ZT8 {x : Str} {v : V} {u : Value} {pos : Pos} (hg : Gl X x) (hm : X.mg x = some u) (r : ZER v u) (hd : (x == ("__debug__" : Str)) = false := by decide) : PE X (.Name x pos) (tC v) :=
 fun _ _ _ H _ I h => ZGp I hg hm ⟨v, H, I, r, h⟩ hd
theorem ZT9 {x : Str} {v : V} {u : Value} {pos : Pos} (hg : Gl X x) (hm : X.mg x = none) (hv : bootBuiltins x = some u) (r : ZER v u) (hn : x ≠ "__name__" := by decide) (hd : (x == ("__debug__" : Str)) = false := by decide) : PE X (.Name x pos) (tC v) :=
 fun _ _ _ H _ I h => ZHO I hg hm hv ⟨v, H, I, r, h⟩ hn hd
variable {a b : Expr} {ta tb : TE} {pos : Pos}
def tB (t : TE) : TT := fun σ H Q => t σ H fun x H1 => ∃ c, x = .bl c ∧ Q c H1
theorem ZV5 {e : Expr} {t : TE} (h : PE X e t) (he : ∀ whole, isTrue e X.env whole = (do let v ← whole; standAt e.pos; holding [v] (truthy v)) := by intro _; rfl) : PT X e (tB t) := by
 intro pins s σ H Q I hw
 refine isTrue_plain (thn (h pins s σ H _ I hw) fun v s1 ⟨x, H1, I1, r1, q1⟩ => ?_) (he _)
 obtain ⟨d, rfl, q⟩ := q1
 cases r1
 exact wpAny_truthy_bool ⟨H1, I1, q⟩
variable {tA tB' : TT} {ZFp : List Expr}
def ZRd (t u : TT) : TT := fun σ H Q => t σ H fun c H1 => if c = true then u σ H1 Q else Q false H1
def tOr (t u : TT) : TT := fun σ H Q => t σ H fun c H1 => if c = true then Q true H1 else u σ H1 Q
def ZRe (t : TT) : TT := fun σ H Q => t σ H fun c H1 => Q (!c) H1
theorem ZUA (ha : PT X a tA) : PW X (.BoolOp .And [a] pos) tA := by
 intro wh pins s σ H Q I h
 refine isTrue_and (thn (ha pins s σ H Q I h) fun c s1 e => ?_)
 cases c with
 | true => exact isTrue_and_nil e
 | false => exact e
theorem ZV6 (ha : PT X a tA) : PW X (.BoolOp .Or [a] pos) tA := by
 intro wh pins s σ H Q I h
 refine isTrue_or (thn (ha pins s σ H Q I h) fun c s1 e => ?_)
 cases c with
 | false => exact isTrue_or_nil e
 | true => exact e
theorem ZV7 (ha : PT X a tA) (hb : PW X (.BoolOp .And (b :: ZFp) pos) tB') : PW X (.BoolOp .And (a :: b :: ZFp) pos) (ZRd tA tB') := by
 intro wh pins s σ H Q I h
 refine isTrue_and (thn (ha pins s σ H _ I h) fun c s1 ⟨H1, I1, q1⟩ => ?_)
 cases c with
 | true => exact hb wh pins s1 σ H1 Q I1 q1
 | false => exact ⟨H1, I1, q1⟩
theorem ZXf (ha : PT X a tA) (hb : PW X (.BoolOp .Or (b :: ZFp) pos) tB') : PW X (.BoolOp .Or (a :: b :: ZFp) pos) (tOr tA tB') := by
 intro wh pins s σ H Q I h
 refine isTrue_or (thn (ha pins s σ H _ I h) fun c s1 ⟨H1, I1, q1⟩ => ?_)
 cases c with
 | true => exact ⟨H1, I1, q1⟩
 | false => exact hb wh pins s1 σ H1 Q I1 q1
theorem ZV8 (ha : PT X a tA) : PT X (.UnaryOp .Not a pos) (ZRe tA) := by
 intro pins s σ H Q I h
 exact isTrue_not (ha pins s σ H (fun c H1 => Q (!c) H1) I h)
def ZOr (ta tb : TE) : TE := fun σ H Q => ta σ H fun x H1 => ∃ c, x = .bl c ∧ if c = true then tb σ H1 Q else Q (.bl false) H1
def ZOs (ta : TE) : TE := fun σ H Q => ta σ H fun x H1 => ∃ c, x = .bl c ∧ Q (.bl (!c)) H1
theorem ZV9 {op} {t : TE} (h : PE X a t) : PE X (.BoolOp op [a] pos) t := fun pins s σ H Q I hw => BoolOp_one (h pins s σ H Q I hw)
theorem ZWA (ha : PE X a ta) (hb : PE X (.BoolOp .And (b :: ZFp) pos) tb) : PE X (.BoolOp .And (a :: b :: ZFp) pos) (ZOr ta tb) := by
 intro pins s σ H Q I h
 refine BoolOp_and (thn (ha pins s σ H _ I h) fun v s1 ⟨x, H1, I1, r1, q1⟩ => ?_)
 obtain ⟨c, rfl, q1⟩ := q1
 cases r1
 refine wpAny_truthy_bool ?_
 cases c with
 | true => exact hb pins s1 σ H1 Q I1 q1
 | false => exact ⟨.bl false, H1, I1, rfl, q1⟩
theorem ZWB (ha : PE X a ta) : PE X (.UnaryOp .Not a pos) (ZOs ta) := by
 intro pins s σ H Q I h
 refine UnaryOp_ (thn (ha pins s σ H _ I h) fun v s1 ⟨x, H1, I1, r1, q1⟩ => ?_)
 obtain ⟨c, rfl, q1⟩ := q1
 cases r1
 exact not_of (wpAny_truthy_bool ⟨.bl (!c), H1, I1, rfl, q1⟩)
def tIf (t : TT) (ta tb : TE) : TE := fun σ H Q => t σ H fun c H1 => if c = true then ta σ H1 Q else tb σ H1 Q
theorem ZRf {c : Expr} (hc : PT X c tA) (ha : PE X a ta) (hb : PE X b tb) : PE X (.IfExp c a b pos) (tIf tA ta tb) := by
 intro pins s σ H Q I h
 refine wpAny_IfExp (thn (hc pins s σ H _ I h) fun d s1 ⟨H1, I1, q1⟩ => ?_)
 cases d with
 | true => exact ha pins s1 σ H1 Q I1 q1
 | false => exact hb pins s1 σ H1 Q I1 q1
end
def SqL (K : W.Frag) (H : Hp) (a : Addr) (xs : List V) : Prop :=
 Rd H a (.lst xs) ∨
  ∃ (o : Obj) (its : Array Value) (n : Nat), K.lookup a = some o ∧ o.cls = .type "list" ∧ o.dict = none ∧ o.data = .seq its n ∧ its.size ≤ sizeLine ∧ ZEU xs its.toList
def SqT (K : W.Frag) (H : Hp) (a : Addr) (xs : List V) : Prop :=
 Rd H a (.tup xs) ∨
  ∃ (o : Obj) (its : Array Value) (n : Nat), K.lookup a = some o ∧ o.cls = .type "tuple" ∧ o.data = .seq its n ∧ its.size ≤ sizeLine ∧ ZEU xs its.toList
def ZX6 : Value → Option V
 | .none => some .non
 | .bool b => some (.bl b)
 | .int i _ => some (.int i)
 | .str x _ => some (.str x)
 | .bytes b _ => some (.byt b)
 | .float b _ => some (.flt b)
 | .ref a => some (.ref a)
 | .type n => some (.ty n)
 | _ => none
theorem ZER.abs {x : V} {u : Value} (r : ZER x u) : ZX6 u = some x := by
 cases x with
 | non => cases r; rfl
 | bl _ => cases r; rfl
 | int _ => obtain ⟨t, rfl⟩ := r; rfl
 | str _ => obtain ⟨t, rfl⟩ := r; rfl
 | byt _ => obtain ⟨t, rfl⟩ := r; rfl
 | flt _ => obtain ⟨t, rfl⟩ := r; rfl
 | ref _ => cases r; rfl
 | ty _ => cases r; rfl
theorem ZER.inj {x y : V} {u : Value} (r : ZER x u) (q : ZER y u) : x = y := Option.some.inj (r.abs.symm.trans q.abs)
theorem ZEU.inj : ∀ {xs ys : List V} {us : List Value}, ZEU xs us → ZEU ys us → xs = ys
 | _, _, _, .nil, .nil => rfl
 | _, _, _, .cons r t, .cons r' t' => by rw [r.inj r', ZEU.inj t t']
section
variable {X : Cx} {pins : List (Addr × Obj)} {σ : St} {H : Hp} {s : Shared} {a : Addr} {xs ys : List V}
theorem SqL.of {K : W.Frag} (h : H a = some (.lst xs)) : SqL K H a xs := .inl (.inl h)
theorem SqT.of {K : W.Frag} (h : H a = some (.tup xs)) : SqT K H a xs := .inl (.inl h)
theorem Inv.list (I : Inv X pins σ H s) (h : SqL X.K H a xs) : ∃ its : List Value, ZEU xs its ∧ PlainL s.heap a its.toArray ∧ xs.length ≤ sizeLine := by
 rcases h with h | ⟨o, its, n, hk, hc, hd, hs, hz, r⟩
 ·obtain ⟨z, its, n, r, e⟩ := h.ok I.hok
  exact ⟨its, r, ⟨_, n, e, rfl, rfl, rfl⟩, z⟩
 ·refine ⟨its.toList, r, ⟨o, n, I.kIn a o hk, hc, hd, by simpa using hs⟩, ?_⟩
  have e := r.length
  simp only [Array.length_toList] at e
  omega
theorem Inv.tuple (I : Inv X pins σ H s) (h : SqT X.K H a xs) : ∃ its : List Value, ZEU xs its ∧ IsTup s.heap a its.toArray ∧ xs.length ≤ sizeLine := by
 rcases h with h | ⟨o, its, n, hk, hc, hs, hz, r⟩
 ·obtain ⟨z, its, r, p⟩ := h.ok I.hok
  exact ⟨its, r, p, z.1⟩
 ·refine ⟨its.toList, r, ⟨o, I.kIn a o hk, hc, n, by simpa using hs⟩, ?_⟩
  have e := r.length
  simp only [Array.length_toList] at e
  omega
theorem Inv.list_inj (I : Inv X pins σ H s) (h : SqL X.K H a xs) (h' : SqL X.K H a ys) : xs = ys := by
 obtain ⟨its, r, ⟨o, n, e, _, _, d⟩, _⟩ := I.list h
 obtain ⟨its', r', ⟨o', n', e', _, _, d'⟩, _⟩ := I.list h'
 rw [e] at e'; cases e'
 rw [d] at d'
 injection d' with d1 _
 have : its = its' := by simpa using congrArg Array.toList d1
 subst this
 exact r.inj r'
theorem Inv.tuple_inj (I : Inv X pins σ H s) (h : SqT X.K H a xs) (h' : SqT X.K H a ys) : xs = ys := by
 obtain ⟨its, r, ⟨o, e, _, n, d⟩, _⟩ := I.tuple h
 obtain ⟨its', r', ⟨o', e', _, n', d'⟩, _⟩ := I.tuple h'
 rw [e] at e'; cases e'
 rw [d] at d'
 injection d' with d1 _
 have : its = its' := by simpa using congrArg Array.toList d1
 subst this
 exact r.inj r'
end
abbrev Cx.wish (X : Cx) (E : Value → Shared → Prop) : Cx := { X with xe := E }
abbrev Cx.nox (X : Cx) : Cx := X.wish fun _ _ => False
theorem Cx.Ok.wish {X : Cx} (ok : X.Ok) (E : Value → Shared → Prop) : (X.wish E).Ok :=
 ⟨ok.mod, ok.kind, ok.glob, ok.blt, ok.above, ok.inj, ok.has, ok.cab, ok.hd, ok.frames, ok.stk, ok.exf, ok.bs, ok.bsz, ok.noex, ok.exfs, ok.funs, ok.frf⟩
theorem Cx.Ok.unwish {X : Cx} {E : Value → Shared → Prop} (ok : (X.wish E).Ok) : X.Ok :=
 ⟨ok.mod, ok.kind, ok.glob, ok.blt, ok.above, ok.inj, ok.has, ok.cab, ok.hd, ok.frames, ok.stk, ok.exf, ok.bs, ok.bsz, ok.noex, ok.exfs, ok.funs, ok.frf⟩
section
variable {X : Cx} {pins : List (Addr × Obj)} {σ : St} {H : Hp} {s : Shared} {E : Value → Shared → Prop}
theorem Inv.wish (I : Inv X pins σ H s) (E : Value → Shared → Prop) : Inv (X.wish E) pins σ H s := ⟨I.ok.wish E, I.os, I.bare, I.base, I.loc, I.cell, I.free, I.freeC, I.pin, I.hok, I.len⟩
theorem Inv.unwish (I : Inv (X.wish E) pins σ H s) : Inv X pins σ H s := ⟨I.ok.unwish, I.os, I.bare, I.base, I.loc, I.cell, I.free, I.freeC, I.pin, I.hok, I.len⟩
theorem SP.unwish {D : ZFI} {f : Flow} {s' : Shared} (h : SP (X.wish E) pins D f s') : SP X pins D f s' := by
 cases f with
 | next => obtain ⟨σ', H', I, q⟩ := h; exact ⟨σ', H', I.unwish, q⟩
 | brk => obtain ⟨σ', H', I, q⟩ := h; exact ⟨σ', H', I.unwish, q⟩
 | cont => obtain ⟨σ', H', I, q⟩ := h; exact ⟨σ', H', I.unwish, q⟩
 | ret u => obtain ⟨v, σ', H', I, r, q⟩ := h; exact ⟨v, σ', H', I.unwish, r, q⟩
theorem PSs.nox {st : List Stmt} {t : TS} (h : PSs X.nox st t) : PSs X st t := fun pins s σ H D I hw =>
 wpAny_mono (h pins s σ H D (I.wish _) hw) (fun _ _ q => q.unwish) fun _ _ z => False.elim z
end
section
variable {X : Cx} {st : Stmt} {ZFp : List Stmt} {t u : TS} {e : Expr} {te : TE} {pos : Pos}
def ZOt : TS := fun D σ H => D.nx σ H
def ZRg (t u : TS) : TS := fun D σ H => t { D with nx := u D } σ H
theorem ZUB : PSs X [] ZOt := fun _ _ σ H _ I h => wpAny_execs_nil ⟨σ, H, I, h⟩
theorem ZRh (h1 : PS X st t) (h2 : PSs X ZFp u) : PSs X (st :: ZFp) (ZRg t u) := by
 intro pins s σ H D I h
 refine wpAny_execs_cons (thn (h1 pins s σ H { D with nx := u D } I h) fun f s1 q => ?_)
 cases f with
 | next =>
  obtain ⟨σ', H', I', q⟩ := q
  exact h2 pins s1 σ' H' D I' q
 | ret v => exact q
 | brk => exact q
 | cont => exact q
theorem ZUC (h1 : PS X st t) : PSs X [st] t := by
 intro pins s σ H D I h
 refine wpAny_execs_cons (thn (h1 pins s σ H D I h) fun f s1 q => ?_)
 cases f with
 | next => exact wpAny_execs_nil q
 | ret v => exact q
 | brk => exact q
 | cont => exact q
theorem Inv.quiet {pins : List (Addr × Obj)} {σ : St} {H : Hp} {s : Shared} (I : Inv X pins σ H s) : interactive X.env = false := by simp [interactive, I.ok.kind]
def ZMW (te : TE) : TS := fun D σ H => te σ H fun _ H1 => D.nx σ H1
theorem ZUD (he : PE X e te) (hs : swapsWith e none pos.line X.env = pure false := by rfl) : PS X (.Expr e pos) (ZMW te) := by
 intro pins s σ H D I h
 exact wpAny_Expr_any (thn (he pins s σ H _ I h) fun v s1 ⟨x, H1, I1, r1, q1⟩ => ⟨σ, H1, I1, q1⟩) I.quiet hs
def ZRi (te : TE) : TS := fun D σ H => te σ H D.rt
theorem ZWC (he : PE X e te) : PS X (.Return (some e) pos) (ZRi te) := by
 intro pins s σ H D I h
 exact wpAny_Return_some (thn (he pins s σ H _ I h) fun v s1 ⟨x, H1, I1, r1, q1⟩ => ⟨x, σ, H1, I1, r1, q1⟩)
def ZKO (c : TT) (t u : TS) : TS := fun D σ H => c σ H fun b H1 => if b = true then t D σ H1 else u D σ H1
theorem ZXg {c : Expr} {a b : List Stmt} {tc : TT} (hc : PT X c tc) (ha : PSs X a t) (hb : PSs X b u) : PS X (.If c a b pos) (ZKO tc t u) := by
 intro pins s σ H D I h
 refine wpAny_If (thn (hc pins s σ H _ I h) fun d s1 ⟨H1, I1, q1⟩ => ?_)
 cases d with
 | true => exact ha pins s1 σ H1 D I1 q1
 | false => exact hb pins s1 σ H1 D I1 q1
def ZP2 : TS := fun _ _ _ => False
theorem ZRj : PS X st ZP2 := fun _ _ _ _ _ _ h => h.elim
end
abbrev TG := V → St → Hp → (St → Hp → Prop) → Prop
abbrev TGs := List V → St → Hp → (St → Hp → Prop) → Prop
def PG (X : Cx) (target : Expr) (t : TG) : Prop :=
 ∀ (pins : List (Addr × Obj)) (s : Shared) (σ : St) (H : Hp) (v : V) (u : Value) (Q : St → Hp → Prop), Inv X pins σ H s → ZER v u → t v σ H Q →
  wpAny (model X.prog X.w) X.A (assign target X.env u) (fun _ s' => ∃ σ' H', Inv X pins σ' H' s' ∧ Q σ' H') X.xe s
def PGs (X : Cx) (ts : List Expr) (t : TGs) : Prop :=
 ∀ (pins : List (Addr × Obj)) (s : Shared) (σ : St) (H : Hp) (vs : List V) (us : List Value) (Q : St → Hp → Prop), Inv X pins σ H s → ZEU vs us → t vs σ H Q →
  wpAny (model X.prog X.w) X.A (assignInOrder ((assignEach ts X.env).map (·.2)) us) (fun _ s' => ∃ σ' H', Inv X pins σ' H' s' ∧ Q σ' H') X.xe s
abbrev ZKP := V → V → V → Hp → (Hp → Prop) → Prop
def ZOu (X : Cx) (t : ZKP) : Prop :=
 ∀ (pins : List (Addr × Obj)) (s : Shared) (σ : St) (H : Hp) (o i v : V) (ov iv u : Value) (Q : Hp → Prop), Inv X pins σ H s → ZER o ov → ZER i iv → ZER v u → t o i v H Q →
  wpAny (model X.prog X.w) X.A (setItem ov iv u) (fun _ s' => ∃ H', Inv X pins σ H' s' ∧ Q H') X.xe s
abbrev TIp := V → V → Hp → VK → Prop
def PIp (X : Cx) (op : Operator) (t : TIp) : Prop :=
 ∀ (pins : List (Addr × Obj)) (s : Shared) (σ : St) (H : Hp) (x y : V) (v u : Value) (Q : VK), Inv X pins σ H s → ZER x v → ZER y u → t x y H Q →
  wpAny (model X.prog X.w) X.A (inplaceOp op v u) (EP X pins σ Q) X.xe s
section
variable {X : Cx} {pos : Pos}
def ZHa (i : Nat) : TG := fun v σ H Q => Q (σ.set i (some v)) H
theorem ZUE {i : Nat} {x : Str} (hN : X.N.Nodup) (hi : X.N[i]? = some x) (hx : Loc X.env.scope x) (hf : X.fn x = true ∨ X.env.scope.names.lookup x = some .local := by first | exact .inl rfl | exact .inr rfl | assumption) : PG X (.Name x pos) (ZHa i) := by
 intro pins s σ H v u Q I r h
 exact wpAny_assign_Name (ZKN I hN hi hx r (fun s' I' => ⟨_, H, I', h⟩) hf)
def ZRk : TGs := fun vs σ H Q => vs = [] ∧ Q σ H
def ZOv (t : TG) (u : TGs) : TGs := fun vs σ H Q => ∃ v r, vs = v :: r ∧ t v σ H fun σ' H' => u r σ' H' Q
theorem ZUF : PGs X [] ZRk := by
 intro pins s σ H vs us Q I r h
 obtain ⟨e, h⟩ := h
 subst e
 cases r
 exact assignInOrder_nil ⟨σ, H, I, h⟩
theorem ZRl {e : Expr} {es : List Expr} {t : TG} {u : TGs} (h1 : PG X e t) (h2 : PGs X es u)
  (hs : (assignEach (e :: es) X.env).map (·.2) = assign e X.env :: (assignEach es X.env).map (·.2) := by rfl) : PGs X (e :: es) (ZOv t u) := by
 intro pins s σ H vs us Q I r h
 obtain ⟨v, vr, e1, h⟩ := h
 subst e1
 cases r with
 | cons r rr =>
  rw [hs]
  refine assignInOrder_cons (thn (h1 pins s σ H _ _ _ I r h) fun _ s1 ⟨σ1, H1, I1, q1⟩ => ?_)
  exact h2 pins s1 σ1 H1 _ _ Q I1 rr q1
def ZOw (K : W.Frag) (n : Nat) (t : TGs) : TG := fun v σ H Q => ∃ a xs, v = .ref a ∧ SqT K H a xs ∧ xs.length = n ∧ t xs σ H Q
theorem ZWD {es : List Expr} {k : Nat} {t : TGs} {n : Nat} (hc : X.calm = true) (h : PGs X es t)
  (hn : (assignEach es X.env).length = n := by rfl) (hst : (assignEach es X.env).findIdx? (·.1) = none := by rfl) : PG X (.Tuple es k pos) (ZOw X.K n t) := by
 intro pins s σ H v u Q I r hw
 obtain ⟨a, xs, e1, hq, hl, hw⟩ := hw
 subst e1
 cases r
 obtain ⟨its, rv, ht, hz⟩ := I.tuple hq
 refine assign_Tuple_tuple (I.ok.hd hc) ht (by simp [hn, ← hl, rv.length]) hst fun h' hx => ?_
 have I1 : Inv X pins σ H { s with heap := h' } := I.kept (t' := s.toks) fun b o e => hx b o (Nat.ne_of_lt (Heap.lt_size e)) e
 exact h pins _ σ H xs _ Q I1 (by simpa using rv) hw
def ZRm (to ti : TE) (t : ZKP) : TG := fun v σ H Q => to σ H fun o H1 => ti σ H1 fun i H2 => t o i v H2 fun H3 => Q σ H3
theorem ZWE {o i : Expr} {to ti : TE} {t : ZKP} (ho : PE X o to) (hi : PE X i ti) (hs : ZOu X t)
  (ha : ∀ v, assign (.Subscript o i pos) X.env v = (do
   let ov ← holding [v] (eval o X.env)
   let iv ← holding [v, ov] (eval i X.env)
   standAt pos
   holding [v, ov, iv] (setItem ov iv v)
   release [v, ov, iv] []) := by intro _; rfl) : PG X (.Subscript o i pos) (ZRm to ti t) := by
 intro pins s σ H v u Q I r h
 rw [ha]
 refine wpAny_bind (wpAny_holding (thn (ho pins s σ H _ I h) fun ov s1 ⟨x, H1, I1, r1, q1⟩ => ?_))
 refine wpAny_bind (wpAny_holding (thn (hi pins s1 σ H1 _ I1 q1) fun iv s2 ⟨y, H2, I2, r2, q2⟩ => ?_))
 refine wpAny_bind (wpAny_standAt (wpAny_bind (wpAny_holding (thn (hs pins s2 σ H2 x y v ov iv u _ I2 r1 r2 r q2) fun _ s3 ⟨H3, I3, q3⟩ => ?_))))
 exact wpAny_release ⟨σ, H3, I3, q3⟩
def ZJQ (te : TE) (g : TG) : TS := fun D σ H => te σ H fun x H1 => g x σ H1 D.nx
theorem ZP3 {tg e : Expr} {te : TE} {g : TG} (he : PE X e te) (hg : PG X tg g) (hs : swapsWithSole [tg] e pos.line X.env = pure false := by rfl) (hw : swappedStores [tg] e X.env = pure none := by rfl)
  (h1 : (assignEach [tg] X.env).map (·.2) = [assign tg X.env] := by rfl) : PS X (.Assign [tg] e pos) (ZJQ te g) := by
 intro pins s σ H D I h
 refine wpAny_Assign_stores (thn (he pins s σ H _ I h) fun v s1 ⟨x, H1, I1, r1, q1⟩ => ?_) hs hw
 rw [h1]
 exact thn (hg pins s1 σ H1 x v _ I1 r1 q1) fun _ s2 q => q
theorem ZWF {i : Nat} {x : Str} {e : Expr} {te : TE} {pos' : Pos} (hN : X.N.Nodup) (hi : X.N[i]? = some x) (hx : Loc X.env.scope x) (he : PE X e te) (hs : swapsWith e (some (.Name x pos')) pos.line X.env = pure false := by rfl) (hf : X.fn x = true ∨ X.env.scope.names.lookup x = some .local := by first | exact .inl rfl | exact .inr rfl | assumption) :
  PS X (.Assign [.Name x pos'] e pos) (ZJQ te (ZHa i)) := by
 intro pins s σ H D I h
 refine wpAny_Assign_Name (thn (he pins s σ H _ I h) fun v s1 ⟨y, H1, I1, r1, q1⟩ => ?_) hs
 exact ZKN I1 hN hi hx r1 (fun s2 I2 => ⟨_, H1, I2, q1⟩) hf
def ZRn (i : Nat) (te : TE) (ti : TIp) : TS := fun D σ H => ∃ x, σ[i]? = some (some x) ∧ te σ H fun y H1 => ti x y H1 fun z H2 => D.nx (σ.set i (some z)) H2
theorem ZWG {i : Nat} {x : Str} {e : Expr} {te : TE} {op : Operator} {ti : TIp} {pos' : Pos} (hN : X.N.Nodup) (hi : X.N[i]? = some x) (hx : Loc X.env.scope x) (he : PE X e te) (ho : PIp X op ti) (hf : X.fn x = true ∨ X.env.scope.names.lookup x = some .local := by first | exact .inl rfl | exact .inr rfl | assumption) :
  PS X (.AugAssign (.Name x pos') op e pos) (ZRn i te ti) := by
 intro pins s σ H D I h
 obtain ⟨v, e1, h⟩ := h
 obtain ⟨m, hn, hl⟩ := I.loc
 have vis : Vis X.env.scope x := by rcases hx with k | k; exact .inl k; exact .inr (.inl k)
 obtain ⟨u, r, l⟩ := hl i x v hi e1 vis
 refine wpAny_AugAssign_Name ?_
 have go : wpAny (model X.prog X.w) X.A (eval e X.env) (fun w s₂ => wpAny (model X.prog X.w) X.A (inplaceOp op u w) (fun r s₃ => wpAny (model X.prog X.w) X.A (storeName X.env x r) (fun _ => SP X pins D .next) X.xe s₃) X.xe s₂) X.xe s := by
  refine thn (he pins s σ H _ I h) fun w s1 ⟨y, H1, I1, r1, q1⟩ => ?_
  refine thn (ho pins s1 σ H1 v y u w _ I1 r r1 q1) fun z s2 ⟨zv, H2, I2, r2, q2⟩ => ?_
  exact ZKN I2 hN hi hx r2 (fun s3 I3 => ⟨_, H2, I3, q2⟩) hf
 rcases l with ⟨hk, hm⟩ | ⟨hk, c, hc, hcell⟩
 ·exact wpAny_loadName_local I.ok.kind hk hn hm go
 ·rcases hk with hk | hk
  ·exact wpAny_loadName_cell I.ok.kind hk hc hcell go
  ·rcases hx with k | k
   ·have : X.env.scope.names.lookup x = some .free := hk
    rw [k] at this; cases this
   ·have : X.env.scope.names.lookup x = some .free := hk
    rw [k] at this; cases this
def ZOx (to ti te : TE) (tget : V → V → Hp → VK → Prop) (tip : TIp) (tset : ZKP) : TS := fun D σ H => to σ H fun o H1 => ti σ H1 fun i H2 => tget o i H2 fun x H3 => te σ H3 fun y H4 => tip x y H4 fun z H5 => tset o i z H5 fun H6 => D.nx σ H6
def ZWH (X : Cx) (t : V → V → Hp → VK → Prop) : Prop :=
 ∀ (pins : List (Addr × Obj)) (s : Shared) (σ : St) (H : Hp) (o i : V) (ov iv : Value) (Q : VK), Inv X pins σ H s → ZER o ov → ZER i iv → t o i H Q →
  wpAny (model X.prog X.w) X.A (getItem ov iv) (EP X pins σ Q) X.xe s
theorem ZUG {o i e : Expr} {to ti te : TE} {tget : V → V → Hp → VK → Prop} {tip : TIp} {tset : ZKP} {op : Operator} {tpos : Pos} (ho : PE X o to) (hi : PE X i ti) (hg : ZWH X tget) (he : PE X e te) (hp : PIp X op tip) (hs : ZOu X tset)
  (ha : ∀ ov iv new, augStore i ov iv new = (do holding [new, ov, iv] (setItem ov iv new); release [new, ov, iv] []; pure .next) := by intros; rfl) : PS X (.AugAssign (.Subscript o i tpos) op e pos) (ZOx to ti te tget tip tset) := by
 intro pins s σ H D I h
 refine wpAny_AugAssign_SubscriptAny (thn (ho pins s σ H _ I h) fun ov s1 ⟨x1, H1, I1, r1, q1⟩ => ?_) ha
 refine thn (hi pins s1 σ H1 _ I1 q1) fun iv s2 ⟨x2, H2, I2, r2, q2⟩ => ?_
 refine thn (hg pins s2 σ H2 x1 x2 ov iv _ I2 r1 r2 q2) fun old s3 ⟨x3, H3, I3, r3, q3⟩ => ?_
 refine thn (he pins s3 σ H3 _ I3 q3) fun v s4 ⟨x4, H4, I4, r4, q4⟩ => ?_
 refine thn (hp pins s4 σ H4 x3 x4 old v _ I4 r3 r4 q4) fun new s5 ⟨x5, H5, I5, r5, q5⟩ => ?_
 exact thn (hs pins s5 σ H5 x1 x2 x5 ov iv new _ I5 r1 r2 r5 q5) fun _ s6 ⟨H6, I6, q6⟩ => ⟨σ, H6, I6, q6⟩
def ipI (f : Int → Int → Int) : TIp := fun x y H Q => ∃ i j, x = .int i ∧ y = .int j ∧ Q (.int (f i j)) H
theorem ZWI : PIp X .Add (ipI fun i j => i + j) := by
 intro pins s σ H x y v u Q I r1 r2 h
 obtain ⟨i, j, e1, e2, q⟩ := h
 subst e1; subst e2
 obtain ⟨t, rfl⟩ := r1
 obtain ⟨t', rfl⟩ := r2
 exact iadd_int ⟨.int _, H, I.tok _, ⟨_, rfl⟩, q⟩
def ZMh (c : TT) (tb : TS) : TS := fun D σ H => ∃ W : Nat → St → Hp → Prop, (∃ m, W m σ H) ∧ ∀ m σ H, W m σ H →
 c σ H fun b H1 => if b = true then ∃ N : St → Hp → Prop, (∀ σ' H', N σ' H' → ∃ m', m' < m ∧ W m' σ' H') ∧ tb { D with nx := N, ct := N, bk := D.nx } σ H1 else D.nx σ H1
theorem ZRo {c : Expr} {body : List Stmt} {tc : TT} {tb : TS} (hp : PassesOwn (model X.prog X.w) X.A X.env X.xe) (hc : PT X c tc) (hb : PSs X body tb) : PS X (.While c body [] pos) (ZMh tc tb) := by
 intro pins s σ H D I h
 obtain ⟨W, ⟨m0, w0⟩, turn⟩ := h
 refine wpAny_While (codeAny_whileLoop (fun n s' => ∃ σ' H', Inv X pins σ' H' s' ∧ W n σ' H') ?_ m0 ⟨σ, H, I, w0⟩)
 rintro n s1 ⟨σ1, H1, I1, w1⟩
 refine wpAny_passesOwn hp (thn (hc pins s1 σ1 H1 _ I1 (turn n σ1 H1 w1)) fun b s2 ⟨H2, I2, q2⟩ => ?_)
 cases b with
 | true =>
  obtain ⟨N, hN, q2⟩ := q2
  rw [if_pos rfl]
  refine wpAny_passesOwn hp (thn (hb pins s2 σ1 H2 _ I2 q2) fun f s3 q3 => ?_)
  cases f with
  | next =>
   obtain ⟨σ3, H3, I3, n3⟩ := q3
   obtain ⟨m', hm, w3⟩ := hN σ3 H3 n3
   exact ⟨m', hm, σ3, H3, I3, w3⟩
  | cont =>
   obtain ⟨σ3, H3, I3, n3⟩ := q3
   obtain ⟨m', hm, w3⟩ := hN σ3 H3 n3
   exact ⟨m', hm, σ3, H3, I3, w3⟩
  | brk => exact q3
  | ret v => exact q3
 | false =>
  rw [if_neg Bool.false_ne_true]
  exact wpAny_execs_nil ⟨σ1, H2, I2, q2⟩
end
structure It where
 go : Nat → Hp → Prop
 yld : Nat → Hp → V → Hp → Prop
 stop : Nat → Hp → Prop
def ZFl (X : Cx) (pins : List (Addr × Obj)) (H : Hp) (b : Addr) : Prop :=
 H b = none ∧ b ≠ X.env.locals ∧ b ∉ X.fs ∧ (b ∈ X.ex ∨ X.s₀.heap.objs.size ≤ b) ∧ (∀ x c, X.env.cells.lookup x = some c → c ≠ b) ∧ ∀ p ∈ X.pn ++ pins, p.1 ≠ b
theorem Inv.fpOk {X : Cx} {pins : List (Addr × Obj)} {σ : St} {H H' : Hp} {s : Shared} {b : Addr} (I : Inv X pins σ H s) (hb : s.heap.objs.size ≤ b) (hn : H' b = none) : ZFl X pins H' b := by
 refine ⟨hn, Nat.ne_of_gt (Nat.lt_of_lt_of_le I.lt hb), I.nofs hb, .inr (Nat.le_trans I.sz hb), fun x c e z => ?_, fun p hp z => ?_⟩
 ·obtain ⟨v, q⟩ := I.cell x c e
  exact absurd (Nat.lt_of_lt_of_le q.lt (by rw [z]; exact hb)) (Nat.lt_irrefl _)
 ·exact absurd (Nat.lt_of_lt_of_le (Heap.lt_size (I.pin p hp).1) (by rw [z]; exact hb)) (Nat.lt_irrefl _)
structure ZMi (P : Program) (w : World) (K : W.Frag) (tg : Expr) (J : It) (fp : List Addr) (it : Addr) (tn : Nat → Heap → Prop) : Prop where
 mem : it ∈ fp
 obj : ∀ i h, tn i h → ∀ b ∈ fp, ∃ o, h.get? b = some o ∧ ∀ v, o.data ≠ .cell v
 keep : ∀ i h h', tn i h → (∀ b ∈ fp, ∀ o, h.get? b = some o → h'.get? b = some o) → tn i h'
 item : ∀ (X : Cx), X.prog = P → X.w = w → X.K = K → X.calm = true → ∀ (i : Nat) (pins : List (Addr × Obj)) (s : Shared) (σ : St) (H : Hp) (E : Value → Shared → Prop), Inv X pins σ H s → (∀ b ∈ fp, ZFl X pins H b) → tn i s.heap → J.go i H →
  wpAny (model P w) X.A (pyNext (.ref it)) (fun r s1 => ∃ u, r = some u ∧
   wpAny (model P w) X.A (letOwnedTupleGo tg (.ref it) u) (fun _ s2 => ∃ x H', Inv X pins σ H' s2 ∧ ZER x u ∧ J.yld i H x H' ∧ tn (i + 1) s2.heap ∧ ∀ b ∈ fp, H' b = none) E s1) E s
 done : ∀ (X : Cx), X.prog = P → X.w = w → X.K = K → X.calm = true → ∀ (i : Nat) (pins : List (Addr × Obj)) (s : Shared) (σ : St) (H : Hp) (E : Value → Shared → Prop), Inv X pins σ H s → (∀ b ∈ fp, ZFl X pins H b) → tn i s.heap → J.stop i H →
  wpAny (model P w) X.A (pyNext (.ref it)) (fun r s1 => r = none ∧ Inv X pins σ H s1) E s
 self : ∀ (A : Around) (i : Nat) (s : Shared) (Q : Value → Shared → Prop) (E : Value → Shared → Prop), tn i s.heap → Q (.ref it) s → wpAny (model P w) A (pyIter (.ref it)) Q E s
abbrev TI := St → Hp → (It → Hp → Prop) → Prop
def PIE (X : Cx) (pins : List (Addr × Obj)) (σ : St) (tg : Expr) (R : It → Hp → Prop) (itv : Value) (s2 : Shared) : Prop :=
 ∃ (it : Addr) (fp : List Addr) (tn : Nat → Heap → Prop) (J : It) (H' : Hp), itv = .ref it ∧ Inv X pins σ H' s2 ∧ ZMi X.prog X.w X.K tg J fp it tn ∧ tn 0 s2.heap ∧ (∀ b ∈ fp, ZFl X pins H' b) ∧ R J H'
def PI (X : Cx) (tg iter : Expr) (wi : TI) : Prop :=
 ∀ (pins : List (Addr × Obj)) (s : Shared) (σ : St) (H : Hp) (R : It → Hp → Prop), Inv X pins σ H s → wi σ H R →
  wpAny (model X.prog X.w) X.A (eval iter X.env) (fun v s1 => wpAny (model X.prog X.w) X.A (pyIter v) (PIE X pins σ tg R) X.xe s1) X.xe s
theorem ZMX {M : Model} {A : Around} {E : Value → Shared → Prop} {s : Shared} {tg : Expr} {it : Addr} {u : Value} {o : Obj} {n : String} {vs : Array Value} {Q : Unit → Shared → Prop} (ho : s.heap.get? it = some o) (hc : o.cls = .type n) (hd : o.data = .fields vs)
    (hn : ["enumerate", "zip", "dict_itemiterator", "dict_reverseitemiterator", "odict_iterator", "itertools.zip_longest", "itertools.pairwise"].contains n = false) (hQ : Q () s) : wpAny M A (letOwnedTupleGo tg (.ref it) u) Q E s := by
  unfold letOwnedTupleGo
  cases tg <;> first
    | exact wpAny_pure hQ
    | (cases u <;> first
        | exact wpAny_pure hQ
        | (refine wpAny_bind (wpAny_load ho ?_)
           rw [hc, hd]
           show wpAny M A (if (["enumerate", "zip", "dict_itemiterator", "dict_reverseitemiterator", "odict_iterator", "itertools.zip_longest", "itertools.pairwise"].contains n && vs[0]? == some (rawInt _)) = true then _ else _) Q E s
           rw [if_neg (by intro h; rw [hn, Bool.false_and] at h; cases h)]
           exact wpAny_pure hQ))
def Itl (K : W.Frag) (a : Addr) : It :=
 ⟨fun i H => ∃ xs x, SqL K H a xs ∧ xs[i]? = some x, fun i H x H' => H' = H ∧ ∀ xs, SqL K H a xs → xs[i]? = some x, fun i H => ∃ xs, SqL K H a xs ∧ xs.length ≤ i⟩
def Itt (K : W.Frag) (a : Addr) : It :=
 ⟨fun i H => ∃ xs x, SqT K H a xs ∧ xs[i]? = some x, fun i H x H' => H' = H ∧ ∀ xs, SqT K H a xs → xs[i]? = some x, fun i H => ∃ xs, SqT K H a xs ∧ xs.length ≤ i⟩
def Itr (lo : Int) (n : Nat) : It := ⟨fun i _ => i < n, fun i H x H' => H' = H ∧ x = .int (lo + i), fun i _ => n ≤ i⟩
theorem ZP4 {P : Program} {w : World} {K : W.Frag} {tg : Expr} (a it : Addr) : ZMi P w K tg (Itl K a) [it] it (fun i h => h.IsListIter it a i) where
 mem := by simp
 obj := fun i h st b hb => by
  have e : b = it := by simpa using hb
  subst e
  obtain ⟨o, e, c, d⟩ := st
  exact ⟨o, e, fun v z => by rw [d] at z; cases z⟩
 keep := fun i h h' st k => st.at fun o e => k it (by simp) o e
 item := by
  intro X hP hw hK hc i pins s σ H E I hf st hg
  subst hP hw hK
  obtain ⟨xs, x, hq, hx⟩ := hg
  obtain ⟨its, rv, p, hz⟩ := I.list hq
  obtain ⟨u, hu, ru⟩ := rv.get hx
  obtain ⟨f0, f1, f2, f3, f4, f5⟩ := hf it (by simp)
  refine wpAny_pyNext_list_item st p.isList (x := u) (by simpa using hu) fun h' st' sb => ?_
  have I1 : Inv X pins σ H { s with heap := h' } := I.turned (t' := s.toks) (fun b o hb e => (sb.2 b hb).trans e) f0 f1 f3 f4 f5
  obtain ⟨o, e, c, d⟩ := id st'
  exact ⟨u, rfl, ZMX (s := { s with heap := h' }) e c d (by decide) ⟨x, H, I1, ru, ⟨rfl, fun ys hy => by rw [I.list_inj hy hq]; exact hx⟩, st', fun b hb => (hf b hb).1⟩⟩
 done := by
  intro X hP hw hK hc i pins s σ H E I hf st hg
  subst hP hw hK
  obtain ⟨xs, hq, hx⟩ := hg
  obtain ⟨its, rv, p, hz⟩ := I.list hq
  obtain ⟨f0, f1, f2, f3, f4, f5⟩ := hf it (by simp)
  have hl := rv.length
  exact wpAny_pyNext_list_end (I.ok.hd hc) st p.isList (by simp; omega) fun h' eb => ⟨rfl, I.turned (t' := s.toks) (fun b o hb e => eb b o hb e) f0 f1 f3 f4 f5⟩
 self := fun _ _ _ _ _ st h => wpAny_pyIter_listiter st h
theorem ZOy {P : Program} {w : World} {K : W.Frag} {tg : Expr} (a it : Addr) : ZMi P w K tg (Itt K a) [it] it (fun i h => h.IsTupleIter it a i) where
 mem := by simp
 obj := fun i h st b hb => by
  have e : b = it := by simpa using hb
  subst e
  obtain ⟨o, e, c, d⟩ := st
  exact ⟨o, e, fun v z => by rw [d] at z; cases z⟩
 keep := fun i h h' st k => st.at fun o e => k it (by simp) o e
 item := by
  intro X hP hw hK hc i pins s σ H E I hf st hg
  subst hP hw hK
  obtain ⟨xs, x, hq, hx⟩ := hg
  obtain ⟨its, rv, p, hz⟩ := I.tuple hq
  obtain ⟨u, hu, ru⟩ := rv.get hx
  obtain ⟨f0, f1, f2, f3, f4, f5⟩ := hf it (by simp)
  refine wpAny_pyNext_tuple_item st (show s.heap.IsTuple a its.toArray from p) (x := u) (by simpa using hu) fun h' st' sb => ?_
  have I1 : Inv X pins σ H { s with heap := h' } := I.turned (t' := s.toks) (fun b o hb e => (sb.2 b hb).trans e) f0 f1 f3 f4 f5
  obtain ⟨o, e, c, d⟩ := id st'
  exact ⟨u, rfl, ZMX (s := { s with heap := h' }) e c d (by decide) ⟨x, H, I1, ru, ⟨rfl, fun ys hy => by rw [I.tuple_inj hy hq]; exact hx⟩, st', fun b hb => (hf b hb).1⟩⟩
 done := by
  intro X hP hw hK hc i pins s σ H E I hf st hg
  subst hP hw hK
  obtain ⟨xs, hq, hx⟩ := hg
  obtain ⟨its, rv, p, hz⟩ := I.tuple hq
  obtain ⟨f0, f1, f2, f3, f4, f5⟩ := hf it (by simp)
  have hl := rv.length
  exact wpAny_pyNext_tuple_end (I.ok.hd hc) st (show s.heap.IsTuple a its.toArray from p) (by simp; omega) fun h' eb => ⟨rfl, I.turned (t' := s.toks) (fun b o hb e => eb b o hb e) f0 f1 f3 f4 f5⟩
 self := fun _ _ _ _ _ st h => wpAny_pyIter_tupleiter st h
theorem ZOz {P : Program} {w : World} {K : W.Frag} {tg : Expr} (it : Addr) (lo : Int) (n : Nat) : ZMi P w K tg (Itr lo n) [it] it (fun i h => IsRangeIter h it (lo + (i : Nat) * 1) ((n : Int) - (i : Nat)) 1) where
 mem := by simp
 obj := fun i h st b hb => by
  have e : b = it := by simpa using hb
  subst e
  exact ⟨_, st, fun v z => by
   have z' : Data.fields _ = Data.cell v := z
   cases z'⟩
 keep := fun i h h' st k => k it (by simp) _ st
 item := by
  intro X hP hw hK hc i pins s σ H E I hf st hg
  subst hP hw hK
  obtain ⟨f0, f1, f2, f3, f4, f5⟩ := hf it (by simp)
  have W := Walks.range (prog := X.prog) (w := X.w) (I.ok.hd hc) it lo 1 n
  refine W.item i s _ _ hg st fun v h' tk hv st' kk => ?_
  obtain ⟨t, rfl⟩ := hv
  have I1 : Inv X pins σ H { s with heap := h', toks := tk } := I.turned (fun b o hb e => kk b o (by simpa using hb) e) f0 f1 f3 f4 f5
  refine ⟨_, rfl, ZMX (s := { s with heap := h', toks := tk }) (n := "range_iterator") st' rfl rfl (by decide) ⟨.int (lo + i), H, I1, ⟨t, ?_⟩, ⟨rfl, rfl⟩, st', fun b hb => (hf b hb).1⟩⟩
  rw [Int.mul_one]
 done := by
  intro X hP hw hK hc i pins s σ H E I hf st hg
  subst hP hw hK
  obtain ⟨f0, f1, f2, f3, f4, f5⟩ := hf it (by simp)
  exact wpAny_pyNext_range_end (I.ok.hd hc) st (by have : n ≤ i := hg; omega) fun h' eb => ⟨rfl, I.turned (t' := s.toks) (fun b o hb e => eb b o hb e) f0 f1 f3 f4 f5⟩
 self := fun _ _ _ _ _ st h => wpAny_pyIter_rangeiter st h
section
variable {X : Cx} {tg : Expr}
def ZMY (K : W.Frag) (tl : TE) : TI := fun σ H R => tl σ H fun x H1 => ∃ a, x = .ref a ∧ (∃ xs, SqL K H1 a xs) ∧ R (Itl K a) H1
def ZO0 (K : W.Frag) (tl : TE) : TI := fun σ H R => tl σ H fun x H1 => ∃ a, x = .ref a ∧ (∃ xs, SqT K H1 a xs) ∧ R (Itt K a) H1
theorem ZUH {l : Expr} {tl : TE} (hl : PE X l tl) : PI X tg l (ZMY X.K tl) := by
 intro pins s σ H R I h
 refine thn (hl pins s σ H _ I h) fun v s1 ⟨x, H1, I1, r1, q1⟩ => ?_
 obtain ⟨a, e, ⟨xs, hq⟩, q⟩ := q1
 subst e
 cases r1
 obtain ⟨its, rv, p, hz⟩ := I1.list hq
 refine wpAny_pyIter_list p.isList ?_
 refine ⟨s1.heap.objs.size, [s1.heap.objs.size], _, _, H1, rfl, I1.kept (t' := s1.toks) fun b o e => Heap.get?_push_of_some _ e, ZP4 a _, ⟨_, Heap.get?_push_size _ rfl, rfl, rfl⟩, fun b hb => ?_, q⟩
 have e : b = s1.heap.objs.size := by simpa using hb
 subst e
 exact I1.fpOk (Nat.le_refl _) (I1.hok.fresh (Nat.le_refl _))
theorem ZWJ {l : Expr} {tl : TE} (hl : PE X l tl) : PI X tg l (ZO0 X.K tl) := by
 intro pins s σ H R I h
 refine thn (hl pins s σ H _ I h) fun v s1 ⟨x, H1, I1, r1, q1⟩ => ?_
 obtain ⟨a, e, ⟨xs, hq⟩, q⟩ := q1
 subst e
 cases r1
 obtain ⟨its, rv, p, hz⟩ := I1.tuple hq
 refine wpAny_pyIter_tuple (show s1.heap.IsTuple a its.toArray from p) ?_
 refine ⟨s1.heap.objs.size, [s1.heap.objs.size], _, _, H1, rfl, I1.kept (t' := s1.toks) fun b o e => Heap.get?_push_of_some _ e, ZOy a _, ⟨_, Heap.get?_push_size _ rfl, rfl, rfl⟩, fun b hb => ?_, q⟩
 have e : b = s1.heap.objs.size := by simpa using hb
 subst e
 exact I1.fpOk (Nat.le_refl _) (I1.hok.fresh (Nat.le_refl _))
theorem ZRp {pins : List (Addr × Obj)} {σ : St} {H : Hp} {s : Shared} {R : It → Hp → Prop} {E : Value → Shared → Prop} {lo hi : Int} {t u v : Tok} {tk : Nat} (I : Inv X pins σ H s) (h1 : -(2 ^ 62) ≤ lo) (h2 : lo < 2 ^ 62) (h3 : -(2 ^ 62) ≤ hi) (h4 : hi < 2 ^ 62)
  (q : R (Itr lo (hi - lo).toNat) H) : wpAny (model X.prog X.w) X.A (pyIter (.ref s.heap.objs.size)) (PIE X pins σ tg R) E { s with heap := s.heap.push { cls := .type "range", data := .fields #[.int lo t, .int hi u, .int 1 v] }, toks := tk } := by
 refine wpAny_pyIter_range (IsRange.new ..) (small_one h1 h2 h3 h4) ?_
 have I1 : Inv X pins σ H { s with heap := s.heap.push { cls := .type "range", data := .fields #[.int lo t, .int hi u, .int 1 v] }, toks := tk } := I.kept fun b o e => Heap.get?_push_of_some _ e
 refine ⟨(s.heap.push { cls := .type "range", data := .fields #[.int lo t, .int hi u, .int 1 v] }).objs.size, [(s.heap.push { cls := .type "range", data := .fields #[.int lo t, .int hi u, .int 1 v] }).objs.size], _, _, H, rfl,
  I1.kept (t' := tk) fun b o e => Heap.get?_push_of_some _ e, ZOz _ lo (hi - lo).toNat, ?_, fun b hb => ?_, q⟩
 ·have e1 : lo + ((0 : Nat) : Int) * 1 = lo := by simp
  have e2 : (((hi - lo).toNat : Nat) : Int) - ((0 : Nat) : Int) = Builtin.Range.rangeSize lo hi 1 := by rw [rangeSize_one]; split <;> omega
  show IsRangeIter _ _ (lo + ((0 : Nat) : Int) * 1) ((((hi - lo).toNat : Nat) : Int) - ((0 : Nat) : Int)) 1
  rw [e1, e2]
  exact Heap.get?_push_size _ rfl
 ·have e : b = (s.heap.push { cls := .type "range", data := .fields #[.int lo t, .int hi u, .int 1 v] }).objs.size := by simpa using hb
  subst e
  exact I1.fpOk (Nat.le_refl _) (I1.hok.fresh (Nat.le_refl _))
def ZO1 (ta : TA) : TI := fun σ H R => ta σ H fun vs H1 => ∃ j : Int, vs = [.int j] ∧ -(2 ^ 62) ≤ j ∧ j < 2 ^ 62 ∧ R (Itr 0 j.toNat) H1
theorem ZP5 {a : Expr} {ta : TA} {p pos : Pos} (hg : Gl X "range") (hm : X.mg "range" = none) (ha : PA X [a] ta) (hs : starEach [a] X.env = [(false, eval a X.env)] := by rfl) : PI X tg (.Call (.Name "range" p) [a] [] pos) (ZO1 ta) := by
 intro pins s σ H R I h
 refine Call_ (ZHO I hg hm boot_range (PyProof.Rows.callWith_type1 (thn (ha pos pins s σ H _ I h) fun us s1 ⟨vs, H1, I1, r1, q1⟩ => ?_) hs rfl))
 obtain ⟨j, e, q1, q2, q⟩ := q1
 subst e
 cases r1 with
 | cons r rr =>
  cases rr
  obtain ⟨t, rfl⟩ := r
  exact call_range_1 (ZRp I1 (by omega) (by omega) q1 q2 (by simpa using q))
def ZRq (wi : TI) (g : TG) (tb : TS) : TS := fun D σ H => wi σ H fun J H1 => ∃ W : Nat → Nat → St → Hp → Prop, (∃ m, W 0 m σ H1) ∧ ∀ i m σ H, W i m σ H →
 (J.stop i H ∧ D.nx σ H) ∨ (J.go i H ∧ ∃ N : St → Hp → Prop, (∀ σ' H', N σ' H' → ∃ m', m' < m ∧ W (i + 1) m' σ' H') ∧ ∀ x H', J.yld i H x H' → g x σ H' fun σ2 H2 => tb { D with nx := N, ct := N, bk := D.nx } σ2 H2)
def ZJR (fp : List Addr) (h : Heap) : List (Addr × Obj) := fp.filterMap fun b => (h.get? b).map fun o => (b, o)
theorem ZHb {fp : List Addr} {h : Heap} {b : Addr} {o : Obj} (hb : b ∈ fp) (e : h.get? b = some o) : (b, o) ∈ ZJR fp h := List.mem_filterMap.mpr ⟨b, hb, by rw [e]; rfl⟩
theorem ZP6 {fp : List Addr} {h : Heap} {p : Addr × Obj} (hp : p ∈ ZJR fp h) : p.1 ∈ fp ∧ h.get? p.1 = some p.2 := by
 obtain ⟨b, hb, e⟩ := List.mem_filterMap.mp hp
 cases q : h.get? b with
 | none => rw [q] at e; cases e
 | some o =>
  rw [q] at e
  have e' : (b, o) = p := Option.some.inj e
  subst e'
  exact ⟨hb, q⟩
theorem Inv.pinned {pins : List (Addr × Obj)} {σ : St} {H : Hp} {s : Shared} {fp : List Addr} (I : Inv X pins σ H s) (hf : ∀ b ∈ fp, ZFl X pins H b) (ho : ∀ b ∈ fp, ∃ o, s.heap.get? b = some o ∧ ∀ v, o.data ≠ .cell v) : Inv X (pins ++ ZJR fp s.heap) σ H s :=
 I.pins_of fun p hp => (List.mem_append.mp hp).elim (fun z => I.pin p (List.mem_append_right _ z)) fun z => by
  obtain ⟨hb, e⟩ := ZP6 z
  obtain ⟨f0, f1, f2, _⟩ := hf p.1 hb
  obtain ⟨o, e', d⟩ := ho p.1 hb
  rw [e] at e'; cases e'
  exact ⟨e, f0, f1, f2, d⟩
theorem Inv.unpinned {pins pl : List (Addr × Obj)} {σ : St} {H : Hp} {s : Shared} (I : Inv X (pins ++ pl) σ H s) : Inv X pins σ H s := I.pins_of fun p hp => I.pin p (List.mem_append_right _ (List.mem_append_left _ hp))
theorem ZWK {iter : Expr} {body : List Stmt} {wi : TI} {g : TG} {tb : TS} {pos : Pos} (hp : PassesOwn (model X.prog X.w) X.A X.env X.xe) (hc : X.calm = true) (hi : PI X tg iter wi) (hg : PG X tg g) (hb : PSs X body tb)
  (hs : ∀ x, foldedSetIterable iter X.env x = pure x := by intro _; rfl) : PS X (.For tg iter body [] pos) (ZRq wi g tb) := by
 intro pins s σ H D I h
 refine wpAny_For (thn (hi pins s σ H _ I h) fun v s1 h1 => thn h1 fun itv s2 h2 => ?_) hs
 obtain ⟨it, fp, tn, J, H2, e, I2, T, st2, f2, W, ⟨m0, w0⟩, turn⟩ := h2
 subst e
 -- what stays true of the iterator's objects through the loop
 have stat : ∀ {H' : Hp}, (∀ b ∈ fp, H' b = none) → ∀ b ∈ fp, ZFl X pins H' b := fun hn b hb => ⟨hn b hb, (f2 b hb).2⟩
 refine codeAny_forLoop_any (fun n s' => ∃ i σ' H', Inv X pins σ' H' s' ∧ tn i s'.heap ∧ (∀ b ∈ fp, H' b = none) ∧ W i n σ' H') ?_ m0 ⟨0, σ, H2, I2, st2, fun b hb => (f2 b hb).1, w0⟩
 rintro n s3 ⟨i, σ3, H3, I3, st3, fr3, w3⟩
 rcases turn i n σ3 H3 w3 with ⟨stop, qn⟩ | ⟨go, N, hN, step⟩
 ·refine wpAny_passesOwn hp (thn (T.done X rfl rfl rfl hc i pins s3 σ3 H3 X.xe I3 (stat fr3) st3 stop) fun r s4 ⟨hr, I4⟩ => ?_)
  subst hr
  exact wpAny_execs_nil ⟨σ3, H3, I4, qn⟩
 ·refine wpAny_passesOwn hp (thn (T.item X rfl rfl rfl hc i pins s3 σ3 H3 X.xe I3 (stat fr3) st3 go) fun r s4 ⟨u, hr, h4⟩ => ?_)
  subst hr
  refine wpAny_passesOwn hp (thn h4 fun _ s5 ⟨x, H5, I5, r5, y5, st5, fr5⟩ => ?_)
  have I5' := I5.pinned (stat fr5) (T.obj _ _ st5)
  refine wpAny_passesOwn hp (thn (hg _ s5 σ3 H5 x u _ I5' r5 (step x H5 y5)) fun _ s6 ⟨σ6, H6, I6, q6⟩ => ?_)
  refine wpAny_passesOwn hp (thn (hb _ s6 σ6 H6 _ I6 q6) fun f s7 q7 => ?_)
  have again : ∀ {σ7 : St} {H7 : Hp}, Inv X (pins ++ ZJR fp s5.heap) σ7 H7 s7 → N σ7 H7 → ∃ m, m < n ∧ ∃ i σ' H', Inv X pins σ' H' s7 ∧ tn i s7.heap ∧ (∀ b ∈ fp, H' b = none) ∧ W i m σ' H' := fun {σ7 H7} I7 n7 => by
   obtain ⟨m', hm, w7⟩ := hN σ7 H7 n7
   refine ⟨m', hm, i + 1, σ7, H7, I7.unpinned, T.keep _ _ _ st5 fun b hb o e => (I7.pin (b, o) (List.mem_append_right _ (List.mem_append_right _ (ZHb hb e)))).1, fun b hb => ?_, w7⟩
   obtain ⟨o, e, d⟩ := T.obj _ _ st5 b hb
   exact (I7.pin (b, o) (List.mem_append_right _ (List.mem_append_right _ (ZHb hb e)))).2.1
  cases f with
  | next => obtain ⟨σ7, H7, I7, n7⟩ := q7; exact again I7 n7
  | cont => obtain ⟨σ7, H7, I7, n7⟩ := q7; exact again I7 n7
  | brk => obtain ⟨σ7, H7, I7, q7⟩ := q7; exact ⟨σ7, H7, I7.unpinned, q7⟩
  | ret v => obtain ⟨x7, σ7, H7, I7, r7, q7⟩ := q7; exact ⟨x7, σ7, H7, I7.unpinned, r7, q7⟩
end
theorem ZRr {K : W.Frag} {a : Addr} {xs : List V} {g : TG} {tb : TS} {D : ZFI} {σ : St} {H : Hp} (Pv : Nat → St → Hp → Prop) (h0 : Pv 0 σ H) (hl : ∀ i σ H, i ≤ xs.length → Pv i σ H → SqL K H a xs)
  (hs : ∀ i x σ H, xs[i]? = some x → Pv i σ H → g x σ H fun σ2 H2 => tb { D with nx := Pv (i + 1), ct := Pv (i + 1), bk := D.nx } σ2 H2) (hd : ∀ σ H, Pv xs.length σ H → D.nx σ H) :
  ∃ W : Nat → Nat → St → Hp → Prop, (∃ m, W 0 m σ H) ∧ ∀ i m σ H, W i m σ H →
   ((Itl K a).stop i H ∧ D.nx σ H) ∨ ((Itl K a).go i H ∧ ∃ N : St → Hp → Prop, (∀ σ' H', N σ' H' → ∃ m', m' < m ∧ W (i + 1) m' σ' H') ∧ ∀ x H', (Itl K a).yld i H x H' → g x σ H' fun σ2 H2 => tb { D with nx := N, ct := N, bk := D.nx } σ2 H2) := by
 refine ⟨fun i m σ H => m = xs.length - i ∧ i ≤ xs.length ∧ Pv i σ H, ⟨xs.length, by simp, Nat.zero_le _, h0⟩, ?_⟩
 rintro i m σ H ⟨rfl, hi, p⟩
 have q := hl i σ H hi p
 by_cases hlt : i < xs.length
 ·refine .inr ⟨⟨xs, xs[i], q, by simp [hlt]⟩, Pv (i + 1), fun σ' H' p' => ⟨xs.length - (i + 1), by omega, rfl, hlt, p'⟩, fun x H' y => ?_⟩
  obtain ⟨e, y⟩ := y
  subst e
  exact hs i x σ _ (y xs q) p
 ·have e : i = xs.length := by omega
  subst e
  exact .inl ⟨⟨xs, q, Nat.le_refl _⟩, hd σ H p⟩
theorem ZUI {K : W.Frag} {a : Addr} {xs : List V} {g : TG} {tb : TS} {D : ZFI} {σ : St} {H : Hp} (Pv : Nat → St → Hp → Prop) (h0 : Pv 0 σ H) (hl : ∀ i σ H, i ≤ xs.length → Pv i σ H → SqT K H a xs)
  (hs : ∀ i x σ H, xs[i]? = some x → Pv i σ H → g x σ H fun σ2 H2 => tb { D with nx := Pv (i + 1), ct := Pv (i + 1), bk := D.nx } σ2 H2) (hd : ∀ σ H, Pv xs.length σ H → D.nx σ H) :
  ∃ W : Nat → Nat → St → Hp → Prop, (∃ m, W 0 m σ H) ∧ ∀ i m σ H, W i m σ H →
   ((Itt K a).stop i H ∧ D.nx σ H) ∨ ((Itt K a).go i H ∧ ∃ N : St → Hp → Prop, (∀ σ' H', N σ' H' → ∃ m', m' < m ∧ W (i + 1) m' σ' H') ∧ ∀ x H', (Itt K a).yld i H x H' → g x σ H' fun σ2 H2 => tb { D with nx := N, ct := N, bk := D.nx } σ2 H2) := by
 refine ⟨fun i m σ H => m = xs.length - i ∧ i ≤ xs.length ∧ Pv i σ H, ⟨xs.length, by simp, Nat.zero_le _, h0⟩, ?_⟩
 rintro i m σ H ⟨rfl, hi, p⟩
 have q := hl i σ H hi p
 by_cases hlt : i < xs.length
 ·refine .inr ⟨⟨xs, xs[i], q, by simp [hlt]⟩, Pv (i + 1), fun σ' H' p' => ⟨xs.length - (i + 1), by omega, rfl, hlt, p'⟩, fun x H' y => ?_⟩
  obtain ⟨e, y⟩ := y
  subst e
  exact hs i x σ _ (y xs q) p
 ·have e : i = xs.length := by omega
  subst e
  exact .inl ⟨⟨xs, q, Nat.le_refl _⟩, hd σ H p⟩
theorem ZP7 {lo : Int} {n : Nat} {g : TG} {tb : TS} {D : ZFI} {σ : St} {H : Hp} (Pv : Nat → St → Hp → Prop) (h0 : Pv 0 σ H)
  (hs : ∀ i σ H, i < n → Pv i σ H → g (.int (lo + i)) σ H fun σ2 H2 => tb { D with nx := Pv (i + 1), ct := Pv (i + 1), bk := D.nx } σ2 H2) (hd : ∀ σ H, Pv n σ H → D.nx σ H) :
  ∃ W : Nat → Nat → St → Hp → Prop, (∃ m, W 0 m σ H) ∧ ∀ i m σ H, W i m σ H →
   ((Itr lo n).stop i H ∧ D.nx σ H) ∨ ((Itr lo n).go i H ∧ ∃ N : St → Hp → Prop, (∀ σ' H', N σ' H' → ∃ m', m' < m ∧ W (i + 1) m' σ' H') ∧ ∀ x H', (Itr lo n).yld i H x H' → g x σ H' fun σ2 H2 => tb { D with nx := N, ct := N, bk := D.nx } σ2 H2) := by
 refine ⟨fun i m σ H => m = n - i ∧ i ≤ n ∧ Pv i σ H, ⟨n, by simp, Nat.zero_le _, h0⟩, ?_⟩
 rintro i m σ H ⟨rfl, hi, p⟩
 by_cases hlt : i < n
 ·refine .inr ⟨hlt, Pv (i + 1), fun σ' H' p' => ⟨n - (i + 1), by omega, rfl, hlt, p'⟩, fun x H' y => ?_⟩
  obtain ⟨e, y⟩ := y
  subst e y
  exact hs i σ _ hlt p
 ·have e : i = n := by omega
  subst e
  exact .inl ⟨Nat.le_refl _, hd σ H p⟩
abbrev R2 := V → V → Hp → VK → Prop
def OpR (X : Cx) (f : Value → Value → Sem Value) (r : R2) : Prop :=
 ∀ (pins : List (Addr × Obj)) (s : Shared) (σ : St) (H : Hp) (x y : V) (v u : Value) (Q : VK), Inv X pins σ H s → ZER x v → ZER y u → r x y H Q →
  wpAny (model X.prog X.w) X.A (f v u) (EP X pins σ Q) X.xe s
def UnR (X : Cx) (f : Value → Sem Value) (r : V → Hp → VK → Prop) : Prop :=
 ∀ (pins : List (Addr × Obj)) (s : Shared) (σ : St) (H : Hp) (x : V) (v : Value) (Q : VK), Inv X pins σ H s → ZER x v → r x H Q →
  wpAny (model X.prog X.w) X.A (f v) (EP X pins σ Q) X.xe s
def ZFG (X : Cx) (f : Value) (r : List V → Hp → VK → Prop) : Prop :=
 ∀ (pins : List (Addr × Obj)) (s : Shared) (σ : St) (H : Hp) (xs : List V) (us : List Value) (Q : VK), Inv X pins σ H s → ZEU xs us → r xs H Q →
  wpAny (model X.prog X.w) X.A (call f us) (EP X pins σ Q) X.xe s
def tOp (r : R2) (ta tb : TE) : TE := fun σ H Q => ta σ H fun x H1 => tb σ H1 fun y H2 => r x y H2 Q
def tUn (r : V → Hp → VK → Prop) (ta : TE) : TE := fun σ H Q => ta σ H fun x H1 => r x H1 Q
def rI (C : Int → Int → Prop) (g : Int → Int → V) : R2 := fun x y H Q => ∃ i j, x = .int i ∧ y = .int j ∧ C i j ∧ Q (g i j) H
def rI0 (g : Int → Int → V) : R2 := fun x y H Q => ∃ i j, x = .int i ∧ y = .int j ∧ Q (g i j) H
def rU (g : Int → V) : V → Hp → VK → Prop := fun x H Q => ∃ i, x = .int i ∧ Q (g i) H
section
variable {X : Cx} {a b c : Expr} {ta tb tc : TE} {pos : Pos}
theorem ZRs (ha : PE X a ta) (hb : PE X b tb) {pins : List (Addr × Obj)} {s : Shared} {σ : St} {H : Hp} {R : V → V → Hp → Prop} (I : Inv X pins σ H s)
  (h : ta σ H fun x H1 => tb σ H1 fun y H2 => R x y H2) {Q : Value → Shared → Prop} {f : Value → Value → Sem Value}
  (hf : ∀ v u s2 x y H2, Inv X pins σ H2 s2 → ZER x v → ZER y u → R x y H2 → wpAny (model X.prog X.w) X.A (f v u) Q X.xe s2) :
  wpAny (model X.prog X.w) X.A (eval a X.env) (fun v s₁ => wpAny (model X.prog X.w) X.A (eval b X.env) (fun u s₂ => wpAny (model X.prog X.w) X.A (f v u) Q X.xe s₂) X.xe s₁) X.xe s := by
 refine thn (ha pins s σ H _ I h) fun v s1 ⟨x, H1, I1, r1, q1⟩ => ?_
 refine thn (hb pins s1 σ H1 _ I1 q1) fun u s2 ⟨y, H2, I2, r2, q2⟩ => ?_
 exact hf v u s2 x y H2 I2 r1 r2 q2
theorem ZXh {op : Operator} {r : R2} (ho : OpR X (binaryOp op) r) (ha : PE X a ta) (hb : PE X b tb) : PE X (.BinOp a op b pos) (tOp r ta tb) := by
 intro pins s σ H Q I h
 exact wpAny_BinOp (ZRs ha hb I h fun v u s2 x y H2 I2 rx ry q => ho pins s2 σ H2 x y v u Q I2 rx ry q)
theorem ZXi {op : UnaryOp} {r : V → Hp → VK → Prop} (ho : UnR X (unaryOp op) r) (ha : PE X a ta) : PE X (.UnaryOp op a pos) (tUn r ta) := by
 intro pins s σ H Q I h
 exact UnaryOp_ (thn (ha pins s σ H _ I h) fun v s1 ⟨x, H1, I1, r1, q1⟩ => ho pins s1 σ H1 x v Q I1 r1 q1)
theorem opI {f : Value → Value → Sem Value} {C : Int → Int → Prop} {g : Int → Int → Int}
  (rule : ∀ (i j : Int) (t u : Tok) (s : Shared) (Q : Value → Shared → Prop) (E : Value → Shared → Prop), C i j → Q (.int (g i j) s.toks) { s with toks := s.toks + 1 } → wpAny (model X.prog X.w) X.A (f (.int i t) (.int j u)) Q E s) :
  OpR X f (rI C fun i j => .int (g i j)) := by
 intro pins s σ H x y v u Q I rx ry h
 obtain ⟨i, j, rfl, rfl, hc, q⟩ := h
 obtain ⟨t, rfl⟩ := rx
 obtain ⟨t', rfl⟩ := ry
 exact rule i j t t' s _ _ hc ⟨.int (g i j), H, I.tok _, ⟨_, rfl⟩, q⟩
theorem ZRt {f : Value → Value → Sem Value} {g : Int → Int → Int}
  (rule : ∀ (i j : Int) (t u : Tok) (s : Shared) (Q : Value → Shared → Prop) (E : Value → Shared → Prop), Q (.int (g i j) s.toks) { s with toks := s.toks + 1 } → wpAny (model X.prog X.w) X.A (f (.int i t) (.int j u)) Q E s) :
  OpR X f (rI0 fun i j => .int (g i j)) := by
 intro pins s σ H x y v u Q I rx ry h
 obtain ⟨i, j, rfl, rfl, q⟩ := h
 obtain ⟨t, rfl⟩ := rx
 obtain ⟨t', rfl⟩ := ry
 exact rule i j t t' s _ _ ⟨.int (g i j), H, I.tok _, ⟨_, rfl⟩, q⟩
theorem ZO2 {f : Value → Value → Sem Value} {g : Int → Int → Bool}
  (rule : ∀ (i j : Int) (t u : Tok) (s : Shared) (Q : Value → Shared → Prop) (E : Value → Shared → Prop), Q (.bool (g i j)) s → wpAny (model X.prog X.w) X.A (f (.int i t) (.int j u)) Q E s) :
  OpR X f (rI0 fun i j => .bl (g i j)) := by
 intro pins s σ H x y v u Q I rx ry h
 obtain ⟨i, j, rfl, rfl, q⟩ := h
 obtain ⟨t, rfl⟩ := rx
 obtain ⟨t', rfl⟩ := ry
 exact rule i j t t' s _ _ ⟨.bl (g i j), H, I, rfl, q⟩
def ZRu (i j : Int) : Prop := 0 ≤ j ∧ j ≤ 1000000 ∧ i.natAbs < 2 ^ 64
def ZRv (i j : Int) : Prop := (-(2 ^ 64) < i ∧ i < 2 ^ 64) ∨ (-(2 ^ 64) < j ∧ j < 2 ^ 64)
theorem ZRv.ok {i j : Int} (h : ZRv i j) : IntMulOk i j := by
 rcases h with ⟨h1, h2⟩ | ⟨h1, h2⟩
 ·exact .of_left (intBits_le_64 h1 h2)
 ·exact .of_right (intBits_le_64 h1 h2)
theorem ZE3 : OpR X (binaryOp .Add) (rI0 fun i j => .int (i + j)) := ZRt fun _ _ _ _ _ _ _ q => add_int q
theorem ZFb : OpR X (binaryOp .Sub) (rI0 fun i j => .int (i - j)) := ZRt fun _ _ _ _ _ _ _ q => sub_int q
theorem ZHP : OpR X (binaryOp .Mod) (rI (fun _ j => 0 < j) fun i j => .int (i % j)) := opI fun i j _ _ _ _ _ hc q => by
 have h1 : (0 : Int) < j := hc
 exact mod_int' (by omega) (by rw [Int.fmod_eq_emod_of_nonneg i (by omega)]; exact q)
theorem ZFs : OpR X (binaryOp .Pow) (rI ZRu fun i j => .int (i ^ j.toNat)) := opI fun _ _ _ _ _ _ _ hc q => pow_int_small hc.1 hc.2.1 hc.2.2 q
theorem ZOO : OpR X (inplaceOp .Add) (rI0 fun i j => .int (i + j)) := ZRt fun _ _ _ _ _ _ _ q => iadd_int q
theorem ZUJ : OpR X (inplaceOp .Mult) (rI ZRv fun i j => .int (i * j)) := opI fun _ _ _ _ _ _ _ hc q => imul_int q hc.ok
theorem unI {f : Value → Sem Value} {g : Int → Int}
  (rule : ∀ (i : Int) (t : Tok) (s : Shared) (Q : Value → Shared → Prop) (E : Value → Shared → Prop), Q (.int (g i) s.toks) { s with toks := s.toks + 1 } → wpAny (model X.prog X.w) X.A (f (.int i t)) Q E s) :
  UnR X f (rU fun i => .int (g i)) := by
 intro pins s σ H x v Q I rx h
 obtain ⟨i, rfl, q⟩ := h
 obtain ⟨t, rfl⟩ := rx
 exact rule i t s _ _ ⟨.int (g i), H, I.tok _, ⟨_, rfl⟩, q⟩
theorem ZHo : UnR X (unaryOp .USub) (rU fun i => .int (-i)) := unI fun _ _ _ _ _ q => neg_int q
end
def ZWL : V → V → Bool
 | .non, .non => true | .non, .int _ => true | .int _, .non => true | .non, .bl _ => true | .bl _, .non => true | .non, .str _ => true | .str _, .non => true
 | .int _, .int _ => true | .bl _, .bl _ => true | .str _, .str _ => true | .byt _, .byt _ => true
 | .int _, .str _ => true | .str _, .int _ => true | .bl _, .str _ => true | .str _, .bl _ => true
 | _, _ => false
def rEq : R2 := fun x y H Q => ZWL x y = true ∧ Q (.bl (decide (x = y))) H
def rNe : R2 := fun x y H Q => ZWL x y = true ∧ Q (.bl (!decide (x = y))) H
theorem ZOP {i j : Int} : decide (V.int i = V.int j) = (i == j) := by
 rw [Bool.eq_iff_iff]
 simp
theorem ZP8 {i j : Bool} : decide (V.bl i = V.bl j) = (i == j) := by
 rw [Bool.eq_iff_iff]
 simp
theorem ZOQ {i j : Str} : decide (V.str i = V.str j) = (i == j) := by
 rw [Bool.eq_iff_iff]
 simp
theorem ZOR {i j : Array UInt8} : decide (V.byt i = V.byt j) = (i.toList == j.toList) := by
 rw [Bool.eq_iff_iff]
 cases i
 cases j
 simp
section
variable {X : Cx} {a b c : Expr} {ta tb tc : TE} {pos : Pos}
theorem ZEm {pins : List (Addr × Obj)} {σ : St} {H : Hp} {s : Shared} {Q : VK} {k k' : Bool} (I : Inv X pins σ H s) (q : Q (.bl k) H) (e : k = k') : EP X pins σ Q (.bool k') s := by
 subst e
 exact ⟨.bl k, H, I, rfl, q⟩
theorem ZE9 : OpR X (compareOp .Eq) rEq := by
 intro pins s σ H x y v u Q I rx ry h
 obtain ⟨hs, q⟩ := h
 cases x with
 | non =>
  cases rx
  cases y with
  | non => cases ry; exact PySem.EqNone.eq_none_none (ZEm I q (by simp))
  | bl j => cases ry; exact PySem.EqNone.eq_none_bool (ZEm I q (by simp))
  | int j => obtain ⟨t', rfl⟩ := ry; exact PySem.EqNone.eq_none_int (ZEm I q (by simp))
  | str j => obtain ⟨t', rfl⟩ := ry; exact PySem.EqNone.eq_none_str (ZEm I q (by simp))
  | _ => exact absurd (show false = true from hs) Bool.false_ne_true
 | bl i =>
  cases rx
  cases y with
  | non => cases ry; exact PySem.EqNone.eq_bool_none (ZEm I q (by simp))
  | bl j => cases ry; exact eq_bool (ZEm I q ZP8)
  | str j => obtain ⟨t', rfl⟩ := ry; exact PySem.EqMixed.eq_bool_str (ZEm I q (by simp))
  | _ => exact absurd (show false = true from hs) Bool.false_ne_true
 | int i =>
  obtain ⟨t, rfl⟩ := rx
  cases y with
  | non => cases ry; exact PySem.EqNone.eq_int_none (ZEm I q (by simp))
  | int j => obtain ⟨t', rfl⟩ := ry; exact eq_int (ZEm I q ZOP)
  | str j => obtain ⟨t', rfl⟩ := ry; exact PySem.EqMixed.eq_int_str (ZEm I q (by simp))
  | _ => exact absurd (show false = true from hs) Bool.false_ne_true
 | str i =>
  obtain ⟨t, rfl⟩ := rx
  cases y with
  | non => cases ry; exact PySem.EqNone.eq_str_none (ZEm I q (by simp))
  | bl j => cases ry; exact PySem.EqMixed.eq_str_bool (ZEm I q (by simp))
  | int j => obtain ⟨t', rfl⟩ := ry; exact PySem.EqMixed.eq_str_int (ZEm I q (by simp))
  | str j => obtain ⟨t', rfl⟩ := ry; exact eq_str (ZEm I q ZOQ)
  | _ => exact absurd (show false = true from hs) Bool.false_ne_true
 | byt i =>
  obtain ⟨t, rfl⟩ := rx
  cases y with
  | byt j => obtain ⟨t', rfl⟩ := ry; exact PySem.W.eq_bytes (ZEm I q ZOR)
  | _ => exact absurd (show false = true from hs) Bool.false_ne_true
 | _ => cases y <;> exact absurd (show false = true from hs) Bool.false_ne_true
theorem ZXj : OpR X (compareOp .NotEq) rNe := by
 intro pins s σ H x y v u Q I rx ry h
 obtain ⟨hs, q⟩ := h
 cases x with
 | non =>
  cases rx
  cases y with
  | non => cases ry; exact PySem.EqNone.ne_none_none (ZEm I q (by simp))
  | bl j => cases ry; exact PySem.EqNone.ne_none_bool (ZEm I q (by simp))
  | int j => obtain ⟨t', rfl⟩ := ry; exact PySem.EqNone.ne_none_int (ZEm I q (by simp))
  | str j => obtain ⟨t', rfl⟩ := ry; exact PySem.EqNone.ne_none_str (ZEm I q (by simp))
  | _ => exact absurd (show false = true from hs) Bool.false_ne_true
 | bl i =>
  cases rx
  cases y with
  | non => cases ry; exact PySem.EqNone.ne_bool_none (ZEm I q (by simp))
  | bl j => cases ry; exact ne_bool (ZEm I q (congrArg not ZP8))
  | str j => obtain ⟨t', rfl⟩ := ry; exact PySem.EqMixed.ne_bool_str (ZEm I q (by simp))
  | _ => exact absurd (show false = true from hs) Bool.false_ne_true
 | int i =>
  obtain ⟨t, rfl⟩ := rx
  cases y with
  | non => cases ry; exact PySem.EqNone.ne_int_none (ZEm I q (by simp))
  | int j => obtain ⟨t', rfl⟩ := ry; exact ne_int (ZEm I q (congrArg not ZOP))
  | str j => obtain ⟨t', rfl⟩ := ry; exact PySem.EqMixed.ne_int_str (ZEm I q (by simp))
  | _ => exact absurd (show false = true from hs) Bool.false_ne_true
 | str i =>
  obtain ⟨t, rfl⟩ := rx
  cases y with
  | non => cases ry; exact PySem.EqNone.ne_str_none (ZEm I q (by simp))
  | bl j => cases ry; exact PySem.EqMixed.ne_str_bool (ZEm I q (by simp))
  | int j => obtain ⟨t', rfl⟩ := ry; exact PySem.EqMixed.ne_str_int (ZEm I q (by simp))
  | str j => obtain ⟨t', rfl⟩ := ry; exact ne_str (ZEm I q (congrArg not ZOQ))
  | _ => exact absurd (show false = true from hs) Bool.false_ne_true
 | byt i =>
  obtain ⟨t, rfl⟩ := rx
  cases y with
  | byt j => obtain ⟨t', rfl⟩ := ry; exact PySem.W.ne_bytes (ZEm I q (congrArg not ZOR))
  | _ => exact absurd (show false = true from hs) Bool.false_ne_true
 | _ => cases y <;> exact absurd (show false = true from hs) Bool.false_ne_true
theorem ZJw : OpR X (compareOp .Lt) (rI0 fun i j => .bl (decide (i < j))) := ZO2 fun _ _ _ _ _ _ _ q => lt_int q
theorem ZHc : OpR X (compareOp .LtE) (rI0 fun i j => .bl (decide (i ≤ j))) := ZO2 fun _ _ _ _ _ _ _ q => le_int q
theorem ZKv : OpR X (compareOp .Gt) (rI0 fun i j => .bl (decide (j < i))) := ZO2 fun _ _ _ _ _ _ _ q => gt_int q
theorem ZTp : OpR X (compareOp .GtE) (rI0 fun i j => .bl (decide (j ≤ i))) := ZO2 fun _ _ _ _ _ _ _ q => ge_int q
theorem ZWM : OpR X (compareOp .Is) (fun x y H Q => y = .non ∧ Q (.bl (decide (x = .non))) H) := by
 intro pins s σ H x y v u Q I rx ry h
 obtain ⟨rfl, q⟩ := h
 cases ry
 refine is_none_gen (ZEm I q ?_)
 cases x <;> first
  | (cases rx; rfl)
  | (obtain ⟨t, rfl⟩ := rx; rfl)
theorem ZUK : OpR X (compareOp .IsNot) (fun x y H Q => y = .non ∧ Q (.bl (!decide (x = .non))) H) := by
 intro pins s σ H x y v u Q I rx ry h
 obtain ⟨rfl, q⟩ := h
 cases ry
 refine isnot_none_gen (ZEm I q ?_)
 cases x <;> first
  | (cases rx; rfl)
  | (obtain ⟨t, rfl⟩ := rx; rfl)
theorem ZEW (b : Expr) {op : CmpOp} (h : op ≠ .In := by decide) (h2 : op ≠ .NotIn := by decide) : behindInMarks op b = false := by
 have e1 : (op == CmpOp.In) = false := by cases op <;> first | rfl | exact absurd rfl h
 have e2 : (op == CmpOp.NotIn) = false := by cases op <;> first | rfl | exact absurd rfl h2
 cases b <;> simp [behindInMarks, e1, e2]
theorem ZUL {op : CmpOp} {r : R2} (ho : OpR X (compareOp op) r) (ha : PE X a ta) (hb : PE X b tb) (hm : behindInMarks op b = false) : PE X (.Compare a [op] [b] pos) (tOp r ta tb) := by
 intro pins s σ H Q I h
 exact wpAny_Compare1 (ZRs ha hb I h fun v u s2 x y H2 I2 rx ry q => ho pins s2 σ H2 x y v u Q I2 rx ry q) hm
def ZKw (t : TE) : TT := fun σ H Q => t σ H fun x H' => ∃ k, x = .bl k ∧ Q k H'
theorem ZUM {op : CmpOp} {r : R2} (ho : OpR X (compareOp op) r) (ha : PE X a ta) (hb : PE X b tb) (hm : behindInMarks op b = false) : PT X (.Compare a [op] [b] pos) (ZKw (tOp r ta tb)) := by
 intro pins s σ H Q I h
 refine wpAny_isTrue_Compare1 (thn (ha pins s σ H _ I h) fun v s1 ⟨x, H1, I1, r1, q1⟩ => thn (hb pins s1 σ H1 _ I1 q1) fun u s2 ⟨y, H2, I2, r2, q2⟩ =>
  thn (ho pins s2 σ H2 x y v u _ I2 r1 r2 q2) fun c s3 ⟨z, H3, I3, r3, k, e, q3⟩ => ?_) hm
 subst e
 cases r3
 exact wpAny_truthy_bool ⟨H3, I3, q3⟩
def ZJS (r r' : R2) (ta tb tc : TE) : TE := fun σ H Q => ta σ H fun x H1 => tb σ H1 fun y H2 => r x y H2 fun z H3 => ∃ k, z = .bl k ∧
 (if k = true then tc σ H3 fun w' H4 => r' y w' H4 Q else Q (.bl false) H3)
theorem ZRw {op op' : CmpOp} {r r' : R2} (ho : OpR X (compareOp op) r) (ho' : OpR X (compareOp op') r') (ha : PE X a ta) (hb : PE X b tb) (hc : PE X c tc)
  (hm : lastMarks [op, op'] [b, c] = false := by with_unfolding_all rfl) : PE X (.Compare a [op, op'] [b, c] pos) (ZJS r r' ta tb tc) := by
 intro pins s σ H Q I h
 refine Compare_chain (thn (ha pins s σ H _ I h) fun v s1 ⟨x, H1, I1, r1, q1⟩ => chain_link (thn (hb pins s1 σ H1 _ I1 q1) fun u s2 ⟨y, H2, I2, r2, q2⟩ =>
  thn (ho pins s2 σ H2 x y v u _ I2 r1 r2 q2) fun d s3 ⟨z, H3, I3, r3, k, e, q3⟩ => ?_)) hm
 subst e
 cases r3
 refine wpAny_truthy_bool ?_
 cases k with
 | false => exact ite_ff ⟨.bl false, H3, I3, rfl, q3⟩
 | true => exact ite_tt (chain_last (thn (hc pins s3 σ H3 _ I3 q3) fun w' s4 ⟨z', H4, I4, r4, q4⟩ => ho' pins s4 σ H4 y z' u w' Q I4 r2 r4 q4))
theorem ZRx {op op' : CmpOp} {r r' : R2} (ho : OpR X (compareOp op) r) (ho' : OpR X (compareOp op') r') (ha : PE X a ta) (hb : PE X b tb) (hc : PE X c tc)
  (hm : lastMarks [op, op'] [b, c] = false := by with_unfolding_all rfl) : PT X (.Compare a [op, op'] [b, c] pos) (ZKw (ZJS r r' ta tb tc)) := by
 intro pins s σ H Q I h
 refine isTrue_chain (thn (ha pins s σ H _ I h) fun v s1 ⟨x, H1, I1, r1, q1⟩ => test_link (thn (hb pins s1 σ H1 _ I1 q1) fun u s2 ⟨y, H2, I2, r2, q2⟩ =>
  thn (ho pins s2 σ H2 x y v u _ I2 r1 r2 q2) fun d s3 ⟨z, H3, I3, r3, k, e, q3⟩ => ?_)) hm
 subst e
 cases r3
 refine wpAny_truthy_bool ?_
 cases k with
 | false =>
  obtain ⟨k', e', q'⟩ := q3
  cases e'
  exact ite_ff ⟨H3, I3, q'⟩
 | true =>
  refine ite_tt (test_last (thn (hc pins s3 σ H3 _ I3 q3) fun w' s4 ⟨z', H4, I4, r4, q4⟩ => thn (ho' pins s4 σ H4 y z' u w' _ I4 r2 r4 q4) fun d' s5 ⟨z2, H5, I5, r5, k2, e2, q5⟩ => ?_))
  subst e2
  cases r5
  exact wpAny_truthy_bool ⟨H5, I5, q5⟩
theorem ZJT : (sizeLine : Nat) < 2 ^ 63 := by rw [sizeLine_eq]; decide
theorem ZMZ {x : V} {us : List Value} (r : ZEU [x] us) : ∃ u, us = [u] ∧ ZER x u := by
 cases r with
 | cons r1 r2 => cases r2; exact ⟨_, rfl, r1⟩
theorem ZO3 {x y : V} {us : List Value} (r : ZEU [x, y] us) : ∃ u w', us = [u, w'] ∧ ZER x u ∧ ZER y w' := by
 cases r with
 | cons r1 r2 =>
  cases r2 with
  | cons r3 r4 => cases r4; exact ⟨_, _, rfl, r1, r3⟩
theorem ZRy : ZFG X (.builtin "abs") (fun xs H Q => ∃ i, xs = [.int i] ∧ Q (.int (if i < 0 then -i else i)) H) := by
 intro pins s σ H xs us Q I r h
 obtain ⟨i, rfl, q⟩ := h
 obtain ⟨u, rfl, t, rfl⟩ := ZMZ r
 exact call_abs_int fun u tk => ⟨.int (if i < 0 then -i else i), H, I.tok _, ⟨_, rfl⟩, q⟩
theorem ZP9 (hc : X.calm = true) : ZFG X (.builtin "max") (fun xs H Q => ∃ i j, xs = [.int i, .int j] ∧ Q (.int (if j > i then j else i)) H) := by
 intro pins s σ H xs us Q I r h
 obtain ⟨i, j, rfl, q⟩ := h
 obtain ⟨u, w', rfl, ⟨t, rfl⟩, ⟨t', rfl⟩⟩ := ZO3 r
 refine max_two_ints (I.ok.hd hc) fun h' tk k => ⟨_, H, I.kept k, ?_, q⟩
 by_cases hj : j > i
 ·rw [if_pos hj, if_pos hj]; exact ⟨_, rfl⟩
 ·rw [if_neg hj, if_neg hj]; exact ⟨_, rfl⟩
theorem ZQA (hc : X.calm = true) : ZFG X (.builtin "min") (fun xs H Q => ∃ i j, xs = [.int i, .int j] ∧ Q (.int (if j < i then j else i)) H) := by
 intro pins s σ H xs us Q I r h
 obtain ⟨i, j, rfl, q⟩ := h
 obtain ⟨u, w', rfl, ⟨t, rfl⟩, ⟨t', rfl⟩⟩ := ZO3 r
 refine min_two_ints (I.ok.hd hc) fun h' tk k => ⟨_, H, I.kept k, ?_, q⟩
 by_cases hj : j < i
 ·rw [if_pos hj, if_pos hj]; exact ⟨_, rfl⟩
 ·rw [if_neg hj, if_neg hj]; exact ⟨_, rfl⟩
end
structure ZKQ (h : Heap) (x dx C : Addr) (mA : Str → Option Value) : Prop where
 obj : h.get? x = some (PySem.W.instObj C dx)
 ns : h.Ns1 dx mA
 ne : dx ≠ x
theorem ZQB {h : Heap} {dx : Addr} {mA : Str → Option Value} (n : h.Ns1 dx mA) : ∃ od, h.get? dx = some od ∧ ∀ name, PySem.W.lookIn name od = some (mA name) := by
 obtain ⟨o, es, ep, ho, hd, hk, _, hm⟩ := n
 refine ⟨o, ho, fun name => ?_⟩
 have e := hm name
 unfold nsFind findBy at e
 rw [← Array.find?_toList] at e
 unfold PySem.W.lookIn
 rw [hd]
 dsimp only
 split
 ·rename_i y q
  rw [q] at e
  exact congrArg some e
 ·rename_i q
  rw [q] at e
  have a : es.toList.any (·.refKey) = false := by
   rw [List.any_eq_false]
   intro y hy
   obtain ⟨z, t, hkey⟩ := hk y (Array.mem_toList_iff.mp hy)
   simp [DictEntry.refKey, hkey]
  have a' : ¬ es.toList.any (·.refKey) = true := by rw [a]; exact Bool.false_ne_true
  rw [if_neg a']
  exact congrArg some e
theorem ZKQ.look {h : Heap} {x dx C : Addr} {mA : Str → Option Value} (I : ZKQ h x dx C mA) : ∃ od, PySem.W.InstAt h x (PySem.W.instObj C dx) C (some od) ∧ ∀ name, PySem.W.lookIn name od = some (mA name) :=
 let ⟨od, ho, hl⟩ := ZQB I.ns
 ⟨od, ⟨I.obj, rfl, rfl, ho⟩, hl⟩
section
variable {prog : Program} {w : World} {A : Around} {E : Value → Shared → Prop} {s : Shared} {K : W.Frag} {x dx C f : Addr} {mA : Str → Option Value} {name : Str} {v : Value}
theorem ZUN {expr : Bool} {Q : Value → Shared → Prop} (X : K.In s.heap) (I : ZKQ s.heap x dx C mA) (hg : PySem.W.plainGet K C name = true) (hh : PySem.W.hasDictIn K C = true)
  (ha : W.findIn K (.ref C) name = some none) (hv : mA name = some v) (hv' : PySem.W.handedIn v = true) (h : Q v { s with toks := s.toks + 1 }) :
  wpAny (model prog w) A (getAttr (.ref x) name expr) Q E s := by
 obtain ⟨od, J, hl⟩ := I.look
 exact PySem.W.get_value X J (PySem.W.plainGet_of hg).1 (PySem.W.findObj_own hh ha rfl (by rw [hl, hv])) hv' h
theorem ZRz {pl : Sem Bool} {Q : Value × List Value → Shared → Prop} (X : K.In s.heap) (I : ZKQ s.heap x dx C mA) (hg : PySem.W.plainGet K C name = true)
  (hf : W.findIn K (.ref C) name = some (some (.ref f))) (ht : PySem.W.isFn K (.ref f) = true) (hv : mA name = none) (h : Q (.ref f, [.ref x]) s) :
  wpAny (model prog w) A (getMethod (.ref x) name pl) Q E s := by
 obtain ⟨od, J, hl⟩ := I.look
 exact PySem.W.method_fn X J (PySem.W.plainGet_of hg).1 (PySem.W.plainGet_of hg).2 hf (beq_iff_eq.mp ht) (by show (PySem.W.lookIn name od).map (·.isSome) = some false; rw [hl, hv]; rfl) h
theorem ZUO {ns : List Str} {Q : Unit → Shared → Prop} (X : K.In s.heap) (I : ZKQ s.heap x dx C mA)
  (hs : W.findIn K (.ref C) "__setattr__" = some (some (.builtin "object.__setattr__"))) (hp : PySem.W.plainOver K C = true) (ht : PySem.W.takerIn K C name = some none) (hh : PySem.W.hasDictIn K C = true)
  (hw : PySem.Within mA ns) (hsz : ns.length ≤ sizeLine)
  (h : ∀ h', ZKQ h' x dx C (fun y => if y = name then some v else mA y) → Heap.SameBut dx s.heap h' → Q () { s with heap := h', toks := s.toks + 2 }) :
  wpAny (model prog w) A (setAttr (.ref x) name v) Q E s := by
 obtain ⟨od, J, hl⟩ := I.look
 refine PySem.W.set_plain X J hs (PySem.W.osa_open (s := { s with toks := s.toks + 1 }) (r := none) X J hp ht fun b => ?_)
 obtain ⟨cd, hc, hd'⟩ := PySem.W.any_some hh
 have hx : s.heap.get? x = some ⟨.ref C, some dx, .plain, #[]⟩ := I.obj
 refine wpAny_bind (wpAny_pure (wpAny_bind (wpAny_bind (wpAny_loadPart hx (wpAny_bind (PySem.W.Looks.here (s := { s with toks := s.toks + 1 }) (PySem.W.looks_clsIn X hc) ?_))))))
 rw [hd']
 refine wpAny_pure (a := some dx) (wpAny_bind (wpAny_pure (wpAny_bind ?_)))
 refine wpAny_nsSet1 (s := { s with toks := s.toks + 1 }) I.ns fun h' hn2 hs2 => ?_
 obtain ⟨oD, esD, epD, hoD, hdD, hcD⟩ := hn2.count (PySem.Within.cons name v hw)
 refine wpAny_bind (wpAny_lookBehind hoD (by rw [hdD]; exact pastItsLine_dict (Nat.le_trans hcD (by rw [List.length_cons]; omega))) ?_)
 exact wpAny_pure (h _ ⟨(hs2.2 _ (Ne.symm I.ne)).trans I.obj, hn2, I.ne⟩ hs2)
theorem ZR0 {R : Result → Shared → Prop} {vs : List Value} {kw : List (Str × Value)} (X : K.In s.heap) (hm : PySem.W.makesIn K C = true)
  (hi : W.findIn K (.ref C) "__init__" = some (some (.ref f))) (hf : PySem.W.typeIn K (.ref f) = some (.type "function"))
  (h : codeAny (model prog w) (A.under (.builtin "type.__call__" ⟨.ref C :: vs, kw⟩)) (.call (.ref f) ⟨.ref (s.heap.objs.size + 1) :: vs, kw⟩) (PySem.W.InitBack (s.heap.objs.size + 1) R)
   { s with heap := (s.heap.push PySem.W.emptyDict).push (PySem.W.instObj C s.heap.objs.size) }) :
  codeAny (model prog w) A (.call (.ref C) ⟨vs, kw⟩) R s := by
 obtain ⟨hh, g, d, t, os⟩ := s
 exact PySem.W.make_core (PySem.W.makes_of X hm) (PySem.W.looks_findIn X hi) (fun self => PySem.W.bind_fn X self hf) (.inl rfl) h
end
def ZEj (f : Str) (v : V) : List (Str × V) → List (Str × V)
 | [] => [(f, v)]
 | (g, x) :: r => if g = f then (g, v) :: r else (g, x) :: ZEj f v r
theorem ZKB (f g : Str) (v : V) : ∀ fs : List (Str × V), (ZEj f v fs).lookup g = if g = f then some v else fs.lookup g
 | [] => by
  show List.lookup g [(f, v)] = _
  by_cases h : g = f
  ·have hb : (g == f) = true := beq_iff_eq.mpr h
   simp only [List.lookup, hb, if_pos h]
  ·have hb : (g == f) = false := beq_eq_false_iff_ne.mpr h
   simp only [List.lookup, hb, if_neg h]
 | (k, x) :: r => by
  have ih := ZKB f g v r
  rw [show ZEj f v ((k, x) :: r) = (if k = f then (k, v) :: r else (k, x) :: ZEj f v r) from rfl]
  by_cases hk : k = f
  ·rw [if_pos hk]
   by_cases h : g = k
   ·have hb : (g == k) = true := beq_iff_eq.mpr h
    simp only [List.lookup, hb, if_pos (h.trans hk)]
   ·have hb : (g == k) = false := beq_eq_false_iff_ne.mpr h
    simp only [List.lookup, hb, if_neg (fun e : g = f => h (e.trans hk.symm))]
  ·rw [if_neg hk]
   by_cases h : g = k
   ·have hb : (g == k) = true := beq_iff_eq.mpr h
    simp only [List.lookup, hb, if_neg (fun e : g = f => hk (h.symm.trans e))]
   ·have hb : (g == k) = false := beq_eq_false_iff_ne.mpr h
    simp only [List.lookup, hb]
    exact ih
theorem ZJU (f : Str) (v : V) : ∀ fs : List (Str × V), f ∈ (ZEj f v fs).map (·.1) ∧ ∀ g, g ∈ fs.map (·.1) → g ∈ (ZEj f v fs).map (·.1)
 | [] => ⟨by simp [ZEj], fun g h => by simp at h⟩
 | (k, x) :: r => by
  obtain ⟨i1, i2⟩ := ZJU f v r
  rw [show ZEj f v ((k, x) :: r) = (if k = f then (k, v) :: r else (k, x) :: ZEj f v r) from rfl]
  by_cases hk : k = f
  ·rw [if_pos hk]
   subst hk
   exact ⟨by simp, fun g h => by simpa using h⟩
  ·rw [if_neg hk]
   refine ⟨?_, fun g h => ?_⟩
   ·rw [List.map_cons]
    exact List.mem_cons_of_mem _ i1
   ·rw [List.map_cons] at h ⊢
    rcases List.mem_cons.mp h with e | e
    ·exact List.mem_cons.mpr (.inl e)
    ·exact List.mem_cons_of_mem _ (i2 g e)
theorem ZKC (f : Str) (v : V) : ∀ fs : List (Str × V), (ZEj f v fs).length ≤ fs.length + 1
 | [] => by simp [ZEj]
 | (k, x) :: r => by
  have ih := ZKC f v r
  rw [show ZEj f v ((k, x) :: r) = (if k = f then (k, v) :: r else (k, x) :: ZEj f v r) from rfl]
  by_cases hk : k = f
  ·rw [if_pos hk, List.length_cons, List.length_cons]; omega
  ·rw [if_neg hk, List.length_cons, List.length_cons]; omega
theorem ZFw.some_of {v : V} {o : Option Value} (r : ZFw (some v) o) : ∃ u, o = some u ∧ ZER v u := by
 cases o with
 | none => exact (show False from r).elim
 | some u => exact ⟨u, rfl, r⟩
theorem ZFw.none_of {o : Option Value} (r : ZFw none o) : o = none := by
 cases o with
 | none => rfl
 | some u => exact (show False from r).elim
theorem ZQC {v : V} {u : Value} (r : ZER v u) : PySem.W.handedIn u = true := by
 cases v with
 | non => cases (show u = Value.none from r); rfl
 | bl b => cases (show u = Value.bool b from r); rfl
 | int i => obtain ⟨t, e⟩ := (show ∃ t, u = Value.int i t from r); cases e; rfl
 | str x => obtain ⟨t, e⟩ := (show ∃ t, u = Value.str x t from r); cases e; rfl
 | byt b => obtain ⟨t, e⟩ := (show ∃ t, u = Value.bytes b t from r); cases e; rfl
 | flt b => obtain ⟨t, e⟩ := (show ∃ t, u = Value.float b t from r); cases e; rfl
 | ref a => cases (show u = Value.ref a from r); rfl
 | ty n => cases (show u = Value.type n from r); rfl
section
variable {P : Program} {w : World} {H H' : Hp} {h h' : Heap} {a C dx : Addr} {fs fs' : List (Str × V)}
theorem ZJx (hok : HOk P w H h) (e : H a = some (.ins C dx fs)) : ∃ mA, ZKQ h a dx C mA ∧ (∀ f, ZFw (fs.lookup f) (mA f)) ∧ PySem.Within mA (fs.map (·.1)) ∧ fs.length ≤ 1000 ∧ H dx = some (.own a) := by
 obtain ⟨d, z, ne, ob, mA, n, r, q⟩ := (show ZEv P w H h a (.ins C dx fs) from hok a _ e)
 exact ⟨mA, ⟨ob, n, ne⟩, r, q, z, d⟩
end
structure Cls (K : W.Frag) (C : Addr) : Prop where
 pg : PySem.W.plainGet K C Str.empty = true
 hd : PySem.W.hasDictIn K C = true
 po : PySem.W.plainOver K C = true
 sa : W.findIn K (.ref C) "__setattr__" = some (some (.builtin "object.__setattr__"))
theorem Cls.get {K : W.Frag} {C : Addr} (c : Cls K C) (f : Str) : PySem.W.plainGet K C f = true := c.pg
def ZE4 (K : W.Frag) (C : Addr) (f : Str) : Prop := W.findIn K (.ref C) f = some none
theorem ZE4.taker {K : W.Frag} {C : Addr} {f : Str} (n : ZE4 K C f) : PySem.W.takerIn K C f = some none := by
 unfold PySem.W.takerIn
 rw [show W.findIn K (.ref C) f = some none from n]
 rfl
structure ZFQ (K : W.Frag) (C : Addr) (m : Str) (f : Addr) : Prop where
 at_ : W.findIn K (.ref C) m = some (some (.ref f))
 fn : PySem.W.isFn K (.ref f) = true
 kp : W.keepIn K (.ref f) = true
section
variable {X : Cx} {pins : List (Addr × Obj)} {σ : St} {H : Hp} {s : Shared} {a C dx : Addr} {fs : List (Str × V)} {f : Str} {v : V} {A : Around} {E : Value → Shared → Prop}
theorem ZKx {b : Bool} {Q : Value → Shared → Prop} (I : Inv X pins σ H s) (e : H a = some (.ins C dx fs)) (c : Cls X.K C) (n : ZE4 X.K C f) (l : fs.lookup f = some v)
  (h : ∀ u s', Inv X pins σ H s' → ZER v u → Q u s') : wpAny (model X.prog X.w) A (getAttr (.ref a) f b) Q E s := by
 obtain ⟨mA, O, r, _, _, _⟩ := ZJx I.hok e
 obtain ⟨u, hu, ru⟩ := ZFw.some_of (v := v) (o := mA f) (by rw [← l]; exact r f)
 exact ZUN I.kIn O (c.get f) c.hd n hu (ZQC ru) (h u _ (I.tok _) ru)
theorem ZKy {m : Str} {g : Addr} {pl : Sem Bool} {Q : Value × List Value → Shared → Prop} (I : Inv X pins σ H s) (e : H a = some (.ins C dx fs)) (c : Cls X.K C) (k : ZFQ X.K C m g) (l : fs.lookup m = none)
  (h : Q (.ref g, [.ref a]) s) : wpAny (model X.prog X.w) A (getMethod (.ref a) m pl) Q E s := by
 obtain ⟨mA, O, r, _, _, _⟩ := ZJx I.hok e
 have hn : mA m = none := ZFw.none_of (by rw [← l]; exact r m)
 exact ZRz I.kIn O (c.get m) k.at_ k.fn hn h
theorem ZKz {y : V} {u : Value} {Q : Unit → Shared → Prop} (I : Inv X pins σ H s) (e : H a = some (.ins C dx fs)) (c : Cls X.K C) (n : ZE4 X.K C f) (hl : fs.length < 1000) (ry : ZER y u)
  (h : ∀ s', Inv X pins σ (upd H a (.ins C dx (ZEj f y fs))) s' → Q () s') : wpAny (model X.prog X.w) A (setAttr (.ref a) f u) Q E s := by
 obtain ⟨mA, O, r, wi, _, ho⟩ := ZJx I.hok e
 have hz : (fs.map (·.1)).length ≤ sizeLine := by rw [List.length_map, sizeLine_eq]; omega
 refine ZUO I.kIn O c.sa c.po n.taker c.hd wi hz fun h' O' sb => h _ ?_
 have hd : ∃ o, h'.get? dx = some o := let ⟨o, _, _, e', _⟩ := O'.ns; ⟨o, e'⟩
 refine I.write (x := a) (e := dx) (by rw [e]; exact True.intro) (.inr ho) (fun b q hb z => (sb.2 b hb).trans z) hd ?_
 refine ⟨by rw [ZEV O.ne]; exact ho, ?_, O.ne, O'.obj, _, O'.ns, fun g => ?_, fun g hg => ?_⟩
 ·have := ZKC f y fs; omega
 ·show ZFw ((ZEj f y fs).lookup g) (if g = f then some u else mA g)
  rw [ZKB]
  by_cases q : g = f
  ·rw [if_pos q, if_pos q]; exact ry
  ·rw [if_neg q, if_neg q]; exact r g
 ·by_cases q : g = f
  ·rw [q]; exact (ZJU f y fs).1
  ·refine (ZJU f y fs).2 g (wi g fun z => hg ?_)
   show (if g = f then some u else mA g) = none
   rw [if_neg q]; exact z
theorem Inv.made (I : Inv X pins σ H s) : Inv X pins σ (upd (upd H s.heap.objs.size (.own (s.heap.objs.size + 1))) (s.heap.objs.size + 1) (.ins C s.heap.objs.size []))
  { s with heap := (s.heap.push PySem.W.emptyDict).push (PySem.W.instObj C s.heap.objs.size) } := by
 have e1 : (s.heap.push PySem.W.emptyDict).get? s.heap.objs.size = some PySem.W.emptyDict := Heap.get?_push_size s.heap rfl
 have e2 : ((s.heap.push PySem.W.emptyDict).push (PySem.W.instObj C s.heap.objs.size)).get? (s.heap.objs.size + 1) = some (PySem.W.instObj C s.heap.objs.size) := by
  have := Heap.get?_push_size (s.heap.push PySem.W.emptyDict) (o := PySem.W.instObj C s.heap.objs.size) rfl
  rwa [Heap.size_push] at this
 have e3 : (s.heap.push PySem.W.emptyDict).Ns s.heap.objs.size (fun _ => none) := ⟨PySem.W.emptyDict, #[], _, e1, rfl, (fun e he => absurd he (by simp)), fun _ => rfl⟩
 have I1 := I.laid (a := s.heap.objs.size) (o := .own (s.heap.objs.size + 1)) (h' := s.heap.push PySem.W.emptyDict) (t' := s.toks) (fun b u q => Heap.get?_push_of_some _ q) (Nat.le_refl _) ⟨_, e1⟩
 refine I1.laid (a := s.heap.objs.size + 1) (o := .ins C s.heap.objs.size []) (t' := s.toks) (fun b u q => Heap.get?_push_of_some _ q) (Nat.le_of_eq (Heap.size_push _ _)) ?_
 have ne : s.heap.objs.size ≠ s.heap.objs.size + 1 := Nat.ne_of_lt (Nat.lt_succ_self _)
 refine ⟨by rw [ZEV ne, ZEN], Nat.zero_le _, ne, e2, fun _ => none, (Heap.Ns1.of_empty e3).at fun o q => Heap.get?_push_of_some _ q, fun _ => True.intro, fun y hy => absurd rfl hy⟩
theorem ZUP {prog : Program} {w : World} {env : Env} {e : Expr} {f : Str} {pos : Pos} {s : Shared} {Q : Value → Shared → Prop} (hb : attributeBase e f env (eval e env) = eval e env)
  (h : wpAny (model prog w) A (eval e env) (fun o s₁ => wpAny (model prog w) A (getAttr o f true) Q E s₁) E s) : wpAny (model prog w) A (eval (.Attribute e f pos) env) Q E s :=
 Attribute_any_ h (by rw [arm_eval_Attribute, hb])
end
def ZR1 (K : W.Frag) (ta : TE) (f : Str) : TE := fun σ H Q => ta σ H fun x H1 => ∃ a C dx fs v, x = .ref a ∧ H1 a = some (.ins C dx fs) ∧ Cls K C ∧ ZE4 K C f ∧ fs.lookup f = some v ∧ Q v H1
def ZR2 (K : W.Frag) (ta tv : TE) (f : Str) : TS := fun D σ H => tv σ H fun y H1 => ta σ H1 fun x H2 => ∃ a C dx fs, x = .ref a ∧ H2 a = some (.ins C dx fs) ∧ Cls K C ∧ ZE4 K C f ∧ fs.length < 1000 ∧
 D.nx σ (upd H2 a (.ins C dx (ZEj f y fs)))
def ZWN (X : Cx) (op : Operator) (rd : V → V → Hp → VK → Prop) : Prop :=
 ∀ (pins : List (Addr × Obj)) (s : Shared) (σ : St) (H : Hp) (x y : V) (u v : Value) (Q : VK), Inv X pins σ H s → ZER x u → ZER y v → rd x y H Q → wpAny (model X.prog X.w) X.A (inplaceOp op u v) (EP X pins σ Q) X.xe s
def ZLS (K : W.Frag) (ta tv : TE) (rd : V → V → Hp → VK → Prop) (f : Str) : TS := fun D σ H => ta σ H fun x H1 => ∃ a C dx fs v, x = .ref a ∧ H1 a = some (.ins C dx fs) ∧ Cls K C ∧ ZE4 K C f ∧ fs.lookup f = some v ∧
 tv σ H1 fun y H2 => rd v y H2 fun z H3 => ∃ dx' fs', H3 a = some (.ins C dx' fs') ∧ fs'.length < 1000 ∧ D.nx σ (upd H3 a (.ins C dx' (ZEj f z fs')))
section
variable {X : Cx} {o e value : Expr} {f : Str} {pos pos' tpos : Pos} {ta tv : TE}
theorem ZWO (he : PE X e ta) (hb : attributeBase e f X.env (eval e X.env) = eval e X.env) : PE X (.Attribute e f pos) (ZR1 X.K ta f) := by
 intro pins s σ H Q I h
 refine ZUP hb (thn (he pins s σ H _ I h) fun u s1 ⟨x, H1, I1, rx, a, C, dx, fs, v, ex, ea, c, n, l, q⟩ => ?_)
 subst ex
 obtain rfl : u = Value.ref a := rx
 exact ZKx I1 ea c n l fun u' s2 I2 ru => ⟨v, H1, I2, ru, q⟩
theorem ZWP (ha : PE X o ta) (hv : PE X value tv) (hs : swapsWith value (some (.Attribute o f pos')) pos.line X.env = pure false) : PS X (.Assign [.Attribute o f pos'] value pos) (ZR2 X.K ta tv f) := by
 intro pins s σ H D I h
 refine plainObj_wpAny_Assign_Attribute (thn (hv pins s σ H _ I h) fun u s1 ⟨y, H1, I1, ry, q⟩ => thn (ha pins s1 σ H1 _ I1 q) fun ov s2 ⟨x, H2, I2, rx, a, C, dx, fs, ex, ea, c, n, l, q2⟩ => ?_) hs
 subst ex
 obtain rfl : ov = Value.ref a := rx
 exact ZKz I2 ea c n l ry fun s3 I3 => ⟨σ, _, I3, q2⟩
theorem ZQD {op : Operator} {rd : V → V → Hp → VK → Prop} (ha : PE X o ta) (hv : PE X value tv) (hop : ZWN X op rd) : PS X (.AugAssign (.Attribute o f tpos) op value pos) (ZLS X.K ta tv rd f) := by
 intro pins s σ H D I h
 refine wpAny_AugAssign_AttributeAny (thn (ha pins s σ H _ I h) fun ov s1 ⟨x, H1, I1, rx, a, C, dx, fs, v, ex, ea, c, n, l, q⟩ => ?_)
 subst ex
 obtain rfl : ov = Value.ref a := rx
 refine ZKx I1 ea c n l fun u s2 I2 ru => thn (hv pins s2 σ H1 _ I2 q) fun w3 s3 ⟨y, H2, I3, ry, q3⟩ => thn (hop pins s3 σ H2 v y u w3 _ I3 ru ry q3) fun w4 s4 ⟨z, H3, I4, rz, dx', fs', ea', l', q4⟩ => ?_
 exact ZKz I4 ea' c n l' rz fun s5 I5 => ⟨σ, _, I5, q4⟩
def ZMj : V → V → Hp → VK → Prop := fun x y H Q => ∃ i j, x = .int i ∧ y = .int j ∧ Q (.int (i + j)) H
theorem ZWQ : ZWN X .Add ZMj := by
 rintro pins s σ H x y u v Q I rx ry ⟨i, j, rfl, rfl, q⟩
 obtain ⟨t, rfl⟩ := (show ∃ t, u = Value.int i t from rx)
 obtain ⟨t', rfl⟩ := (show ∃ t', v = Value.int j t' from ry)
 exact PyProof.Rows.iadd_int ⟨.int (i + j), H, I.tok _, ⟨_, rfl⟩, q⟩
end
section
variable {X : Cx} {pins : List (Addr × Obj)} {σ : St} {H : Hp} {s : Shared} {A : Around} {E : Value → Shared → Prop} {Q : Value → Shared → Prop} {c : Value} {b : Bool}
inductive ZGw (K : W.Frag) (H : Hp) : V → Value → Prop where
 | non : ZGw K H .non (.type "NoneType")
 | bl (x : Bool) : ZGw K H (.bl x) (.type "bool")
 | int (i : Int) : ZGw K H (.int i) (.type "int")
 | str (x : Str) : ZGw K H (.str x) (.type "str")
 | flt (x : UInt64) : ZGw K H (.flt x) (.type "float")
 | lst {a : Addr} {xs : List V} (e : H a = some (.lst xs)) : ZGw K H (.ref a) (.type "list")
 | frz {a : Addr} {o : Obj} {xs : List V} (e : H a = some (.frz o (.lst xs))) : ZGw K H (.ref a) (.type "list")
 | tup {a : Addr} {xs : List V} (e : H a = some (.tup xs)) : ZGw K H (.ref a) (.type "tuple")
 | dK {a : Addr} {kvs : List (Key × V)} (e : H a = some (.dK kvs)) : ZGw K H (.ref a) (.type "dict")
 | dT {a : Addr} {kvs : List (List Key × V)} (e : H a = some (.dT kvs)) : ZGw K H (.ref a) (.type "dict")
 | ins {a C dx : Addr} {fs : List (Str × V)} (e : H a = some (.ins C dx fs)) (cl : Cls K C) (ha : W.findIn K (.ref C) "__class__" = some (some (.builtin "object.__class__")))
  (hn : PySem.W.specialIn K (.builtin "object.__class__") "__get__" = some (some (.builtin "getset_descriptor.__get__"))) (htk : PySem.W.takesIn K (.builtin "object.__class__") = some true)
  (hm : PySem.W.mroIn K C (.type "object") = some true) : ZGw K H (.ref a) (.ref C)
theorem ZQE {x : V} {u t : Value} (I : Inv X pins σ H s) (rx : ZER x u) (ty : ZGw X.K H x t) (e : W.kitOne X.K t c = some b) (h : ∀ tk, Q (.bool b) { s with toks := tk }) :
  wpAny (model X.prog X.w) A (call (.builtin "isinstance") [u, c]) Q E s := by
 cases ty with
 | non => cases (show u = Value.none from rx); exact PySem.W.kia_one PySem.W.kitx_none I.kIn True.intro e (fun z => nomatch z) h
 | bl y => cases (show u = Value.bool y from rx); exact PySem.W.kia_one PySem.W.kitx_bool I.kIn True.intro e (fun z => nomatch z) h
 | int i => obtain ⟨t, q⟩ := (show ∃ t, u = Value.int i t from rx); cases q; exact PySem.W.kia_one PySem.W.kitx_int I.kIn True.intro e (fun z => nomatch z) h
 | str y => obtain ⟨t, q⟩ := (show ∃ t, u = Value.str y t from rx); cases q; exact PySem.W.kia_one PySem.W.kitx_str I.kIn True.intro e (fun z => nomatch z) h
 | flt y => obtain ⟨t, q⟩ := (show ∃ t, u = Value.float y t from rx); cases q; exact PySem.W.kia_one PySem.W.kitx_float I.kIn True.intro e (fun z => nomatch z) h
 | @lst a xs ea =>
  cases (show u = Value.ref a from rx)
  obtain ⟨_, _, n, _, h1⟩ := (show ZEv X.prog X.w H s.heap a (.lst xs) from I.hok a _ ea)
  exact PySem.W.kia_one PySem.W.kitx_list I.kIn ⟨_, h1, rfl⟩ e (fun z => nomatch z) h
 | @frz a ob xs ea =>
  cases (show u = Value.ref a from rx)
  obtain ⟨_, _, _, n, _, h1⟩ := (show ZEv X.prog X.w H s.heap a (.frz ob (.lst xs)) from I.hok a _ ea)
  exact PySem.W.kia_one PySem.W.kitx_list I.kIn ⟨_, h1, rfl⟩ e (fun z => nomatch z) h
 | @tup a xs ea =>
  cases (show u = Value.ref a from rx)
  obtain ⟨_, _, _, p⟩ := (show ZEv X.prog X.w H s.heap a (.tup xs) from I.hok a _ ea)
  obtain ⟨o, h1, h2, _⟩ := p
  exact PySem.W.kia_one PySem.W.kitx_tuple I.kIn ⟨o, h1, h2⟩ e (fun z => nomatch z) h
 | @dK a kvs ea =>
  cases (show u = Value.ref a from rx)
  obtain ⟨_, _, vs, _, p⟩ := (show ZEv X.prog X.w H s.heap a (.dK kvs) from I.hok a _ ea)
  obtain ⟨o, es, ep, h1, h2, _⟩ := p
  exact PySem.W.kia_one PySem.W.kitx_dict I.kIn ⟨o, h1, h2.1⟩ e (fun z => nomatch z) h
 | @dT a kvs ea =>
  cases (show u = Value.ref a from rx)
  obtain ⟨_, _, xs, _, o, es, ep, h1, h2, _⟩ := (show ZEv X.prog X.w H s.heap a (.dT kvs) from I.hok a _ ea)
  exact PySem.W.kia_one PySem.W.kitx_dict I.kIn ⟨o, h1, h2.1⟩ e (fun z => nomatch z) h
 | @ins a C dx fs ea cl ha hn htk hm =>
  cases (show u = Value.ref a from rx)
  obtain ⟨mA, O, _⟩ := ZJx I.hok ea
  obtain ⟨od, J, _⟩ := O.look
  exact PySem.W.kia_one (PySem.W.kitx_own (cl.get _) cl.hd ha hn htk hm) I.kIn J e (fun z => nomatch z) h
end
structure Room (k : Nat) (A : Around) : Prop where
 hd : A.handled = none
 dp : A.depth + 3 * k + 5 < recursionLimit
 un : A.units + 16 * k + 200 < cLine
 gd : A.guards = some []
theorem Room.mono {j k : Nat} {A : Around} (r : Room k A) (h : j ≤ k) : Room j A := ⟨r.hd, by have := r.dp; omega, by have := r.un; omega, r.gd⟩
theorem Room.deeper {k : Nat} {A : Around} (r : Room (k + 1) A) (env : Env) : Room k (A.deeper env) :=
 ⟨r.hd, by have := r.dp; show A.depth + 1 + 3 * k + 5 < _; omega, by have := r.un; show A.units + 3 + 16 * k + 200 < _; omega, r.gd⟩
theorem Room.in1 {k : Nat} {A : Around} (r : Room (k + 1) A) : Room k A.in1 :=
 ⟨r.hd, by have := r.dp; show A.depth + 3 * k + 5 < _; omega, by have := r.un; show A.units + 1 + 16 * k + 200 < _; omega, r.gd⟩
theorem ZO4 {A : Around} {C : Addr} {us : List Value} {kw : List (Str × Value)} : (A.under (.builtin "type.__call__" ⟨.ref C :: us, kw⟩)).depth = A.depth + 1 := by
 first | rfl | simp [Around.under, Code.weight, Code.isCreation, Code.isGuard, Code.isCaller, Code.frames, Code.isFrame, guardIds]
theorem ZO5 {A : Around} {C : Addr} {us : List Value} {kw : List (Str × Value)} : (A.under (.builtin "type.__call__" ⟨.ref C :: us, kw⟩)).units = A.units + 1 := by
 first | rfl | simp [Around.under, Code.cUnits, Code.frames, Code.isFrame]
theorem ZN3 {A : Around} {C : Addr} {us : List Value} {kw : List (Str × Value)} : (A.under (.builtin "type.__call__" ⟨.ref C :: us, kw⟩)).guards = A.guards := by
 have e : pushGuards [] A.guards = A.guards := by cases A.guards <;> rfl
 first | exact e | rfl | simp [Around.under, Code.guards, Code.isGuard, guardIds, pushGuards]
theorem Room.make {k : Nat} {A : Around} (r : Room (k + 1) A) (C : Addr) (us : List Value) (kw : List (Str × Value)) : Room k (A.under (.builtin "type.__call__" ⟨.ref C :: us, kw⟩)) :=
 ⟨r.hd, by have := r.dp; rw [ZO4]; omega, by have := r.un; rw [ZO5]; omega, (ZN3).trans r.gd⟩
theorem Room.depth {k : Nat} {A : Around} (r : Room k A) : A.depth < recursionLimit := by have := r.dp; omega
theorem Room.units {k : Nat} {A : Around} (r : Room k A) : A.units + 64 < cLine := by have := r.un; omega
def ZMk : TA := fun _ H Q => Q [] H
def ZMa (ta : TE) (tr : TA) : TA := fun σ H Q => ta σ H fun x H1 => tr σ H1 fun xs H2 => Q (x :: xs) H2
section
variable {X : Cx} {e : Expr} {es : List Expr} {te : TE} {t : TA} {pos : Pos}
theorem ZWR : PA X [] ZMk := fun _ _ _ _ H Q I h => Calls.spliced_nil ⟨[], H, I, .nil, h⟩
theorem ZUQ (ha : PE X e te) (hr : PA X es t) (hs : starEach (e :: es) X.env = (false, eval e X.env) :: starEach es X.env := by rfl) : PA X (e :: es) (ZMa te t) := by
 intro pos pins s σ H Q I h
 rw [hs]
 show wpAny _ _ (spliced ((false, eval e X.env) :: backTo pos (starEach es X.env))) _ _ s
 refine Calls.spliced_cons (thn (ha pins s σ H _ I h) fun u s1 ⟨x, H1, I1, r1, q1⟩ => ?_)
 exact thn (hr pos pins s1 σ H1 _ I1 q1) fun us s2 ⟨xs, H2, I2, r2, q2⟩ => ⟨x :: xs, H2, I2, .cons r1 r2, q2⟩
def ZR3 (t : TA) : TE := fun σ H Q => t σ H fun xs H1 => xs.length ≤ sizeLine ∧ ∀ p, H1 p = none → Q (.ref p) (upd H1 p (.tup xs))
def ZR4 (t : TA) : TE := fun σ H Q => t σ H fun xs H1 => xs.length ≤ sizeLine ∧ ∀ p, H1 p = none → Q (.ref p) (upd H1 p (.lst xs))
theorem ZWS {x1} (h : PA X es t) : PE X (.Tuple es x1 pos) (ZR3 t) := by
 intro pins s σ H Q I hq
 refine wpAny_Tuple_spliced (thn (h pos pins s σ H _ I hq) fun us s1 ⟨xs, H1, I1, r, z, q⟩ => ⟨by rw [← r.length]; exact z, ?_⟩)
 have hf : H1 s1.heap.objs.size = none := I1.hok.fresh (Nat.le_refl _)
 refine ⟨.ref s1.heap.objs.size, upd H1 s1.heap.objs.size (.tup xs), I1.laid (t' := s1.toks) (fun b u e => Heap.get?_push_of_some _ e) (Nat.le_refl _) ?_, rfl, q _ hf⟩
 exact ⟨⟨z, fun _ => ⟨_, Heap.get?_push_size _ rfl, rfl, rfl⟩⟩, us, r, ⟨_, Heap.get?_push_size _ rfl, rfl, _, rfl⟩⟩
theorem ZWT (h : PA X es t) : PE X (.List es pos) (ZR4 t) := by
 intro pins s σ H Q I hq
 refine wpAny_List_spliced (thn (h pos pins s σ H _ I hq) fun us s1 ⟨xs, H1, I1, r, z, q⟩ => ⟨by rw [← r.length]; exact z, ?_⟩)
 have hf : H1 s1.heap.objs.size = none := I1.hok.fresh (Nat.le_refl _)
 refine ⟨.ref s1.heap.objs.size, upd H1 s1.heap.objs.size (.lst xs), I1.laid (t' := s1.toks) (fun b u e => Heap.get?_push_of_some _ e) (Nat.le_refl _) ?_, rfl, q _ hf⟩
 exact ⟨z, us, 0, r, Heap.get?_push_size _ rfl⟩
end
abbrev Sp := List V → Hp → VK → XK → Prop
abbrev CXT := List Env → Hp → Shared → XK → Value → Shared → Prop
structure ZIK (P : Program) (w : World) (K : W.Frag) (mg : Str → Option Value) (base : Heap) (A : Around) (outer : List Env) (s : Shared) (H : Hp) : Prop where
 frames : A.frames = some outer
 mod : Mod K mg base
 bs : ∀ b o, base.get? b = some o → s.heap.get? b = some o ∧ H b = none
 bsz : base.objs.size ≤ s.heap.objs.size
 funs : s.heap.FunFrames base outer
 frf : ∀ b ∈ frs outer, H b = none
 hok : HOk P w H s.heap
 bare : AllBare s.gens
def CE (outer : List Env) (P : Program) (w : World) (H : Hp) (s : Shared) (Q : VK) (u : Value) (s' : Shared) : Prop :=
 ∃ v H', s'.os = s.os ∧ AllBare s'.gens ∧ Un (frs outer) [] H H' s.heap s'.heap ∧ HOk P w H' s'.heap ∧ ZER v u ∧ Q v H'
def CR (CX : CXT) (outer : List Env) (P : Program) (w : World) (H : Hp) (s : Shared) (Q : VK) (E : XK) (r : Result) (s' : Shared) : Prop :=
 match r with
 | .ok (.ret u) => CE outer P w H s Q u s'
 | .ok _ => False
 | .error e => CX outer H s E e s'
structure ZEM (P : Program) (w : World) (K : W.Frag) (mg : Str → Option Value) (base : Heap) (CX : CXT) (k : Nat) (f : Addr) (fd : FuncData) (ps : List Str) (sp : Sp) : Prop where
 len : ∀ vs H Q E, sp vs H Q E → vs.length = ps.length
 run : ∀ (A : Around) (outer : List Env) (s : Shared) (H : Hp) (args : Args) (us : List Value) (vs : List V) (Q : VK) (E : XK), Room k A → ZIK P w K mg base A outer s H → BindsTo s fd args (ps.zip us) → ZEU vs us → sp vs H Q E →
  codeAny (model P w) A (.call (.ref f) args) (CR CX outer P w H s Q E) s
theorem ZIK.make {P : Program} {w : World} {K : W.Frag} {mg : Str → Option Value} {base : Heap} {A : Around} {outer : List Env} {s : Shared} {H : Hp} (e : ZIK P w K mg base A outer s H) (C : Addr) (us : List Value) (kw : List (Str × Value)) :
 ZIK P w K mg base (A.under (.builtin "type.__call__" ⟨.ref C :: us, kw⟩)) outer s H := ⟨by first | exact e.frames | (simpa [Around.under, Code.envs, Code.isFrame, pushEnvs] using e.frames), e.mod, e.bs, e.bsz, e.funs, e.frf, e.hok, e.bare⟩
theorem ZIK.in1 {P : Program} {w : World} {K : W.Frag} {mg : Str → Option Value} {base : Heap} {A : Around} {outer : List Env} {s : Shared} {H : Hp} (e : ZIK P w K mg base A outer s H) :
 ZIK P w K mg base A.in1 outer s H := ⟨e.frames, e.mod, e.bs, e.bsz, e.funs, e.frf, e.hok, e.bare⟩
section
variable {X : Cx} {pins : List (Addr × Obj)} {σ : St} {H : Hp} {s s' : Shared}
theorem Inv.env0 (I : Inv X pins σ H s) : ZIK X.prog X.w X.K X.mg X.base X.A X.stack s H :=
 ⟨I.ok.frames, I.ok.mod, I.bs, Nat.le_trans I.ok.bsz I.sz, I.stack, I.stkFree, I.hok, I.bare⟩
theorem Inv.after {Q : VK} {u : Value} (I : Inv X pins σ H s) (h : CE X.stack X.prog X.w H s Q u s') : EP X pins σ Q u s' := by
 obtain ⟨v, H', os, bare, un, hok, r, q⟩ := h
 obtain ⟨hh, g, d, t, os'⟩ := s'
 obtain rfl : os' = s.os := os
 exact ⟨v, H', I.call (h' := hh) (g' := g) (d' := d) (t' := t) (ch := []) un hok bare (fun b z => absurd z (by simp)), r, q⟩
end
def ZK0 (sp : Sp) (dvs : List V) (E : XK) (t : TA) : TE := fun σ H Q => t σ H fun vs H1 => sp (vs ++ dvs) H1 Q E
def ZK1 (C : Addr) (m : Str) (sp : Sp) (dvs : List V) (E : XK) (ta : TE) (t : TA) : TE := fun σ H Q => ta σ H fun x H1 => ∃ a dx fs, x = .ref a ∧ H1 a = some (.ins C dx fs) ∧ fs.lookup m = none ∧
 t σ H1 fun vs H2 => sp (x :: (vs ++ dvs)) H2 Q E
def ZO6 (C : Addr) (sp : Sp) (dvs : List V) (E : XK) (t : TA) : TE := fun σ H Q => t σ H fun vs H1 => ∀ x dx, H1 x = none → H1 dx = none → dx ≠ x →
 sp (.ref x :: (vs ++ dvs)) (upd (upd H1 dx (.own x)) x (.ins C dx [])) (fun v H2 => v = .non ∧ Q (.ref x) H2) E
def ZEH (K : W.Frag) (fd : FuncData) (ps : List Str) (ds : List Value) : Prop :=
 ∀ (s : Shared) (us : List Value), K.In s.heap → (us ++ ds).length = ps.length → BindsTo s fd ⟨us, []⟩ (ps.zip (us ++ ds))
theorem ZEH.all {K : W.Frag} {fd : FuncData} {ps : List Str} (h : ∀ us : List Value, us.length = ps.length → bindArgs fd ⟨us, []⟩ = pure (ps.zip us)) : ZEH K fd ps [] := fun s us _ hl => by
 rw [List.append_nil] at hl ⊢
 exact .of_eq (h us hl)
def ZFx (CX : CXT) (X : Cx) (E : XK) : Prop := ∀ (pins : List (Addr × Obj)) (σ : St) (H : Hp) (s : Shared) (e : Value) (s' : Shared), Inv X pins σ H s → CX X.stack H s E e s' → X.xe e s'
section
variable {X : Cx} {CX : CXT} {k : Nat} {f C : Addr} {fd : FuncData} {ps : List Str} {sp : Sp} {dvs : List V} {ds : List Value} {E : XK} {x m : Str} {p pos apos : Pos} {e o : Expr} {es : List Expr} {ta : TE} {t : TA}
theorem ZMl {pins : List (Addr × Obj)} {σ : St} {H : Hp} {s : Shared} {Q : VK} {us : List Value} {vs : List V} (F : ZEM X.prog X.w X.K X.mg X.base CX k f fd ps sp) (hr : Room k X.A) (hb : ZEH X.K fd ps ds) (hd : ZEU dvs ds) (hx : ZFx CX X E)
  (I : Inv X pins σ H s) (r : ZEU vs us) (h : sp (vs ++ dvs) H Q E) : wpAny (model X.prog X.w) X.A (call (.ref f) us) (EP X pins σ Q) X.xe s := by
 have r2 : ZEU (vs ++ dvs) (us ++ ds) := r.append hd
 have hl : (us ++ ds).length = ps.length := by rw [← r2.length]; exact F.len _ _ _ _ h
 refine wpAny_call (codeAny_mono (F.run X.A X.stack s H ⟨us, []⟩ (us ++ ds) (vs ++ dvs) Q E hr I.env0 (hb s us I.kIn hl) r2 h) fun r s' hq => ?_)
 cases r with
 | error e => exact hx pins σ H s e s' I hq
 | ok fl =>
  cases fl with
  | ret u => exact I.after hq
  | next => exact False.elim hq
  | brk => exact False.elim hq
  | cont => exact False.elim hq
theorem ZUR (F : ZEM X.prog X.w X.K X.mg X.base CX k f fd ps sp) (hr : Room k X.A) (hg : Gl X x) (hm : X.mg x = some (.ref f)) (hk : W.keepIn X.K (.ref f) = true) (hb : ZEH X.K fd ps ds) (hd : ZEU dvs ds) (hx : ZFx CX X E)
  (ha : PA X (e :: es) t) (hdb : (x == ("__debug__" : Str)) = false := by decide) (he : starEach (e :: es) X.env = (false, eval e X.env) :: starEach es X.env := by rfl) (hpl : (backTo pos (starEach es X.env)).any (·.1) = false := by rfl) :
  PE X (.Call (.Name x p) (e :: es) [] pos) (ZK0 sp dvs E t) := by
 intro pins s σ H Q I h
 refine wpAny_Call_Name_kw (ZGp I hg hm ?_ hdb)
 refine PySem.W.callWith_K (h₀ := X.base) I.ok.mod.kin hk (thn (ha pos pins s σ H _ I h) fun us s1 ⟨vs, H1, I1, r, q⟩ => ⟨I1.kIn, ?_⟩) he hpl
 exact ZMl F hr hb hd hx I1 r q
theorem ZUS {pl : Sem Bool} (he : PE X o ta) (c : Cls X.K C) (hm : ZFQ X.K C m f) (F : ZEM X.prog X.w X.K X.mg X.base CX k f fd ps sp) (hr : Room k X.A) (hb : ZEH X.K fd ps ds) (hd : ZEU dvs ds) (hx : ZFx CX X E) (ha : PA X (e :: es) t)
  (hst : starEach (e :: es) X.env = (false, eval e X.env) :: starEach es X.env := by rfl) (hpl : (backTo pos (starEach es X.env)).any (·.1) = false := by rfl)
  (ht : eval (.Call (.Attribute o m apos) (e :: es) [] pos) X.env = (do
   let ov ← eval o X.env
   standAt apos.atName
   let (f, first) ← holding [ov] (getMethod ov m pl)
   callWith pos f first (backTo pos (starEach (e :: es) X.env)) (backToKw pos (keywordEach [] X.env))) := by rfl) :
  PE X (.Call (.Attribute o m apos) (e :: es) [] pos) (ZK1 C m sp dvs E ta t) := by
 intro pins s σ H Q I h
 refine PySem.W.methodCall_KW (pl := pl) (thn (he pins s σ H _ I h) fun u s1 ⟨x, H1, I1, rx, a, dx, fs, ex, ea, l, q⟩ => ?_) ht
 subst ex
 obtain rfl : u = Value.ref a := rx
 refine ZKy I1 ea c hm l ?_
 refine PySem.W.callWith_K (first := [.ref a]) (h₀ := X.base) I.ok.mod.kin hm.kp (thn (ha pos pins s1 σ H1 _ I1 q) fun us s2 ⟨vs, H2, I2, r, q2⟩ => ⟨I2.kIn, ?_⟩) hst hpl
 exact ZMl (us := .ref a :: us) (vs := .ref a :: vs) F hr hb hd hx I2 (.cons rfl r) q2
theorem ZR5 {pl : Sem Bool} (he : PE X o ta) (c : Cls X.K C) (hm : ZFQ X.K C m f) (F : ZEM X.prog X.w X.K X.mg X.base CX k f fd ps sp) (hr : Room k X.A) (hb : ZEH X.K fd ps ds) (hd : ZEU dvs ds) (hx : ZFx CX X E)
  (ht : eval (.Call (.Attribute o m apos) [] [] pos) X.env = (do
   let ov ← eval o X.env
   standAt apos.atName
   let (f, first) ← holding [ov] (getMethod ov m pl)
   callWith pos f first (backTo pos (starEach [] X.env)) (backToKw pos (keywordEach [] X.env))) := by rfl) :
  PE X (.Call (.Attribute o m apos) [] [] pos) (ZK1 C m sp dvs E ta ZMk) := by
 intro pins s σ H Q I h
 refine PySem.W.methodCall_KW (pl := pl) (thn (he pins s σ H _ I h) fun u s1 ⟨x, H1, I1, rx, a, dx, fs, ex, ea, l, q⟩ => ?_) ht
 subst ex
 obtain rfl : u = Value.ref a := rx
 refine ZKy I1 ea c hm l ?_
 exact PySem.W.callWith_K0 (first := [.ref a]) I1.kIn hm.kp (ZMl (us := [.ref a]) (vs := [.ref a]) F hr hb hd hx I1 (.cons rfl .nil) q)
structure Mk (K : W.Frag) (C f : Addr) : Prop where
 makes : PySem.W.makesIn K C = true
 init : W.findIn K (.ref C) "__init__" = some (some (.ref f))
 fn : PySem.W.isFn K (.ref f) = true
 kp : W.keepIn K (.ref C) = true
theorem ZR6 {pins : List (Addr × Obj)} {σ : St} {H : Hp} {s : Shared} {Q : VK} {us : List Value} {vs : List V} (M : Mk X.K C f) (F : ZEM X.prog X.w X.K X.mg X.base CX k f fd ps sp) (hr : Room (k + 1) X.A) (hb : ZEH X.K fd ps ds) (hd : ZEU dvs ds)
  (hx : ZFx CX X E) (I : Inv X pins σ H s) (r : ZEU vs us)
  (h : ∀ x dx, H x = none → H dx = none → dx ≠ x → sp (.ref x :: (vs ++ dvs)) (upd (upd H dx (.own x)) x (.ins C dx [])) (fun v H2 => v = .non ∧ Q (.ref x) H2) E) :
  wpAny (model X.prog X.w) X.A (call (.ref C) us) (EP X pins σ Q) X.xe s := by
 have hq := h (s.heap.objs.size + 1) s.heap.objs.size (I.hok.fresh (Nat.le_succ _)) (I.hok.fresh (Nat.le_refl _)) (Nat.ne_of_lt (Nat.lt_succ_self _))
 have I2 := Inv.made (C := C) I
 have r2 : ZEU (V.ref (s.heap.objs.size + 1) :: (vs ++ dvs)) (Value.ref (s.heap.objs.size + 1) :: (us ++ ds)) := .cons rfl (r.append hd)
 have hl : (Value.ref (s.heap.objs.size + 1) :: us ++ ds).length = ps.length := by
  have e := r2.length
  rw [F.len _ _ _ _ hq] at e
  exact e.symm
 refine wpAny_call (ZR0 (f := f) I.kIn M.makes M.init (beq_iff_eq.mp M.fn) (codeAny_mono (F.run _ X.stack _ _ ⟨Value.ref (s.heap.objs.size + 1) :: us, []⟩ (Value.ref (s.heap.objs.size + 1) :: (us ++ ds)) _ _ E (hr.make C us [])
  (I2.env0.make C us []) (hb _ (Value.ref (s.heap.objs.size + 1) :: us) I2.kIn hl) r2 hq) fun r s' hq' => ?_))
 cases r with
 | error e => exact hx pins σ _ _ e s' I2 hq'
 | ok fl =>
  cases fl with
  | ret u =>
   obtain ⟨v, H', I3, rv, ev, q3⟩ := I2.after hq'
   subst ev
   exact ⟨rv, ⟨V.ref (s.heap.objs.size + 1), H', I3, rfl, q3⟩⟩
  | next => exact False.elim hq'
  | brk => exact False.elim hq'
  | cont => exact False.elim hq'
theorem ZUT (M : Mk X.K C f) (F : ZEM X.prog X.w X.K X.mg X.base CX k f fd ps sp) (hr : Room (k + 1) X.A) (hg : Gl X x) (hm : X.mg x = some (.ref C)) (hb : ZEH X.K fd ps ds) (hd : ZEU dvs ds) (hx : ZFx CX X E)
  (ha : PA X (e :: es) t) (hdb : (x == ("__debug__" : Str)) = false := by decide) (he : starEach (e :: es) X.env = (false, eval e X.env) :: starEach es X.env := by rfl) (hpl : (backTo pos (starEach es X.env)).any (·.1) = false := by rfl) :
  PE X (.Call (.Name x p) (e :: es) [] pos) (ZO6 C sp dvs E t) := by
 intro pins s σ H Q I h
 refine wpAny_Call_Name_kw (ZGp I hg hm ?_ hdb)
 refine PySem.W.callWith_K (h₀ := X.base) I.ok.mod.kin M.kp (thn (ha pos pins s σ H _ I h) fun us s1 ⟨vs, H1, I1, r, q⟩ => ⟨I1.kIn, ?_⟩) he hpl
 exact ZR6 M F hr hb hd hx I1 r q
end
structure ZEJ (N P : List Str) (sc : Scope) : Prop where
 kind : sc.kind = .function
 co : sc.isCoroutine = false
 gen : sc.isGenerator = false
 nd : N.Nodup
 pre : N.take P.length = P
 par : ∀ x ∈ P, sc.names.lookup x = some .local ∨ sc.names.lookup x = some .cell
 nofree : ∀ y ∈ sc.names, y.2 ≠ .free
theorem ZLo {kindOf : Str → Option NameKind} {x : Str} : ∀ {binds : List (Str × Value)} {m : Str → Option Value}, (∀ v, (x, v) ∉ binds) → bindL kindOf binds m x = m x
 | [], _, _ => rfl
 | (n, v) :: r, m, h => by
  unfold bindL
  rw [ZLo fun w hw => h w (List.mem_cons_of_mem _ hw)]
  split
  ·have : x ≠ n := by rintro rfl; exact h v List.mem_cons_self
   simp [this]
  ·rfl
theorem ZLp {kindOf : Str → Option NameKind} {x : Str} : ∀ {binds : List (Str × Value)} {m : Str → Option Value}, (∀ v, (x, v) ∉ binds) → bindC kindOf binds m x = m x
 | [], _, _ => rfl
 | (n, v) :: r, m, h => by
  unfold bindC
  rw [ZLp fun w hw => h w (List.mem_cons_of_mem _ hw)]
  split
  ·rfl
  ·have : x ≠ n := by rintro rfl; exact h v List.mem_cons_self
   simp [this]
theorem ZLq {kindOf : Str → Option NameKind} {x : Str} {v : Value} : ∀ {P : List Str} {vs : List Value} {i : Nat} {m : Str → Option Value}, P.Nodup → P[i]? = some x → vs[i]? = some v → kindOf x = some .local →
  bindL kindOf (P.zip vs) m x = some v
 | [], _, _, _, _, h, _, _ => by simp at h
 | _ :: _, [], _, _, _, _, h, _ => by simp at h
 | p :: P, w :: vs, 0, m, nd, h1, h2, hk => by
  simp at h1 h2; subst h1; subst h2
  show bindL kindOf ((p, w) :: P.zip vs) m p = _
  unfold bindL
  rw [ZLo fun v hv => (List.nodup_cons.mp nd).1 (List.of_mem_zip hv).1, if_pos hk]
  simp
 | p :: P, w :: vs, i + 1, m, nd, h1, h2, hk => by
  show bindL kindOf ((p, w) :: P.zip vs) m x = _
  unfold bindL
  exact ZLq (i := i) (List.nodup_cons.mp nd).2 (by simpa using h1) (by simpa using h2) hk
theorem ZLr {kindOf : Str → Option NameKind} {x : Str} {v : Value} : ∀ {P : List Str} {vs : List Value} {i : Nat} {m : Str → Option Value}, P.Nodup → P[i]? = some x → vs[i]? = some v → kindOf x ≠ some .local →
  bindC kindOf (P.zip vs) m x = some v
 | [], _, _, _, _, h, _, _ => by simp at h
 | _ :: _, [], _, _, _, _, h, _ => by simp at h
 | p :: P, w :: vs, 0, m, nd, h1, h2, hk => by
  simp at h1 h2; subst h1; subst h2
  show bindC kindOf ((p, w) :: P.zip vs) m p = _
  unfold bindC
  rw [ZLp fun v hv => (List.nodup_cons.mp nd).1 (List.of_mem_zip hv).1, if_neg hk]
  simp
 | p :: P, w :: vs, i + 1, m, nd, h1, h2, hk => by
  show bindC kindOf ((p, w) :: P.zip vs) m x = _
  unfold bindC
  exact ZLr (i := i) (List.nodup_cons.mp nd).2 (by simpa using h1) (by simpa using h2) hk
def start (N : List Str) (vs : List V) : St := vs.map some ++ List.replicate (N.length - vs.length) none
def ZJV (CX : CXT) (P : Program) (w : World) (K : W.Frag) (mg : Str → Option Value) (base : Heap) (N : List Str) (qual : Str) (scope : Scope) (f : Addr) (cd : Value) (A : Around) (outer : List Env) (s : Shared) (H : Hp) (E : XK) : Cx where
 prog := P
 w := w
 K := K
 mg := mg
 base := base
 A := A.deeper (envOfC qual scope s.heap.objs.size f cd)
 N := N
 s₀ := s
 H₀ := H
 env := envOfC qual scope s.heap.objs.size f cd
 outer := outer
 stack := envOfC qual scope s.heap.objs.size f cd :: outer
 ex := []
 calm := true
 fn := fun _ => true
 pn := []
 xe := fun e s' => wpAny (model P w) (A.deeper (envOfC qual scope s.heap.objs.size f cd)) (leaving (envOfC qual scope s.heap.objs.size f cd) e) (fun _ s'' => CX outer H s E e s'') (fun e' s'' => CX outer H s E e' s'') s'
theorem ZMm {sc : Scope} {n : Nat} {x : Str} (h : sc.names.lookup x = some .cell) : ∃ c, (cellsFrom n sc.names []).lookup x = some c := by
 have q := PySem.W.cellsFrom_some sc.names n [] (.inl h)
 exact Option.isSome_iff_exists.mp q
theorem ZQF {CX : CXT} {P : Program} {w : World} {K : W.Frag} {mg : Str → Option Value} {base : Heap} {N ps : List Str} {qual : Str} {scope : Scope} {f : Addr} {cd : Value} {A : Around} {outer : List Env} {s s1 : Shared} {H : Hp} {E : XK} {us : List Value} {vs : List V}
  (S : ZEJ N ps scope) (hd : A.handled = none) (e0 : ZIK P w K mg base A outer s H) (hl : vs.length = ps.length) (r : ZEU vs us)
  (x : InCallC s s.heap.objs.size (bindL (envOfC qual scope s.heap.objs.size f cd).kindOf (ps.zip us) fun _ => none) (cellsFrom (s.heap.objs.size + 1) scope.names []) (bindC (envOfC qual scope s.heap.objs.size f cd).kindOf (ps.zip us) fun _ => none) s1) :
  Inv (ZJV CX P w K mg base N qual scope f cd A outer s H E) [] (start N vs) H s1 := by
 have hpl : ps.length ≤ N.length := by have := congrArg List.length S.pre; rw [List.length_take] at this; omega
 obtain ⟨h1, tk, rfl, hk⟩ := x.done
 have noA : ∀ b : Addr, b ∉ (ZJV CX P w K mg base N qual scope f cd A outer s H E).ex := fun b z => absurd (show b ∈ ([] : List Addr) from z) (by simp)
 refine ⟨⟨e0.mod, S.kind, rfl, rfl, Nat.le_refl _, fun y z c h1 h2 => ?_, fun y hy => ?_, fun y c _ h => ?_, fun _ => hd, Around.frames_deeper e0.frames, .inr ⟨rfl, rfl⟩, fun b z => absurd z (noA b), e0.bs, e0.bsz, fun b _ _ => noA b, fun b z => absurd z (noA b), e0.funs, e0.frf⟩,
  rfl, e0.bare, Un.kept hk, ⟨_, x.toInCall.ns, fun i y v h1 h2 h3 => ?_⟩, fun y c h => ⟨_, x.cell y c h⟩, e0.hok.fresh (Nat.le_refl _), fun y c h => ?_, fun p hp => absurd (show p ∈ ([] : List (Addr × Obj)) from hp) (by simp), e0.hok.kept hk, ?_⟩
 ·exact name_of_addr x.apart (PySem.mem_of_lookup h1) (PySem.mem_of_lookup h2)
 ·have hy : scope.names.lookup y = some .cell ∨ scope.names.lookup y = some .free := hy
  rcases hy with hy | hy
  ·exact ZMm hy
  ·exact absurd rfl (S.nofree _ (PySem.mem_of_lookup hy))
 ·exact Nat.le_of_lt (x.above y c (PySem.mem_of_lookup h))
 ·have hi : i < vs.length := by
   unfold start at h2
   by_cases hi : i < vs.length
   ·exact hi
   ·rw [List.getElem?_append_right (by simpa using hi)] at h2
    rw [List.getElem?_replicate] at h2
    split at h2 <;> cases h2
  have ha : vs[i]? = some v := by
   unfold start at h2
   rw [List.getElem?_append_left (by simpa using hi), List.getElem?_map] at h2
   cases e : vs[i]? with
   | none => rw [e] at h2; cases h2
   | some a => rw [e] at h2; cases h2; rfl
  obtain ⟨u, hu, rv⟩ := r.get ha
  have hp : ps[i]? = some y := by
   rw [← S.pre, List.getElem?_take_of_lt (by omega)]; exact h1
  have ndP : ps.Nodup := by rw [← S.pre]; exact S.nd.sublist (List.take_sublist _ _)
  refine ⟨u, rv, ?_⟩
  rcases S.par y (List.mem_of_getElem? hp) with k | k
  ·exact .inl ⟨k, ZLq ndP hp hu k⟩
  ·obtain ⟨c, e⟩ := ZMm (n := s.heap.objs.size + 1) k
   refine .inr ⟨.inl k, c, e, ?_⟩
   have q := x.cell y c e
   rw [ZLr ndP hp hu (by show scope.names.lookup y ≠ _; rw [k]; decide)] at q
   exact q
 ·exact e0.hok.fresh (Nat.le_of_lt (x.above y c (PySem.mem_of_lookup h)))
 ·unfold start
  show _ = N.length
  rw [List.length_append, List.length_map, List.length_replicate]
  omega
theorem ZO7 {CX : CXT} {P : Program} {w : World} {K : W.Frag} {mg : Str → Option Value} {base : Heap} {k : Nat} {f : Addr} {name qual : Str} {params : Arguments} {body : List Stmt} {scope : Scope} {dV kV doc pm cdv ct oc : Value} {an od : Option Addr}
  {osl : Array (Option Value)} {N ps : List Str} {sp : Sp} (lk : K.lookup f = some ⟨oc, od, .func (W.fnOf name qual params body scope dV kV doc pm an cdv ct), osl⟩) (hcd : W.codeIn K cdv qual = true) (S : ZEJ N ps scope)
  (len : ∀ vs H Q E, sp vs H Q E → vs.length = ps.length)
  (hbody : ∀ (A : Around) (outer : List Env) (s : Shared) (H : Hp) (vs : List V) (Q : VK) (E : XK), Room k (A.deeper (envOfC qual scope s.heap.objs.size f cdv)) → sp vs H Q E →
   ∃ t, PSs (ZJV CX P w K mg base N qual scope f cdv A outer s H E) body t ∧ t { nx := fun _ H' => Q .non H', rt := Q } (start N vs) H) :
  ZEM P w K mg base CX (k + 1) f (W.fnOf name qual params body scope dV kV doc pm an cdv ct) ps sp := by
 refine ⟨len, fun A outer s H args us vs Q E hr e0 hb r hsp => ?_⟩
 have hl := len _ _ _ _ hsp
 have KX : K.In s.heap := e0.mod.kin.keeps fun b o e => (e0.bs b o e).1
 have lim : s.heap.NoLimit := e0.mod.nolimit.keeps fun b o e => (e0.bs b o e).1
 have hkind : ∀ y ∈ ps.zip us, scope.names.lookup y.1 = some .local ∨ (scope.names.lookup y.1 = some .cell ∧ ((cellsFrom (s.heap.objs.size + 1) scope.names []).lookup y.1).isSome = true) := fun ⟨n, v⟩ hy => by
  rcases S.par n (List.of_mem_zip hy).1 with q | q
  ·exact .inl q
  ·exact .inr ⟨q, PySem.W.cellsFrom_some _ _ _ (.inl q)⟩
 refine codeAny_call_function hr.depth (KX _ _ lk) rfl S.co S.gen rfl (PySem.W.codeRec_of KX hcd) (hb _ _ _ _ ?_)
 refine wpAny_newFunctionEnv_cells S.kind hkind fun env he s1 x => ?_
 subst he
 refine ⟨lim.keeps x.toInCall.keep, codeAny_func ?_⟩
 obtain ⟨t, ht, hq⟩ := hbody A outer s H vs Q E (hr.deeper _) hsp
 have I : Inv (ZJV CX P w K mg base N qual scope f cdv A outer s H E) [] (start N vs) H s1 := ZQF S hr.hd e0 hl r x
 refine wpAny_mono (ht [] s1 (start N vs) H _ I hq) (fun fl s' hs => ?_) fun e s' hs => hs
 have fin : ∀ {σ' : St} {H' : Hp} {v : V} {u : Value}, Inv (ZJV CX P w K mg base N qual scope f cdv A outer s H E) [] σ' H' s' → ZER v u → Q v H' → CE outer P w H s Q u s' :=
  fun {σ' H' v u} J rv q => ⟨v, H', J.os, J.bare, J.base, J.hok, rv, q⟩
 cases fl with
 | ret u =>
  obtain ⟨v, σ', H', J, rv, q⟩ := hs
  exact fin J rv q
 | next =>
  obtain ⟨σ', H', J, q⟩ := hs
  exact fin (v := V.non) (u := Value.none) J rfl q
 | brk =>
  obtain ⟨_, _, _, q⟩ := hs
  exact False.elim q
 | cont =>
  obtain ⟨_, _, _, q⟩ := hs
  exact False.elim q
section
variable {X : Cx} {x : Str} {p pos : Pos} {e : Expr} {es : List Expr} {t : TA} {id T : String} {r : List V → Hp → VK → Prop}
def tCB (r : List V → Hp → VK → Prop) (t : TA) : TE := fun σ H Q => t σ H fun vs H1 => r vs H1 Q
theorem ZR7 (hc : ZFG X (.builtin id) r) (hg : Gl X x) (hm : X.mg x = none) (hv : bootBuiltins x = some (.builtin id)) (ha : PA X (e :: es) t) (hn : x ≠ "__name__" := by decide) (hdb : (x == ("__debug__" : Str)) = false := by decide)
  (he : starEach (e :: es) X.env = (false, eval e X.env) :: starEach es X.env := by rfl) (hpl : (backTo pos (starEach es X.env)).any (·.1) = false := by rfl) : PE X (.Call (.Name x p) (e :: es) [] pos) (tCB r t) := by
 intro pins s σ H Q I h
 refine wpAny_Call_Name_kw (ZHO I hg hm hv ?_ hn hdb)
 exact PyProof.Rows.callWith_builtin1 (thn (ha pos pins s σ H _ I h) fun us s1 ⟨vs, H1, I1, r1, q1⟩ => hc pins s1 σ H1 vs us Q I1 r1 q1) he hpl
theorem ZQG (hc : ZFG X (.type T) r) (hg : Gl X x) (hm : X.mg x = none) (hv : bootBuiltins x = some (.type T)) (ha : PA X (e :: es) t) (hn : x ≠ "__name__" := by decide) (hdb : (x == ("__debug__" : Str)) = false := by decide)
  (he : starEach (e :: es) X.env = (false, eval e X.env) :: starEach es X.env := by rfl) (hpl : (backTo pos (starEach es X.env)).any (·.1) = false := by rfl) : PE X (.Call (.Name x p) (e :: es) [] pos) (tCB r t) := by
 intro pins s σ H Q I h
 refine wpAny_Call_Name_kw (ZHO I hg hm hv ?_ hn hdb)
 exact PyProof.Rows.callWith_type1 (thn (ha pos pins s σ H _ I h) fun us s1 ⟨vs, H1, I1, r1, q1⟩ => hc pins s1 σ H1 vs us Q I1 r1 q1) he hpl
end
end L2
namespace HT
open PySem PyProof.Rows
section
variable {prog : Program} {w : World} {A : Around} {E : Value → Shared → Prop} {s : Shared}
def sIx (n d : Nat) : Option Int → Nat
 | none => d
 | some v => if v < 0 then (v + (n : Int)).toNat else min v.toNat n
theorem sIx_none (n d : Nat) : sIx n d none = d := rfl
theorem sIx_nat (n d k : Nat) : sIx n d (some (k : Int)) = min k n := by
 show (if (k : Int) < 0 then ((k : Int) + (n : Int)).toNat else min (k : Int).toNat n) = min k n
 rw [if_neg (by omega), Int.toNat_natCast]
theorem ZWU (n d : Nat) (hd : d ≤ n) (o : Option Int) : sIx n d o ≤ n := by
 cases o with
 | none => exact hd
 | some v =>
  show (if v < 0 then (v + (n : Int)).toNat else min v.toNat n) ≤ n
  by_cases hv : v < 0
  ·rw [if_pos hv]; omega
  ·rw [if_neg hv]; exact Nat.min_le_right _ _
theorem ZOS (v : Int) (n d : Nat) : (if v < 0 then max (v + (n : Int)) 0 else min v (n : Int)) = ((sIx n d (some v) : Nat) : Int) := by
 show (if v < 0 then max (v + (n : Int)) 0 else min v (n : Int)) = (((if v < 0 then (v + (n : Int)).toNat else min v.toNat n) : Nat) : Int)
 by_cases hv : v < 0
 ·simp only [if_pos hv]; omega
 ·simp only [if_neg hv]; omega
theorem ZO8 (lo hi : Option Int) (n : Nat) : Builtin.Slice.sliceAdjust lo hi 1 (n : Int) = (((sIx n 0 lo : Nat) : Int), ((sIx n n hi : Nat) : Int)) := by
 have h1 : ¬ ((1 : Int) < 0) := by omega
 unfold Builtin.Slice.sliceAdjust
 simp only [h1, if_false]
 refine Prod.ext ?_ ?_
 ·cases lo with
  | none => rfl
  | some v => exact ZOS v n 0
 ·cases hi with
  | none => rfl
  | some v => exact ZOS v n n
theorem ZO9 (i j : Nat) : Builtin.Slice.slicePlaces (i : Int) (j : Int) 1 = j - i := by
 unfold Builtin.Slice.slicePlaces
 have h1 : (1 : Int) > 0 := by omega
 simp only [h1, if_true, Int.ediv_one]
 split <;> omega
theorem ZK2 {v : Value} {o : Option Int} {Q : Option Int → Shared → Prop} (p : IsPart v o) (h : Q o s) : wpAny (model prog w) A (Builtin.Slice.slicePartIndex v) Q E s := by
 cases p with
 | none => exact slicePart_none h
 | int i t => exact slicePart_int h
theorem sliceApplied_gen {sl : Addr} {vl vu : Value} {lo hi : Option Int} {n : Nat} {Q : Int × Int × Nat → Shared → Prop} (hs : s.heap.IsSliceOf sl vl vu .none) (pl : IsPart vl lo) (pu : IsPart vu hi)
  (h : Q (((sIx n 0 lo : Nat) : Int), 1, sIx n n hi - sIx n 0 lo) s) : wpAny (model prog w) A (Builtin.Slice.sliceApplied (.ref sl) (pure (n : Int))) Q E s := by
 obtain ⟨os, hos, hcs, hds⟩ := id hs
 unfold Builtin.Slice.sliceApplied Builtin.Slice.sliceFields
 refine wpAny_bind (wpAny_bind (wpAny_field hos hds (x := vl) rfl (wpAny_bind (wpAny_field hos hds (x := vu) rfl (wpAny_bind (wpAny_field hos hds (x := .none) rfl (wpAny_pure ?_)))))))
 refine wpAny_bind (slicePart_none ?_)
 show wpAny _ _ (if ((1 : Int) == 0) = true then _ else _) _ _ s
 rw [if_neg (by decide)]
 refine wpAny_bind (ZK2 pl (wpAny_bind (ZK2 pu (wpAny_bind (wpAny_pure ?_)))))
 show wpAny _ _ (match Builtin.Slice.sliceAdjust lo hi 1 (n : Int) with | (lo, hi) => pure (lo, (1 : Int), Builtin.Slice.slicePlaces lo hi 1)) _ _ s
 rw [ZO8 lo hi n]
 show wpAny _ _ (pure (((sIx n 0 lo : Nat) : Int), (1 : Int), Builtin.Slice.slicePlaces ((sIx n 0 lo : Nat) : Int) ((sIx n n hi : Nat) : Int) 1)) _ _ s
 rw [ZO9]
 exact wpAny_pure h
theorem ZR8 (xs : Array Value) (i k : Nat) : ((List.range k).filterMap fun (m : Nat) => xs[((i : Int) + (m : Int) * 1).toNat]?).toArray = ((xs.toList.drop i).take k).toArray := by
 have e : (fun (m : Nat) => xs[((i : Int) + (m : Int) * 1).toNat]?) = fun m => xs[i + m]? := by
  funext m
  have : ((i : Int) + (m : Int) * 1).toNat = i + m := by omega
  rw [this]
 rw [e]
 have := pick_run xs i k
 rw [List.filterMap_map] at this
 have e2 : ((fun x => xs[x]?) ∘ fun x => i + x) = fun m => xs[i + m]? := rfl
 rw [e2] at this
 rw [this]
theorem getItem_tuple_cut {t sl : Addr} {items : Array Value} {vl vu : Value} {lo hi : Option Int} {Q : Value → Shared → Prop} (ht : IsTup s.heap t items) (hs : s.heap.IsSliceOf sl vl vu .none) (pl : IsPart vl lo) (pu : IsPart vu hi)
  (hw : ¬ (sIx items.size 0 lo = 0 ∧ sIx items.size items.size hi = items.size))
  (h : Q (.ref s.heap.objs.size) { s with heap := s.heap.push { cls := .type "tuple", data := .seq ((items.toList.drop (sIx items.size 0 lo)).take (sIx items.size items.size hi - sIx items.size 0 lo)).toArray } })
  (hsz : items.size ≤ sizeLine) : wpAny (model prog w) A (getItem (.ref t) (.ref sl)) Q E s := by
 have htake : sizeOk (.seq ((items.toList.drop (sIx items.size 0 lo)).take (sIx items.size items.size hi - sIx items.size 0 lo)).toArray) := by
  show ((items.toList.drop (sIx items.size 0 lo)).take (sIx items.size items.size hi - sIx items.size 0 lo)).toArray.size ≤ sizeLine
  rw [List.size_toArray, List.length_take, List.length_drop, Array.length_toList]
  omega
 have hj : sIx items.size items.size hi ≤ items.size := ZWU _ _ (Nat.le_refl _) hi
 obtain ⟨os, hos, hcs, hds⟩ := id hs
 have hTs : s.TypeIs (.ref sl) "slice" := ⟨os, hos, hcs⟩
 unfold getItem
 try with_reducible refine wpAny_holding ?_
 first | refine wpAny_bind (wpAny_pure ?_) | skip
 refine wpAny_bind (wpAny_sequenceKey ht.typeIs (by decide) ?_)
 refine wpAny_bind (wpAny_callSpecial?_slot (name := Str.ofString "__getitem__") ht.typeIs PyProof.Rows.slot_tuple_getitem
  (wpAny_call_entry PyProof.Rows.slot_tuple_getitem ht.typeIs entry_tuple_getitem ?_ (args_tuple_getitem _ _)))
 show wpAny _ _ (Builtin.Tuple.tupleItemsOf (.ref t) >>= _) _ _ s
 refine wpAny_bind (tupleItemsOf_ ht ?_)
 refine wpAny_bind (wpAny_typeOf hTs ?_)
 rw [if_pos (by decide)]
 refine wpAny_bind (sliceApplied_gen hs pl pu ?_)
 have hno : ¬ ((((sIx items.size 0 lo : Nat) : Int) == 0 && (1 : Int) == 1 && (sIx items.size items.size hi - sIx items.size 0 lo) == items.size) = true) := by
  intro q
  rw [Bool.and_eq_true, Bool.and_eq_true] at q
  have q1 : ((sIx items.size 0 lo : Nat) : Int) = 0 := eq_of_beq q.1.1
  have q2 : sIx items.size items.size hi - sIx items.size 0 lo = items.size := eq_of_beq q.2
  exact hw ⟨by omega, by omega⟩
 show wpAny _ _ (if (((sIx items.size 0 lo : Nat) : Int) == 0 && (1 : Int) == 1 && (sIx items.size items.size hi - sIx items.size 0 lo) == items.size) = true then _ else _) _ _ s
 rw [if_neg hno, ZR8]
 first
  | exact wpAny_bind (m := Builtin.Tuple.tupleExact _) (wpAny_newObj_type (wpAny_pure ⟨_, rfl, wpAny_pure h⟩) htake)
  | exact wpAny_bind (m := Builtin.Tuple.tupleExact _) (wpAny_newObj_type (wpAny_bind (wpAny_pure (wpAny_pure ⟨_, rfl, wpAny_pure h⟩))) htake)
  | exact wpAny_bind (wpAny_bind (m := Builtin.Tuple.tupleExact _) (wpAny_newObj_type (wpAny_pure (wpAny_pure ⟨_, rfl, wpAny_pure h⟩)) htake))
  | exact wpAny_bind (wpAny_bind (m := Builtin.Tuple.tupleExact _) (wpAny_newObj_type (wpAny_pure ⟨_, rfl, wpAny_pure h⟩) htake))
end
end HT
namespace L2
open PySem PySem.Spec PyProof.Rows
abbrev TO := St → Hp → (Option Int → Hp → Prop) → Prop
def PO (X : Cx) (e : Option Expr) (t : TO) : Prop :=
 ∀ (pins : List (Addr × Obj)) (s : Shared) (σ : St) (H : Hp) (Q : Option Int → Hp → Prop), Inv X pins σ H s → t σ H Q →
  wpAny (model X.prog X.w) X.A (evalPart e X.env) (fun u s' => ∃ o H', Inv X pins σ H' s' ∧ IsPart u o ∧ Q o H') X.xe s
def ZLT : TO := fun _ H Q => Q none H
def ZPA (t : TE) : TO := fun σ H Q => t σ H fun x H1 => ∃ i, x = .int i ∧ Q (some i) H1
section
variable {X : Cx} {e : Expr} {te : TE} {lo hi : Option Expr} {tl th : TO} {pos p2 : Pos}
theorem ZUU : PO X none ZLT := by
 intro pins s σ H Q I h
 rw [evalPart_none]
 exact wpAny_pure ⟨none, H, I, .none, h⟩
theorem ZUV (h : PE X e te) : PO X (some e) (ZPA te) := by
 intro pins s σ H Q I hw
 rw [evalPart_some]
 refine thn (h pins s σ H _ I hw) fun u s1 ⟨x, H1, I1, r1, q1⟩ => ?_
 obtain ⟨i, rfl, q⟩ := q1
 obtain ⟨t, rfl⟩ := r1
 exact ⟨some i, H1, I1, .int i t, q⟩
def SlR (X : Cx) (r : V → Option Int → Option Int → Hp → VK → Prop) : Prop :=
 ∀ (pins : List (Addr × Obj)) (s : Shared) (σ : St) (H : Hp) (x : V) (v vl vu : Value) (lo hi : Option Int) (sl : Addr) (Q : VK), Inv X pins σ H s → ZER x v → s.heap.IsSliceOf sl vl vu .none → IsPart vl lo → IsPart vu hi → r x lo hi H Q →
  ∃ T id, typeLookup (.type T) "__getitem__" = pure (some (.builtin id)) ∧ s.TypeIs v T ∧ wpAny (model X.prog X.w) X.A (getItem v (.ref sl)) (EP X pins σ Q) X.xe s
def tSl (r : V → Option Int → Option Int → Hp → VK → Prop) (te : TE) (tl th : TO) : TE := fun σ H Q => te σ H fun x H1 => tl σ H1 fun l H2 => th σ H2 fun u H3 => r x l u H3 Q
theorem ZR9 {r : V → Option Int → Option Int → Hp → VK → Prop} (hr : SlR X r) (he : PE X e te) (hl : PO X lo tl) (hu : PO X hi th) : PE X (.Subscript e (.Slice lo hi none p2) pos) (tSl r te tl th) := by
 intro pins s σ H Q I h
 refine Subscript_ (thn (he pins s σ H _ I h) fun v s1 ⟨x, H1, I1, r1, q1⟩ => ?_)
 refine wpAny_Slice (thn (hl pins s1 σ H1 _ I1 q1) fun vl s2 ⟨l, H2, I2, pl, q2⟩ => thn (hu pins s2 σ H2 _ I2 q2) fun vu s3 ⟨u, H3, I3, pu, q3⟩ => ?_)
 rw [evalPart_none]
 refine wpAny_pure ?_
 have I4 : Inv X pins σ H3 { s3 with heap := s3.heap.push { cls := .type "slice", data := .fields #[vl, vu, .none] } } := I3.kept (t' := s3.toks) fun b ob q => Heap.get?_push_of_some _ q
 obtain ⟨T, id, hT, ht, hg⟩ := hr pins { s3 with heap := s3.heap.push { cls := .type "slice", data := .fields #[vl, vu, .none] } } σ H3 x v vl vu l u s3.heap.objs.size Q I4 r1 (Heap.IsSliceOf.new ..) pl pu q3
 show wpAny (model X.prog X.w) X.A (subscriptTail e (.Slice lo hi none p2) v (.ref s3.heap.objs.size)) (EP X pins σ Q) X.xe { s3 with heap := s3.heap.push { cls := .type "slice", data := .fields #[vl, vu, .none] } }
 exact tail_any (ops := [.ref s3.heap.objs.size, v]) ht hT hg (by with_unfolding_all rfl)
def ZGe (xs : List V) (lo hi : Option Int) : List V := (xs.drop (HT.sIx xs.length 0 lo)).take (HT.sIx xs.length xs.length hi - HT.sIx xs.length 0 lo)
theorem ZIL (xs : List V) (lo hi : Option Int) : (ZGe xs lo hi).length ≤ xs.length := by
 unfold ZGe
 rw [List.length_take, List.length_drop]
 omega
def ZX7 (K : W.Frag) : V → Option Int → Option Int → Hp → VK → Prop := fun x lo hi H Q => ∃ a xs, x = .ref a ∧ SqT K H a xs ∧
 ¬ (HT.sIx xs.length 0 lo = 0 ∧ HT.sIx xs.length xs.length hi = xs.length) ∧ ∀ p, H p = none → Q (.ref p) (upd H p (.tup (ZGe xs lo hi)))
theorem ZWV : SlR X (ZX7 X.K) := by
 intro pins s σ H x v vl vu lo hi sl Q I rx hs pl pu h
 obtain ⟨a, xs, rfl, hx, hw, q⟩ := h
 cases rx
 obtain ⟨its, r, ht, hz⟩ := I.tuple hx
 have hlen : its.toArray.size = xs.length := by rw [List.size_toArray]; exact r.length.symm
 refine ⟨"tuple", _, PyProof.Rows.slot_tuple_getitem.lookup, ht.typeIs, ?_⟩
 refine HT.getItem_tuple_cut ht hs pl pu (by rw [hlen]; exact hw) ?_ (by rw [hlen]; exact hz)
 rw [hlen]
 refine ⟨.ref s.heap.objs.size, _, I.laid (t' := s.toks) (o := .tup (ZGe xs lo hi)) (fun b ob q => Heap.get?_push_of_some _ q) (Nat.le_refl _) ?_, rfl, q _ (I.hok.fresh (Nat.le_refl _))⟩
 exact ⟨⟨Nat.le_trans (ZIL xs lo hi) hz, fun _ => ⟨_, Heap.get?_push_size _ rfl, rfl, rfl⟩⟩, _, (r.drop (HT.sIx xs.length 0 lo)).take (HT.sIx xs.length xs.length hi - HT.sIx xs.length 0 lo), IsTup.new _ _⟩
end
def ixN (n : Nat) (i : Int) : Option Nat := if 0 ≤ i then (if i < n then some i.toNat else none) else if -(n : Int) ≤ i then some (i + n).toNat else none
def atI {α : Type} (xs : List α) (i : Int) : Option α := (ixN xs.length i).bind fun j => xs[j]?
theorem ZOT {n : Nat} {i : Int} {j : Nat} (h : ixN n i = some j) : seqIndex? i n = some j ∧ j < n ∧ -(n : Int) ≤ i ∧ i < n := by
 unfold ixN at h
 by_cases h0 : 0 ≤ i
 ·rw [if_pos h0] at h
  by_cases h1 : i < n
  ·rw [if_pos h1] at h
   have e : i.toNat = j := Option.some.inj h
   exact ⟨by rw [seqIndex_of h0 h1, e], by omega, by omega, h1⟩
  ·rw [if_neg h1] at h; cases h
 ·rw [if_neg h0] at h
  by_cases h1 : -(n : Int) ≤ i
  ·rw [if_pos h1] at h
   have e : (i + n).toNat = j := Option.some.inj h
   exact ⟨by rw [seqIndex_neg (by omega) h1, e], by omega, h1, by omega⟩
  ·rw [if_neg h1] at h; cases h
theorem ZOU {α : Type} {xs : List α} {i : Int} {v : α} (h : atI xs i = some v) : ∃ j, seqIndex? i xs.length = some j ∧ xs[j]? = some v ∧ j < xs.length ∧ -(xs.length : Int) ≤ i ∧ i < xs.length := by
 unfold atI at h
 cases e : ixN xs.length i with
 | none => rw [e] at h; cases h
 | some j =>
  rw [e] at h
  obtain ⟨h1, h2, h3, h4⟩ := ZOT e
  exact ⟨j, h1, h, h2, h3, h4⟩
theorem ZIY {α : Type} {xs : List α} {j : Nat} {v : α} (h : xs[j]? = some v) : atI xs (j : Int) = some v := by
 have hj : j < xs.length := (List.getElem?_eq_some_iff.mp h).1
 have e : ixN xs.length (j : Int) = some j := by
  unfold ixN
  rw [if_pos (by omega), if_pos (by omega)]; simp
 unfold atI; rw [e]; exact h
def ZOV (b : Expr) : Prop := ∀ o i, subscripted b false o i = operate [o, i] (getItem o i)
def IxR (X : Cx) (r : R2) : Prop :=
 ∀ (value slice : Expr) (pins : List (Addr × Obj)) (s : Shared) (σ : St) (H : Hp) (x y : V) (v u : Value) (Q : VK), Inv X pins σ H s → ZER x v → ZER y u → r x y H Q →
  subscripted slice false v u = operate [v, u] (getItem v u) → wpAny (model X.prog X.w) X.A (subscriptTail value slice v u) (EP X pins σ Q) X.xe s
def MtR (X : Cx) (id : String) (r : V → List V → Hp → VK → Prop) : Prop :=
 ∀ (pins : List (Addr × Obj)) (s : Shared) (σ : St) (H : Hp) (x : V) (xs : List V) (v : Value) (us : List Value) (Q : VK), Inv X pins σ H s → ZER x v → ZEU xs us → r x xs H Q →
  wpAny (model X.prog X.w) X.A (call (.builtin id) (v :: us)) (EP X pins σ Q) X.xe s
section
variable {X : Cx} {a b : Expr} {ta tb : TE} {pos : Pos}
theorem ZXk {r : R2} (hr : IxR X r) (ha : PE X a ta) (hb : PE X b tb) (hs : ZOV b) : PE X (.Subscript a b pos) (tOp r ta tb) := by
 intro pins s σ H Q I h
 exact Subscript_ (ZRs ha hb I h fun v u s2 x y H2 I2 rx ry q => hr a b pins s2 σ H2 x y v u Q I2 rx ry q (hs _ _))
def ZPB (K : W.Frag) : R2 := fun x y H Q => ∃ p xs i v, x = .ref p ∧ y = .int i ∧ SqL K H p xs ∧ atI xs i = some v ∧ Q v H
def ZSA (K : W.Frag) : R2 := fun x y H Q => ∃ p xs i v, x = .ref p ∧ y = .int i ∧ SqT K H p xs ∧ atI xs i = some v ∧ Q v H
theorem ZUW : IxR X (ZPB X.K) := by
 intro value slice pins s σ H x y v u Q I rx ry h hs
 obtain ⟨p, xs, i, z, rfl, rfl, hq, he, q⟩ := h
 cases rx
 obtain ⟨t, rfl⟩ := ry
 obtain ⟨its, r, pl, hz⟩ := I.list hq
 obtain ⟨j, h1, h2, h3, h4, h5⟩ := ZOU he
 obtain ⟨w, ew, rw'⟩ := r.get h2
 have hl := r.length
 have hn := ZJT
 have fin : EP X pins σ Q w s := ⟨z, H, I, rw', q⟩
 by_cases h0 : 0 ≤ i
 ·have hj : i.toNat = j := by
   rw [seqIndex_of h0 h5] at h1
   exact Option.some.inj h1
  exact item_listR pl.isList h0 (by omega) (by rw [hj]; simpa using ew) fin hs
 ·have hj : (i + (its.toArray.size : Int)).toNat = j := by
   rw [seqIndex_neg (by omega) h4] at h1
   rw [List.size_toArray, ← hl]
   exact Option.some.inj h1
  exact subscriptTail_builtinR (x := w) pl.isList.typeIs slot_list_getitem.lookup
   (wpAny_getItem_list_neg (Q := fun r s' => r = w ∧ EP X pins σ Q r s') pl.isList (by omega) (by rw [List.size_toArray] <;> omega) (by omega) (by rw [hj]; simpa using ew) ⟨rfl, fin⟩) hs
theorem ZWW : IxR X (ZSA X.K) := by
 intro value slice pins s σ H x y v u Q I rx ry h hs
 obtain ⟨p, xs, i, z, rfl, rfl, hq, he, q⟩ := h
 cases rx
 obtain ⟨t, rfl⟩ := ry
 obtain ⟨its, r, pl, hz⟩ := I.tuple hq
 obtain ⟨j, h1, h2, h3, h4, h5⟩ := ZOU he
 obtain ⟨w, ew, rw'⟩ := r.get h2
 have hl := r.length
 have hn := ZJT
 have fin : EP X pins σ Q w s := ⟨z, H, I, rw', q⟩
 exact subscriptTail_builtinR (x := w) pl.typeIs slot_tuple_getitem.lookup
  (getItem_tuple (j := j) (Q := fun r s' => r = w ∧ EP X pins σ Q r s') pl (by omega) (by omega) (by rw [List.size_toArray, ← hl]; exact h1) (by simpa using ew) ⟨rfl, fin⟩) hs
theorem ZPC (its : List Value) (n j : Nat) (u : Value) : Obj.mapSeq (·.setIfInBounds j u) { cls := .type "list", data := .seq its.toArray n } = { cls := .type "list", data := .seq (its.set j u).toArray n } := by
 simp [Obj.mapSeq]
theorem Inv.lst {pins : List (Addr × Obj)} {σ : St} {H : Hp} {s : Shared} {p : Addr} {xs : List V} (I : Inv X pins σ H s) (h : H p = some (.lst xs)) :
  ∃ (its : List Value) (n : Nat), ZEU xs its ∧ s.heap.get? p = some { cls := .type "list", data := .seq its.toArray n } ∧ xs.length ≤ sizeLine := by
 obtain ⟨z, its, n, r, e⟩ := I.hok p _ h
 exact ⟨its, n, r, e, z⟩
theorem Inv.lstUpd {pins : List (Addr × Obj)} {σ : St} {H : Hp} {s : Shared} {p : Addr} {xs ys : List V} {its its' : List Value} {n n' : Nat} {f : Obj → Obj} (I : Inv X pins σ H s) (h : H p = some (.lst xs))
  (ho : s.heap.get? p = some { cls := .type "list", data := .seq its.toArray n }) (hf : f { cls := .type "list", data := .seq its.toArray n } = { cls := .type "list", data := .seq its'.toArray n' }) (r : ZEU ys its') (hz : ys.length ≤ sizeLine) (t : Nat) :
  Inv X pins σ (upd H p (.lst ys)) { s with heap := s.heap.update p f, toks := t } := by
 have e : (s.heap.update p f).get? p = some { cls := .type "list", data := .seq its'.toArray n' } := by
  rw [Heap.get?_update_self f ho (by rw [hf] <;> rfl), hf]
 refine I.write (x := p) (e := p) (by rw [h]; trivial) (.inl rfl) (fun b u hb q => (Heap.get?_update_other _ _ (Ne.symm hb)).trans q) ⟨_, e⟩ ?_
 exact ⟨hz, its', n', r, e⟩
def ZK3 : V → V → V → Hp → (Hp → Prop) → Prop := fun o i v H Q => ∃ p xs k j, o = .ref p ∧ i = .int k ∧ H p = some (.lst xs) ∧ ixN xs.length k = some j ∧ Q (upd H p (.lst (xs.set j v)))
theorem ZGm : ZOu X ZK3 := by
 intro pins s σ H o i v ov iv u Q I ro ri rv h
 obtain ⟨p, xs, k, j, rfl, rfl, hp, hj, q⟩ := h
 cases ro
 obtain ⟨t, rfl⟩ := ri
 obtain ⟨its, n, r, ho, hz⟩ := I.lst hp
 obtain ⟨h1, h2, h3, h4⟩ := ZOT hj
 have hl := r.length
 have hn := ZJT
 have I' : Inv X pins σ (upd H p (.lst (xs.set j v))) { s with heap := s.heap.update p (Obj.mapSeq (·.setIfInBounds j u)) } :=
  I.lstUpd hp ho (ZPC its n j u) (r.set rv j) (by rw [List.length_set]; exact hz) s.toks
 by_cases h0 : 0 ≤ k
 ·have hk : k.toNat = j := by
   rw [seqIndex_of h0 h4] at h1
   exact Option.some.inj h1
  exact PySem.W.ki_setAt ho h0 (by omega) (by rw [List.size_toArray, ← hl]; exact h4) (by rw [hk]; exact ⟨_, I', q⟩)
 ·have hk : (k + (its.toArray.size : Int)).toNat = j := by
   rw [seqIndex_neg (by omega) h3] at h1
   rw [List.size_toArray, ← hl]
   exact Option.some.inj h1
  exact PySem.W.ki_setBack ho (by omega) (by rw [List.size_toArray, ← hl]; exact h3) (by omega) (by rw [hk]; exact ⟨_, I', q⟩)
theorem ZMn (lo hi : Option Int) (n : Nat) : (sliceBounds lo hi none n).1 = ((HT.sIx n 0 lo : Nat) : Int) ∧ (sliceBounds lo hi none n).2.1 = ((HT.sIx n n hi : Nat) : Int) ∧ (sliceBounds lo hi none n).2.2 = 1 := by
 refine ⟨?_, ?_, rfl⟩
 ·cases lo with
  | none => simp [sliceBounds, HT.sIx]
  | some i =>
   simp only [sliceBounds, HT.sIx, Option.getD_none, show (1 : Int) > 0 by decide, if_true]
   by_cases h : i < 0
   ·simp only [h, if_true] <;> omega
   ·simp only [h, if_false] <;> omega
 ·cases hi with
  | none => simp [sliceBounds, HT.sIx]
  | some i =>
   simp only [sliceBounds, HT.sIx, Option.getD_none, show (1 : Int) > 0 by decide, if_true]
   by_cases h : i < 0
   ·simp only [h, if_true] <;> omega
   ·simp only [h, if_false] <;> omega
theorem ZMC (its : List Value) (lo hi : Option Int) : slicePick its.toArray lo hi none = ((its.drop (HT.sIx its.length 0 lo)).take (HT.sIx its.length its.length hi - HT.sIx its.length 0 lo)).toArray := by
 obtain ⟨h1, h2, h3⟩ := ZMn lo hi its.toArray.size
 unfold slicePick
 rw [h1, h2, h3]
 simp only [sliceRange_one, pick_run, List.size_toArray] <;> rfl
def ZSB (K : W.Frag) : V → Option Int → Option Int → Hp → VK → Prop := fun x lo hi H Q => ∃ a xs, x = .ref a ∧ SqL K H a xs ∧ ∀ p, H p = none → Q (.ref p) (upd H p (.lst (ZGe xs lo hi)))
theorem ZUX : SlR X (ZSB X.K) := by
 intro pins s σ H x v vl vu lo hi sl Q I rx hs pl pu h
 obtain ⟨a, xs, rfl, hx, q⟩ := h
 cases rx
 obtain ⟨its, r, ht, hz⟩ := I.list hx
 have hlen := r.length
 refine ⟨"list", _, slot_list_getitem.lookup, ht.isList.typeIs, ?_⟩
 refine wpAny_getItem_list_slice ht.isList hs pl pu .none (by simp) ?_ (by rw [List.size_toArray] <;> omega)
 rw [ZMC, ← hlen]
 refine ⟨.ref s.heap.objs.size, _, I.laid (t' := s.toks) (o := .lst (ZGe xs lo hi)) (fun b ob q => Heap.get?_push_of_some _ q) (Nat.le_refl _) ?_, rfl, q _ (I.hok.fresh (Nat.le_refl _))⟩
 exact ⟨Nat.le_trans (ZIL xs lo hi) hz, _, 0, (r.drop (HT.sIx xs.length 0 lo)).take (HT.sIx xs.length xs.length hi - HT.sIx xs.length 0 lo), Heap.get?_push_size _ rfl⟩
def ZHJ : V → Bool
 | .non => true
 | .bl _ => true
 | .int _ => true
 | .str _ => true
 | _ => false
def eqV : V → V → Bool
 | .non, .non => true
 | .bl a, .bl b => a == b
 | .bl a, .int b => (if a then 1 else 0) == b
 | .int a, .bl b => a == (if b then 1 else 0)
 | .int a, .int b => a == b
 | .str a, .str b => a == b
 | _, _ => false
theorem ZWX {A : Around} {s : Shared} {y x : V} {u v : Value} (ry : ZER y u) (rx : ZER x v) (fy : ZHJ y = true) (fx : ZHJ x = true) : SeqAt.EqAt A s u v (eqV y x) := by
 cases y with
 | non =>
  cases ry
  cases x with
  | non => cases rx; exact SeqAt.EqAt.same _
  | bl b => cases rx; exact SeqAt.EqAt.none_bool b
  | int b => obtain ⟨t, rfl⟩ := rx; exact SeqAt.EqAt.none_int b t
  | str b => obtain ⟨t, rfl⟩ := rx; exact SeqAt.EqAt.none_str b t
  | _ => exact absurd (show false = true from fx) Bool.false_ne_true
 | bl a =>
  cases ry
  cases x with
  | non => cases rx; exact SeqAt.EqAt.bool_none a
  | bl b => cases rx; exact SeqAt.EqAt.bool_bool a b
  | int b => obtain ⟨t, rfl⟩ := rx; exact SeqAt.EqAt.bool_int a b t
  | str b => obtain ⟨t, rfl⟩ := rx; exact SeqAt.EqAt.bool_str a b t
  | _ => exact absurd (show false = true from fx) Bool.false_ne_true
 | int a =>
  obtain ⟨t', rfl⟩ := ry
  cases x with
  | non => cases rx; exact SeqAt.EqAt.int_none a t'
  | bl b => cases rx; exact SeqAt.EqAt.int_bool a t' b
  | int b => obtain ⟨t, rfl⟩ := rx; exact SeqAt.EqAt.int_int a t' b t
  | str b => obtain ⟨t, rfl⟩ := rx; exact SeqAt.EqAt.int_str a t' b t
  | _ => exact absurd (show false = true from fx) Bool.false_ne_true
 | str a =>
  obtain ⟨t', rfl⟩ := ry
  cases x with
  | non => cases rx; exact SeqAt.EqAt.str_none a t'
  | bl b => cases rx; exact SeqAt.EqAt.str_bool a t' b
  | int b => obtain ⟨t, rfl⟩ := rx; exact SeqAt.EqAt.str_int a t' b t
  | str b => obtain ⟨t, rfl⟩ := rx; exact SeqAt.EqAt.str_str a t' b t
  | _ => exact absurd (show false = true from fx) Bool.false_ne_true
 | _ => exact absurd (show false = true from fy) Bool.false_ne_true
def eqU (x : V) (u : Value) : Bool := match u with
 | .none => eqV .non x
 | .bool b => eqV (.bl b) x
 | .int i _ => eqV (.int i) x
 | .str z _ => eqV (.str z) x
 | _ => false
theorem ZQH {x y : V} {u : Value} (r : ZER y u) (f : ZHJ y = true) : eqU x u = eqV y x := by
 cases y with
 | non => cases r; rfl
 | bl b => cases r; rfl
 | int i => obtain ⟨t, rfl⟩ := r; rfl
 | str z => obtain ⟨t, rfl⟩ := r; rfl
 | _ => exact absurd (show false = true from f) Bool.false_ne_true
theorem ZLU {x : V} : ∀ {xs : List V} {us : List Value}, ZEU xs us → xs.all ZHJ = true → us.any (eqU x) = xs.any fun y => eqV y x
 | _, _, .nil, _ => rfl
 | y :: xs, u :: us, .cons r t, f => by
  rw [List.all_cons, Bool.and_eq_true] at f
  rw [List.any_cons, List.any_cons, ZQH r f.1, ZLU t f.2]
theorem ZKR {A : Around} {s : Shared} {x : V} {v : Value} (rx : ZER x v) (fx : ZHJ x = true) : ∀ {xs : List V} {us : List Value}, ZEU xs us → xs.all ZHJ = true → ∀ u ∈ us, SeqAt.EqAt A s u v (eqU x u)
 | _, _, .nil, _ => fun u hu => by cases hu
 | y :: xs, u :: us, .cons r t, f => fun u' hu => by
  rw [List.all_cons, Bool.and_eq_true] at f
  rcases List.mem_cons.mp hu with rfl | hu
  ·rw [ZQH r f.1]; exact ZWX r rx f.1 fx
  ·exact ZKR rx fx t f.2 u' hu
def inV (x : V) (xs : List V) : Bool := xs.any fun y => eqV y x
def rIn (K : W.Frag) (neg : Bool) : R2 := fun x y H Q => ∃ p xs, y = .ref p ∧ (SqL K H p xs ∨ SqT K H p xs) ∧ ZHJ x = true ∧ xs.all ZHJ = true ∧ Q (.bl (if neg then !inV x xs else inV x xs)) H
theorem ZQI : OpR X (compareOp .In) (rIn X.K false) := by
 intro pins s σ H x y v u Q I rx ry h
 obtain ⟨p, xs, rfl, hq, fx, fs, q⟩ := h
 cases ry
 rcases hq with hq | hq
 ·obtain ⟨its, r, pl, hz⟩ := I.list hq
  refine SeqAt.in_listAt (eqU x) pl.isList (fun w hw => ZKR rx fx r fs w (by simpa using hw)) ⟨.bl _, H, I, rfl, ?_⟩
  rw [show its.toArray.any (eqU x) = its.any (eqU x) by simp, ZLU r fs]
  exact q
 ·obtain ⟨its, r, pl, hz⟩ := I.tuple hq
  refine SeqAt.in_tupleAt (eqU x) pl (fun w hw => ZKR rx fx r fs w (by simpa using hw)) ⟨.bl _, H, I, rfl, ?_⟩
  rw [show its.toArray.any (eqU x) = its.any (eqU x) by simp, ZLU r fs]
  exact q
theorem ZMo : ZFG X (.builtin "len") (fun xs H Q => ∃ p ys, xs = [.ref p] ∧ (SqL X.K H p ys ∨ SqT X.K H p ys) ∧ Q (.int ys.length) H) := by
 intro pins s σ H xs us Q I r h
 obtain ⟨p, ys, rfl, hq, q⟩ := h
 obtain ⟨u, rfl, rx⟩ := ZMZ r
 cases rx
 have hn := ZJT
 rcases hq with hq | hq
 ·obtain ⟨its, r', pl, hz⟩ := I.list hq
  have hlen := r'.length
  exact Calls.call_len_list pl.isList (by simp only [List.size_toArray] <;> omega) ⟨.int ys.length, H, I.tok _, ⟨s.toks + 1, by rw [List.size_toArray, hlen]⟩, q⟩
 ·obtain ⟨its, r', pl, hz⟩ := I.tuple hq
  have hlen := r'.length
  exact len_tuple pl (by simp only [List.size_toArray] <;> omega) ⟨.int ys.length, H, I.tok _, ⟨s.toks + 1, by rw [List.size_toArray, hlen]⟩, q⟩
theorem ZMD : ZFG X (.type "tuple") (fun xs H Q => ∃ p ys, xs = [.ref p] ∧ ((SqL X.K H p ys ∧ ∀ l, H l = none → Q (.ref l) (upd H l (.tup ys))) ∨ (SqT X.K H p ys ∧ Q (.ref p) H))) := by
 intro pins s σ H xs us Q I r h
 obtain ⟨p, ys, rfl, h⟩ := h
 obtain ⟨u, rfl, rx⟩ := ZMZ r
 cases rx
 rcases h with ⟨hq, q⟩ | ⟨hq, q⟩
 ·obtain ⟨its, r', pl, hz⟩ := I.list hq
  have hlen := r'.length
  refine call_tuple_list pl.isList (fun h' kp => ?_) (by simp only [List.size_toArray] <;> omega)
  have I1 : Inv X pins σ H { s with heap := h' } := I.kept (t' := s.toks) kp
  have I2 : Inv X pins σ (upd H h'.objs.size (.tup ys)) { s with heap := h'.push { cls := .type "tuple", data := .seq its.toArray } } :=
   I1.laid (t' := s.toks) (fun b o e => Heap.get?_push_of_some _ e) (Nat.le_refl _) (show ZEv X.prog X.w _ _ _ (.tup ys) from ⟨⟨hz, fun _ => ⟨_, Heap.get?_push_size _ rfl, rfl, rfl⟩⟩, its, r', IsTup.new _ _⟩)
  exact ⟨.ref h'.objs.size, _, I2, rfl, q _ (I1.hok.fresh (Nat.le_refl _))⟩
 ·obtain ⟨its, r', pl, hz⟩ := I.tuple hq
  exact call_tuple_same pl ⟨.ref p, H, I, rfl, q⟩
def tyV (K : W.Frag) (T : String) (x : V) (H : Hp) : Prop := match x with
 | .str _ => T = "str"
 | .int _ => T = "int"
 | .ref p => (T = "list" ∧ ∃ xs, SqL K H p xs) ∨ (T = "tuple" ∧ ∃ o, K.lookup p = some o ∧ o.cls = .type "tuple" ∧ o.dict = none) ∨
  (T = "dict" ∧ ((∃ kvs, H p = some (.dK kvs)) ∨ ∃ kvs, H p = some (.dT kvs))) ∨ (T = "set" ∧ ∃ S n, H p = some (.set S n))
 | _ => False
theorem ZQJ {pins : List (Addr × Obj)} {σ : St} {H : Hp} {s : Shared} {T : String} {x : V} {v : Value} (I : Inv X pins σ H s) (r : ZER x v) (ty : tyV X.K T x H) :
  s.TypeIs v T ∧ ∀ a, v = .ref a → ∃ ob, s.heap.get? a = some ob ∧ ob.dict = none := by
 cases x with
 | str z =>
  obtain ⟨t, rfl⟩ := r
  cases (show T = "str" from ty)
  exact ⟨typeIs_str s z t, fun _ e => nomatch e⟩
 | int i =>
  obtain ⟨t, rfl⟩ := r
  cases (show T = "int" from ty)
  exact ⟨typeIs_int s i t, fun _ e => nomatch e⟩
 | ref p =>
  cases r
  rcases ty with ⟨rfl, xs, hq⟩ | ⟨rfl, o, hk, hc, hd⟩ | ⟨rfl, hk⟩ | ⟨rfl, S, n, hk⟩
  ·obtain ⟨its, _, pl, _⟩ := I.list hq
   refine ⟨pl.isList.typeIs, fun a e => ?_⟩
   cases e
   obtain ⟨o, n, e, c, hd, _⟩ := pl
   exact ⟨o, e, hd⟩
  ·refine ⟨⟨o, I.kIn p o hk, hc⟩, fun a e => ?_⟩
   cases e
   exact ⟨o, I.kIn _ o hk, hd⟩
  ·have z : ∃ o, s.heap.get? p = some o ∧ o.ExactDict := by
    rcases hk with ⟨kvs, hk⟩ | ⟨kvs, hk⟩
    ·obtain ⟨_, _, _, _, o, _, _, e, ex, _⟩ := I.hok p _ hk
     exact ⟨o, e, ex⟩
    ·obtain ⟨_, _, _, _, o, _, _, e, ex, _⟩ := I.hok p _ hk
     exact ⟨o, e, ex⟩
   obtain ⟨o, e, ex⟩ := z
   refine ⟨⟨o, e, ex.1⟩, fun a e2 => ?_⟩
   cases e2
   exact ⟨o, e, ex.2.1⟩
  ·obtain ⟨o, _, _, _, e, ex, _⟩ := I.hok p _ hk
   refine ⟨⟨o, e, ex.1⟩, fun a e2 => ?_⟩
   cases e2
   exact ⟨o, e, ex.2.1⟩
 | _ => exact False.elim ty
def ZSC (K : W.Frag) (T : String) (r : V → List V → Hp → VK → Prop) (to : TE) : TE := fun σ H Q => to σ H fun x H1 => tyV K T x H1 ∧ r x [] H1 Q
def tBM (K : W.Frag) (T : String) (r : V → List V → Hp → VK → Prop) (to : TE) (t : TA) : TE := fun σ H Q => to σ H fun x H1 => tyV K T x H1 ∧ t σ H1 fun xs H2 => r x xs H2 Q
variable {o e : Expr} {es : List Expr} {to : TE} {t : TA} {name : Str} {apos cpos : Pos} {T id : String} {r : V → List V → Hp → VK → Prop}
theorem ZWY (pa : PlainAttrs T) (slot : Slot T name id) (hty : typeOf (.builtin id) = pure (.type "method_descriptor")) (hm : MtR X id r) (ho : PE X o to)
  (hbase : attributeBase o name X.env (eval o X.env) = eval o X.env := by rfl) (hline : (apos.endLine == cpos.line) = true := by rfl) : PE X (.Call (.Attribute o name apos) [] [] cpos) (ZSC X.K T r to) := by
 intro pins s σ H Q I h
 refine wpAny_Call_method0_late hbase hline (thn (ho pins s σ H _ I h) fun v s1 ⟨x, H1, I1, r1, ty, q1⟩ => ?_)
 obtain ⟨h1, h2⟩ := ZQJ I1 r1 ty
 exact ⟨T, id, pa, slot, hty, h1, h2, Calls.callWith_builtin rfl (PySem.evalArgs_none (hm pins s1 σ H1 x [] v [] Q I1 r1 .nil q1))⟩
theorem ZXl (pa : PlainAttrs T) (slot : Slot T name id) (hty : typeOf (.builtin id) = pure (.type "method_descriptor")) (hm : MtR X id r) (ho : PE X o to) (ha : PA X (e :: es) t)
  (hbase : attributeBase o name X.env (eval o X.env) = eval o X.env := by rfl)
  (hfew : ((backTo cpos (starEach (e :: es) X.env)).all (fun x => !x.1) && (backToKw cpos (keywordEach [] X.env)).all (fun x => x.1.isSome)
   && decide ((e :: es).length + ([] : List Keyword).length + (if ([] : List Keyword).isEmpty then 0 else 1) < 30)) = true := by rfl)
  (hline : (apos.endLine == cpos.line) = true := by rfl) (hs : starEach (e :: es) X.env = (false, eval e X.env) :: starEach es X.env := by rfl) (hplain : (backTo cpos (starEach es X.env)).any (·.1) = false := by rfl) :
  PE X (.Call (.Attribute o name apos) (e :: es) [] cpos) (tBM X.K T r to t) := by
 intro pins s σ H Q I h
 refine wpAny_Call_method_late hbase hfew hline rfl (thn (ho pins s σ H _ I h) fun v s1 ⟨x, H1, I1, r1, ty, q1⟩ => ?_)
 obtain ⟨h1, h2⟩ := ZQJ I1 r1 ty
 refine ⟨T, id, pa, slot, hty, h1, h2, ?_⟩
 have hA := ha cpos pins s1 σ H1 _ I1 q1
 rw [hs] at hA ⊢
 refine Calls.callWith_builtin (by show (false || (backTo cpos (starEach es X.env)).any (·.1)) = false; rw [hplain] <;> rfl) (Calls.evalArgs_plain ?_)
 exact thn hA fun us s2 ⟨vs, H2, I2, r2, q2⟩ => hm pins s2 σ H2 x vs v us Q I2 r1 r2 q2
end
def MtM (X : Cx) (id : String) (r : V → List V → Hp → VK → Prop) : Prop :=
 ∀ (pins : List (Addr × Obj)) (s : Shared) (σ : St) (H : Hp) (x : V) (xs : List V) (v : Value) (us : List Value) (Q : VK), Inv X pins σ H s → ZER x v → ZEU xs us → r x xs H Q →
  wpAny (model X.prog X.w) X.A (call (.builtin id) (v :: us)) (EP X pins σ Q) X.xe s
theorem ZEU.one : ∀ {x : V} {us : List Value}, ZEU [x] us → ∃ u, us = [u] ∧ ZER x u
 | _, _, .cons r .nil => ⟨_, rfl, r⟩
theorem ZEU.two : ∀ {x y : V} {us : List Value}, ZEU [x, y] us → ∃ u v, us = [u, v] ∧ ZER x u ∧ ZER y v
 | _, _, _, .cons r (.cons q .nil) => ⟨_, _, rfl, r, q⟩
theorem ZEU.zero : ∀ {us : List Value}, ZEU [] us → us = []
 | _, .nil => rfl
theorem ZEU.dropLast {xs : List V} {us : List Value} (h : ZEU xs us) : ZEU xs.dropLast us.dropLast := by
 induction h with
 | nil => exact .nil
 | cons r t ih =>
  cases t with
  | nil => exact .nil
  | cons q t' => exact .cons r ih
theorem ZPD {α : Type} (l : List α) : l.eraseIdx (l.length - 1) = l.dropLast := by
 induction l with
 | nil => rfl
 | cons a r ih =>
  cases r with
  | nil => rfl
  | cons b r =>
   have e : (a :: b :: r).length - 1 = ((b :: r).length - 1) + 1 := by
    have h1 : (a :: b :: r).length = r.length + 2 := rfl
    have h2 : (b :: r).length = r.length + 1 := rfl
    omega
   rw [e, List.eraseIdx_cons_succ, ih]
   all_goals rfl
section
variable {X : Cx} {pins : List (Addr × Obj)} {σ : St} {H : Hp} {s : Shared} {l b : Addr} {xs ys zs : List V}
theorem Inv.lset {its its' : List Value} {n : Nat} {f : Array Value → Array Value} {t' : Nat} (I : Inv X pins σ H s) (hH : H l = some (.lst xs))
  (e : s.heap.get? l = some { cls := .type "list", data := .seq its.toArray n }) (hf : f its.toArray = its'.toArray) (hv : ZEU ys its') (hz : ys.length ≤ sizeLine) :
  Inv X pins σ (upd H l (.lst ys)) { s with heap := s.heap.update l (Obj.mapSeq f), toks := t' } := by
 have q := PySem.IsL.update e f
 rw [hf] at q
 refine I.write (x := l) (e := l) (by rw [hH]; exact trivial) (.inl rfl) (fun b' u hb hu => (Heap.get?_update_other s.heap (Obj.mapSeq f) (Ne.symm hb)).trans hu) ⟨_, q⟩ ?_
 exact ⟨hz, its', _, hv, q⟩
theorem Inv.lnew {its : List Value} {t' : Nat} (I : Inv X pins σ H s) (hv : ZEU ys its) (hz : ys.length ≤ sizeLine) :
  Inv X pins σ (upd H s.heap.objs.size (.lst ys)) { s with heap := s.heap.push { cls := .type "list", data := .seq its.toArray }, toks := t' } :=
 I.laid (fun _ _ q => Heap.get?_push_of_some _ q) (Nat.le_refl _) ⟨hz, its, 0, hv, Heap.get?_push_size _ rfl⟩
theorem Inv.fresh (I : Inv X pins σ H s) : H s.heap.objs.size = none := I.hok.fresh (Nat.le_refl _)
theorem Inv.lstM (I : Inv X pins σ H s) (hH : H l = some (.lst xs)) : xs.length ≤ sizeLine ∧ ∃ (its : List Value) (n : Nat), ZEU xs its ∧ xs.length = its.length ∧ s.heap.get? l = some { cls := .type "list", data := .seq its.toArray n } := by
 obtain ⟨z, its, n, r, e⟩ := I.hok l _ hH
 exact ⟨z, its, n, r, r.length, e⟩
end
section
variable {X : Cx}
def ZOW : V → List V → Hp → VK → Prop := fun x vs H Q => ∃ l xs y, x = .ref l ∧ vs = [y] ∧ H l = some (.lst xs) ∧ xs.length < sizeLine ∧ Q .non (upd H l (.lst (xs ++ [y])))
theorem ZF5 : MtM X "list.append" ZOW := by
 intro pins s σ H x vs v us Q I rx rv h
 obtain ⟨l, xs, y, rfl, rfl, hH, hz, q⟩ := h
 cases rx
 obtain ⟨u, rfl, ru⟩ := rv.one
 obtain ⟨z, its, n, r, hl, e⟩ := I.lstM hH
 refine call_meets F.slot_list_append ⟨_, e, rfl⟩ F.entry_list_append (F.args_list_append_2 _ _) (PySem.list_append l its.toArray n u (by rw [List.size_toArray]; omega)) ⟨e, ?_⟩
 refine ⟨.non, _, I.lset (its' := its ++ [u]) hH e (by simp) (r.append (.cons ru .nil)) ?_, rfl, q⟩
 rw [List.length_append, List.length_singleton]
 omega
def ZWZ : V → List V → Hp → VK → Prop := fun x vs H Q => ∃ l xs y, x = .ref l ∧ vs = [] ∧ H l = some (.lst xs) ∧ xs[xs.length - 1]? = some y ∧ Q y (upd H l (.lst xs.dropLast))
theorem ZQK : MtM X "list.pop" ZWZ := by
 intro pins s σ H x vs v us Q I rx rv h
 obtain ⟨l, xs, y, rfl, rfl, hH, hy, q⟩ := h
 cases rx
 have hus := rv.zero
 subst hus
 obtain ⟨z, its, n, r, hl, e⟩ := I.lstM hH
 obtain ⟨u, hu, ru⟩ := r.get hy
 have hy' : its.toArray[its.toArray.size - 1]? = some u := by
  show its.toArray[its.length - 1]? = some u
  rw [← Array.getElem?_toList, ← hl]
  exact hu
 refine call_meets F.slot_list_pop ⟨_, e, rfl⟩ F.entry_list_pop (F.args_list_pop_1 _) (MeetsSeq.list_pop_last l its.toArray n u hy' (by rw [List.size_toArray]; omega)) ⟨e, ?_⟩
 refine ⟨y, _, I.lset (its' := its.dropLast) hH e ?_ r.dropLast ?_, ru, q⟩
 ·show its.toArray.eraseIdxIfInBounds (its.toArray.size - 1) = its.dropLast.toArray
  rw [List.size_toArray, List.eraseIdxIfInBounds_toArray, ZPD]
 ·rw [List.length_dropLast]
  omega
def ZWa : R2 := fun x y H Q => ∃ l b xs zs, x = .ref l ∧ y = .ref b ∧ H l = some (.lst xs) ∧ H b = some (.lst zs) ∧ xs.length + zs.length ≤ sizeLine ∧ ∀ p, H p = none → Q (.ref p) (upd H p (.lst (xs ++ zs)))
theorem ZWb : OpR X (binaryOp .Add) ZWa := by
 intro pins s σ H x y v u Q I rx ry h
 obtain ⟨l, b, xs, zs, rfl, rfl, hH, hB, hz, q⟩ := h
 cases rx
 cases ry
 obtain ⟨z, its, n, r, hl, e⟩ := I.lstM hH
 obtain ⟨z2, its2, n2, r2, hl2, e2⟩ := I.lstM hB
 refine PySem.P.add_list e e2 ?_ (by rw [List.size_toArray, List.size_toArray]; omega)
 have ea : its.toArray ++ its2.toArray = (its ++ its2).toArray := by simp
 rw [ea]
 exact ⟨.ref _, _, I.lnew (t' := s.toks) (r.append r2) (by rw [List.length_append]; omega), rfl, q _ I.fresh⟩
end
end L2
namespace Att
open PySem PySem.W PySem.Calls PyProof.Rows
theorem ZK4 {P : Params} {h : Heap} : ∀ (ns : List Int) (vs : List Value), WellAll P h vs (ns.map WData.int) → IntsAre vs ns := by
 intro ns
 induction ns with
 | nil =>
  intro vs w
  rw [List.map_nil] at w
  cases w
  exact .nil
 | cons n ns ih =>
  intro vs w
  rw [List.map_cons] at w
  cases w with
  | cons a b =>
   cases a
   exact .cons _ _ (ih _ b)
theorem ZQL {l : OpenLaw} {n : Nat} (hn : l.most = some n) {P : Params} {h : Heap} {args : List WData} {vals : List Value}
  (hpre : l.row.toRowW.claim.pre args = true) (hwl : WellAll P h vals args) :
  ∃ a vs ns, vals = [Value.ref a] ∧ args = [WData.list (ns.map WData.int)] ∧ h.get? a = some { cls := .type "list", data := .seq vs.toArray } ∧ IntsAre vs ns ∧ ns.length ≤ n := by
 have hsh : WShape.hasAll [] args [.list .int] = true := (pre_splitW hpre).1
 have hc : l.pre.holds [] { args := args } = true := (pre_splitW hpre).2
 obtain ⟨d, r, rfl, h1, h2⟩ := hasAllW_cons hsh
 obtain rfl := hasAllW_nil h2
 obtain ⟨xs, rfl, h3⟩ := hasW_list h1
 obtain ⟨ns, rfl⟩ := items_int h3
 have hlen : ns.length ≤ n := by
  unfold OpenLaw.pre at hc
  have h4 : (WTm.not (.lt (.lit (.int (n : Int))) (.len (.arg 0)))).holds [] { args := [.list (ns.map .int)] } = true := by
   have h4 := (holds_andW hc).1
   rw [hn] at h4
   exact h4
  have h5 := condW_of h4 (w_not (w_lt w_lit (w_len_list (w_arg rfl))))
  rw [List.length_map] at h5
  refine Nat.le_of_not_lt fun q => ?_
  have q' : (n : Int) < ((ns.length : Nat) : Int) := by omega
  first
   | (rw [decide_eq_true q'] at h5; exact absurd h5 (by decide))
   | (simp at h5; omega)
 cases hwl with
 | cons w1 w2 =>
  cases w2
  cases w1 with
  | list ho hall => exact ⟨_, _, ns, rfl, rfl, ho, ZK4 ns _ hall, hlen⟩
theorem ZQM (l : OpenLaw) (args : List WData) : l.row.toRowW.claim.post args (.bool true) args = true :=
 postW_of (r := l.row.toRowW) (X := (true == true))
  (show WShape.has [] (.bool true) .bool = true by first | rfl | decide | simp [WShape.has, WShape.arms, WShape.armsAll])
  (show (WTm.eq .res (.lit (.bool true))).value [] { args := args, res := some (.bool true), after := args } = some (.bool (true == true)) from w_eq_bool (w_res rfl) w_lit) rfl
theorem attach_call {l : OpenLaw} {n : Nat} {q : Program} {loose : List Str} {XP : (Str → Option Value) → Heap → Prop} {YP : World → Heap → Prop} {d : DefRec}
  (hn : l.most = some n) (hdf : d.params.defaults = [])
  (call : ∀ (w : World) (s₀ s₁ : Shared) (mg mb : Str → Option Value) (fa : Addr) (o : Obj) (pm cd doc : Value) (a : Addr) (vs : List Value) (ns : List Int),
   Ground q loose [] XP w s₀ mg mb s₁.heap → YP w s₁.heap →
   s₁.heap.get? fa = some o → o.data = .func (docDef d.name d.params d.body d.scope pm cd doc) → s₁.heap.CodeRec cd d.name → mg d.name = some (.ref fa) →
   s₁.heap.get? a = some { cls := .type "list", data := .seq vs.toArray } → IntsAre vs ns → ns.length ≤ n → s₁.gens = #[] →
   codeAny (model l.prog w) callerA (.call (.ref fa) ⟨[.ref a], []⟩) (fun r s' => r = .ok (.ret (.bool true)) ∧ OldK s₁.heap s'.heap ∧ s'.os = s₁.os ∧ AllBare s'.gens) s₁) :
  WalkO q loose XP YP l.row.toRowW d [] (fun f vs => PySem.call f vs) := by
 intro w s₀ s₁ mg mb G Y fa o pm cd doc dV kV ho hd hcd hD hmg hg args vals as hpre hlay hrd hwl hlo
 obtain rfl : dV = .none := Dflts.none hD hdf
 obtain rfl : kV = .none := Dflts.noKw hD
 obtain ⟨a, vs, ns, rfl, rfl, hobj, hints, hlen⟩ := ZQL hn hpre hwl
 refine enter_call (codeAny_mono (call w s₀ s₁ mg mb fa o pm cd doc a vs ns G Y ho (fd_plain hd) hcd hmg hobj hints hlen hg) fun r s' hq => ?_)
 obtain ⟨rfl, h2, h3, h4⟩ := hq
 exact ⟨.inl ⟨.bool true, .bool true, [], rfl, fun _ => rfl, .bool true, ZQM l _, fun _ => ⟨List.Pairwise.nil, fun _ hm => (nomatch hm)⟩⟩, h2, h3, h4⟩
section
variable {prog : Program} {w : World} {A : Around} {E : Value → Shared → Prop} {s : Shared} {K : Frag}
def ZYL (h : Heap) (L d : Addr) : List (Addr × Obj) := (List.range h.objs.size).filterMap fun a => if a = L ∨ a = d then none else (h.get? a).map fun o => (a, o)
end
end Att
namespace L2
open PySem PySem.Spec PyProof.Rows
theorem ZLs : ∀ {vs : List Value} {ns : List Int}, IntsAre vs ns → ZEU (ns.map V.int) vs
 | _, _, .nil => .nil
 | _, _, .cons n t h => .cons ⟨t, rfl⟩ (ZLs h)
def ZSD (H : Hp) : Prop := ∀ b, H b = none ∨ ∃ o xs, H b = some (.frz o (.lst xs))
theorem ZSE {P : Program} {w : World} {K : W.Frag} {mg mb : Str → Option Value} {CX : CXT} {k : Nat} {fa a : Addr} {fd : FuncData} {x : Str} {sp : Sp} {s₁ : Shared} {vs : List Value} {ns : List Int}
  (KX : K.In s₁.heap) (hns : s₁.heap.Ns mainGlobals mg) (hb : s₁.heap.Ns builtinsNs mb) (hbb : ∀ x : Str, x ≠ "__name__" → mb x = bootBuiltins x) (hlim : s₁.heap.NoLimit) (hg : s₁.gens = #[])
  (ha : s₁.heap.get? a = some { cls := .type "list", data := .seq vs.toArray }) (hi : IntsAre vs ns) (hl : ns.length ≤ sizeLine) (hr : Room k callerA)
  (F : ∀ base : Heap, K.In base → base.Ns mainGlobals mg → ZEM P w K mg base CX k fa fd [x] sp) (hbind : ∀ (s : Shared) (u : Value), BindsTo s fd ⟨[u], []⟩ [(x, u)])
  (hsp : ∀ H : Hp, ZSD H → SqL K H a (ns.map V.int) → sp [.ref a] H (fun v _ => v = .bl true) fun _ _ _ => False)
  (hCX : ∀ H e s', CX [] H s₁ (fun _ _ _ => False) e s' → False) :
  codeAny (model P w) callerA (.call (.ref fa) ⟨[.ref a], []⟩) (fun r s' => r = .ok (.ret (.bool true)) ∧ OldK s₁.heap s'.heap ∧ s'.os = s₁.os ∧ AllBare s'.gens) s₁ := by
 have rv := ZLs hi
 have lenV := hi.length
 -- from an abstract heap in which nothing but the script may be tracked
 have core : ∀ H : Hp, ZSD H → SqL K H a (ns.map V.int) → HOk P w H s₁.heap → (∀ b, H b ≠ none → b = a) → (H a ≠ none → K.lookup a = none) →
   codeAny (model P w) callerA (.call (.ref fa) ⟨[.ref a], []⟩) (fun r s' => r = .ok (.ret (.bool true)) ∧ OldK s₁.heap s'.heap ∧ s'.os = s₁.os ∧ AllBare s'.gens) s₁ := by
  intro H hO hS hok hA hK
  have base_of : ∀ {b : Addr} {o : Obj}, s₁.heap.get? b = some o → H b = none → (ZIo s₁.heap H).get? b = some o := fun e n => ZRb e n
  have noA : ∀ {b : Addr} {o : Obj} {es : Array DictEntry} {ep : Nat}, s₁.heap.get? b = some o → o.data = .dict es ep → H b = none := fun {b o es ep} e d => by
   cases q : H b with
   | none => rfl
   | some u =>
    have e' : b = a := hA b (by rw [q]; simp)
    subst e'
    rw [ha] at e; cases e
    have d' : Data.seq vs.toArray _ = Data.dict es ep := d
    cases d'
  have nsK : ∀ {b : Addr} {m : Str → Option Value}, s₁.heap.Ns b m → (ZIo s₁.heap H).Ns b m := fun {b m} ⟨o, es, ep, e, d, r⟩ => ⟨o, es, ep, base_of e (noA e d), d, r⟩
  have hKb : K.In (ZIo s₁.heap H) := fun b o e => base_of (KX b o e) (by
   cases q : H b with
   | none => rfl
   | some u =>
    have e' : b = a := hA b (by rw [q]; simp)
    subst e'
    rw [hK (by rw [q]; simp)] at e; cases e)
  have hM : Mod K mg (ZIo s₁.heap H) := ⟨hKb, nsK hns, ⟨mb, nsK hb, hbb⟩, let ⟨mc, h1, h2⟩ := hlim; ⟨mc, nsK h1, h2⟩⟩
  have e0 : ZIK P w K mg (ZIo s₁.heap H) callerA [] s₁ H := ⟨rfl, hM, fun b o e => ZT6 e, Nat.le_of_eq (ZP0 _ _), trivial, fun b hb => absurd (show b ∈ ([] : List Addr) from hb) (by simp), hok, .of_eq hg⟩
  refine codeAny_mono ((F _ hKb (nsK hns)).run callerA [] s₁ H ⟨[.ref a], []⟩ [.ref a] [.ref a] _ _ hr e0 (hbind s₁ (.ref a)) (.cons rfl .nil) (hsp H hO hS)) fun r s' h => ?_
  cases r with
  | error e => exact (hCX H e s' h).elim
  | ok fl =>
   cases fl with
   | next => exact False.elim h
   | brk => exact False.elim h
   | cont => exact False.elim h
   | ret u =>
    obtain ⟨v, H', os, bare, un, hok', r', q⟩ := h
    have q' : v = .bl true := q
    subst q'
    obtain rfl : u = Value.bool true := r'
    refine ⟨rfl, OldK.of_keep fun b o e => ?_, os, bare⟩
    cases q : H b with
    | none => exact un.keep b o e q (by intro z; exact absurd (show b ∈ ([] : List Addr) from z) (by simp)) (by simp)
    | some u =>
     rcases hO b with z | ⟨ob, xs, z⟩
     ·rw [q] at z; cases z
     ·have z2 := un.frzs b ob _ z
      obtain ⟨e1, _⟩ := hok b _ z
      obtain ⟨e2, _⟩ := hok' b _ z2
      rw [e] at e1; cases e1
      exact e2
 cases hk : K.lookup a with
 | some o =>
  -- the script is one of the module's own objects
  have e := KX a o hk
  rw [ha] at e
  cases e
  refine core (fun _ => none) (fun _ => .inl rfl) (.inr ⟨_, vs.toArray, _, hk, rfl, rfl, rfl, by rw [List.size_toArray, lenV]; exact hl, by simpa using rv⟩) (fun b u z => by have z' : (none : Option HO) = some u := z; cases z') (fun b z => absurd rfl z) fun z => absurd rfl z
 | none =>
  refine core (fun b => if b = a then some (.frz { cls := .type "list", data := .seq vs.toArray } (.lst (ns.map V.int))) else none) (fun b => ?_) (.inl (.inr ⟨{ cls := .type "list", data := .seq vs.toArray }, if_pos rfl⟩)) (fun b u z => ?_) (fun b z => ?_) fun _ => hk
  ·by_cases hb : b = a
   ·exact .inr ⟨_, _, if_pos hb⟩
   ·exact .inl (if_neg hb)
  ·by_cases hb : b = a
   ·have z' := (if_pos hb).symm.trans z
    cases z'
    subst hb
    exact ⟨ha, by rw [List.length_map]; exact hl, vs, _, rv, ha⟩
   ·have z' := (if_neg hb).symm.trans z
    cases z'
  ·by_cases hb : b = a
   ·exact hb
   ·exact absurd (if_neg hb) z
theorem walk_of {l : PySem.W.OpenLaw} {n k : Nat} {q : Program} {loose : List Str} {XP : (Str → Option Value) → Heap → Prop} {YP : World → Heap → Prop} {d : DefRec} {K : Params → W.Frag} {CX : World → CXT} {sp : World → Sp} {x : Str}
  (hn : l.most = some n) (hn2 : n ≤ sizeLine) (hdf : d.params.defaults = []) (hr : Room k callerA)
  (hY : ∀ (w : World) (h : Heap), YP w h → (K w.params).In h)
  (F : ∀ (w : World) (mg : Str → Option Value) (fa : Addr) (h : Heap), (K w.params).In h → h.Ns mainGlobals mg → mg d.name = some (.ref fa) →
   ∃ fd : FuncData, (∀ (s : Shared) (u : Value), BindsTo s fd ⟨[u], []⟩ [(x, u)]) ∧
    ∀ base : Heap, (K w.params).In base → base.Ns mainGlobals mg → ZEM l.prog w (K w.params) mg base (CX w) k fa fd [x] (sp w))
  (hsp : ∀ (w : World) (H : Hp) (a : Addr) (ns : List Int), ns.length ≤ n → ZSD H → SqL (K w.params) H a (ns.map V.int) → sp w [.ref a] H (fun v _ => v = .bl true) fun _ _ _ => False)
  (hCX : ∀ (w : World) (H : Hp) (s : Shared) (e : Value) (s' : Shared), CX w [] H s (fun _ _ _ => False) e s' → False) :
  PySem.W.WalkO q loose XP YP l.row.toRowW d [] (fun f vs => PySem.call f vs) := by
 refine Att.attach_call hn hdf fun w s₀ s₁ mg mb fa o pm cd doc a vs ns G Y ho hd hcd hmg hobj hints hlen hg => ?_
 have KX := hY w _ Y
 obtain ⟨fd, hb, hF⟩ := F w mg fa _ KX G.T.g hmg
 exact ZSE KX G.T.g G.T.b G.T.builtins G.T.nolimit hg hobj hints (Nat.le_trans hlen hn2) hr hF hb (fun H hO hS => hsp w H a ns hlen hO hS) fun H e s' => hCX w H s₁ e s'
end L2
namespace L2
open PySem PySem.Spec PyProof.Rows
def ZEl (s : Stmt) (j : Nat) : Stmt := match s with
 | .ClassDef _ _ _ body _ _ _ _ _ _ _ => body.getD j (.Pass ⟨0, 0, 0, 0⟩)
 | _ => .Pass ⟨0, 0, 0, 0⟩
def ZFM (s : Stmt) : Arguments := match s with
 | .FunctionDef _ a _ _ _ _ _ _ _ _ => a
 | _ => { posonlyargs := [], args := [], vararg := none, kwonlyargs := [], kw_defaults := [], kwarg := none, defaults := [] }
def ZE6 (s : Stmt) : List Stmt := match s with
 | .FunctionDef _ _ b _ _ _ _ _ _ _ => b
 | _ => []
def ZEE (s : Stmt) : Scope := match s with
 | .FunctionDef _ _ _ _ _ _ sc _ _ _ => sc
 | _ => { kind := .function, names := [], isGenerator := false, isCoroutine := false }
abbrev CX0 : CXT := fun _ _ _ _ _ _ => False
abbrev E0 : XK := fun _ _ _ => False
theorem ZEz {X : Cx} : ZFx CX0 X E0 := fun _ _ _ _ _ _ _ h => h.elim
structure Fun (K : W.Frag) (x qual : Str) (st : Stmt) (f : Addr) (fd : FuncData) : Prop where
 ex : ∃ (oc : Value) (od : Option Addr) (kV doc pm : Value) (an : Option Addr) (cdv ct : Value) (osl : Array (Option Value)),
  fd = W.fnOf x qual (ZFM st) (ZE6 st) (ZEE st) .none kV doc pm an cdv ct ∧ K.lookup f = some ⟨oc, od, .func fd, osl⟩ ∧ W.codeIn K cdv qual = true
 kp : W.keepIn K (.ref f) = true
section
variable {P : Program} {w : World} {K : W.Frag} {mg : Str → Option Value} {base : Heap}
theorem Fun.ok {x qual : Str} {st : Stmt} {f : Addr} {fd : FuncData} {N ps : List Str} {k : Nat} {sp : Sp} (F : Fun K x qual st f fd) (S : ZEJ N ps (ZEE st)) (len : ∀ vs H Q E, sp vs H Q E → vs.length = ps.length)
  (hbody : ∀ (cdv : Value) (A : Around) (outer : List Env) (s : Shared) (H : Hp) (vs : List V) (Q : VK) (E : XK), Room k (A.deeper (envOfC qual (ZEE st) s.heap.objs.size f cdv)) → sp vs H Q E →
   ∃ t, PSs (ZJV CX0 P w K mg base N qual (ZEE st) f cdv A outer s H E).nox (ZE6 st) t ∧ t { nx := fun _ H' => Q .non H', rt := Q } (start N vs) H) : ZEM P w K mg base CX0 (k + 1) f fd ps sp := by
 obtain ⟨oc, od, kV, doc, pm, an, cdv, ct, osl, rfl, lk, hcd⟩ := F.ex
 refine ZO7 lk hcd S len fun A outer s H vs Q E hr hsp => ?_
 obtain ⟨t, h, q⟩ := hbody cdv A outer s H vs Q E hr hsp
 exact ⟨t, h.nox, q⟩
theorem Fun.binds {x qual : Str} {st : Stmt} {f : Addr} {fd : FuncData} {ps : List Str} (F : Fun K x qual st f fd)
  (h : ∀ (kV doc pm : Value) (an : Option Addr) (cdv ct : Value) (us : List Value), us.length = ps.length → bindArgs (W.fnOf x qual (ZFM st) (ZE6 st) (ZEE st) .none kV doc pm an cdv ct) ⟨us, []⟩ = pure (ps.zip us)) : ZEH K fd ps [] := by
 obtain ⟨oc, od, kV, doc, pm, an, cdv, ct, osl, rfl, lk, hcd⟩ := F.ex
 exact .all (h kV doc pm an cdv ct)
theorem fun_mk {x qual : Str} {st : Stmt} {f : Addr} {oc : Value} {od an : Option Addr} {osl : Array (Option Value)} {kV doc pm cdv ct : Value} (l : K.lookup f = some ⟨oc, od, .func (W.fnOf x qual (ZFM st) (ZE6 st) (ZEE st) .none kV doc pm an cdv ct), osl⟩)
 (c : W.codeIn K cdv qual = true) (k : W.keepIn K (.ref f) = true) : Fun K x qual st f (W.fnOf x qual (ZFM st) (ZE6 st) (ZEE st) .none kV doc pm an cdv ct) := ⟨⟨oc, od, kV, doc, pm, an, cdv, ct, osl, rfl, l, c⟩, k⟩
end
theorem ZF9 {A : Around} {k : Nat} (hr : Room k A) : A.units + 1 < cLine := Nat.lt_of_le_of_lt (Nat.add_le_add_left (by decide : 1 ≤ 64) _) hr.units
theorem ZEw {A B : Prop} (h : B) : if false = true then A else B := by
 rw [if_neg Bool.false_ne_true]
 exact h
theorem ZFD {A B : Prop} (h : A) : if true = true then A else B := by
 rw [if_pos rfl]
 exact h
def ZEI (H H' : Hp) : Prop := ∀ b o, H b = some o → H' b = some o
theorem ZEI.refl (H : Hp) : ZEI H H := fun _ _ h => h
theorem ZEI.trans {H H1 H2 : Hp} (a : ZEI H H1) (b : ZEI H1 H2) : ZEI H H2 := fun c o h => b c o (a c o h)
theorem ZEI.seq {K : W.Frag} {H H' : Hp} {a : Addr} {xs : List V} (e : ZEI H H') (h : SqL K H a xs) : SqL K H' a xs := by
 rcases h with (h | ⟨o, h⟩) | h
 ·exact .inl (.inl (e _ _ h))
 ·exact .inl (.inr ⟨o, e _ _ h⟩)
 ·exact .inr h
end L2
namespace L2
open PySem PySem.Spec PyProof.Rows PySem.W
def evT (c : Nat → Nat → Bool) {α : Type} : KasT α → α
 | .ret a => a
 | .ask i j k => evT c (k (c i j))
theorem ZG5 (c : Nat → Nat → Bool) {α β : Type} (f : α → KasT β) : ∀ t : KasT α, evT c (t.bind f) = evT c (f (evT c t))
 | .ret _ => rfl
 | .ask i j k => ZG5 c f (k (c i j))
abbrev gt0 (p : Array Nat) (i : Nat) : Nat := p.getD i 0
section
variable {c : Nat → Nat → Bool} {n : Nat}
structure Ord (c : Nat → Nat → Bool) (n : Nat) : Prop where
 tr : ∀ i j k, c i j = true → c j k = true → c i k = true
 asy : ∀ i j, c i j = true → c j i = false
 tot : ∀ i j, i < n → j < n → i ≠ j → c i j = false → c j i = true
structure Ixs (p : Array Nat) (n : Nat) : Prop where
 size : p.size = n
 lt : ∀ i, i < n → gt0 p i < n
 inj : ∀ i j, i < n → j < n → gt0 p i = gt0 p j → i = j
theorem ZK5 {p : Array Nat} {i v : Nat} (h : p[i]? = some v) : gt0 p i = v := by
 simp [gt0, h]
theorem ZGq {p : Array Nat} {i : Nat} (h : i < p.size) : p[i]? = some (gt0 p i) := by
 simp [gt0, h]
theorem Ixs.of_perm {p : Array Nat} (h : p.toList.Perm (List.range n)) : Ixs p n := by
 have hs : p.size = n := by have := h.length_eq; simpa using this
 refine ⟨hs, fun i hi => ?_, fun i j hi hj e => ?_⟩
 ·have hm : gt0 p i ∈ p.toList := by
   have := ZGq (p := p) (i := i) (by omega)
   exact Array.mem_toList_iff.mpr (Array.mem_of_getElem? this)
  exact List.mem_range.mp (h.mem_iff.mp hm)
 ·have hn : p.toList.Nodup := h.nodup_iff.mpr List.nodup_range
  have h1 : p.toList[i]? = some (gt0 p i) := by rw [Array.getElem?_toList]; exact ZGq (by omega)
  have h2 : p.toList[j]? = some (gt0 p i) := by rw [Array.getElem?_toList, e]; exact ZGq (by omega)
  have hi' : i < p.toList.length := by simp; omega
  have hj' : j < p.toList.length := by simp; omega
  rw [List.getElem?_eq_getElem hi'] at h1
  rw [List.getElem?_eq_getElem hj'] at h2
  have hpw := List.pairwise_iff_getElem.mp (List.nodup_iff_pairwise_ne.mp hn)
  have ee : p.toList[i] = p.toList[j] := by rw [Option.some.inj h1, Option.some.inj h2]
  rcases Nat.lt_trichotomy i j with z | z | z
  ·exact absurd ee (hpw i j hi' hj' z)
  ·exact z
  ·exact absurd ee.symm (hpw j i hj' hi' z)
def Up (c : Nat → Nat → Bool) (p : Array Nat) (m : Nat) : Prop := ∀ a b, a < b → b < m → c (gt0 p a) (gt0 p b) = true
theorem ZKD (O : Ord c n) {p : Array Nat} {m : Nat} (h : ∀ i, 1 ≤ i → i < m → c (gt0 p (i - 1)) (gt0 p i) = true) : Up c p m := by
 intro a b hab hb
 obtain ⟨d, rfl⟩ := Nat.exists_eq_add_of_lt hab
 induction d with
 | zero => have := h (a + 1) (by omega) hb; simpa using this
 | succ d ih =>
  have h1 := ih (by omega) (by omega)
  have h2 := h (a + (d + 1) + 1) (by omega) hb
  have e : a + (d + 1) + 1 - 1 = a + d + 1 := by omega
  rw [e] at h2
  exact O.tr _ _ _ h1 h2
theorem ZK6 (p : Array Nat) : ∀ (f a : Nat), a ≤ evT c (kas_asc p f a) ∧ evT c (kas_asc p f a) ≤ a + f ∧ (∀ i, a ≤ i → i < evT c (kas_asc p f a) → c (gt0 p i) (gt0 p (i - 1)) = false) ∧
  (evT c (kas_asc p f a) = a + f ∨ c (gt0 p (evT c (kas_asc p f a))) (gt0 p (evT c (kas_asc p f a) - 1)) = true)
 | 0, a => ⟨Nat.le_refl _, Nat.le_refl _, fun i h1 h2 => absurd h2 (by show ¬ i < a; omega), .inl rfl⟩
 | f + 1, a => by
  have e : evT c (kas_asc p (f + 1) a) = evT c (if c (gt0 p a) (gt0 p (a - 1)) = true then KasT.ret a else kas_asc p f (a + 1)) := rfl
  rw [e]
  cases hc : c (gt0 p a) (gt0 p (a - 1)) with
  | true =>
   rw [if_pos rfl]
   exact ⟨Nat.le_refl _, Nat.le_add_right _ _, fun i h1 h2 => absurd h2 (by show ¬ i < a; omega), .inr hc⟩
  | false =>
   rw [if_neg (by decide)]
   obtain ⟨h1, h2, h3, h4⟩ := ZK6 p f (a + 1)
   refine ⟨by omega, by omega, fun i g1 g2 => ?_, ?_⟩
   ·by_cases z : i = a
    ·rw [z]; exact hc
    ·exact h3 i (by omega) g2
   ·rcases h4 with h4 | h4
    ·left; omega
    ·right; exact h4
theorem ZOX (O : Ord c n) {p : Array Nat} (P : Ixs p n) : ∀ (f a : Nat), 1 ≤ a → a + f ≤ n → ∃ m, evT c (kas_desc f p a 0) = (p, m, 0) ∧ a ≤ m ∧ m ≤ a + f ∧ ∀ i, a ≤ i → i < m → c (gt0 p i) (gt0 p (i - 1)) = true
 | 0, a, _, _ => ⟨a, rfl, Nat.le_refl _, Nat.le_refl _, fun i h1 h2 => absurd h2 (by omega)⟩
 | f + 1, a, h1, h2 => by
  have e : evT c (kas_desc (f + 1) p a 0) = evT c (if c (gt0 p a) (gt0 p (a - 1)) = true then (if 0 > 0 then kas_desc f (kas_rev p (a - (0 + 1)) a) (a + 1) 0 else kas_desc f p (a + 1) 0)
   else .ask (p.getD (a - 1) 0) (p.getD a 0) fun d => if d = true then .ret (p, a, 0) else kas_desc f p (a + 1) (0 + 1)) := rfl
  rw [e]
  cases hc : c (gt0 p a) (gt0 p (a - 1)) with
  | true =>
   rw [if_pos rfl, if_neg (by decide)]
   obtain ⟨m, g1, g2, g3, g4⟩ := ZOX O P f (a + 1) (by omega) (by omega)
   refine ⟨m, g1, by omega, by omega, fun i k1 k2 => ?_⟩
   by_cases z : i = a
   ·rw [z]; exact hc
   ·exact g4 i (by omega) k2
  | false =>
   rw [if_neg (by decide)]
   have hd : c (gt0 p (a - 1)) (gt0 p a) = true := O.tot _ _ (P.lt _ (by omega)) (P.lt _ (by omega)) (fun z => by have := P.inj _ _ (by omega) (by omega) z; omega) hc
   have e2 : evT c (KasT.ask (p.getD (a - 1) 0) (p.getD a 0) fun d => if d = true then KasT.ret (p, a, 0) else kas_desc f p (a + 1) (0 + 1)) = evT c (if c (gt0 p (a - 1)) (gt0 p a) = true then KasT.ret (p, a, 0) else kas_desc f p (a + 1) (0 + 1)) := rfl
   rw [e2, hd, if_pos rfl]
   exact ⟨a, rfl, Nat.le_refl _, by omega, fun i k1 k2 => absurd k2 (by omega)⟩
theorem ZMp (p : Array Nat) (i j : Nat) : (kas_rev p i j).toList.Perm p.toList := Array.perm_iff_toList_perm.mp (mirror_perm p i j _)
theorem ZOY {p : Array Nat} {m : Nat} (hm : m ≤ p.size) (k : Nat) (hk : k < m) : gt0 (kas_rev p 0 m) k = gt0 p (m - 1 - k) := by
 refine ZK5 ?_
 have e : (kas_rev p 0 m)[k]? = if 0 ≤ k ∧ k < m then p[0 + m - 1 - k]? else p[k]? := getElem?_mirror_all (i := 0) hm k
 rw [e, if_pos ⟨by omega, hk⟩]
 have e2 : 0 + m - 1 - k = m - 1 - k := by omega
 rw [e2]
 exact ZGq (by omega)
theorem ZOZ (O : Ord c n) {p : Array Nat} (P : Ixs p n) {m f : Nat} (h1 : 1 ≤ m) (h : Up c p m) (hf : m + f ≤ n) : Up c p (evT c (kas_asc p f m)) := by
 obtain ⟨g1, g2, g3, _⟩ := ZK6 (c := c) p f m
 refine ZKD O fun i hi1 hi2 => ?_
 by_cases z : i < m
 ·exact h (i - 1) i (by omega) z
 ·have := g3 i (by omega) hi2
  exact O.tot _ _ (P.lt _ (by omega)) (P.lt _ (by omega)) (fun e => by have := P.inj _ _ (by omega) (by omega) e; omega) this
theorem ZSF (O : Ord c n) {p : Array Nat} (hp : p.toList.Perm (List.range n)) (hn : 1 ≤ n) : (evT c (kas_count n p)).2.toList.Perm (List.range n) ∧ 1 ≤ (evT c (kas_count n p)).1 ∧ (evT c (kas_count n p)).1 ≤ n ∧ Up c (evT c (kas_count n p)).2 (evT c (kas_count n p)).1 := by
 have P := Ixs.of_perm hp
 unfold kas_count
 rw [ZG5]
 obtain ⟨g1, g2, g3, g4⟩ := ZK6 (c := c) p (n - 1) 1
 have hup := ZOZ O P (m := 1) (f := n - 1) (Nat.le_refl _) (fun a b h1 h2 => by omega) (by omega)
 generalize hm : evT c (kas_asc p (n - 1) 1) = m at *
 by_cases h1 : (m == n) = true
 ·rw [if_pos h1]
  exact ⟨hp, g1, by show m ≤ n; omega, hup⟩
 ·rw [if_neg h1]
  have hmn : m < n := by
   have : m ≠ n := fun z => h1 (by simp [z])
   omega
  by_cases h2 : m > 1
  ·rw [if_pos h2]
   have hc : c (gt0 p 0) (gt0 p (m - 1)) = true := hup 0 (m - 1) (by omega) (by omega)
   have e : evT c (KasT.ask (p.getD 0 0) (p.getD (m - 1) 0) fun c => if c = true then KasT.ret (m, p) else kas_descPart m n (kas_rev p 0 m)) = evT c (if c (gt0 p 0) (gt0 p (m - 1)) = true then KasT.ret (m, p) else kas_descPart m n (kas_rev p 0 m)) := rfl
   rw [e, hc, if_pos rfl]
   exact ⟨hp, by show 1 ≤ m; omega, by show m ≤ n; omega, hup⟩
  ·rw [if_neg h2]
   have hm1 : m = 1 := by omega
   subst hm1
   have h10 : c (gt0 p 1) (gt0 p 0) = true := by
    rcases g4 with g4 | g4
    ·omega
    ·exact g4
   unfold kas_descPart
   rw [ZG5]
   obtain ⟨m, k1, k2, k3, k4⟩ := ZOX O P (n - (1 + 1)) (1 + 1) (by omega) (by omega)
   rw [k1]
   rw [if_neg (show ¬ ((p, m, 0) : Array Nat × Nat × Nat).2.2 > 0 by show ¬ 0 > 0; omega)]
   show (evT c (kas_tail3 m n p)).2.toList.Perm (List.range n) ∧ _
   unfold kas_tail3
   rw [ZG5]
   have hrp : (kas_rev p 0 m).toList.Perm (List.range n) := (ZMp p 0 m).trans hp
   have R := Ixs.of_perm hrp
   have hupr : Up c (kas_rev p 0 m) m := by
    refine ZKD O fun i hi1 hi2 => ?_
    rw [ZOY (by rw [P.size]; omega) _ (by omega), ZOY (by rw [P.size]; omega) _ hi2]
    have e : m - 1 - (i - 1) = m - i := by omega
    have e2 : m - 1 - i = m - i - 1 := by omega
    rw [e, e2]
    by_cases z : m - i = 1
    ·rw [z]; exact h10
    ·exact k4 (m - i) (by omega) (by omega)
   have hfin := ZOZ O R (m := m) (f := n - m) (by omega) hupr (by omega)
   obtain ⟨q1, q2, _, _⟩ := ZK6 (c := c) (kas_rev p 0 m) (n - m) m
   exact ⟨hrp, by show 1 ≤ evT c _; omega, by show evT c _ ≤ n; omega, hfin⟩
theorem ZKS (O : Ord c n) {p : Array Nat} (P : Ixs p n) {k : Nat} (hk : k < n) (h : Up c p k) : ∀ (f l r : Nat), l ≤ r → r ≤ k → r - l ≤ f → (∀ i, i < l → c (gt0 p i) (gt0 p k) = true) → (∀ i, r ≤ i → i < k → c (gt0 p k) (gt0 p i) = true) →
  ∃ m, evT c (kas_place p k f l r) = m ∧ m ≤ k ∧ (∀ i, i < m → c (gt0 p i) (gt0 p k) = true) ∧ (∀ i, m ≤ i → i < k → c (gt0 p k) (gt0 p i) = true)
 | 0, l, r, h1, h2, h3, h4, h5 => ⟨l, rfl, by omega, h4, fun i g1 g2 => h5 i (by omega) g2⟩
 | f + 1, l, r, h1, h2, h3, h4, h5 => by
  by_cases hlr : l ≥ r
  ·have e : evT c (kas_place p k (f + 1) l r) = l := by
    show evT c (if l ≥ r then KasT.ret l else _) = l
    rw [if_pos hlr]
    rfl
   exact ⟨l, e, by omega, h4, fun i g1 g2 => h5 i (by omega) g2⟩
  ·have e : evT c (kas_place p k (f + 1) l r) = evT c (if c (gt0 p k) (gt0 p ((l + r) / 2)) = true then kas_place p k f l ((l + r) / 2) else kas_place p k f ((l + r) / 2 + 1) r) := by
    show evT c (if l ≥ r then KasT.ret l else _) = _
    rw [if_neg hlr]
    rfl
   rw [e]
   cases hc : c (gt0 p k) (gt0 p ((l + r) / 2)) with
   | true =>
    rw [if_pos rfl]
    refine ZKS O P hk h f l ((l + r) / 2) (by omega) (by omega) (by omega) h4 fun i g1 g2 => ?_
    by_cases z : i = (l + r) / 2
    ·rw [z]; exact hc
    ·exact O.tr _ _ _ hc (h ((l + r) / 2) i (by omega) g2)
   | false =>
    rw [if_neg (by decide)]
    have hd : c (gt0 p ((l + r) / 2)) (gt0 p k) = true := O.tot _ _ (P.lt _ hk) (P.lt _ (by omega)) (fun z => by have := P.inj _ _ hk (by omega) z; omega) hc
    refine ZKS O P hk h f ((l + r) / 2 + 1) r (by omega) h2 (by omega) (fun i g1 => ?_) h5
    by_cases z : i = (l + r) / 2
    ·rw [z]; exact hd
    ·exact O.tr _ _ _ (h i ((l + r) / 2) (by omega) (by omega)) hd
theorem ZOa {p : Array Nat} {k l : Nat} (hk : k < p.size) (hl : l ≤ k) (i : Nat) (hi : i < p.size) : gt0 (bubble p k (k - l)) i = if i = l then gt0 p k else if l < i ∧ i ≤ k then gt0 p (i - 1) else gt0 p i := by
 refine ZK5 ?_
 rw [getElem?_bubble hk (k - l) (by omega)]
 have e : k - (k - l) = l := by omega
 rw [e]
 by_cases h1 : i = l
 ·rw [if_pos h1, if_pos h1]; exact ZGq hk
 ·rw [if_neg h1, if_neg h1]
  by_cases h2 : l < i ∧ i ≤ k
  ·rw [if_pos h2, if_pos h2]; exact ZGq (by omega)
  ·rw [if_neg h2, if_neg h2]; exact ZGq hi
theorem ZQN (O : Ord c n) : ∀ (f : Nat) (p : Array Nat) (k : Nat), p.toList.Perm (List.range n) → k + f = n → Up c p k → (evT c (kas_bin f p k)).toList.Perm (List.range n) ∧ Up c (evT c (kas_bin f p k)) n
 | 0, p, k, hp, hk, h => by
  have e : k = n := by omega
  refine ⟨hp, ?_⟩
  show Up c p n
  rw [← e]
  exact h
 | f + 1, p, k, hp, hk, h => by
  have P := Ixs.of_perm hp
  show (evT c ((kas_place p k k 0 k).bind fun l => kas_bin f (bubble p k (k - l)) (k + 1))).toList.Perm (List.range n) ∧ Up c (evT c ((kas_place p k k 0 k).bind fun l => kas_bin f (bubble p k (k - l)) (k + 1))) n
  rw [ZG5]
  obtain ⟨m, e, g1, g2, g3⟩ := ZKS O P (k := k) (by omega) h k 0 k (by omega) (Nat.le_refl _) (by omega) (fun i hi => by omega) (fun i h1 h2 => by omega)
  rw [e]
  refine ZQN O f (bubble p k (k - m)) (k + 1) ((Array.perm_iff_toList_perm.mp (bubble_perm p k _)).trans hp) (by omega) fun a b hab hb => ?_
  rw [ZOa (by rw [P.size]; omega) g1 a (by rw [P.size]; omega), ZOa (by rw [P.size]; omega) g1 b (by rw [P.size]; omega)]
  by_cases ha : a = m
  ·rw [if_pos ha, if_neg (by omega), if_pos ⟨by omega, by omega⟩]
   exact g3 (b - 1) (by omega) (by omega)
  ·rw [if_neg ha]
   by_cases hb2 : b = m
   ·rw [if_pos hb2, if_neg (by omega)]
    exact g2 a (by omega)
   ·rw [if_neg hb2]
    by_cases ha3 : m < a ∧ a ≤ k
    ·rw [if_pos ha3, if_pos ⟨by omega, by omega⟩]
     exact h (a - 1) (b - 1) (by omega) (by omega)
    ·rw [if_neg ha3]
     by_cases hb3 : m < b ∧ b ≤ k
     ·rw [if_pos hb3]
      by_cases z : a = b - 1
      ·omega
      ·exact h a (b - 1) (by omega) (by omega)
     ·rw [if_neg hb3]
      exact h a b hab (by omega)
theorem ZUY (O : Ord c n) (hn : 1 ≤ n) : (evT c (kas_sort n)).toList.Perm (List.range n) ∧ Up c (evT c (kas_sort n)) n := by
 unfold kas_sort
 rw [ZG5]
 obtain ⟨h1, h2, h3, h4⟩ := ZSF O (p := List.toArray (List.range n)) (List.Perm.refl _) hn
 generalize evT c (kas_count n (List.toArray (List.range n))) = r at *
 by_cases h : r.1 < n
 ·rw [if_pos h]
  have e : max r.1 1 = r.1 := by omega
  rw [e]
  exact ZQN O (n - r.1) r.2 r.1 h1 (by omega) h4
 ·rw [if_neg h]
  refine ⟨h1, ?_⟩
  have e : r.1 = n := by omega
  rw [e] at h4
  exact h4
end
section
variable {X : Cx}
theorem ZEr : OpR X (binaryOp .Mult) (rI IntMulOk fun i j => .int (i * j)) := opI fun _ _ _ _ _ _ _ hc q => mul_int q hc
def ZH7 (_ j : Int) : Prop := 0 < j ∧ j.natAbs.log2 < 9000
theorem ZGS : OpR X (binaryOp .FloorDiv) (rI ZH7 fun i j => .int (i / j)) := opI fun i j _ _ _ _ _ hc q => by
 have h1 : (0 : Int) < j := hc.1
 exact floordiv_int (by omega) (by rw [Int.fdiv_eq_ediv_of_nonneg i (by omega)]; exact q) (.inl (PyProof.noPylong_of_log2 hc.2))
theorem ZH7.of {i j : Int} (h : 0 < j) {k : Nat} (h2 : j < 2 ^ k) (hk : k ≤ 9000) : ZH7 i j := by
 refine ⟨h, ?_⟩
 have h3 : j.natAbs < 2 ^ k := by
  have e : ((j.natAbs : Nat) : Int) = j := by omega
  have e2 : ((2 ^ k : Nat) : Int) = (2 : Int) ^ k := by simp
  have : ((j.natAbs : Nat) : Int) < ((2 ^ k : Nat) : Int) := by rw [e, e2]; exact h2
  exact Int.ofNat_lt.mp this
 have h4 : j.natAbs.log2 < k := (Nat.log2_lt (by omega)).mpr h3
 omega
theorem ZX8 {i j : Int} (h1 : -(2 ^ 64) < i) (h2 : i < 2 ^ 64) : IntMulOk i j := .of_left (intBits_le_64 h1 h2)
theorem ZX9 {i j : Int} (h1 : -(2 ^ 64) < j) (h2 : j < 2 ^ 64) : IntMulOk i j := .of_right (intBits_le_64 h1 h2)
def ZSG (K : W.Frag) : List V → Hp → VK → Prop := fun xs H Q => ∃ x n t b, xs = [x, .ty n] ∧ ZGw K H x t ∧ W.kitOne K t (.type n) = some b ∧ Q (.bl b) H
theorem ZSH : ZFG X (.builtin "isinstance") (ZSG X.K) := by
 intro pins s σ H xs us Q I r h
 obtain ⟨x, n, t, b, rfl, ty, e, q⟩ := h
 obtain ⟨u, v, rfl, ru, rv⟩ := r.two
 obtain rfl : v = Value.type n := rv
 exact ZQE I ru ty e fun tk => ⟨.bl b, H, I.tok _, rfl, q⟩
end
theorem ZME {l : List (Str × Addr)} {x : Str} {c : Addr} (h : (x, c) ∈ l) : ∃ d, l.lookup x = some d := by
 induction l with
 | nil => cases h
 | cons p r ih =>
  obtain ⟨y, d⟩ := p
  cases hx : x == y with
  | true => exact ⟨d, by simp [List.lookup_cons, hx]⟩
  | false =>
   have hr : (x, c) ∈ r := by
    rcases List.mem_cons.mp h with e | e
    ·cases e
     simp at hx
    ·exact e
   obtain ⟨d', e⟩ := ih hr
   exact ⟨d', by simp only [List.lookup_cons, hx]; exact e⟩
theorem ZHp {env : Env} : ∀ (names : List (Str × NameKind)) (acc : List (Str × Addr)), (∀ y ∈ names, y.2 = NameKind.free → ∃ c, env.cells.lookup y.1 = some c) → (∀ p ∈ acc, env.cells.lookup p.1 = some p.2) →
  ∃ cl : List (Str × Addr), (forIn names acc fun (x : Str × NameKind) (r : List (Str × Addr)) => (match x with | (name, kind) => if (kind == NameKind.free) = true then (do let a ← cellOf env name; pure (ForInStep.yield ((name, a) :: r))) else pure (ForInStep.yield r) : Sem (ForInStep (List (Str × Addr))))) = pure cl
   ∧ (∀ p ∈ cl, env.cells.lookup p.1 = some p.2) ∧ (∀ p ∈ acc, p ∈ cl) ∧ ∀ y ∈ names, y.2 = NameKind.free → ∃ c, (y.1, c) ∈ cl
 | [], acc, _, ha => ⟨acc, by simp, ha, fun _ h => h, fun y h => by cases h⟩
 | (n, k) :: r, acc, h, ha => by
  by_cases hk : k = NameKind.free
  ·subst hk
   obtain ⟨c, hc⟩ := h (n, .free) List.mem_cons_self rfl
   obtain ⟨cl, e, h1, h2, h3⟩ := ZHp r ((n, c) :: acc) (fun y hy => h y (List.mem_cons_of_mem _ hy)) (fun p hp => by
    rcases List.mem_cons.mp hp with rfl | hp
    ·exact hc
    ·exact ha p hp)
   refine ⟨cl, ?_, h1, fun p hp => h2 p (List.mem_cons_of_mem _ hp), fun y hy hf => ?_⟩
   ·rw [List.forIn_cons]
    simp only [beq_self_eq_true, if_true, cellOf, hc, pure_bind]
    exact e
   ·rcases List.mem_cons.mp hy with rfl | hy
    ·exact ⟨c, h2 _ List.mem_cons_self⟩
    ·exact h3 y hy hf
  ·obtain ⟨cl, e, h1, h2, h3⟩ := ZHp r acc (fun y hy => h y (List.mem_cons_of_mem _ hy)) ha
   have hb : (k == NameKind.free) = false := by simpa using hk
   refine ⟨cl, ?_, h1, h2, fun y hy hf => ?_⟩
   ·rw [List.forIn_cons]
    simp only [hb, Bool.false_eq_true, if_false, pure_bind]
    exact e
   ·rcases List.mem_cons.mp hy with rfl | hy
    ·exact absurd hf hk
    ·exact h3 y hy hf
theorem ZPE {scope : Scope} {env : Env} (h : ∀ y ∈ scope.names, y.2 = NameKind.free → ∃ c, env.cells.lookup y.1 = some c) :
  ∃ cl, closureFor scope env = pure cl ∧ (∀ x c, cl.lookup x = some c → env.cells.lookup x = some c) ∧ ∀ y ∈ scope.names, y.2 = .free → ∃ c, cl.lookup y.1 = some c := by
 obtain ⟨cl, e, h1, _, h3⟩ := ZHp scope.names [] h (fun p hp => by cases hp)
 refine ⟨cl, ?_, fun x c hx => h1 (x, c) (PySem.mem_of_lookup hx), fun y hy hf => ?_⟩
 ·simp only [closureFor]
  rw [e]
  rfl
 ·obtain ⟨c, hc⟩ := h3 y hy hf
  exact ZME hc
theorem ZIZ {env : Env} : ∀ (names : List (Str × NameKind)) (x : Str),
  (names.map fun (n, k) => if (k == NameKind.free && env.scope.kind == .function && env.kindOf n == some .cell) then (n, NameKind.cell) else (n, k)).lookup x =
   (names.lookup x).map fun k => if (k == NameKind.free && env.scope.kind == .function && env.kindOf x == some .cell) then NameKind.cell else k
 | [], _ => rfl
 | (n, k) :: r, x => by
  have ih := ZIZ (env := env) r x
  show List.lookup x ((if (k == NameKind.free && env.scope.kind == .function && env.kindOf n == some .cell) = true then (n, NameKind.cell) else (n, k)) :: _) = _
  cases hx : x == n with
  | true =>
   have e : x = n := eq_of_beq hx
   subst e
   by_cases hc : (k == NameKind.free && env.scope.kind == .function && env.kindOf x == some .cell) = true
   ·rw [if_pos hc]
    simp only [List.lookup_cons, beq_self_eq_true, Option.map_some]
    rw [if_pos hc]
   ·rw [if_neg hc]
    simp only [List.lookup_cons, beq_self_eq_true, Option.map_some]
    rw [if_neg hc]
  | false =>
   by_cases hc : (k == NameKind.free && env.scope.kind == .function && env.kindOf n == some .cell) = true
   ·rw [if_pos hc]; simp only [List.lookup_cons, hx]; exact ih
   ·rw [if_neg hc]; simp only [List.lookup_cons, hx]; exact ih
structure ZQO (N : List Str) (sc : Scope) (own caps : List Str) (ks : List Nat) (scope : Scope) : Prop where
 kind : scope.kind = .function
 nocell : ∀ y ∈ scope.names, y.2 ≠ .cell
 names : ∀ y ∈ scope.names, y.2 = .local → scope.names.lookup y.1 = some .local
 free : ∀ y ∈ scope.names, y.2 = .free → sc.names.lookup y.1 = some .cell
 nd : (own ++ caps).Nodup
 cap : ks.map (fun k => N[k]?) = caps.map some
 fr : ∀ x ∈ caps, scope.names.lookup x = some .free
def ZFj (X : Cx) (N' : List Str) (scope : Scope) (cl : List (Str × Addr)) (C : Addr) (s₂ : Shared) (H₂ : Hp) (fp : List Addr) : Cx :=
 { X with N := N', s₀ := s₂, H₀ := H₂, env := compEnvC scope cl C X.env, outer := X.stack, stack := X.stack, ex := fp, fn := fun _ => false, pn := [], xe := fun _ _ => False }
def ZIp (own : Nat) (ks : List Nat) (σ : St) : St := List.replicate own none ++ ks.map fun k => (σ[k]?).join
section
variable {prog : Program} {w : World} {A : Around} {R : Result → Shared → Prop} {s : Shared}
theorem ZIq {elt target iter : Expr} {ifs : List Expr} {scope : Scope} {pos : Pos} {it acc : Value} {env : Env} (I : Nat → Shared → Prop)
  (turn : ∀ n s, I n s → wpAny (model prog w) A (pyNext it) (fun r s₁ => match r with
   | none => R (.ok .next) s₁
   | some v => wpAny (model prog w) A (letOwnedTupleGo target it v) (fun _ s₁' => wpAny (model prog w) A (assign target env v) (fun _ s₂ =>
    wpAny (model prog w) A (forIn ifs true fun c r => if r = true then do let ok ← isTrue c env (eval c env); pure (ForInStep.yield ok) else pure (ForInStep.yield r)) (fun ok s₃ =>
     if ok = true then wpAny (model prog w) A (eval elt env) (fun x s₄ =>
      wpAny (model prog w) A (call (.builtin "list.append") [acc, x]) (fun _ s₅ => ∃ m, m < n ∧ I m s₅) (notedBy (model prog w) A env fun e s' => R (.error e) s') s₄) (notedBy (model prog w) A env fun e s' => R (.error e) s') s₃
     else ∃ m, m < n ∧ I m s₃) (notedBy (model prog w) A env fun e s' => R (.error e) s') s₂) (notedBy (model prog w) A env fun e s' => R (.error e) s') s₁') (notedBy (model prog w) A env fun e s' => R (.error e) s') s₁) (notedBy (model prog w) A env fun e s' => R (.error e) s') s)
  (n : Nat) (h : I n s) :
  codeAny (model prog w) A (.compLoop (.ListComp elt [⟨target, iter, ifs, 0⟩] scope pos) 0 it acc env) R s := by
 refine codeAny_loop rfl I (fun n s hI => ?_) n h
 show wpAny _ A ((compTurn (.ListComp elt [⟨target, iter, ifs, 0⟩] scope pos) 0 it acc env).onRaise (fun x => do noteFrame x env; theTreesLotGoes x)) _ _ s
 refine wpAny_noted ?_
 rw [compTurn_list]
 refine wpAny_bind (wpAny_standAt (wpAny_bind (wpAny_mono (turn n s hI) (fun r s₁ h₁ => ?_) fun _ _ h' => h')))
 cases r with
 | none => exact wpAny_pure h₁
 | some v =>
  refine wpAny_bind (wpAny_mono h₁ (fun _ s₁' h₁' => ?_) fun _ _ h' => h')
  refine wpAny_bind (wpAny_mono h₁' (fun _ s₂ h₂ => wpAny_bind (wpAny_mono h₂ (fun ok s₃ h₃ => ?_) fun _ _ h' => h')) fun _ _ h' => h')
  cases ok with
  | false => exact wpAny_pure ⟨rfl, h₃⟩
  | true =>
   exact wpAny_bind (wpAny_bind (wpAny_mono h₃ (fun x s₄ h₄ => wpAny_bind (wpAny_mono h₄ (fun _ s₅ h₅ => wpAny_pure (wpAny_pure ⟨rfl, h₅⟩)) fun _ _ h' => h')) fun _ _ h' => h'))
end
def ZPF (X : Cx) (ifs : List Expr) (t : TT) : Prop :=
 ∀ (pins : List (Addr × Obj)) (s : Shared) (σ : St) (H : Hp) (Q : Bool → Hp → Prop), Inv X pins σ H s → t σ H Q →
  wpAny (model X.prog X.w) X.A (forIn ifs true fun c r => if r = true then do let ok ← isTrue c X.env (eval c X.env); pure (ForInStep.yield ok) else pure (ForInStep.yield r)) (TP X pins σ Q) X.xe s
def ZPG : TT := fun _ H Q => Q true H
section
variable {X : Cx}
theorem ZSI : ZPF X [] ZPG := fun _ _ _ H _ I h => wpAny_tests_nil ⟨H, I, h⟩
theorem ZSJ {c : Expr} {t : TT} (hc : PT X c t) : ZPF X [c] t := fun pins s σ H Q I h => wpAny_tests_one (hc pins s σ H Q I h)
def ZPH (own : Nat) (ks : List Nat) (wi : TI) (g : TG) (tt : TT) (te : TE) : TE := fun σ H Q => wi σ H fun J H1 => ∀ l, H1 l = none →
 ∃ W : Nat → Nat → St → Hp → Prop, (∃ m, W 0 m (ZIp own ks σ) (upd H1 l (.lst []))) ∧ ∀ i m σ' H', W i m σ' H' →
  (J.stop i H' ∧ Q (.ref l) H') ∨ (J.go i H' ∧ ∃ N : St → Hp → Prop, (∀ σ2 H2, N σ2 H2 → ∃ m', m' < m ∧ W (i + 1) m' σ2 H2) ∧
   ∀ x H'', J.yld i H' x H'' → g x σ' H'' fun σ2 H2 => tt σ2 H2 fun b H3 =>
    if b = true then te σ2 H3 fun v H4 => ∃ xs, H4 l = some (.lst xs) ∧ xs.length < sizeLine ∧ N σ2 (upd H4 l (.lst (xs ++ [v]))) else N σ2 H3)
theorem ZQP {α : Type} {o : Option (Option α)} {v : α} (h : o.join = some v) : o = some (some v) := by
 cases o with
 | none => cases h
 | some x => exact congrArg some h
theorem ZUZ {N : List Str} {sc : Scope} {own caps : List Str} {ks : List Nat} {elt tg iter : Expr} {ifs : List Expr} {scope : Scope} {pos : Pos} {wi : TI} {g : TG} {tt : TT} {te : TE}
  (hN : X.N = N) (hsc : X.env.scope = sc) (hc : X.calm = true) (S : ZQO N sc own caps ks scope) (hi : PI X tg iter wi)
  (hg : ∀ cl C s₂ H₂ fp, PG (ZFj X (own ++ caps) scope cl C s₂ H₂ fp) tg g)
  (ht : ∀ cl C s₂ H₂ fp, ZPF (ZFj X (own ++ caps) scope cl C s₂ H₂ fp) ifs tt)
  (he : ∀ cl C s₂ H₂ fp, PE (ZFj X (own ++ caps) scope cl C s₂ H₂ fp) elt te)
  (hs : ∀ x, foldedSetIterable iter X.env x = pure x := by intro _; rfl) :
  PE X (.ListComp elt [⟨tg, iter, ifs, 0⟩] scope pos) (ZPH own.length ks wi g tt te) := by
 intro pins s σ H Q I h
 subst hN hsc
 rw [eval_ListComp]
 obtain ⟨cl, hclos, hcl, hclf⟩ := ZPE (scope := scope) (env := X.env) fun y hy hf => I.ok.has y.1 (.inl (S.free y hy hf))
 refine wpAny_comprehension_free (use := none) rfl hs hclos S.kind S.names (wpAny_mono (hi pins s σ H _ I h) (fun xv s₁ h₁ => wpAny_mono h₁ (fun it s₂ h₂ => ?_) fun _ _ e => e) fun _ _ e => e)
 obtain ⟨it, fp, tn, J, H2, e, I2, T, st2, f2, q⟩ := h₂
 subst e
 refine wpAny_newObj_type (wpAny_newFunctionEnv S.nocell (by intro y hy; simp at hy) (fun h₁ hns₁ hsb₁ => ?_) S.kind)
 dsimp only at hns₁ hsb₁ ⊢
 generalize hH2 : s₂.heap.push { cls := .type "list", dict := none, data := .seq ([] : List Value).toArray } = HP at hns₁ hsb₁ ⊢
 have hC : HP.objs.size = s₂.heap.objs.size + 1 := by rw [← hH2, Heap.size_push]
 have hDC : s₂.heap.objs.size ≠ HP.objs.size := by rw [hC]; exact Nat.ne_of_lt (Nat.lt_succ_self _)
 have hCle : s₂.heap.objs.size ≤ HP.objs.size := by rw [hC]; exact Nat.le_succ _
 have old : ∀ b o, s₂.heap.get? b = some o → h₁.get? b = some o := fun b o e => by
  have hb : b < s₂.heap.objs.size := Heap.lt_size e
  exact hsb₁.extBut b o (by rw [hC]; exact Nat.ne_of_lt (Nat.lt_succ_of_lt hb)) (Heap.get?_push_of_some _ (hH2 ▸ Heap.get?_push_of_some _ e))
 have hacc : h₁.get? s₂.heap.objs.size = some { cls := .type "list", dict := none, data := .seq ([] : List Value).toArray } := hsb₁.extBut _ _ hDC (Heap.get?_push_of_some _ (hH2 ▸ Heap.get?_push_size _ rfl))
 have fpl : ∀ b ∈ fp, b < s₂.heap.objs.size := fun b hb => by
  obtain ⟨o, e, _⟩ := T.obj _ _ st2 b hb
  exact Heap.lt_size e
 have hfD : H2 s₂.heap.objs.size = none := I2.hok.fresh (Nat.le_refl _)
 obtain ⟨W, ⟨m0, w0⟩, turn⟩ := q s₂.heap.objs.size hfD
 have hkr : ∀ x, (compEnvC scope cl HP.objs.size X.env).kindOf x = (scope.names.lookup x).map fun k => if (k == NameKind.free && X.env.scope.kind == .function && X.env.kindOf x == some .cell) then NameKind.cell else k := fun x => ZIZ (env := X.env) scope.names x
 have cellOfN : ∀ x, scope.names.lookup x = some .free → X.env.kindOf x = some .cell := fun x e => S.free (x, .free) (PySem.mem_of_lookup e) rfl
 -- the context within
 have ok : (ZFj X (own ++ caps) scope cl HP.objs.size s₂ H2 fp).Ok := by
  refine ⟨I2.ok.mod, S.kind, I2.ok.glob, I2.ok.blt, hCle, fun x y c e1 e2 => I2.ok.inj x y c (hcl x c e1) (hcl y c e2), fun x hx => ?_, fun x c z => (by cases z), I2.ok.hd, I2.ok.frames, .inl rfl, fun b hb => ⟨?_, fun x c e => (f2 b hb).2.2.2.2.1 x c (hcl x c e)⟩,
   I2.bs, Nat.le_trans I2.ok.bsz I2.sz, fun b o e hb => ?_, fun b hb z => ?_, I2.stack, I2.stkFree⟩
  ·have hx' : (scope.names.lookup x).map (fun k => if (k == NameKind.free && X.env.scope.kind == .function && X.env.kindOf x == some .cell) then NameKind.cell else k) = some .cell ∨
     (scope.names.lookup x).map (fun k => if (k == NameKind.free && X.env.scope.kind == .function && X.env.kindOf x == some .cell) then NameKind.cell else k) = some .free := by rw [← hkr x]; exact hx
   cases e : scope.names.lookup x with
   | none => rw [e] at hx'; rcases hx' with z | z <;> cases z
   | some k =>
    have hm := PySem.mem_of_lookup e
    have hk : k = .free := by
     by_cases hkf : k = .free
     ·exact hkf
     ·have hb : (k == NameKind.free) = false := by simpa using hkf
      rw [e] at hx'
      simp only [Option.map_some, hb, Bool.false_and, Bool.false_eq_true, if_false, Option.some.injEq] at hx'
      rcases hx' with z | z
      ·exact absurd z (S.nocell _ hm)
      ·exact z
    exact hclf _ hm hk
  ·exact Nat.ne_of_lt (Nat.lt_of_lt_of_le (fpl b hb) hCle)
  ·rcases (f2 b hb).2.2.2.1 with z | z
   ·exact I2.ok.noex b o e z
   ·exact absurd (Nat.lt_of_lt_of_le (Heap.lt_size e) (Nat.le_trans I2.ok.bsz z)) (Nat.lt_irrefl _)
  ·rcases List.mem_cons.mp (I2.stkSub b z) with r | r
   ·exact (f2 b hb).2.1 r
   ·exact (f2 b hb).2.2.1 r
 have hlen : (ZIp own.length ks σ).length = (own ++ caps).length := by
  have := congrArg List.length S.cap
  simp only [List.length_map] at this
  simp [ZIp, this]
 have I4 : Inv (ZFj X (own ++ caps) scope cl HP.objs.size s₂ H2 fp) [] (ZIp own.length ks σ) (upd H2 s₂.heap.objs.size (.lst [])) { s₂ with heap := h₁, toks := s₂.toks + ([] : List (Str × Value)).length } := by
  obtain ⟨mX, hnX, hlX⟩ := I2.loc
  refine ⟨ok, rfl, I2.bare, Un.laid old (Nat.le_refl _) hfD, ⟨_, hns₁, fun i x v e1 e2 e3 => ?_⟩, fun x c e => ?_, ?_, fun x c e => ?_, fun p hp => (by cases hp), I2.hok.laid old (Nat.le_refl _) ⟨Nat.zero_le _, [], 0, .nil, hacc⟩, hlen⟩
  ·have e1 : (own ++ caps)[i]? = some x := e1
   by_cases hio : i < own.length
   ·unfold ZIp at e2
    rw [List.getElem?_append_left (by simpa using hio), List.getElem?_replicate] at e2
    rw [if_pos hio] at e2
    cases e2
   ·unfold ZIp at e2
    rw [List.getElem?_append_right (by simpa using hio), List.length_replicate, List.getElem?_map] at e2
    rw [List.getElem?_append_right (by simpa using hio)] at e1
    cases ek : ks[i - own.length]? with
    | none => rw [ek] at e2; cases e2
    | some k =>
     rw [ek] at e2
     have e2' := ZQP (Option.some.inj e2)
     have hcap := congrArg (fun l => l[i - own.length]?) S.cap
     simp only [List.getElem?_map, ek, e1, Option.map_some] at hcap
     have hNk : X.N[k]? = some x := Option.some.inj hcap
     have hfx := S.fr x (List.mem_of_getElem? e1)
     have hkX := cellOfN x hfx
     obtain ⟨u, ru, lk⟩ := hlX k x v hNk e2' (.inr (.inl hkX))
     refine ⟨u, ru, .inr ⟨.inl ?_, ?_⟩⟩
     ·show (compEnvC scope cl HP.objs.size X.env).kindOf x = some .cell
      rw [hkr x, hfx]
      simp [I2.ok.kind, hkX]
     ·rcases lk with ⟨z, _⟩ | ⟨_, c, ec, o, ho, hd⟩
      ·rw [hkX] at z; cases z
      ·obtain ⟨c', ec'⟩ := hclf (x, .free) (PySem.mem_of_lookup hfx) rfl
       have := hcl _ _ ec'
       rw [ec] at this
       cases this
       exact ⟨c, ec', o, old _ _ ho, hd⟩
  ·obtain ⟨v, o, ho, hd⟩ := I2.cell x c (hcl x c e)
   exact ⟨v, o, old _ _ ho, hd⟩
  ·show upd H2 s₂.heap.objs.size (.lst []) HP.objs.size = none
   rw [ZEV (Ne.symm hDC)]
   exact I2.hok.fresh hCle
  ·obtain ⟨v, o, ho, hd⟩ := I2.cell x c (hcl x c e)
   show upd H2 s₂.heap.objs.size (.lst []) c = none
   rw [ZEV (Nat.ne_of_lt (Heap.lt_size ho))]
   exact I2.freeC x c (hcl x c e)
 -- the way out
 have out : ∀ {σ' : St} {H' : Hp} {s' : Shared}, Inv (ZFj X (own ++ caps) scope cl HP.objs.size s₂ H2 fp) [] σ' H' s' → Q (.ref s₂.heap.objs.size) H' →
   ∃ m, s'.heap.Ns HP.objs.size m ∧ ∀ h', Heap.SameBut HP.objs.size s'.heap h' → EP X pins σ Q (.ref s₂.heap.objs.size) { s' with heap := h' } := fun {σ' H' s'} I' q' => by
  obtain ⟨m, hn, _⟩ := I'.loc
  refine ⟨m, hn, fun h' hs' => ⟨.ref s₂.heap.objs.size, H', ?_, rfl, q'⟩⟩
  have hfree : H' HP.objs.size = none := I'.free
  have neC : ∀ {b : Addr} {o : Obj}, s₂.heap.get? b = some o → b ≠ HP.objs.size := fun e => Nat.ne_of_lt (Nat.lt_of_lt_of_le (Heap.lt_size e) hCle)
  refine I2.call' (ch := fp) (s' := { s' with heap := h' }) I'.os ⟨fun b o e n hb hx => ?_, fun b o e n hb hx => ?_, I'.base.free, fun b o e hx => ?_, I'.base.tups, I'.base.frzs, I'.base.tbls⟩ (fun b ob e => ?_) I'.bare fun b hb => ⟨(f2 b hb).2.2.2.1, (f2 b hb).2.1, (f2 b hb).2.2.2.2.1, (f2 b hb).2.2.2.2.2⟩
  ·exact (hs'.2 b (neC e)).trans (I'.base.keep b o e n hb hx)
  ·obtain ⟨sl, e1⟩ := I'.base.slot b o e n hb hx
   exact ⟨sl, (hs'.2 b (neC e)).trans e1⟩
  ·obtain ⟨o', e1⟩ := I'.base.there b o e hx
   exact ⟨o', (hs'.2 b (neC e)).trans e1⟩
  ·refine (I'.hok b ob e).stay (fun c w' hc q => (hs'.2 c ?_).trans q) (fun _ q => q) fun _ _ q => q
   rintro rfl
   rcases hc with rfl | hc
   ·rw [hfree] at e; cases e
   ·rw [hfree] at hc; cases hc
 have stat : ∀ {H' : Hp}, (∀ b ∈ fp, H' b = none) → ∀ b ∈ fp, ZFl (ZFj X (own ++ caps) scope cl HP.objs.size s₂ H2 fp) [] H' b := fun hn b hb =>
  ⟨hn b hb, Nat.ne_of_lt (Nat.lt_of_lt_of_le (fpl b hb) hCle), ok.exfs b hb, .inl hb, (ok.exf b hb).2, fun p hp => by cases hp⟩
 have fr4 : ∀ b ∈ fp, upd H2 s₂.heap.objs.size (.lst []) b = none := fun b hb => by
  rw [ZEV (Nat.ne_of_lt (fpl b hb))]
  exact (f2 b hb).1
 have tn4 : tn 0 h₁ := T.keep _ _ _ st2 fun b _ o e => old b o e
 have loop : ∀ s4 : Shared, s4 = { s₂ with heap := h₁, toks := s₂.toks + ([] : List (Str × Value)).length } →
   codeAny (model X.prog X.w) X.A (.compLoop (.ListComp elt [⟨tg, iter, ifs, 0⟩] scope pos) 0 (.ref it) (.ref s₂.heap.objs.size) (compEnvC scope cl HP.objs.size X.env))
    (compPost (model X.prog X.w) X.A X.xe none (EP X pins σ Q) (.ref s₂.heap.objs.size) HP.objs.size) s4 := by
  rintro s4 rfl
  refine ZIq (fun n s' => ∃ i σ' H', Inv (ZFj X (own ++ caps) scope cl HP.objs.size s₂ H2 fp) [] σ' H' s' ∧ tn i s'.heap ∧ (∀ b ∈ fp, H' b = none) ∧ W i n σ' H') ?_ m0 ⟨0, _, _, I4, tn4, fr4, w0⟩
  rintro n s3 ⟨i, σ3, H3, I3, st3, fr3, w3⟩
  rcases turn i n σ3 H3 w3 with ⟨stop, qn⟩ | ⟨go, N, hN, step⟩
  ·refine wpAny_mono (T.done (ZFj X (own ++ caps) scope cl HP.objs.size s₂ H2 fp) rfl rfl rfl hc i [] s3 σ3 H3 (fun _ _ => False) I3 (stat fr3) st3 stop) (fun r s4 ⟨hr, I4'⟩ => ?_) fun _ _ z => False.elim z
   subst hr
   exact out I4' qn
  ·refine wpAny_mono (T.item (ZFj X (own ++ caps) scope cl HP.objs.size s₂ H2 fp) rfl rfl rfl hc i [] s3 σ3 H3 (fun _ _ => False) I3 (stat fr3) st3 go) (fun r s4 ⟨u, hr, h4⟩ => ?_) fun _ _ z => False.elim z
   subst hr
   refine wpAny_mono h4 (fun _ s5 ⟨x, H5, I5, r5, y5, st5, fr5⟩ => ?_) fun _ _ z => False.elim z
   have I5' := I5.pinned (stat fr5) (T.obj _ _ st5)
   have back : ∀ {s7 : Shared} {σ7 : St} {H7 : Hp}, Inv (ZFj X (own ++ caps) scope cl HP.objs.size s₂ H2 fp) ([] ++ ZJR fp s5.heap) σ7 H7 s7 → N σ7 H7 →
     ∃ m, m < n ∧ ∃ i σ' H', Inv (ZFj X (own ++ caps) scope cl HP.objs.size s₂ H2 fp) [] σ' H' s7 ∧ tn i s7.heap ∧ (∀ b ∈ fp, H' b = none) ∧ W i m σ' H' := fun {s7 σ7 H7} I7 n7 => by
    obtain ⟨m', hm, w7⟩ := hN σ7 H7 n7
    refine ⟨m', hm, i + 1, σ7, H7, I7.unpinned, T.keep _ _ _ st5 fun b hb o e => (I7.pin (b, o) (List.mem_append_right _ (List.mem_append_right _ (ZHb hb e)))).1, fun b hb => ?_, w7⟩
    obtain ⟨o, e, d⟩ := T.obj _ _ st5 b hb
    exact (I7.pin (b, o) (List.mem_append_right _ (List.mem_append_right _ (ZHb hb e)))).2.1
   refine wpAny_mono (hg _ _ _ _ _ _ s5 σ3 H5 x u _ I5' r5 (step x H5 y5)) (fun _ s6 ⟨σ6, H6, I6, q6⟩ => ?_) fun _ _ z => False.elim z
   refine wpAny_mono (ht _ _ _ _ _ _ s6 σ6 H6 _ I6 q6) (fun b s7 ⟨H7, I7, q7⟩ => ?_) fun _ _ z => False.elim z
   cases b with
   | false =>
    rw [if_neg Bool.false_ne_true]
    rw [if_neg Bool.false_ne_true] at q7
    exact back I7 q7
   | true =>
    rw [if_pos rfl]
    rw [if_pos rfl] at q7
    refine wpAny_mono (he _ _ _ _ _ _ s7 σ6 H7 _ I7 q7) (fun y s8 ⟨v, H8, I8, r8, xs, hx8, hz8, n8⟩ => ?_) fun _ _ z => False.elim z
    refine wpAny_mono (ZF5 (X := ZFj X (own ++ caps) scope cl HP.objs.size s₂ H2 fp) _ s8 σ6 H8 (.ref s₂.heap.objs.size) [v] (.ref s₂.heap.objs.size) [y] (fun _ H' => N σ6 H') I8 rfl (.cons r8 .nil) ⟨_, xs, v, rfl, rfl, hx8, hz8, n8⟩) (fun _ s9 ⟨_, H9, I9, _, n9⟩ => ?_) fun _ _ z => False.elim z
    exact back I9 n9
 exact codeAny_compStart_list (loop _ rfl) (T.self _ 0 _ _ _ tn4 (loop _ rfl))
end
theorem ZWc : bootBuiltins "int" = some (.type "int") := by decide +kernel
theorem ZUa : bootBuiltins "bool" = some (.type "bool") := by decide +kernel
theorem ZG6 : bootBuiltins "tuple" = some (.type "tuple") := by decide +kernel
theorem ZUb : bootBuiltins "list" = some (.type "list") := by decide +kernel
theorem ZHQ : bootBuiltins "len" = some (.builtin "len") := by decide +kernel
theorem ZQQ : bootBuiltins "abs" = some (.builtin "abs") := by decide +kernel
theorem ZK7 : bootBuiltins "max" = some (.builtin "max") := by decide +kernel
theorem ZMq : bootBuiltins "min" = some (.builtin "min") := by decide +kernel
theorem ZH8 : bootBuiltins "sorted" = some (.builtin "sorted") := by decide +kernel
theorem ZJK : bootBuiltins "isinstance" = some (.builtin "isinstance") := by decide +kernel
def ZGf : Expr → Bool
 | .Starred _ _ => true
 | _ => false
def ZFE (es : List Expr) : Bool := es.all fun e => !ZGf e
theorem ZGr {e : Expr} {es : List Expr} {env : Env} (h : ZGf e = false) : starEach (e :: es) env = (false, eval e env) :: starEach es env := by
 cases e <;> first | rfl | cases h
theorem ZGY {e : Expr} {es : List Expr} {env : Env} (h : ZFE (e :: es) = true) : starEach (e :: es) env = (false, eval e env) :: starEach es env := by
 refine ZGr ?_
 unfold ZFE at h
 rw [List.all_cons, Bool.and_eq_true] at h
 simpa using h.1
theorem ZGA {pos : Pos} {env : Env} : ∀ {es : List Expr}, ZFE es = true → (backTo pos (starEach es env)).any (·.1) = false
 | [], _ => rfl
 | e :: es, h => by
  rw [ZGY h]
  have h2 : ZFE es = true := by
   unfold ZFE at h ⊢
   rw [List.all_cons, Bool.and_eq_true] at h
   exact h.2
  exact ZGA h2
theorem ZF6 {e : Expr} {es : List Expr} (h : ZFE (e :: es) = true) : ZFE es = true := by
 unfold ZFE at h ⊢
 rw [List.all_cons, Bool.and_eq_true] at h
 exact h.2
section
variable {X : Cx} {CX : CXT} {k : Nat} {f : Addr} {fd : FuncData} {ps : List Str} {sp : Sp} {dvs : List V} {ds : List Value} {E : XK} {x : Str} {p pos : Pos} {e : Expr} {es : List Expr} {te : TE} {t : TA} {id T : String} {r : List V → Hp → VK → Prop}
theorem ZYA (ha : PE X e te) (hr : PA X es t) (hs : ZGf e = false := by rfl) : PA X (e :: es) (ZMa te t) := ZUQ ha hr (ZGr hs)
theorem ZSK (F : ZEM X.prog X.w X.K X.mg X.base CX k f fd ps sp) (hr : Room k X.A) (hg : Gl X x) (hm : X.mg x = some (.ref f)) (hk : W.keepIn X.K (.ref f) = true) (hb : ZEH X.K fd ps ds) (hd : ZEU dvs ds) (hx : ZFx CX X E)
  (ha : PA X (e :: es) t) (hns : ZFE (e :: es) = true := by rfl) (hdb : (x == ("__debug__" : Str)) = false := by decide) : PE X (.Call (.Name x p) (e :: es) [] pos) (ZK0 sp dvs E t) :=
 ZUR F hr hg hm hk hb hd hx ha hdb (ZGY hns) (ZGA (ZF6 hns))
theorem ZQR (hc : ZFG X (.builtin id) r) (hg : Gl X x) (hm : X.mg x = none) (hv : bootBuiltins x = some (.builtin id)) (ha : PA X (e :: es) t) (hns : ZFE (e :: es) = true := by rfl) (hn : x ≠ "__name__" := by decide) (hdb : (x == ("__debug__" : Str)) = false := by decide) :
 PE X (.Call (.Name x p) (e :: es) [] pos) (tCB r t) := ZR7 hc hg hm hv ha hn hdb (ZGY hns) (ZGA (ZF6 hns))
theorem ZPI (hc : ZFG X (.type T) r) (hg : Gl X x) (hm : X.mg x = none) (hv : bootBuiltins x = some (.type T)) (ha : PA X (e :: es) t) (hns : ZFE (e :: es) = true := by rfl) (hn : x ≠ "__name__" := by decide) (hdb : (x == ("__debug__" : Str)) = false := by decide) :
 PE X (.Call (.Name x p) (e :: es) [] pos) (tCB r t) := ZQG hc hg hm hv ha hn hdb (ZGY hns) (ZGA (ZF6 hns))
end
def ZGM : Expr → Bool
 | .ListComp _ _ _ _ => true
 | .SetComp _ _ _ _ => true
 | .DictComp _ _ _ _ _ => true
 | _ => false
theorem ZG7 {e : Expr} {tg : Option Expr} {n : Nat} {env : Env} (h : ZGM e = false) : swapsWith e tg n env = pure false := by
 cases e <;> first | rfl | cases h
section
variable {X : Cx} {e : Expr} {te : TE} {pos : Pos}
theorem ZSL (he : PE X e te) (hs : ZGM e = false := by rfl) : PS X (.Expr e pos) (ZMW te) := ZUD he (ZG7 hs)
theorem ZUc {i : Nat} {x : Str} {pos' : Pos} (hN : X.N.Nodup) (hi : X.N[i]? = some x) (hx : Loc X.env.scope x) (he : PE X e te) (hs : ZGM e = false := by rfl) (hf : X.fn x = true ∨ X.env.scope.names.lookup x = some .local := by first | exact .inl rfl | exact .inr rfl | assumption) :
 PS X (.Assign [.Name x pos'] e pos) (ZJQ te (ZHa i)) := ZWF hN hi hx he (ZG7 hs) hf
end
def ZPJ (K : W.Frag) : List V → Hp → VK → Prop := fun xs H Q => ∃ p ys, xs = [.ref p] ∧ (SqL K H p ys ∨ SqT K H p ys) ∧ Q (.int ys.length) H
def ZWd : List V → Hp → VK → Prop := fun xs H Q => ∃ i, xs = [.int i] ∧ Q (.int (if i < 0 then -i else i)) H
def ZWe : List V → Hp → VK → Prop := fun xs H Q => ∃ i j, xs = [.int i, .int j] ∧ Q (.int (if j > i then j else i)) H
def ZWf : List V → Hp → VK → Prop := fun xs H Q => ∃ i j, xs = [.int i, .int j] ∧ Q (.int (if j < i then j else i)) H
def ZMr (K : W.Frag) : List V → Hp → VK → Prop := fun xs H Q => ∃ p ys, xs = [.ref p] ∧ ((SqL K H p ys ∧ ∀ l, H l = none → Q (.ref l) (upd H l (.tup ys))) ∨ (SqT K H p ys ∧ Q (.ref p) H))
def ZWg : R2 := fun x y H Q => y = .non ∧ Q (.bl (decide (x = .non))) H
def ZTq : R2 := fun x y H Q => y = .non ∧ Q (.bl (!decide (x = .non))) H
section
variable {X : Cx}
theorem ZWh : ZFG X (.builtin "len") (ZPJ X.K) := ZMo
theorem ZQS : ZFG X (.builtin "abs") ZWd := ZRy
theorem ZQT (hc : X.calm = true) : ZFG X (.builtin "max") ZWe := ZP9 hc
theorem ZWi (hc : X.calm = true) : ZFG X (.builtin "min") ZWf := ZQA hc
theorem ZSM : ZFG X (.type "tuple") (ZMr X.K) := ZMD
theorem ZIa : OpR X (compareOp .Is) ZWg := ZWM
theorem ZLV : OpR X (compareOp .IsNot) ZTq := ZUK
end
section
variable {K : W.Frag} {σ : St} {H : Hp} {Q : VK} {D : ZFI}
theorem ZQU {t u : TS} (h : t { D with nx := u D } σ H) : ZRg t u D σ H := h
theorem ZWj {te : TE} (h : te σ H D.rt) : ZRi te D σ H := h
theorem ZUd {te : TE} (h : te σ H fun _ H1 => D.nx σ H1) : ZMW te D σ H := h
theorem ZUe (h : D.nx σ H) : ZOt D σ H := h
theorem ZWk {te : TE} {g : TG} (h : te σ H fun x H1 => g x σ H1 D.nx) : ZJQ te g D σ H := h
theorem ZSN {i : Nat} {v : V} {R : St → Hp → Prop} (h : R (σ.set i (some v)) H) : ZHa i v σ H R := h
theorem ZUf {R : St → Hp → Prop} (h : R σ H) : ZRk [] σ H R := ⟨rfl, h⟩
theorem ZSO {t : TG} {u : TGs} {v : V} {r : List V} {R : St → Hp → Prop} (h : t v σ H fun σ' H' => u r σ' H' R) : ZOv t u (v :: r) σ H R := ⟨v, r, rfl, h⟩
theorem ZUg {to ti : TE} {t : ZKP} {v : V} {R : St → Hp → Prop} (h : to σ H fun o H1 => ti σ H1 fun i H2 => t o i v H2 fun H3 => R σ H3) : ZRm to ti t v σ H R := h
theorem ZWl {c : TT} {t u : TS} (h : c σ H fun b H1 => if b = true then t D σ H1 else u D σ H1) : ZKO c t u D σ H := h
theorem ZUh {t : TE} {R : Bool → Hp → Prop} (h : t σ H fun x H' => ∃ k, x = .bl k ∧ R k H') : ZKw t σ H R := h
theorem ZYB {t : TE} {R : Bool → Hp → Prop} (h : t σ H fun x H' => ∃ k, x = .bl k ∧ R k H') : tB t σ H R := h
theorem ZWm {b : Bool} {R : Bool → Prop} (h : R b) : ∃ k, V.bl b = .bl k ∧ R k := ⟨b, rfl, h⟩
theorem ZWn {t u : TT} {R : Bool → Hp → Prop} (h : t σ H fun c H1 => if c = true then u σ H1 R else R false H1) : ZRd t u σ H R := h
theorem ZXm {t u : TT} {R : Bool → Hp → Prop} (h : t σ H fun c H1 => if c = true then R true H1 else u σ H1 R) : tOr t u σ H R := h
theorem ZWo {t : TT} {R : Bool → Hp → Prop} (h : t σ H fun c H1 => R (!c) H1) : ZRe t σ H R := h
theorem ZUi {t u : TE} (h : t σ H fun x H1 => ∃ c, x = .bl c ∧ if c = true then u σ H1 Q else Q (.bl false) H1) : ZOr t u σ H Q := h
theorem ZUj {t : TE} (h : t σ H fun x H1 => ∃ c, x = .bl c ∧ Q (.bl (!c)) H1) : ZOs t σ H Q := h
theorem ZXn {t : TT} {ta tb : TE} (h : t σ H fun c H1 => if c = true then ta σ H1 Q else tb σ H1 Q) : tIf t ta tb σ H Q := h
theorem ZWp {i : Nat} {v : V} (e : σ[i]? = some (some v)) (h : Q v H) : ZRc i σ H Q := ⟨v, e, h⟩
theorem ZMs {i j : Int} (h1 : 0 ≤ j) (h2 : j ≤ 1000000) (h3 : i.natAbs < 2 ^ 64) : ZRu i j := ⟨h1, h2, h3⟩
theorem ZYC {v : V} (h : Q v H) : tC v σ H Q := h
theorem ZXo {r : R2} {ta tb : TE} (h : ta σ H fun x H1 => tb σ H1 fun y H2 => r x y H2 Q) : tOp r ta tb σ H Q := h
theorem ZXp {r : V → Hp → VK → Prop} {ta : TE} (h : ta σ H fun x H1 => r x H1 Q) : tUn r ta σ H Q := h
theorem ZXq {g : Int → Int → V} {i j : Int} (h : Q (g i j) H) : rI0 g (.int i) (.int j) H Q := ⟨i, j, rfl, rfl, h⟩
theorem ZMt {C : Int → Int → Prop} {g : Int → Int → V} {i j : Int} (c : C i j) (h : Q (g i j) H) : rI C g (.int i) (.int j) H Q := ⟨i, j, rfl, rfl, c, h⟩
theorem ZYD {g : Int → V} {i : Int} (h : Q (g i) H) : rU g (.int i) H Q := ⟨i, rfl, h⟩
theorem ZWq {i j : Int} (h : Q (.bl (decide (V.int i = V.int j))) H) : rEq (.int i) (.int j) H Q := ⟨rfl, h⟩
theorem ZXr {r : List V → Hp → VK → Prop} {t : TA} (h : t σ H fun vs H1 => r vs H1 Q) : tCB r t σ H Q := h
theorem ZUk {sp : Sp} {dvs : List V} {E : XK} {t : TA} (h : t σ H fun vs H1 => sp (vs ++ dvs) H1 Q E) : ZK0 sp dvs E t σ H Q := h
theorem ZUl {ta : TE} {tr : TA} {R : List V → Hp → Prop} (h : ta σ H fun x H1 => tr σ H1 fun xs H2 => R (x :: xs) H2) : ZMa ta tr σ H R := h
theorem ZWr {R : List V → Hp → Prop} (h : R [] H) : ZMk σ H R := h
def ZSP (n : Nat) (o : HO) (H : Hp) (Q : VK) : Prop := n ≤ sizeLine ∧ ∀ p, H p = none → Q (.ref p) (upd H p o)
theorem ZWs {t : TA} (h : t σ H fun xs H1 => ZSP xs.length (.tup xs) H1 Q) : ZR3 t σ H Q := h
theorem ZWt {t : TA} (h : t σ H fun xs H1 => ZSP xs.length (.lst xs) H1 Q) : ZR4 t σ H Q := h
theorem ZEK {n : Nat} {o : HO} (hz : n ≤ sizeLine) (h : ∀ p H2, H p = none → H2 p = some o → ZEI H H2 → Q (.ref p) H2) : ZSP n o H Q :=
 ⟨hz, fun p hp => h p _ hp ZEN (fun b u e => by rw [ZEV (ZET e hp)]; exact e)⟩
theorem ZSQ {r r' : R2} {ta tb tc : TE} (h : ta σ H fun x H1 => tb σ H1 fun y H2 => r x y H2 fun z H3 => ∃ k, z = .bl k ∧ (if k = true then tc σ H3 fun w' H4 => r' y w' H4 Q else Q (.bl false) H3)) : ZJS r r' ta tb tc σ H Q := h
theorem ZGH {p : Addr} {xs : List V} {i : Int} {v : V} (h1 : SqL K H p xs) (h2 : atI xs i = some v) (h : Q v H) : ZPB K (.ref p) (.int i) H Q := ⟨p, xs, i, v, rfl, rfl, h1, h2, h⟩
theorem ZMu {p : Addr} {xs : List V} {i : Int} {v : V} (h1 : SqT K H p xs) (h2 : atI xs i = some v) (h : Q v H) : ZSA K (.ref p) (.int i) H Q := ⟨p, xs, i, v, rfl, rfl, h1, h2, h⟩
theorem ZG8 {p : Addr} {xs : List V} {k : Int} {j : Nat} {v : V} {R : Hp → Prop} (h1 : H p = some (.lst xs)) (h2 : ixN xs.length k = some j)
  (h : ∀ H2, H2 p = some (.lst (xs.set j v)) → (∀ q o, H q = some o → q ≠ p → H2 q = some o) → R H2) : ZK3 (.ref p) (.int k) v H R :=
 ⟨p, xs, k, j, rfl, rfl, h1, h2, h _ ZEN fun q o e n => by rw [ZEV n]; exact e⟩
def rFor (J : It) (g : TG) (tb : TS) (D : ZFI) (σ : St) (H : Hp) : Prop := ∃ W : Nat → Nat → St → Hp → Prop, (∃ m, W 0 m σ H) ∧ ∀ i m σ H, W i m σ H →
 (J.stop i H ∧ D.nx σ H) ∨ (J.go i H ∧ ∃ N : St → Hp → Prop, (∀ σ' H', N σ' H' → ∃ m', m' < m ∧ W (i + 1) m' σ' H') ∧ ∀ x H', J.yld i H x H' → g x σ H' fun σ2 H2 => tb { D with nx := N, ct := N, bk := D.nx } σ2 H2)
theorem ZWu {wi : TI} {g : TG} {tb : TS} (h : wi σ H fun J H1 => rFor J g tb D σ H1) : ZRq wi g tb D σ H := h
def ZTr (vs : List V) (H : Hp) (R : It → Hp → Prop) : Prop := ∃ j : Int, vs = [.int j] ∧ -(2 ^ 62) ≤ j ∧ j < 2 ^ 62 ∧ R (Itr 0 j.toNat) H
theorem ZUm {ta : TA} {R : It → Hp → Prop} (h : ta σ H fun vs H1 => ZTr vs H1 R) : ZO1 ta σ H R := h
theorem ZIb {j : Int} {R : It → Hp → Prop} (h1 : -(2 ^ 62) ≤ j) (h2 : j < 2 ^ 62) (h : R (Itr 0 j.toNat) H) : ZTr [.int j] H R := ⟨j, rfl, h1, h2, h⟩
theorem ZWv {i : Int} (h : Q (.int (if i < 0 then -i else i)) H) : ZWd [.int i] H Q := ⟨i, rfl, h⟩
theorem ZWw {i j : Int} (h : Q (.int (if j > i then j else i)) H) : ZWe [.int i, .int j] H Q := ⟨i, j, rfl, h⟩
theorem ZWx {i j : Int} (h : Q (.int (if j < i then j else i)) H) : ZWf [.int i, .int j] H Q := ⟨i, j, rfl, h⟩
theorem ZUn {p : Addr} {ys : List V} (h1 : SqL K H p ys) (h : Q (.int ys.length) H) : ZPJ K [.ref p] H Q := ⟨p, ys, rfl, .inl h1, h⟩
theorem ZUo {p : Addr} {ys : List V} (h1 : SqT K H p ys) (h : Q (.int ys.length) H) : ZPJ K [.ref p] H Q := ⟨p, ys, rfl, .inr h1, h⟩
theorem ZQV {x : V} {n : String} {t : Value} {b : Bool} (ty : ZGw K H x t) (e : W.kitOne K t (.type n) = some b) (h : Q (.bl b) H) : ZSG K [x, .ty n] H Q := ⟨x, n, t, b, rfl, ty, e, h⟩
theorem ZWy {x : V} (h : Q (.bl (decide (x = .non))) H) : ZWg x .non H Q := ⟨rfl, h⟩
theorem ZUp {x : V} (h : Q (.bl (!decide (x = .non))) H) : ZTq x .non H Q := ⟨rfl, h⟩
theorem ZUq {n : Nat} {t : TGs} {p : Addr} {xs : List V} {R : St → Hp → Prop} (h1 : SqT K H p xs) (h2 : xs.length = n) (h : t xs σ H R) : ZOw K n t (.ref p) σ H R := ⟨p, xs, rfl, h1, h2, h⟩
theorem ZHm {p : Addr} {ys : List V} (h1 : SqL K H p ys) (h : ∀ l H2, H l = none → H2 l = some (.tup ys) → ZEI H H2 → Q (.ref l) H2) :
  ZMr K [.ref p] H Q :=
 ⟨p, ys, rfl, .inl ⟨h1, fun l hl => h l _ hl ZEN (fun b u e => by rw [ZEV (ZET e hl)]; exact e)⟩⟩
theorem ZWz {p : Addr} {xs : List V} {lo hi : Option Int} (h1 : SqL K H p xs) (h : ∀ l H2, H l = none → H2 l = some (.lst (ZGe xs lo hi)) → ZEI H H2 → Q (.ref l) H2) : ZSB K (.ref p) lo hi H Q :=
 ⟨p, xs, rfl, h1, fun l hl => h l _ hl ZEN (fun b u e => by rw [ZEV (ZET e hl)]; exact e)⟩
theorem ZW0 {p q : Addr} {xs zs : List V} (h1 : H p = some (.lst xs)) (h2 : H q = some (.lst zs)) (hz : xs.length + zs.length ≤ sizeLine) (h : ∀ l H2, H l = none → H2 l = some (.lst (xs ++ zs)) → ZEI H H2 → Q (.ref l) H2) : ZWa (.ref p) (.ref q) H Q :=
 ⟨p, q, xs, zs, rfl, rfl, h1, h2, hz, fun l hl => h l _ hl ZEN (fun b u e => by rw [ZEV (ZET e hl)]; exact e)⟩
theorem ZXs {r : V → Option Int → Option Int → Hp → VK → Prop} {te : TE} {tl th : TO} (h : te σ H fun x H1 => tl σ H1 fun l H2 => th σ H2 fun u H3 => r x l u H3 Q) : tSl r te tl th σ H Q := h
theorem ZQW {R : Option Int → Hp → Prop} (h : R none H) : ZLT σ H R := h
theorem ZUr {t : TE} {R : Option Int → Hp → Prop} (h : t σ H fun x H1 => ∃ i, x = .int i ∧ R (some i) H1) : ZPA t σ H R := h
theorem ZYE {i : Int} {R : Int → Prop} (h : R i) : ∃ j, V.int i = .int j ∧ R j := ⟨i, rfl, h⟩
theorem ZEp {c A B : Prop} [Decidable c] (h1 : c → A) (h2 : ¬ c → B) : if decide c = true then A else B := by
 by_cases h : c
 ·rw [decide_eq_true h]; exact ZFD (h1 h)
 ·rw [decide_eq_false h]; exact ZEw (h2 h)
theorem ZMb {c A B : Prop} [Decidable c] (h1 : ¬ c → A) (h2 : c → B) : if (!decide c) = true then A else B := by
 by_cases h : c
 ·rw [decide_eq_true h]; exact ZEw (h2 h)
 ·rw [decide_eq_false h]; exact ZFD (h1 h)
theorem ZFm {i j : Int} : decide (V.int i = V.int j) = decide (i = j) := by
 by_cases h : i = j
 ·subst h; simp
 ·rw [decide_eq_false h, decide_eq_false (fun z => h (V.int.inj z))]
theorem ZJy {lo : Int} {n : Nat} {g : TG} {tb : TS} (Pv : Nat → St → Hp → Prop) (h0 : Pv 0 σ H)
 (hs : ∀ i σ H, i < n → Pv i σ H → g (.int (lo + i)) σ H fun σ2 H2 => tb { D with nx := Pv (i + 1), ct := Pv (i + 1), bk := D.nx } σ2 H2) (hd : ∀ σ H, Pv n σ H → D.nx σ H) :
 rFor (Itr lo n) g tb D σ H := ZP7 Pv h0 hs hd
theorem ZIc {a : Addr} {xs : List V} {g : TG} {tb : TS} (Pv : Nat → St → Hp → Prop) (h0 : Pv 0 σ H) (hl : ∀ i σ H, i ≤ xs.length → Pv i σ H → SqL K H a xs)
 (hs : ∀ i x σ H, xs[i]? = some x → Pv i σ H → g x σ H fun σ2 H2 => tb { D with nx := Pv (i + 1), ct := Pv (i + 1), bk := D.nx } σ2 H2) (hd : ∀ σ H, Pv xs.length σ H → D.nx σ H) :
 rFor (Itl K a) g tb D σ H := ZRr Pv h0 hl hs hd
theorem ZLW {a : Addr} {xs : List V} {g : TG} {tb : TS} (Pv : Nat → St → Hp → Prop) (h0 : Pv 0 σ H) (hl : ∀ i σ H, i ≤ xs.length → Pv i σ H → SqT K H a xs)
 (hs : ∀ i x σ H, xs[i]? = some x → Pv i σ H → g x σ H fun σ2 H2 => tb { D with nx := Pv (i + 1), ct := Pv (i + 1), bk := D.nx } σ2 H2) (hd : ∀ σ H, Pv xs.length σ H → D.nx σ H) :
 rFor (Itt K a) g tb D σ H := ZUI Pv h0 hl hs hd
def ZTs (J : It) (g : TG) (tt : TT) (te : TE) (l : Addr) (σ0 : St) (H : Hp) (Q : VK) : Prop :=
 ∃ W : Nat → Nat → St → Hp → Prop, (∃ m, W 0 m σ0 (upd H l (.lst []))) ∧ ∀ i m σ' H', W i m σ' H' →
  (J.stop i H' ∧ Q (.ref l) H') ∨ (J.go i H' ∧ ∃ N : St → Hp → Prop, (∀ σ2 H2, N σ2 H2 → ∃ m', m' < m ∧ W (i + 1) m' σ2 H2) ∧
   ∀ x H'', J.yld i H' x H'' → g x σ' H'' fun σ2 H2 => tt σ2 H2 fun b H3 =>
    if b = true then te σ2 H3 fun v H4 => ∃ xs, H4 l = some (.lst xs) ∧ xs.length < sizeLine ∧ N σ2 (upd H4 l (.lst (xs ++ [v]))) else N σ2 H3)
theorem ZGZ {J : It} {g : TG} {tt : TT} {te : TE} {σ0 : St} {l : Addr} (n : Nat) (Pv : Nat → St → Hp → Prop) (h0 : Pv 0 σ0 (upd H l (.lst [])))
  (stop : ∀ σ H, Pv n σ H → J.stop n H ∧ Q (.ref l) H)
  (go : ∀ i σ H, i < n → Pv i σ H → J.go i H ∧ ∀ x H', J.yld i H x H' → g x σ H' fun σ2 H2 => tt σ2 H2 fun b H3 =>
   if b = true then te σ2 H3 fun v H4 => ∃ xs, H4 l = some (.lst xs) ∧ xs.length < sizeLine ∧ Pv (i + 1) σ2 (upd H4 l (.lst (xs ++ [v]))) else Pv (i + 1) σ2 H3) :
  ZTs J g tt te l σ0 H Q := by
 refine ⟨fun i m σ H => m = n - i ∧ i ≤ n ∧ Pv i σ H, ⟨n, by simp, Nat.zero_le _, h0⟩, ?_⟩
 rintro i m σ H ⟨rfl, hi, p⟩
 by_cases hlt : i < n
 ·obtain ⟨hgo, h⟩ := go i σ H hlt p
  exact .inr ⟨hgo, Pv (i + 1), fun σ' H' p' => ⟨n - (i + 1), by omega, rfl, hlt, p'⟩, h⟩
 ·have e : i = n := by omega
  subst e
  exact .inl (stop σ H p)
theorem ZUs {own : Nat} {ks : List Nat} {wi : TI} {g : TG} {tt : TT} {te : TE} (h : wi σ H fun J H1 => ∀ l, H1 l = none → ZTs J g tt te l (ZIp own ks σ) H1 Q) : ZPH own ks wi g tt te σ H Q := h
def ZW1 (K : W.Frag) (x : V) (H : Hp) (R : It → Hp → Prop) : Prop := ∃ a, x = .ref a ∧ (∃ xs, SqT K H a xs) ∧ R (Itt K a) H
def ZW2 (K : W.Frag) (x : V) (H : Hp) (R : It → Hp → Prop) : Prop := ∃ a, x = .ref a ∧ (∃ xs, SqL K H a xs) ∧ R (Itl K a) H
theorem ZUt {tl : TE} {R : It → Hp → Prop} (h : tl σ H fun x H1 => ZW1 K x H1 R) : ZO0 K tl σ H R := h
theorem ZSR {tl : TE} {R : It → Hp → Prop} (h : tl σ H fun x H1 => ZW2 K x H1 R) : ZMY K tl σ H R := h
theorem ZW3 {p : Addr} {xs : List V} {R : It → Hp → Prop} (h1 : SqT K H p xs) (h : R (Itt K p) H) : ZW1 K (.ref p) H R := ⟨p, rfl, ⟨xs, h1⟩, h⟩
theorem ZQX {p : Addr} {xs : List V} {R : It → Hp → Prop} (h1 : SqL K H p xs) (h : R (Itl K p) H) : ZW2 K (.ref p) H R := ⟨p, rfl, ⟨xs, h1⟩, h⟩
theorem ZUu {R : Bool → Hp → Prop} (h : R true H) : ZPG σ H R := h
end
theorem ZEI.seqT {K : W.Frag} {H H' : Hp} {a : Addr} {xs : List V} (e : ZEI H H') (h : SqT K H a xs) : SqT K H' a xs := by
 rcases h with (h | ⟨o, h⟩) | h
 ·exact .inl (.inl (e _ _ h))
 ·exact .inl (.inr ⟨o, e _ _ h⟩)
 ·exact .inr h
def Kp (p : Addr) (H H' : Hp) : Prop := ∀ q o, H q = some o → q ≠ p → H' q = some o
theorem Kp.trans {p : Addr} {H H1 H2 : Hp} (a : Kp p H H1) (b : Kp p H1 H2) : Kp p H H2 := fun q o h n => b q o (a q o h n) n
theorem Kp.upd {p : Addr} {H : Hp} {o : HO} : Kp p H (upd H p o) := fun q u h n => by rw [ZEV n]; exact h
theorem Kp.same {p : Addr} {H H' : Hp} (a : ZEI H H') : Kp p H H' := fun q o h _ => a q o h
theorem ZEI.new {H : Hp} {l : Addr} {o : HO} (h : H l = none) : ZEI H (upd H l o) := fun b u e => by rw [ZEV (ZET e h)]; exact e
def Pot (H : Hp) (p : Addr) : Prop := ∃ a b : Int, H p = some (.lst [.int a, .int b]) ∧ 0 ≤ a ∧ 0 ≤ b ∧ b < 2147483648
theorem Pot.same {H H' : Hp} {p : Addr} (h : Pot H p) (s : ZEI H H') : Pot H' p := by
 obtain ⟨x, y, h, r⟩ := h
 exact ⟨x, y, s _ _ h, r⟩
theorem Pot.neN {H : Hp} {p l : Addr} (h : Pot H p) (hl : H l = none) : l ≠ p := by
 obtain ⟨x, y, h, r⟩ := h
 exact (ZET h hl).symm
theorem Kp.then {H H1 H2 : Hp} {p : Addr} (h : Kp p H H1) (s : ZEI H1 H2) : Kp p H H2 := h.trans (Kp.same s)
structure QE (X : Cx) (e : Expr) (t : TE) : Prop where
 h : PE X e t
structure QT (X : Cx) (e : Expr) (t : TT) : Prop where
 h : PT X e t
structure QW (X : Cx) (e : Expr) (t : TT) : Prop where
 h : PW X e t
structure QA (X : Cx) (es : List Expr) (t : TA) : Prop where
 h : PA X es t
structure QS (X : Cx) (st : Stmt) (t : TS) : Prop where
 h : PS X st t
structure QB (X : Cx) (st : List Stmt) (t : TS) : Prop where
 h : PSs X st t
structure QG (X : Cx) (e : Expr) (t : TG) : Prop where
 h : PG X e t
structure QGs (X : Cx) (es : List Expr) (t : TGs) : Prop where
 h : PGs X es t
structure QI (X : Cx) (tg e : Expr) (t : TI) : Prop where
 h : PI X tg e t
structure QF (X : Cx) (es : List Expr) (t : TT) : Prop where
 h : ZPF X es t
structure QO (X : Cx) (e : Option Expr) (t : TO) : Prop where
 h : PO X e t
def ZMc : Expr → Bool
 | .Slice _ _ _ _ => true
 | _ => false
theorem ZUv {b : Expr} (h : ZMc b = false) : ZOV b := by
 intro o i
 cases b <;> first | rfl | cases h
def ZMv : Expr → Bool
 | .UnaryOp _ _ _ => false
 | .BoolOp _ _ _ => false
 | .IfExp _ _ _ _ => false
 | .Compare _ _ _ _ => false
 | _ => true
theorem ZW4 {e : Expr} {env : Env} (h : ZMv e = true) : ∀ whole, isTrue e env whole = (do let v ← whole; standAt e.pos; holding [v] (truthy v)) := by
 intro whole
 cases e <;> first | rfl | cases h
section
variable {X : Cx} {a b c e o : Expr} {es ZFp : List Expr} {ta tb tc te to ti : TE} {tA tB' : TT} {t tr : TA} {pos p p2 pos' : Pos} {x : Str}
theorem qv (i : Nat) {x : Str} {pos : Pos} (hN : X.N[i]? = some x := by rfl) (hv : Vis X.env.scope x := by first | exact Or.inl rfl | exact Or.inr (Or.inl rfl) | exact Or.inr (Or.inr rfl)) (hd : (x == ("__debug__" : Str)) = false := by decide)
 (hcd : (x == ("__classdict__" : Str)) = false := by decide) : QE X (.Name x pos) (ZRc i) := ⟨ZV1 hN hv hd hcd⟩
theorem ZEB {i j pos} : QE X (.Constant (.int i) j pos) (tC (.int i)) := ⟨ZV2⟩
theorem ZIr {b j pos} : QE X (.Constant (.bool b) j pos) (tC (.bl b)) := ⟨ZXe⟩
theorem ZFH {j pos} : QE X (.Constant .none j pos) (tC .non) := ⟨ZV3⟩
theorem ZGI {x j pos} : QE X (.Constant (.str x) j pos) (tC (.str x)) := ⟨ZV4⟩
theorem ZJz {v : V} {u : Value} (hg : Gl X x) (hm : X.mg x = some u) (r : ZER v u) (hd : (x == ("__debug__" : Str)) = false := by decide) : QE X (.Name x pos) (tC v) := ⟨ZT8 hg hm r hd⟩
theorem ZOb {v : V} {u : Value} (hg : Gl X x) (hm : X.mg x = none) (hv : bootBuiltins x = some u) (r : ZER v u) (hn : x ≠ "__name__" := by decide) (hd : (x == ("__debug__" : Str)) = false := by decide) : QE X (.Name x pos) (tC v) := ⟨ZT9 hg hm hv r hn hd⟩
theorem ZEG {op : Operator} {r : R2} (ho : OpR X (binaryOp op) r) (ha : QE X a ta) (hb : QE X b tb) : QE X (.BinOp a op b pos) (tOp r ta tb) := ⟨ZXh ho ha.h hb.h⟩
theorem ZIs {op : UnaryOp} {r : V → Hp → VK → Prop} (ho : UnR X (unaryOp op) r) (ha : QE X a ta) : QE X (.UnaryOp op a pos) (tUn r ta) := ⟨ZXi ho ha.h⟩
theorem ZW5 (ha : QE X a ta) : QE X (.UnaryOp .Not a pos) (ZOs ta) := ⟨ZWB ha.h⟩
theorem ZJW {op} (h : QE X a ta) : QE X (.BoolOp op [a] pos) ta := ⟨ZV9 h.h⟩
theorem ZJX (ha : QE X a ta) (hb : QE X (.BoolOp .And (b :: ZFp) pos) tb) : QE X (.BoolOp .And (a :: b :: ZFp) pos) (ZOr ta tb) := ⟨ZWA ha.h hb.h⟩
theorem ZIt (hc : QT X c tA) (ha : QE X a ta) (hb : QE X b tb) : QE X (.IfExp c a b pos) (tIf tA ta tb) := ⟨ZRf hc.h ha.h hb.h⟩
theorem ZG9 {op : CmpOp} {r : R2} (ho : OpR X (compareOp op) r) (ha : QE X a ta) (hb : QE X b tb) (hm : behindInMarks op b = false) : QE X (.Compare a [op] [b] pos) (tOp r ta tb) := ⟨ZUL ho ha.h hb.h hm⟩
theorem ZEQ {op : CmpOp} {r : R2} (ho : OpR X (compareOp op) r) (ha : QE X a ta) (hb : QE X b tb) (hm : behindInMarks op b = false) : QT X (.Compare a [op] [b] pos) (ZKw (tOp r ta tb)) := ⟨ZUM ho ha.h hb.h hm⟩
theorem ZSS {op op' : CmpOp} {r r' : R2} (ho : OpR X (compareOp op) r) (ho' : OpR X (compareOp op') r') (ha : QE X a ta) (hb : QE X b tb) (hc : QE X c tc)
 (hm : lastMarks [op, op'] [b, c] = false := by with_unfolding_all rfl) : QE X (.Compare a [op, op'] [b, c] pos) (ZJS r r' ta tb tc) := ⟨ZRw ho ho' ha.h hb.h hc.h hm⟩
theorem ZIu {op op' : CmpOp} {r r' : R2} (ho : OpR X (compareOp op) r) (ho' : OpR X (compareOp op') r') (ha : QE X a ta) (hb : QE X b tb) (hc : QE X c tc)
 (hm : lastMarks [op, op'] [b, c] = false := by with_unfolding_all rfl) : QT X (.Compare a [op, op'] [b, c] pos) (ZKw (ZJS r r' ta tb tc)) := ⟨ZRx ho ho' ha.h hb.h hc.h hm⟩
theorem ZFy (h : QE X e te) (he : ZMv e = true := by rfl) : QT X e (tB te) := ⟨ZV5 h.h (ZW4 he)⟩
theorem QW.pt (h : QW X e tA) : QT X e tA := ⟨h.h.pt⟩
theorem ZGN (ha : QT X a tA) : QW X (.BoolOp .And [a] pos) tA := ⟨ZUA ha.h⟩
theorem ZId (ha : QT X a tA) : QW X (.BoolOp .Or [a] pos) tA := ⟨ZV6 ha.h⟩
theorem ZGg (ha : QT X a tA) (hb : QW X (.BoolOp .And (b :: ZFp) pos) tB') : QW X (.BoolOp .And (a :: b :: ZFp) pos) (ZRd tA tB') := ⟨ZV7 ha.h hb.h⟩
theorem ZJ0 (ha : QT X a tA) (hb : QW X (.BoolOp .Or (b :: ZFp) pos) tB') : QW X (.BoolOp .Or (a :: b :: ZFp) pos) (tOr tA tB') := ⟨ZXf ha.h hb.h⟩
theorem ZGJ (ha : QT X a tA) : QT X (.UnaryOp .Not a pos) (ZRe tA) := ⟨ZV8 ha.h⟩
theorem ZEA : QA X [] ZMk := ⟨ZWR⟩
theorem ZD9 (ha : QE X e te) (hr : QA X es t) (hs : ZGf e = false := by rfl) : QA X (e :: es) (ZMa te t) := ⟨ZYA ha.h hr.h hs⟩
theorem ZEb {x1} (h : QA X es t) : QE X (.Tuple es x1 pos) (ZR3 t) := ⟨ZWS h.h⟩
theorem ZFX (h : QA X es t) : QE X (.List es pos) (ZR4 t) := ⟨ZWT h.h⟩
theorem ZEO {r : R2} (hr : IxR X r) (ha : QE X a ta) (hb : QE X b tb) (hs : ZMc b = false := by rfl) : QE X (.Subscript a b pos) (tOp r ta tb) := ⟨ZXk hr ha.h hb.h (ZUv hs)⟩
theorem ZUw : QO X none ZLT := ⟨ZUU⟩
theorem ZLX (h : QE X e te) : QO X (some e) (ZPA te) := ⟨ZUV h.h⟩
theorem ZMw {lo hi : Option Expr} {tl th : TO} {r : V → Option Int → Option Int → Hp → VK → Prop} (hr : SlR X r) (he : QE X e te) (hl : QO X lo tl) (hu : QO X hi th) : QE X (.Subscript e (.Slice lo hi none p2) pos) (tSl r te tl th) := ⟨ZR9 hr he.h hl.h hu.h⟩
theorem ZKT {CX : CXT} {k : Nat} {f : Addr} {fd : FuncData} {ps : List Str} {sp : Sp} {dvs : List V} {ds : List Value} {E : XK} (F : ZEM X.prog X.w X.K X.mg X.base CX k f fd ps sp) (hr : Room k X.A) (hg : Gl X x) (hm : X.mg x = some (.ref f)) (hk : W.keepIn X.K (.ref f) = true) (hb : ZEH X.K fd ps ds) (hd : ZEU dvs ds) (hx : ZFx CX X E)
 (ha : QA X (e :: es) t) (hns : ZFE (e :: es) = true := by rfl) (hdb : (x == ("__debug__" : Str)) = false := by decide) : QE X (.Call (.Name x p) (e :: es) [] pos) (ZK0 sp dvs E t) := ⟨ZSK F hr hg hm hk hb hd hx ha.h hns hdb⟩
theorem ZEk {id : String} {r : List V → Hp → VK → Prop} (hc : ZFG X (.builtin id) r) (hg : Gl X x) (hm : X.mg x = none) (hv : bootBuiltins x = some (.builtin id)) (ha : QA X (e :: es) t) (hns : ZFE (e :: es) = true := by rfl) (hn : x ≠ "__name__" := by decide) (hdb : (x == ("__debug__" : Str)) = false := by decide) :
 QE X (.Call (.Name x p) (e :: es) [] pos) (tCB r t) := ⟨ZQR hc hg hm hv ha.h hns hn hdb⟩
theorem ZGa {T : String} {r : List V → Hp → VK → Prop} (hc : ZFG X (.type T) r) (hg : Gl X x) (hm : X.mg x = none) (hv : bootBuiltins x = some (.type T)) (ha : QA X (e :: es) t) (hns : ZFE (e :: es) = true := by rfl) (hn : x ≠ "__name__" := by decide) (hdb : (x == ("__debug__" : Str)) = false := by decide) :
 QE X (.Call (.Name x p) (e :: es) [] pos) (tCB r t) := ⟨ZPI hc hg hm hv ha.h hns hn hdb⟩
theorem ZHA : QF X [] ZPG := ⟨ZSI⟩
theorem ZKU (hc : QT X c tA) : QF X [c] tA := ⟨ZSJ hc.h⟩
theorem ZUx {tg : Expr} (hl : QE X e te) : QI X tg e (ZMY X.K te) := ⟨ZUH hl.h⟩
theorem ZW6 {tg : Expr} (hl : QE X e te) : QI X tg e (ZO0 X.K te) := ⟨ZWJ hl.h⟩
theorem ZGs {tg : Expr} (hg : Gl X "range") (hm : X.mg "range" = none) (ha : QA X [a] t) (hs : ZGf a = false := by rfl) : QI X tg (.Call (.Name "range" p) [a] [] pos) (ZO1 t) := ⟨ZP5 hg hm ha.h (ZGr hs)⟩
theorem ZFo {i : Nat} (hN : X.N.Nodup) (hi : X.N[i]? = some x) (hx : Loc X.env.scope x) (hf : X.fn x = true ∨ X.env.scope.names.lookup x = some .local := by first | exact .inl rfl | exact .inr rfl | assumption) : QG X (.Name x pos) (ZHa i) := ⟨ZUE hN hi hx hf⟩
theorem ZE7 : QGs X [] ZRk := ⟨ZUF⟩
theorem ZQY {e : Expr} {es : List Expr} {env : Env} (h : ZGf e = false) : (assignEach (e :: es) env).map (·.2) = assign e env :: (assignEach es env).map (·.2) := by
 cases e <;> first | rfl | cases h
theorem ZEL {g : TG} {u : TGs} (h1 : QG X e g) (h2 : QGs X es u) (hs : ZGf e = false := by rfl) : QGs X (e :: es) (ZOv g u) := ⟨ZRl h1.h h2.h (ZQY hs)⟩
theorem ZW7 {k : Nat} {u : TGs} {n : Nat} (hc : X.calm = true) (h : QGs X es u) (hn : (assignEach es X.env).length = n := by rfl) (hst : (assignEach es X.env).findIdx? (·.1) = none := by rfl) : QG X (.Tuple es k pos) (ZOw X.K n u) := ⟨ZWD hc h.h hn hst⟩
theorem ZIe {s : ZKP} (ho : QE X o to) (hi : QE X e ti) (hs : ZOu X s)
 (ha : ∀ v, assign (.Subscript o e pos) X.env v = (do
  let ov ← holding [v] (eval o X.env)
  let iv ← holding [v, ov] (eval e X.env)
  standAt pos
  holding [v, ov, iv] (setItem ov iv v)
  release [v, ov, iv] []) := by intro _; rfl) : QG X (.Subscript o e pos) (ZRm to ti s) := ⟨ZWE ho.h hi.h hs ha⟩
theorem ZGb {N : List Str} {sc : Scope} {own caps : List Str} {ks : List Nat} {elt tg iter : Expr} {ifs : List Expr} {scope : Scope} {wi : TI} {g : TG} {tt : TT}
  (hN : X.N = N) (hsc : X.env.scope = sc) (hc : X.calm = true) (S : ZQO N sc own caps ks scope) (hi : QI X tg iter wi)
  (hg : ∀ cl C s₂ H₂ fp, QG (ZFj X (own ++ caps) scope cl C s₂ H₂ fp) tg g)
  (ht : ∀ cl C s₂ H₂ fp, QF (ZFj X (own ++ caps) scope cl C s₂ H₂ fp) ifs tt)
  (he : ∀ cl C s₂ H₂ fp, QE (ZFj X (own ++ caps) scope cl C s₂ H₂ fp) elt te)
  (hs : ∀ x, foldedSetIterable iter X.env x = pure x := by intro _; rfl) :
  QE X (.ListComp elt [⟨tg, iter, ifs, 0⟩] scope pos) (ZPH own.length ks wi g tt te) :=
 ⟨ZUZ hN hsc hc S hi.h (fun cl C s₂ H₂ fp => (hg cl C s₂ H₂ fp).h) (fun cl C s₂ H₂ fp => (ht cl C s₂ H₂ fp).h) (fun cl C s₂ H₂ fp => (he cl C s₂ H₂ fp).h) hs⟩
theorem ZIv {T : String} {name : Str} {id : String} {r : V → List V → Hp → VK → Prop} {apos cpos : Pos} (pa : PlainAttrs T) (slot : Slot T name id) (hty : typeOf (.builtin id) = pure (.type "method_descriptor")) (hm : MtR X id r) (ho : QE X o to) (ha : QA X (e :: es) t)
  (hst : ZFE (e :: es) = true := by rfl) (hbase : attributeBase o name X.env (eval o X.env) = eval o X.env := by rfl)
  (hfew : ((backTo cpos (starEach (e :: es) X.env)).all (fun x => !x.1) && (backToKw cpos (keywordEach [] X.env)).all (fun x => x.1.isSome)
   && decide ((e :: es).length + ([] : List Keyword).length + (if ([] : List Keyword).isEmpty then 0 else 1) < 30)) = true := by rfl)
  (hline : (apos.endLine == cpos.line) = true := by rfl) : QE X (.Call (.Attribute o name apos) (e :: es) [] cpos) (tBM X.K T r to t) :=
 ⟨ZXl pa slot hty hm ho.h ha.h hbase hfew hline (ZGY hst) (ZGA (ZF6 hst))⟩
end
section
variable {X : Cx} {st : Stmt} {ZFp sa sb : List Stmt} {t u : TS} {e c : Expr} {te : TE} {tA : TT} {pos pos' : Pos} {x : Str}
theorem ZEd : QB X [] ZOt := ⟨ZUB⟩
theorem ZEC (h1 : QS X st t) (h2 : QB X ZFp u) : QB X (st :: ZFp) (ZRg t u) := ⟨ZRh h1.h h2.h⟩
theorem ZED (h1 : QS X st t) : QB X [st] t := ⟨ZUC h1.h⟩
theorem ZEX (he : QE X e te) (hs : ZGM e = false := by rfl) : QS X (.Expr e pos) (ZMW te) := ⟨ZSL he.h hs⟩
theorem ZES (he : QE X e te) : QS X (.Return (some e) pos) (ZRi te) := ⟨ZWC he.h⟩
theorem ZEg (hc : QT X c tA) (ha : QB X sa t) (hb : QB X sb u) : QS X (.If c sa sb pos) (ZKO tA t u) := ⟨ZXg hc.h ha.h hb.h⟩
theorem ZGT : QS X st ZP2 := ⟨ZRj⟩
theorem ZUy {i : Nat} (hN : X.N.Nodup) (hi : X.N[i]? = some x) (hx : Loc X.env.scope x) (he : QE X e te) (hs : ZGM e = false := by rfl) (hf : X.fn x = true ∨ X.env.scope.names.lookup x = some .local := by first | exact .inl rfl | exact .inr rfl | assumption) :
 QS X (.Assign [.Name x pos'] e pos) (ZJQ te (ZHa i)) := ⟨ZUc hN hi hx he.h hs hf⟩
theorem ZFT {tg : Expr} {g : TG} (he : QE X e te) (hg : QG X tg g) (hs : ZGM e = false := by rfl) (hw : swappedStores [tg] e X.env = pure none := by rfl)
 (h1 : (assignEach [tg] X.env).map (·.2) = [assign tg X.env] := by rfl) : QS X (.Assign [tg] e pos) (ZJQ te g) := ⟨ZP3 he.h hg.h (ZG7 hs) hw h1⟩
theorem ZGK {tg iter : Expr} {wi : TI} {g : TG} (hp : PassesOwn (model X.prog X.w) X.A X.env X.xe) (hc : X.calm = true) (hi : QI X tg iter wi) (hg : QG X tg g) (hb : QB X sa t)
 (hs : ∀ x, foldedSetIterable iter X.env x = pure x := by intro _; rfl) : QS X (.For tg iter sa [] pos) (ZRq wi g t) := ⟨ZWK hp hc hi.h hg.h hb.h hs⟩
theorem ZMx (hp : PassesOwn (model X.prog X.w) X.A X.env X.xe) (hc : QT X c tA) (hb : QB X sa t) : QS X (.While c sa [] pos) (ZMh tA t) := ⟨ZRo hp hc.h hb.h⟩
end
section
variable {X : Cx} {e : Expr} {es : List Expr} {te : TE} {pos : Pos} (K : W.Frag) (h : X.K = K)
include h
theorem ZIf : ZFG X (.builtin "len") (ZPJ K) := h ▸ ZWh
theorem ZHB : ZFG X (.type "tuple") (ZMr K) := h ▸ ZSM
theorem ZQZ : ZFG X (.builtin "isinstance") (ZSG K) := h ▸ ZSH
theorem ZEi : IxR X (ZPB K) := h ▸ ZUW
theorem ZEY : IxR X (ZSA K) := h ▸ ZWW
theorem ZUz : SlR X (ZSB K) := h ▸ ZUX
theorem ZFz {tg : Expr} (hl : QE X e te) : QI X tg e (ZMY K te) := h ▸ ZUx hl
theorem ZMy {tg : Expr} (hl : QE X e te) : QI X tg e (ZO0 K te) := h ▸ ZW6 hl
theorem ZFN {k : Nat} {u : TGs} {n : Nat} (hc : X.calm = true) (hg : QGs X es u) (hn : (assignEach es X.env).length = n := by rfl) (hst : (assignEach es X.env).findIdx? (·.1) = none := by rfl) : QG X (.Tuple es k pos) (ZOw K n u) := h ▸ ZW7 hc hg hn hst
end
mutual
inductive Dat (K : W.Frag) (H : Hp) : V → PyData → Prop
 | non : Dat K H .non .none
 | bl (b : Bool) : Dat K H (.bl b) (.bool b)
 | int (i : Int) : Dat K H (.int i) (.int i)
 | str (x : Str) : Dat K H (.str x) (.str x)
 | tup {a : Addr} {xs : List V} {ds : List PyData} (h : SqT K H a xs) (r : ZGP K H xs ds) : Dat K H (.ref a) (.tuple ds)
 | lst {a : Addr} {xs : List V} {ds : List PyData} (h : SqL K H a xs) (r : ZGP K H xs ds) : Dat K H (.ref a) (.list ds)
inductive ZGP (K : W.Frag) (H : Hp) : List V → List PyData → Prop
 | nil : ZGP K H [] []
 | cons {x : V} {d : PyData} {xs : List V} {ds : List PyData} (h : Dat K H x d) (r : ZGP K H xs ds) : ZGP K H (x :: xs) (d :: ds)
end
section
variable {X : Cx} {pins : List (Addr × Obj)} {σ : St} {H : Hp} {s : Shared}
mutual
theorem Dat.reads (I : Inv X pins σ H s) : ∀ {x : V} {d : PyData} {u : Value}, Dat X.K H x d → ZER x u → ∃ as, Reads s.heap u d as
 | _, _, u, .non, r => by cases (show u = Value.none from r); exact ⟨_, .none⟩
 | _, _, u, .bl b, r => by cases (show u = Value.bool b from r); exact ⟨_, .bool b⟩
 | _, _, u, .int i, r => by obtain ⟨t, rfl⟩ := (show ∃ t, u = Value.int i t from r); exact ⟨_, .int i t⟩
 | _, _, u, .str x, r => by obtain ⟨t, rfl⟩ := (show ∃ t, u = Value.str x t from r); exact ⟨_, .str x t⟩
 | _, _, u, @Dat.tup _ _ a xs ds h rs, r => by
  cases (show u = Value.ref a from r)
  obtain ⟨its, rv, ⟨o, ho, hc, n, hd⟩, _⟩ := I.tuple h
  obtain ⟨as, ra⟩ := ZGP.reads I rs rv
  exact ⟨_, .tuple ho hc hd (by simpa using ra)⟩
 | _, _, u, @Dat.lst _ _ a xs ds h rs, r => by
  cases (show u = Value.ref a from r)
  obtain ⟨its, rv, ⟨o, n, ho, hc, _, hd⟩, _⟩ := I.list h
  obtain ⟨as, ra⟩ := ZGP.reads I rs rv
  exact ⟨_, .list ho hc hd (by simpa using ra)⟩
theorem ZGP.reads (I : Inv X pins σ H s) : ∀ {xs : List V} {ds : List PyData} {us : List Value}, ZGP X.K H xs ds → ZEU xs us → ∃ as, ReadsAll s.heap us ds as
 | _, _, _, .nil, .nil => ⟨_, .nil⟩
 | _, _, _, .cons h r, .cons r1 r2 => by
  obtain ⟨as, ra⟩ := Dat.reads I h r1
  obtain ⟨bs, rb⟩ := ZGP.reads I r r2
  exact ⟨_, .cons ra rb⟩
end
end
section
variable {X : Cx}
theorem ZXt {K : W.Frag} {T : String} {r : V → List V → Hp → VK → Prop} {to : TE} {t : TA} {σ : St} {H : Hp} {Q : VK} (h : to σ H fun x H1 => tyV K T x H1 ∧ t σ H1 fun xs H2 => r x xs H2 Q) : tBM K T r to t σ H Q := h
theorem tyL {K : W.Frag} {H : Hp} {p : Addr} {xs : List V} (h : H p = some (.lst xs)) : tyV K "list" (.ref p) H := .inl ⟨rfl, xs, SqL.of h⟩
theorem ZF7 {H : Hp} {Q : VK} {p : Addr} {xs : List V} {y : V} (h1 : H p = some (.lst xs)) (hz : xs.length < sizeLine) (h : ∀ H2, H2 p = some (.lst (xs ++ [y])) → Kp p H H2 → Q .non H2) : ZOW (.ref p) [y] H Q :=
 ⟨p, xs, y, rfl, rfl, h1, hz, h _ ZEN Kp.upd⟩
end
def ZTt (p : Int × Int) : PyData := .tuple [.int p.1, .int p.2]
def ZEP (H : Hp) (vs : List V) (l : PL) : Prop := Paired (fun v (p : Int × Int) => ∃ a, v = V.ref a ∧ H a = some (.tup [.int p.1, .int p.2])) vs l
theorem ZEP.same {H H' : Hp} {vs : List V} {l : PL} (h : ZEP H vs l) (s : ZEI H H') : ZEP H' vs l := Paired.mapP h fun _ _ ⟨a, e, z⟩ => ⟨a, e, s _ _ z⟩
theorem ZEP.dats {K : W.Frag} {H : Hp} : ∀ {vs : List V} {l : PL}, ZEP H vs l → ZGP K H vs (l.map ZTt)
 | _, _, .nil => .nil
 | _, _, .cons ⟨a, e, z⟩ t => by
  subst e
  exact .cons (.tup (SqT.of z) (.cons (.int _) (.cons (.int _) .nil))) (ZEP.dats t)
section
variable {κ : Type} [DecidableEq κ]
def ZEc (kvs : List (κ × V)) (k : κ) : Option V := (kvs.find? fun kv => decide (kv.1 = k)).map (·.2)
def ZFi (kvs : List (κ × V)) (k : κ) (v : V) : List (κ × V) :=
 if (kvs.any fun kv => decide (kv.1 = k)) = true then kvs.map (fun kv => if kv.1 = k then (kv.1, v) else kv) else kvs ++ [(k, v)]
def ZFf (kvs : List (κ × V)) (k : κ) : List (κ × V) := kvs.filter fun kv => decide (kv.1 ≠ k)
theorem ZST {k : κ} : ZEc ([] : List (κ × V)) k = none := rfl
theorem ZFU {p : κ × V} {r : List (κ × V)} {k : κ} (e : p.1 = k) : ZEc (p :: r) k = some p.2 := by simp [ZEc, List.find?_cons, e]
theorem ZFR {p : κ × V} {r : List (κ × V)} {k : κ} (e : ¬ p.1 = k) : ZEc (p :: r) k = ZEc r k := by simp [ZEc, List.find?_cons, e]
theorem ZIw (k : κ) : ∀ kvs : List (κ × V), (kvs.any fun kv => decide (kv.1 = k)) = (ZEc kvs k).isSome
 | [] => rfl
 | p :: r => by
  rw [List.any_cons]
  by_cases e : p.1 = k
  ·simp only [ZFU e, decide_eq_true e, Bool.true_or, Option.isSome_some]
  ·rw [ZFR e, decide_eq_false e, Bool.false_or]; exact ZIw k r
theorem ZMz (k j : κ) (y : V) : ∀ kvs : List (κ × V), ZEc (kvs.map fun kv => if kv.1 = k then (kv.1, y) else kv) j = (ZEc kvs j).map fun x => if j = k then y else x
 | [] => rfl
 | p :: r => by
  have ih := ZMz k j y r
  rw [List.map_cons]
  by_cases h : p.1 = k
  ·rw [if_pos h]
   by_cases e : p.1 = j
   ·rw [ZFU (p := (p.1, y)) e, ZFU e, Option.map_some, if_pos (e.symm.trans h)]
   ·rw [ZFR (p := (p.1, y)) e, ZFR e, ih]
  ·rw [if_neg h]
   by_cases e : p.1 = j
   ·rw [ZFU (p := p) e, ZFU e, Option.map_some, if_neg (fun z => h (e.trans z))]
   ·rw [ZFR (p := p) e, ZFR e, ih]
theorem ZLt (k j : κ) (y : V) : ∀ kvs : List (κ × V), ZEc kvs k = none → ZEc (kvs ++ [(k, y)]) j = if j = k then some y else ZEc kvs j
 | [], _ => by
  by_cases e : k = j
  ·rw [if_pos e.symm]; exact ZFU (p := (k, y)) e
  ·rw [if_neg (fun z => e z.symm)]; exact ZFR (p := (k, y)) e
 | p :: r, hn => by
  rw [List.cons_append]
  have hk : ¬ p.1 = k := fun z => by rw [ZFU z] at hn; cases hn
  rw [ZFR hk] at hn
  have ih := ZLt k j y r hn
  by_cases e : p.1 = j
  ·rw [ZFU e, ZFU e, if_neg (fun z => hk (e.trans z))]
  ·rw [ZFR e, ZFR e, ih]
theorem ZHC (kvs : List (κ × V)) (k j : κ) (y : V) : ZEc (ZFi kvs k y) j = if j = k then some y else ZEc kvs j := by
 unfold ZFi
 by_cases a : (kvs.any fun kv => decide (kv.1 = k)) = true
 ·rw [if_pos a, ZMz]
  rw [ZIw] at a
  by_cases e : j = k
  ·obtain ⟨x, hx⟩ := Option.isSome_iff_exists.mp a
   rw [if_pos e, e, hx, Option.map_some, if_pos rfl]
  ·rw [if_neg e]
   cases ZEc kvs j with
   | none => rfl
   | some x => rw [Option.map_some, if_neg e]
 ·rw [if_neg a]
  refine ZLt k j y kvs ?_
  rw [ZIw] at a
  cases q : ZEc kvs k with
  | none => rfl
  | some x => rw [q] at a; exact (a rfl).elim
theorem ZGO (kvs : List (κ × V)) (k : κ) (v : V) : (ZFi kvs k v).length ≤ kvs.length + 1 := by
 unfold ZFi
 split
 ·rw [List.length_map]; omega
 ·rw [List.length_append, List.length_cons, List.length_nil]; omega
theorem ZFw.isSome_eq {o : Option V} {u : Option Value} (r : ZFw o u) : o.isSome = u.isSome := by
 cases o with
 | none => cases u with
  | none => rfl
  | some _ => exact (show False from r).elim
 | some _ => cases u with
  | none => exact (show False from r).elim
  | some _ => rfl
theorem ZFw.getD {o : Option V} {u : Option Value} {d : V} {d' : Value} (r : ZFw o u) (rd : ZER d d') : ZER (o.getD d) (u.getD d') := by
 cases o with
 | none => cases u with
  | none => exact rd
  | some _ => exact (show False from r).elim
 | some _ => cases u with
  | none => exact (show False from r).elim
  | some _ => exact r
theorem KV.val {kvs : List (κ × V)} {vs : List (κ × Value)} (r : KV kvs vs) (k : κ) : ZFw (ZEc kvs k) (valueAt vs k) := by
 unfold KV at r
 induction r with
 | nil => exact True.intro
 | @cons p q ps qs h t ih =>
  obtain ⟨h1, h2⟩ := h
  by_cases e : p.1 = k
  ·have e' : q.1 = k := h1.symm.trans e
   have b : valueAt (q :: qs) k = some q.2 := by simp [valueAt, List.find?_cons, e']
   rw [ZFU e, b]; exact h2
  ·have e' : ¬ q.1 = k := fun z => e (h1.trans z)
   have b : valueAt (q :: qs) k = valueAt qs k := by simp [valueAt, List.find?_cons, e']
   rw [ZFR e, b]; exact ih
theorem KV.any {kvs : List (κ × V)} {vs : List (κ × Value)} (r : KV kvs vs) (k : κ) : (kvs.any fun kv => decide (kv.1 = k)) = vs.any fun kv => decide (kv.1 = k) := by
 unfold KV at r
 induction r with
 | nil => rfl
 | cons h t ih => rw [List.any_cons, List.any_cons, ih, h.1]
theorem KV.repl {kvs : List (κ × V)} {vs : List (κ × Value)} (r : KV kvs vs) (k : κ) {y : V} {u : Value} (ry : ZER y u) :
  KV (kvs.map fun kv => if kv.1 = k then (kv.1, y) else kv) (vs.map fun kv => if kv.1 = k then (kv.1, u) else kv) := by
 unfold KV at r ⊢
 induction r with
 | nil => exact .nil
 | @cons p q ps qs h t ih =>
  rw [List.map_cons, List.map_cons]
  refine .cons ?_ ih
  obtain ⟨h1, h2⟩ := h
  by_cases e : p.1 = k
  ·rw [if_pos e, if_pos (h1.symm.trans e)]; exact ⟨h1, ry⟩
  ·rw [if_neg e, if_neg (fun z => e (h1.trans z))]; exact ⟨h1, h2⟩
theorem KV.put {kvs : List (κ × V)} {vs : List (κ × Value)} (r : KV kvs vs) (k : κ) {y : V} {u : Value} (ry : ZER y u) : KV (ZFi kvs k y) (stored vs k u) := by
 unfold ZFi stored
 rw [r.any k]
 by_cases e : (vs.any fun kv => decide (kv.1 = k)) = true
 ·rw [if_pos e, if_pos e]; exact r.repl k ry
 ·rw [if_neg e, if_neg e]; exact Paired.snoc r ⟨rfl, ry⟩
theorem KV.drop {kvs : List (κ × V)} {vs : List (κ × Value)} (r : KV kvs vs) (k : κ) : KV (ZFf kvs k) (without vs k) := by
 unfold KV at r ⊢
 unfold ZFf without
 induction r with
 | nil => exact .nil
 | @cons p q ps qs h t ih =>
  obtain ⟨h1, h2⟩ := h
  rw [List.filter_cons, List.filter_cons]
  by_cases e : p.1 = k
  ·have a : ¬ decide (p.1 ≠ k) = true := by simp [e]
   have b : ¬ decide (q.1 ≠ k) = true := by simp [h1.symm.trans e]
   rw [if_neg a, if_neg b]; exact ih
  ·have e' : ¬ q.1 = k := fun z => e (h1.trans z)
   have a : decide (p.1 ≠ k) = true := by simp [e]
   have b : decide (q.1 ≠ k) = true := by simp [e']
   rw [if_pos a, if_pos b]; exact .cons ⟨h1, h2⟩ ih
theorem KV.length {kvs : List (κ × V)} {vs : List (κ × Value)} (r : KV kvs vs) : kvs.length = vs.length := Paired.length r
theorem ZSU (kvs : List (κ × V)) (k : κ) : (ZFf kvs k).length ≤ kvs.length := List.length_filter_le _ _
end
theorem ZHd {P : Program} {w : World} {k : Key} {u : Value} (r : ZER (kV k) u) : (ZEy P w).is k u = true := by
 cases k with
 | inl i => obtain ⟨t, e⟩ := (show ∃ t, u = Value.int i t from r); subst e; exact ZN1 P w i t
 | inr x => obtain ⟨t, e⟩ := (show ∃ t, u = Value.str x t from r); subst e; exact ZN2 P w x t
theorem ZLu {P : Program} {w : World} : ∀ {ks : List Key} {us : List Value}, ZEU (ks.map kV) us → ItemsAre (ZEy P w) ks us
 | [], _, r => by rw [List.map_nil] at r; cases r; exact .nil
 | k :: ks, _, r => by
  rw [List.map_cons] at r
  cases r with
  | cons h t => exact .cons (ZHd h) (ZLu t)
abbrev KT (H : Hp) : List (List Key × V) → List (List Key × Addr × Value) → Prop := Paired fun p q => p.1 = q.1 ∧ H q.2.1 = some (.tup (p.1.map kV)) ∧ ZER p.2 q.2.2
theorem KT.val {H : Hp} {kvs : List (List Key × V)} {xs : List (List Key × Addr × Value)} (r : KT H kvs xs) (k : List Key) : ZFw (ZEc kvs k) ((atKey xs k).map (·.2)) := by
 induction r with
 | nil => exact True.intro
 | @cons p q ps qs h t ih =>
  obtain ⟨h1, _, h2⟩ := h
  by_cases e : p.1 = k
  ·have e' : q.1 = k := h1.symm.trans e
   have b : atKey (q :: qs) k = some q.2 := by simp [atKey, List.find?_cons, e']
   rw [ZFU e, b]; exact h2
  ·have e' : ¬ q.1 = k := fun z => e (h1.trans z)
   have b : atKey (q :: qs) k = atKey qs k := by simp [atKey, List.find?_cons, e']
   rw [ZFR e, b]; exact ih
theorem KT.repl {H : Hp} {kvs : List (List Key × V)} {xs : List (List Key × Addr × Value)} (r : KT H kvs xs) (k : List Key) {y : V} {u : Value} (ry : ZER y u) :
  KT H (kvs.map fun kv => if kv.1 = k then (kv.1, y) else kv) (xs.map (putAt k u)) := by
 induction r with
 | nil => exact .nil
 | @cons p q ps qs h t ih =>
  rw [List.map_cons, List.map_cons]
  refine .cons ?_ ih
  obtain ⟨h1, h2, h3⟩ := h
  unfold putAt
  by_cases e : p.1 = k
  ·rw [if_pos e, if_pos (h1.symm.trans e)]; exact ⟨h1, h2, ry⟩
  ·rw [if_neg e, if_neg (fun z => e (h1.trans z))]; exact ⟨h1, h2, h3⟩
theorem KT.put {H : Hp} {kvs : List (List Key × V)} {xs : List (List Key × Addr × Value)} (r : KT H kvs xs) (k : List Key) {b : Addr} {y : V} {u : Value} (hb : H b = some (.tup (k.map kV))) (ry : ZER y u) :
  KT H (ZFi kvs k y) (storedH xs k b u) := by
 have e : (kvs.any fun kv => decide (kv.1 = k)) = (atKey xs k).isSome := by
  rw [ZIw, (r.val k).isSome_eq, Option.isSome_map]
 unfold ZFi storedH
 rw [e]
 by_cases q : (atKey xs k).isSome = true
 ·rw [if_pos q, if_pos q]; exact r.repl k ry
 ·rw [if_neg q, if_neg q]; exact Paired.snoc r ⟨rfl, hb, ry⟩
theorem KT.keeps {H H' : Hp} {kvs : List (List Key × V)} {xs : List (List Key × Addr × Value)} (r : KT H kvs xs) (ht : ∀ b ys, H b = some (.tup ys) → H' b = some (.tup ys)) : KT H' kvs xs :=
 Paired.mapP r fun _ _ z => ⟨z.1, ht _ _ z.2.1, z.2.2⟩
section
variable {P : Program} {w : World} {H : Hp} {h : Heap} {a : Addr}
theorem ZTu {u : HO} (ok : HOk P w H h) (e : Rd H a u) : ZEv P w H h a u := e.ok ok
theorem ZHK {kvs : List (Key × V)} (ok : HOk P w H h) (e : Rd H a (.dK kvs)) : kvs.length ≤ sizeLine ∧ (a == sysModules) = false ∧ ∃ vs, KV kvs vs ∧ h.DictOf (ZEy P w) a vs :=
 show ZEv P w H h a (.dK kvs) from ZTu ok e
theorem ZK8 {kvs : List (Key × V)} (ok : HOk P w H h) (e : H a = some (.dK kvs)) : kvs.length ≤ sizeLine ∧ (a == sysModules) = false ∧ ∃ vs, KV kvs vs ∧ h.DictOf (ZEy P w) a vs := ZHK ok (.inl e)
theorem ZHR {ks : List Key} (ok : HOk P w H h) (e : H a = some (.tup (ks.map kV))) : (tupleKind (ZEy P w)).is h ks a := by
 obtain ⟨_, its, r, o, h1, h2, n, h3⟩ := (show ZEv P w H h a (.tup (ks.map kV)) from ok a _ e)
 exact ⟨o, its.toArray, n, h1, h2, h3, by simpa using ZLu r⟩
theorem ZH9 {kvs : List (List Key × V)} (ok : HOk P w H h) (e : Rd H a (.dT kvs)) : kvs.length ≤ sizeLine ∧ (a == sysModules) = false ∧
  ∃ xs, KT H kvs xs ∧ h.DictOfH (tupleKind (ZEy P w)) a xs := by
 obtain ⟨z, y, xs, r, o, es, ep, h1, h2, h3, h4, h5⟩ := (show ZEv P w H h a (.dT kvs) from ZTu ok e)
 refine ⟨z, y, xs, r, o, es, ep, h1, h2, h3, h4, fun x hx => ?_, h5⟩
 have all : ∀ {l : List (List Key × V)} {m : List (List Key × Addr × Value)}, KT H l m → ∀ x ∈ m, (tupleKind (ZEy P w)).is h x.1 x.2.1 := by
  intro l m q
  induction q with
  | nil => intro x hx; exact nomatch hx
  | @cons p q ps qs hq t ih =>
   intro x hx
   rcases List.mem_cons.mp hx with e | hx
   ·subst e
    exact ZHR ok (by rw [← hq.1]; exact hq.2.1)
   ·exact ih x hx
 exact all r x hx
theorem ZTv {kvs : List (List Key × V)} (ok : HOk P w H h) (e : H a = some (.dT kvs)) : kvs.length ≤ sizeLine ∧ (a == sysModules) = false ∧
 ∃ xs, KT H kvs xs ∧ h.DictOfH (tupleKind (ZEy P w)) a xs := ZH9 ok (.inl e)
end
def ZFS (H : Hp) (a : Addr) (y : V) (r : Option V) : Prop :=
 (∃ kvs k, Rd H a (.dK kvs) ∧ y = kV k ∧ r = ZEc kvs k) ∨ ∃ kvs k b, Rd H a (.dT kvs) ∧ y = .ref b ∧ H b = some (.tup (k.map kV)) ∧ r = ZEc kvs k
def ZIx (H : Hp) (a : Addr) (y v : V) (H' : Hp) : Prop :=
 (∃ kvs k, H a = some (.dK kvs) ∧ y = kV k ∧ kvs.length < sizeLine ∧ H' = upd H a (.dK (ZFi kvs k v))) ∨
 ∃ kvs k b, H a = some (.dT kvs) ∧ y = .ref b ∧ H b = some (.tup (k.map kV)) ∧ kvs.length < sizeLine ∧ H' = upd H a (.dT (ZFi kvs k v))
theorem ZFS.k {H : Hp} {a : Addr} {kvs : List (Key × V)} {k : Key} (e : H a = some (.dK kvs)) : ZFS H a (kV k) (ZEc kvs k) := .inl ⟨kvs, k, .inl e, rfl, rfl⟩
theorem ZFS.t {H : Hp} {a b : Addr} {kvs : List (List Key × V)} {k : List Key} (e : H a = some (.dT kvs)) (eb : H b = some (.tup (k.map kV))) : ZFS H a (.ref b) (ZEc kvs k) := .inr ⟨kvs, k, b, .inl e, rfl, eb, rfl⟩
theorem ZIx.k {H : Hp} {a : Addr} {kvs : List (Key × V)} {k : Key} {v : V} (e : H a = some (.dK kvs)) (hl : kvs.length < sizeLine) : ZIx H a (kV k) v (upd H a (.dK (ZFi kvs k v))) := .inl ⟨kvs, k, e, rfl, hl, rfl⟩
theorem ZIx.t {H : Hp} {a b : Addr} {kvs : List (List Key × V)} {k : List Key} {v : V} (e : H a = some (.dT kvs)) (eb : H b = some (.tup (k.map kV))) (hl : kvs.length < sizeLine) :
 ZIx H a (.ref b) v (upd H a (.dT (ZFi kvs k v))) := .inr ⟨kvs, k, b, e, rfl, eb, hl, rfl⟩
section
variable {X : Cx} {pins : List (Addr × Obj)} {σ : St} {H : Hp} {s : Shared} {a : Addr} {y v : V} {u r : Value} {o : Option V} {A : Around} {E : Value → Shared → Prop}
theorem Inv.big (I : Inv X pins σ H s) : sysModules < s.heap.objs.size := by
 have h : mainGlobals < s.heap.objs.size := (I.mod.glob.keeps I.bk).lt
 exact Nat.lt_trans (by decide) h
theorem ZQa {Q : Value → Shared → Prop} (hu : A.units + 1 < cLine) (I : Inv X pins σ H s) (g : ZFS H a y (some v)) (ry : ZER y u) (h : ∀ w' s', Inv X pins σ H s' → ZER v w' → Q w' s') :
  wpAny (model X.prog X.w) A (getItem (.ref a) u) Q E s := by
 rcases g with ⟨kvs, k, e, ey, l⟩ | ⟨kvs, k, b, e, ey, eb, l⟩
 ·subst ey
  obtain ⟨z, hd, vs, rel, dd⟩ := ZHK I.hok e
  obtain ⟨w', hw, rw'⟩ := ZFw.some_of (v := v) (o := valueAt vs k) (by rw [l]; exact rel.val k)
  exact wpAny_getItem_of (ZHd ry) dd.mapOf hw (h w' _ (I.tok _) rw')
 ·subst ey
  cases (show u = Value.ref b from ry)
  obtain ⟨z, hd, xs, rel, dd⟩ := ZH9 I.hok e
  obtain ⟨w', hw, rw'⟩ := ZFw.some_of (v := v) (o := (atKey xs k).map (·.2)) (by rw [l]; exact rel.val k)
  obtain ⟨p, hp, hp2⟩ := Option.map_eq_some_iff.mp hw
  refine wpAny_getItem_heap (tupleKind_room_in1 hu) (ZHR I.hok eb) dd hp ?_
  rw [hp2]
  exact h w' _ (I.tok _) rw'
theorem ZYF {Q : Value → Shared → Prop} (hu : A.units + 1 < cLine) (I : Inv X pins σ H s) (g : ZFS H a y o) (ry : ZER y u) (h : ∀ s', Inv X pins σ H s' → Q (.bool o.isSome) s') :
  wpAny (model X.prog X.w) A (compareOp .In u (.ref a)) Q E s := by
 rcases g with ⟨kvs, k, e, ey, l⟩ | ⟨kvs, k, b, e, ey, eb, l⟩
 ·subst ey
  obtain ⟨z, hd, vs, rel, dd⟩ := ZHK I.hok e
  refine wpAny_in_of (ZHd ry) hd dd.mapOf ?_
  rw [← (rel.val k).isSome_eq, ← l]
  exact h _ (I.tok _)
 ·subst ey
  cases (show u = Value.ref b from ry)
  obtain ⟨z, hd, xs, rel, dd⟩ := ZH9 I.hok e
  refine wpAny_in_heap (tupleKind_room_in1 hu) (ZHR I.hok eb) hd dd ?_
  have q := (rel.val k).isSome_eq
  rw [Option.isSome_map] at q
  rw [← q, ← l]
  exact h _ (I.tok _)
theorem ZU0 {Q : Value → Shared → Prop} (hu : A.units + 1 < cLine) (I : Inv X pins σ H s) (g : ZFS H a y o) (ry : ZER y u) (h : ∀ s', Inv X pins σ H s' → Q (.bool (!o.isSome)) s') :
  wpAny (model X.prog X.w) A (compareOp .NotIn u (.ref a)) Q E s := by
 rcases g with ⟨kvs, k, e, ey, l⟩ | ⟨kvs, k, b, e, ey, eb, l⟩
 ·subst ey
  obtain ⟨z, hd, vs, rel, dd⟩ := ZHK I.hok e
  refine wpAny_notIn_of (ZHd ry) hd dd.mapOf ?_
  rw [← (rel.val k).isSome_eq, ← l]
  exact h _ (I.tok _)
 ·subst ey
  cases (show u = Value.ref b from ry)
  obtain ⟨z, hd, xs, rel, dd⟩ := ZH9 I.hok e
  refine wpAny_notIn_heap (tupleKind_room_in1 hu) (ZHR I.hok eb) hd dd ?_
  have q := (rel.val k).isSome_eq
  rw [Option.isSome_map] at q
  rw [← q, ← l]
  exact h _ (I.tok _)
theorem ZIg {h' : Heap} {t' : Nat} {ob : HO} (I : Inv X pins σ H s) (mu : Mut (H a)) (hs : Heap.SameBut a s.heap h') (he : ∃ q, h'.get? a = some q) (new : ZEv X.prog X.w (upd H a ob) h' a ob) :
  Inv X pins σ (upd H a ob) { s with heap := h', toks := t' } :=
 I.write (x := a) (e := a) mu (.inl rfl) (fun b q hb z => (hs.2 b hb).trans z) he new
theorem ZM0 {P : Program} {w : World} {H' : Hp} {h' : Heap} {kvs : List (Key × V)} {vs : List (Key × Value)} (z : kvs.length ≤ sizeLine) (hd : (a == sysModules) = false) (rel : KV kvs vs) (dd : h'.DictOf (ZEy P w) a vs) :
 ZEv P w H' h' a (.dK kvs) := ⟨z, hd, vs, rel, dd⟩
theorem ZQb {H' : Hp} {Q : Unit → Shared → Prop} (hu : A.units + 1 < cLine) (I : Inv X pins σ H s) (g : ZIx H a y v H') (ry : ZER y u) (rv : ZER v r) (h : ∀ s', Inv X pins σ H' s' → Q () s') :
  wpAny (model X.prog X.w) A (setItem (.ref a) u r) Q E s := by
 rcases g with ⟨kvs, k, e, ey, l, eH⟩ | ⟨kvs, k, b, e, ey, eb, l, eH⟩
 ·subst ey eH
  obtain ⟨z, hd, vs, rel, dd⟩ := ZK8 I.hok e
  have hz : vs.length ≤ sizeLine := by rw [← rel.length]; exact z
  have hl : (ZFi kvs k v).length ≤ sizeLine := by have := ZGO kvs k v; omega
  refine wpAny_setItem_pairs (hsz := hz) (ZHd ry) dd fun h' dd' hs => h _ ?_
  have he : ∃ q, h'.get? a = some q := let ⟨q, _, _, hq, _⟩ := dd'; ⟨q, hq⟩
  exact ZIg I (by rw [e]; exact True.intro) hs he (ZM0 hl hd (rel.put k rv) dd')
 ·subst ey eH
  cases (show u = Value.ref b from ry)
  obtain ⟨z, hd, xs, rel, dd⟩ := ZTv I.hok e
  have hz : xs.length ≤ sizeLine := by rw [← Paired.length rel]; exact z
  have hl : (ZFi kvs k v).length ≤ sizeLine := by have := ZGO kvs k v; omega
  refine wpAny_setItem_heap (hsz := hz) (tupleKind_room_in1 hu) (ZHR I.hok eb) dd fun h' dd' hs => h _ ?_
  obtain ⟨q, es, ep, hq, h2, h3, h4, _, h5⟩ := dd'
  refine ZIg I (by rw [e]; exact True.intro) hs ⟨q, hq⟩ ⟨hl, hd, _, (rel.put k eb rv).keeps fun c ys ec => ?_, q, es, ep, hq, h2, h3, h4, h5⟩
  rw [ZEV (ZTo ec e (fun z => nomatch z))]
  exact ec
end
section
variable {X : Cx} {pins : List (Addr × Obj)} {σ : St} {H : Hp} {s : Shared} {a : Addr} {kvs : List (Key × V)} {k : Key} {u : Value} {A : Around} {E : Value → Shared → Prop}
theorem ZTw {v : V} {more : List Value} {Q : Value → Shared → Prop} (I : Inv X pins σ H s) (e : H a = some (.dK kvs)) (ry : ZER (kV k) u) (l : ZEc kvs k = some v) (hm : more = [] ∨ ∃ x, more = [x])
  (h : ∀ w' s', Inv X pins σ (upd H a (.dK (ZFf kvs k))) s' → ZER v w' → Q w' s') : wpAny (model X.prog X.w) A (call (.builtin "dict.pop") (.ref a :: u :: more)) Q E s := by
 obtain ⟨z, hd, vs, rel, dd⟩ := ZK8 I.hok e
 obtain ⟨w', hw, rw'⟩ := ZFw.some_of (v := v) (o := valueAt vs k) (by rw [← l]; exact rel.val k)
 have hp : (keyPart u).isSome = true := by
  cases k with
  | inl i => obtain ⟨t, q⟩ := (show ∃ t, u = Value.int i t from ry); subst q; rfl
  | inr x => obtain ⟨t, q⟩ := (show ∃ t, u = Value.str x t from ry); subst q; rfl
 have ha : argsOk "dict.pop" ⟨.ref a :: u :: more, []⟩ := by
  rcases hm with q | ⟨x, q⟩
  ·subst q; exact PySem.F.args_dict_pop_2 _ _
  ·subst q; exact PySem.F.args_dict_pop_3 _ _ _
 refine call_meetsIn PySem.F.slot_dict_pop dd.typeIs PySem.F.entry_dict_pop ha (meets_dict_pop_there (ZEy X.prog X.w) a (ZHd ry) more hm hp)
  ⟨vs, w', dd, by rw [← rel.length]; exact z, hw, fun h' dd' hs => h w' _ ?_ rw'⟩
 have he : ∃ q, h'.get? a = some q := let ⟨q, _, _, hq, _⟩ := dd'; ⟨q, hq⟩
 exact ZIg I (by rw [e]; exact True.intro) hs he (ZM0 (Nat.le_trans (ZSU kvs k) z) hd (rel.drop k) dd')
theorem ZW8 {r : Value} {Q : Value → Shared → Prop} (I : Inv X pins σ H s) (e : H a = some (.dK kvs)) (ry : ZER (kV k) u) (l : ZEc kvs k = none) (h : ∀ s', Inv X pins σ H s' → Q r s') :
  wpAny (model X.prog X.w) A (call (.builtin "dict.pop") [.ref a, u, r]) Q E s := by
 obtain ⟨z, hd, vs, rel, dd⟩ := ZK8 I.hok e
 have hn : valueAt vs k = none := ZFw.none_of (by rw [← l]; exact rel.val k)
 have hp : (keyPart u).isSome = true := by
  cases k with
  | inl i => obtain ⟨t, q⟩ := (show ∃ t, u = Value.int i t from ry); subst q; rfl
  | inr x => obtain ⟨t, q⟩ := (show ∃ t, u = Value.str x t from ry); subst q; rfl
 exact call_meetsIn PySem.F.slot_dict_pop dd.typeIs PySem.F.entry_dict_pop (PySem.F.args_dict_pop_3 _ _ _) (meets_dict_pop_default (ZEy X.prog X.w) a (ZHd ry) hd hp r) ⟨vs, dd, hn, h _ (I.tok _)⟩
theorem ZXu {Q : Value → Shared → Prop} (I : Inv X pins σ H s) (e : Rd H a (.dK kvs)) (h : ∀ t s', Inv X pins σ H s' → Q (.int kvs.length t) s') : wpAny (model X.prog X.w) A (call (.builtin "len") [.ref a]) Q E s := by
 obtain ⟨z, hd, vs, rel, dd⟩ := ZHK I.hok e
 refine call_len_dict hd dd (by rw [← rel.length]; rw [sizeLine_eq] at z; omega) ?_
 rw [← rel.length]
 exact h _ _ (I.tok _)
end
def ZSV (i : Expr) : Prop := ∀ ov iv, subscripted i false ov iv = operate [ov, iv] (getItem ov iv)
theorem ZU1 {prog : Program} {w : World} {A : Around} {E : Value → Shared → Prop} {s : Shared} {env : Env} {value slice : Expr} {pos : Pos} {T id : String} {Q : Value → Shared → Prop}
  (hl : typeLookup (.type T) "__getitem__" = pure (some (.builtin id))) (hs : ZSV slice)
  (h : wpAny (model prog w) A (eval value env) (fun o s₁ => wpAny (model prog w) A (eval slice env) (fun i s₂ => s₂.TypeIs o T ∧ wpAny (model prog w) A (getItem o i) Q E s₂) E s₁) E s) :
  wpAny (model prog w) A (eval (.Subscript value slice pos) env) Q E s := by
 refine Subscript_ (wpAny_mono h (fun o s₁ h₁ => wpAny_mono h₁ (fun i s₂ h₂ => ?_) fun _ _ x => x) fun _ _ x => x)
 obtain ⟨hT, h₂⟩ := h₂
 unfold subscriptTail
 refine wpAny_bind ?_
 rw [getitemInPython_of_ne hT.not_modules]
 refine wpAny_bind (wpAny_specialOf hT hl ?_)
 have fin : wpAny (model prog w) A (subscripted slice false o i) (fun r s₃ => wpAny (model prog w) A (letTemporaryGo value o r >>= fun _ => pure r) Q E s₃) E s₂ := by
  rw [hs o i]
  exact wpAny_operating (wpAny_mono h₂ (fun r s₃ h₃ => wpAny_bind (wpAny_letTemporaryGo (wpAny_pure h₃))) fun _ _ x => x)
 first
  | exact wpAny_pure (wpAny_bind fin)
  | exact wpAny_bind (wpAny_pure (wpAny_bind fin))
  | exact wpAny_bind fin
theorem ZN4 {X : Cx} {pins : List (Addr × Obj)} {σ : St} {H : Hp} {s : Shared} {a : Addr} {y : V} {o : Option V} (I : Inv X pins σ H s) (g : ZFS H a y o) : s.TypeIs (.ref a) "dict" := by
 rcases g with ⟨kvs, k, e, _, _⟩ | ⟨kvs, k, b, e, _, _, _⟩
 ·obtain ⟨_, _, vs, _, dd⟩ := ZHK I.hok e
  exact dd.typeIs
 ·obtain ⟨_, _, xs, _, dd⟩ := ZH9 I.hok e
  exact dd.typeIs
def ZPK (td ty : TE) : TE := fun σ H Q => td σ H fun x H1 => ty σ H1 fun y H2 => ∃ a v, x = .ref a ∧ ZFS H2 a y (some v) ∧ Q v H2
def ZPL (td ty tv : TE) : TS := fun D σ H => tv σ H fun v H1 => td σ H1 fun x H2 => ty σ H2 fun y H3 => ∃ a H4, x = .ref a ∧ ZIx H3 a y v H4 ∧ D.nx σ H4
section
variable {X : Cx} {o i e value : Expr} {pos pos' tpos : Pos} {td ty tv : TE}
theorem ZU2 (hu : X.A.units + 1 < cLine) (ho : PE X o td) (hi : PE X i ty) (hs : ZSV i) : PE X (.Subscript o i pos) (ZPK td ty) := by
 intro pins s σ H Q I h
 refine ZU1 PySem.F.slot_dict_getitem.lookup hs (thn (ho pins s σ H _ I h) fun u s1 ⟨x, H1, I1, rx, q1⟩ => thn (hi pins s1 σ H1 _ I1 q1) fun iv s2 ⟨y, H2, I2, ry, a, v, ex, g, q2⟩ => ?_)
 subst ex
 obtain rfl : u = Value.ref a := rx
 exact ⟨ZN4 I2 g, ZQa hu I2 g ry fun w' s3 I3 rw' => ⟨v, H2, I3, rw', q2⟩⟩
theorem ZU3 (hu : X.A.units + 1 < cLine) (ho : PE X o td) (hi : PE X i ty) (hv : PE X value tv) (hs : swapsWith value (some (.Subscript o i pos')) pos.line X.env = pure false) :
  PS X (.Assign [.Subscript o i pos'] value pos) (ZPL td ty tv) := by
 intro pins s σ H D I h
 refine wpAny_Assign_Subscript (thn (hv pins s σ H _ I h) fun r s1 ⟨v, H1, I1, rv, q1⟩ => thn (ho pins s1 σ H1 _ I1 q1) fun u s2 ⟨x, H2, I2, rx, q2⟩ => thn (hi pins s2 σ H2 _ I2 q2) fun iv s3 ⟨y, H3, I3, ry, a, H4, ex, g, q3⟩ => ?_) hs
 subst ex
 obtain rfl : u = Value.ref a := rx
 exact ZQb hu I3 g ry rv fun s4 I4 => ⟨σ, H4, I4, q3⟩
end
theorem ZSW {P : Program} {w : World} {H : Hp} (h : Heap) (hb : sysModules < h.objs.size) : ZEv P w H (h.push { cls := .type "dict", data := .dict #[] }) h.objs.size (.dK []) :=
 ⟨Nat.zero_le _, beq_eq_false_iff_ne.mpr (Ne.symm (Nat.ne_of_lt hb)), [], .nil, Heap.DictOf.new h⟩
theorem ZSX {P : Program} {w : World} {H : Hp} (h : Heap) (hb : sysModules < h.objs.size) : ZEv P w H (h.push { cls := .type "dict", data := .dict #[] }) h.objs.size (.dT []) :=
 ⟨Nat.zero_le _, beq_eq_false_iff_ne.mpr (Ne.symm (Nat.ne_of_lt hb)), [], .nil, _, #[], 0, Heap.get?_push_size _ rfl, ⟨rfl, rfl, rfl⟩, rfl, rfl, List.nodup_nil⟩
def ZM1 : TE := fun _ H Q => ∀ p, H p = none → Q (.ref p) (upd H p (.dK []))
def ZM2 : TE := fun _ H Q => ∀ p, H p = none → Q (.ref p) (upd H p (.dT []))
section
variable {X : Cx} {pos : Pos}
theorem ZSY : PE X (.Dict [] [] pos) ZM1 := fun pins s σ H Q I h =>
 wpAny_Dict_empty ⟨.ref s.heap.objs.size, _, I.laid (a := s.heap.objs.size) (o := .dK []) (t' := s.toks) (fun _ _ q => Heap.get?_push_of_some _ q) (Nat.le_refl _) (ZSW s.heap I.big), rfl, h _ (I.hok.fresh (Nat.le_refl _))⟩
theorem ZSZ : PE X (.Dict [] [] pos) ZM2 := fun pins s σ H Q I h =>
 wpAny_Dict_empty ⟨.ref s.heap.objs.size, _, I.laid (a := s.heap.objs.size) (o := .dT []) (t' := s.toks) (fun _ _ q => Heap.get?_push_of_some _ q) (Nat.le_refl _) (ZSX s.heap I.big), rfl, h _ (I.hok.fresh (Nat.le_refl _))⟩
end
structure M1 (X : Cx) (o : Expr) (m : Str) (apos : Pos) (e : Expr) (cpos : Pos) : Prop where
 base : attributeBase o m X.env (eval o X.env) = eval o X.env
 few : ((backTo cpos (starEach [e] X.env)).all (fun x => !x.1) && (backToKw cpos (keywordEach [] X.env)).all (fun x => x.1.isSome)
  && decide (([e] : List Expr).length + ([] : List Keyword).length + (if ([] : List Keyword).isEmpty then 0 else 1) < 30)) = true
 line : (apos.endLine == cpos.line) = true
 trees : backTo cpos (starEach [e] X.env) = [(false, eval e X.env)]
structure M2 (X : Cx) (o : Expr) (m : Str) (apos : Pos) (e f : Expr) (cpos : Pos) : Prop where
 base : attributeBase o m X.env (eval o X.env) = eval o X.env
 few : ((backTo cpos (starEach [e, f] X.env)).all (fun x => !x.1) && (backToKw cpos (keywordEach [] X.env)).all (fun x => x.1.isSome)
  && decide (([e, f] : List Expr).length + ([] : List Keyword).length + (if ([] : List Keyword).isEmpty then 0 else 1) < 30)) = true
 line : (apos.endLine == cpos.line) = true
 trees : backTo cpos (starEach [e, f] X.env) = [(false, eval e X.env), (false, eval f X.env)]
def IsD (H : Hp) (a : Addr) : Prop := (∃ kvs, Rd H a (.dK kvs)) ∨ ∃ kvs, Rd H a (.dT kvs)
theorem ZJY {X : Cx} {pins : List (Addr × Obj)} {σ : St} {H : Hp} {s : Shared} {a : Addr} (I : Inv X pins σ H s) (d : IsD H a) :
  s.TypeIs (.ref a) "dict" ∧ (∀ b, Value.ref a = .ref b → ∃ ob, s.heap.get? b = some ob ∧ ob.dict = none) ∧ (a == sysModules) = false := by
 rcases d with ⟨kvs, e⟩ | ⟨kvs, e⟩
 ·obtain ⟨_, hd, vs, _, dd⟩ := ZHK I.hok e
  refine ⟨dd.typeIs, fun b q => ?_, hd⟩
  cases q
  obtain ⟨ob, _, _, h1, h2, _⟩ := dd
  exact ⟨ob, h1, h2.2.1⟩
 ·obtain ⟨_, hd, xs, _, dd⟩ := ZH9 I.hok e
  refine ⟨dd.typeIs, fun b q => ?_, hd⟩
  cases q
  obtain ⟨ob, _, _, h1, h2, _⟩ := dd
  exact ⟨ob, h1, h2.2.1⟩
section
variable {X : Cx} {pins : List (Addr × Obj)} {σ : St} {H : Hp} {s : Shared} {a : Addr} {y d : V} {u r : Value} {o : Option V} {A : Around} {E : Value → Shared → Prop}
theorem ZW9 {Q : Value → Shared → Prop} (hu : A.units + 1 < cLine) (I : Inv X pins σ H s) (g : ZFS H a y o) (ry : ZER y u) (h : ∀ w' s', Inv X pins σ H s' → ZER (o.getD .non) w' → Q w' s') :
  wpAny (model X.prog X.w) A (call (.builtin "dict.get") [.ref a, u]) Q E s := by
 rcases g with ⟨kvs, k, e, ey, l⟩ | ⟨kvs, k, b, e, ey, eb, l⟩
 ·subst ey
  obtain ⟨z, hd, vs, rel, dd⟩ := ZHK I.hok e
  refine call_meetsIn PySem.F.slot_dict_get dd.typeIs PySem.F.entry_dict_get (PySem.F.args_dict_get_2 _ _) (meets_dict_get (ZEy X.prog X.w) a (ZHd ry) hd) ⟨_, dd.mapOf, h _ _ (I.tok _) ?_⟩
  rw [l]
  exact (rel.val k).getD rfl
 ·subst ey
  cases (show u = Value.ref b from ry)
  obtain ⟨z, hd, xs, rel, dd⟩ := ZH9 I.hok e
  refine call_meetsIn PySem.F.slot_dict_get dd.typeIs PySem.F.entry_dict_get (PySem.F.args_dict_get_2 _ _) (meetsH_dict_get (tupleKind (ZEy X.prog X.w)) a b hd) ⟨tupleKind_room_in1 hu, k, xs, ZHR I.hok eb, dd, h _ _ (I.tok _) ?_⟩
  rw [l]
  exact (rel.val k).getD rfl
theorem ZXA {Q : Value → Shared → Prop} (hu : A.units + 1 < cLine) (I : Inv X pins σ H s) (g : ZFS H a y o) (ry : ZER y u) (rd : ZER d r) (h : ∀ w' s', Inv X pins σ H s' → ZER (o.getD d) w' → Q w' s') :
  wpAny (model X.prog X.w) A (call (.builtin "dict.get") [.ref a, u, r]) Q E s := by
 rcases g with ⟨kvs, k, e, ey, l⟩ | ⟨kvs, k, b, e, ey, eb, l⟩
 ·subst ey
  obtain ⟨z, hd, vs, rel, dd⟩ := ZHK I.hok e
  refine call_meetsIn PySem.F.slot_dict_get dd.typeIs PySem.F.entry_dict_get (PySem.F.args_dict_get_3 _ _ _) (meets_dict_get_default (ZEy X.prog X.w) a (ZHd ry) hd r) ⟨_, dd.mapOf, h _ _ (I.tok _) ?_⟩
  rw [l]
  exact (rel.val k).getD rd
 ·subst ey
  cases (show u = Value.ref b from ry)
  obtain ⟨z, hd, xs, rel, dd⟩ := ZH9 I.hok e
  refine call_meetsIn PySem.F.slot_dict_get dd.typeIs PySem.F.entry_dict_get (PySem.F.args_dict_get_3 _ _ _) (meetsH_dict_get_default (tupleKind (ZEy X.prog X.w)) a b hd r) ⟨tupleKind_room_in1 hu, k, xs, ZHR I.hok eb, dd, h _ _ (I.tok _) ?_⟩
  rw [l]
  exact (rel.val k).getD rd
end
def ZM3 (td ty : TE) : TE := fun σ H Q => td σ H fun x H1 => ∃ a, x = .ref a ∧ IsD H1 a ∧ ty σ H1 fun y H2 => ∃ o, ZFS H2 a y o ∧ Q (o.getD .non) H2
def ZM4 (td ty tx : TE) : TE := fun σ H Q => td σ H fun x H1 => ∃ a, x = .ref a ∧ IsD H1 a ∧ ty σ H1 fun y H2 => tx σ H2 fun z H3 => ∃ o, ZFS H3 a y o ∧ Q (o.getD z) H3
def ZM5 (td ty : TE) : TE := fun σ H Q => td σ H fun x H1 => ∃ a, x = .ref a ∧ IsD H1 a ∧ ty σ H1 fun y H2 => ∃ kvs k v, H2 a = some (.dK kvs) ∧ y = kV k ∧ ZEc kvs k = some v ∧ Q v (upd H2 a (.dK (ZFf kvs k)))
def ZM6 (td ty tx : TE) : TE := fun σ H Q => td σ H fun x H1 => ∃ a, x = .ref a ∧ IsD H1 a ∧ ty σ H1 fun y H2 => tx σ H2 fun z H3 => ∃ kvs k, H3 a = some (.dK kvs) ∧ y = kV k ∧
 (∀ v, ZEc kvs k = some v → Q v (upd H3 a (.dK (ZFf kvs k)))) ∧ (ZEc kvs k = none → Q z H3)
section
variable {X : Cx} {o e f : Expr} {apos cpos : Pos} {td ty tx : TE}
theorem ZSa (hu : X.A.units + 1 < cLine) (ho : PE X o td) (he : PE X e ty) (m : M1 X o "get" apos e cpos) : PE X (.Call (.Attribute o "get" apos) [e] [] cpos) (ZM3 td ty) := by
 intro pins s σ H Q I h
 refine wpAny_Call_method m.base m.few m.line PySem.F.plainAttrs_dict PySem.F.slot_dict_get PySem.F.type_dict_get (thn (ho pins s σ H _ I h) fun u s1 ⟨x, H1, I1, rx, a, ex, d, q1⟩ => ?_)
 subst ex
 obtain rfl : u = Value.ref a := rx
 obtain ⟨t1, t2, _⟩ := ZJY I1 d
 refine ⟨t1, t2, ?_⟩
 rw [m.trees]
 refine Calls.callWith_builtin rfl (Calls.evalArgs_plain (Calls.spliced_cons (thn (he pins s1 σ H1 _ I1 q1) fun iv s2 ⟨y, H2, I2, ry, ov, g, q2⟩ => Calls.spliced_nil ?_)))
 exact ZW9 hu I2 g ry fun w' s3 I3 rw' => ⟨_, H2, I3, rw', q2⟩
theorem ZSb (hu : X.A.units + 1 < cLine) (ho : PE X o td) (he : PE X e ty) (hf : PE X f tx) (m : M2 X o "get" apos e f cpos) : PE X (.Call (.Attribute o "get" apos) [e, f] [] cpos) (ZM4 td ty tx) := by
 intro pins s σ H Q I h
 refine wpAny_Call_method m.base m.few m.line PySem.F.plainAttrs_dict PySem.F.slot_dict_get PySem.F.type_dict_get (thn (ho pins s σ H _ I h) fun u s1 ⟨x, H1, I1, rx, a, ex, d, q1⟩ => ?_)
 subst ex
 obtain rfl : u = Value.ref a := rx
 obtain ⟨t1, t2, _⟩ := ZJY I1 d
 refine ⟨t1, t2, ?_⟩
 rw [m.trees]
 refine Calls.callWith_builtin rfl (Calls.evalArgs_plain (Calls.spliced_cons (thn (he pins s1 σ H1 _ I1 q1) fun iv s2 ⟨y, H2, I2, ry, q2⟩ =>
  Calls.spliced_cons (thn (hf pins s2 σ H2 _ I2 q2) fun fv s3 ⟨z, H3, I3, rz, ov, g, q3⟩ => Calls.spliced_nil ?_))))
 exact ZXA hu I3 g ry rz fun w' s4 I4 rw' => ⟨_, H3, I4, rw', q3⟩
theorem ZSc (ho : PE X o td) (he : PE X e ty) (m : M1 X o "pop" apos e cpos) : PE X (.Call (.Attribute o "pop" apos) [e] [] cpos) (ZM5 td ty) := by
 intro pins s σ H Q I h
 refine wpAny_Call_method m.base m.few m.line PySem.F.plainAttrs_dict PySem.F.slot_dict_pop PySem.F.type_dict_pop (thn (ho pins s σ H _ I h) fun u s1 ⟨x, H1, I1, rx, a, ex, d, q1⟩ => ?_)
 subst ex
 obtain rfl : u = Value.ref a := rx
 obtain ⟨t1, t2, _⟩ := ZJY I1 d
 refine ⟨t1, t2, ?_⟩
 rw [m.trees]
 refine Calls.callWith_builtin rfl (Calls.evalArgs_plain (Calls.spliced_cons (thn (he pins s1 σ H1 _ I1 q1) fun iv s2 ⟨y, H2, I2, ry, kvs, k, v, ea, ey, l, q2⟩ => Calls.spliced_nil ?_)))
 subst ey
 exact ZTw I2 ea ry l (.inl rfl) fun w' s3 I3 rw' => ⟨v, _, I3, rw', q2⟩
theorem ZSd (ho : PE X o td) (he : PE X e ty) (hf : PE X f tx) (m : M2 X o "pop" apos e f cpos) : PE X (.Call (.Attribute o "pop" apos) [e, f] [] cpos) (ZM6 td ty tx) := by
 intro pins s σ H Q I h
 refine wpAny_Call_method m.base m.few m.line PySem.F.plainAttrs_dict PySem.F.slot_dict_pop PySem.F.type_dict_pop (thn (ho pins s σ H _ I h) fun u s1 ⟨x, H1, I1, rx, a, ex, d, q1⟩ => ?_)
 subst ex
 obtain rfl : u = Value.ref a := rx
 obtain ⟨t1, t2, _⟩ := ZJY I1 d
 refine ⟨t1, t2, ?_⟩
 rw [m.trees]
 refine Calls.callWith_builtin rfl (Calls.evalArgs_plain (Calls.spliced_cons (thn (he pins s1 σ H1 _ I1 q1) fun iv s2 ⟨y, H2, I2, ry, q2⟩ =>
  Calls.spliced_cons (thn (hf pins s2 σ H2 _ I2 q2) fun fv s3 ⟨z, H3, I3, rz, kvs, k, ea, ey, q3, q4⟩ => Calls.spliced_nil ?_))))
 subst ey
 cases l : ZEc kvs k with
 | some v => exact ZTw I3 ea ry l (.inr ⟨fv, rfl⟩) fun w' s4 I4 rw' => ⟨v, _, I4, rw', q3 v l⟩
 | none => exact ZW8 I3 ea ry l fun s4 I4 => ⟨z, H3, I4, rz, q4 l⟩
end
def ZYG (H : Hp) (vs : List V) (prs : List (Key × V)) : Prop := Paired (fun v (p : Key × V) => ∃ a, v = V.ref a ∧ H a = some (.tup [kV p.1, p.2])) vs prs
section
variable {prog : Program} {w : World} {A : Around} {E : Value → Shared → Prop} {s : Shared} {κ : Type} [DecidableEq κ] {knd : KeyKind prog w κ}
theorem ZM7 {d : Addr} {kvs : List (κ × Value)} {ep : Nat} {Q : List Value → Shared → Prop} (hh : A.handled = none) (hd : (d == sysModules) = false) (hm : s.heap.DictAt knd d kvs ep) (hn : kvs.length ≤ sizeLine)
  (hQ : ∀ s' acc, (∀ b o, s.heap.get? b = some o → s'.heap.get? b = some o) → s'.gens = s.gens → s'.drawn = s.drawn → s'.os = s.os → s.heap.objs.size < s'.heap.objs.size → ItemsOf (fun i v => ∃ k x, kvs[i]? = some (k, x) ∧ knd.is k v = true) acc kvs.length → Q acc.toList s') :
  wpAny (model prog w) A (collect (.ref d)) Q E s := by
 have hdl : d < s.heap.objs.size := let ⟨_, _, ho, _⟩ := hm; Heap.lt_size ho
 unfold collect
 refine wpAny_bind (wpAny_runValue (codeAny_builtin F.entry_proto_collect ?_))
 rw [Around.under_plainId F.plain_proto_collect _]
 show wpAny _ A.in1 (newList [] >>= fun l => again (.builtin "list.__iadd__" ⟨[l, .ref d], []⟩)) _ _ s
 refine wpAny_bind (wpAny_newObj_type ?_)
 refine wpAny_pure ⟨plainId_quiet F.plain_list_iadd _, codeAny_builtin F.entry_list_iadd ?_⟩
 rw [Around.under_plainId F.plain_list_iadd _]
 generalize hH : s.heap.push { cls := .type "list", data := .seq ([] : List Value).toArray } = H
 have hHs : H.objs.size = s.heap.objs.size + 1 := by rw [← hH, Heap.size_push]
 have hm1 : H.DictAt knd d kvs ep := hm.at' fun o e => hH ▸ Heap.get?_push_of_some _ e
 have hT1 : (⟨H, s.gens, s.drawn, s.toks, s.os⟩ : Shared).TypeIs (.ref d) "dict" := hm1.dictOf.typeIs
 show wpAny _ A.in1 (Builtin.List.listExtendWith (.ref s.heap.objs.size) (.ref d) (.ref s.heap.objs.size)) _ _ (⟨H, s.gens, s.drawn, s.toks, s.os⟩ : Shared)
 unfold Builtin.List.listExtendWith
 refine wpAny_bind (wpAny_typeOf hT1 ?_)
 have h1 : Builtin.List.listSameRef (.ref s.heap.objs.size) (.ref d) = false := by
  simp only [Builtin.List.listSameRef]
  exact beq_eq_false_iff_ne.mpr (Nat.ne_of_gt hdl)
 have h2 : (Value.type "dict" == Value.type "list") = false := by decide
 have h3 : (Value.type "dict" == Value.type "tuple") = false := by decide
 simp only [h1, h2, h3, Bool.or_false, Bool.false_eq_true, if_false]
 refine wpAny_bind (wpAny_pyIter_dict hd hm1 ?_)
 generalize hO : ({ cls := .type "dict_keyiterator", data := .fields #[.ref d, .int 0 0, .int kvs.length 0, .int ep 0] } : Obj) = O
 have hm2 : (H.push O).DictAt knd d kvs ep := hm1.at' fun o e => Heap.get?_push_of_some _ e
 have hT2 : (⟨H.push O, s.gens, s.drawn, s.toks, s.os⟩ : Shared).TypeIs (.ref d) "dict" := hm2.dictOf.typeIs
 refine wpAny_bind (wpAny_holding ?_)
 unfold Builtin.List.listLengthHint
 refine wpAny_bind (wpAny_specialOf hT2 PySem.F.slot_dict_len.lookup ?_)
 wp_delta
 refine wpAny_bind (wpAny_isInstance (b := true) hT2 (by rw [isSubtype_type]; kernel_rfl) ?_)
 show wpAny _ A.in1 (typeOf (Value.ref d) >>= _) _ _ _
 refine wpAny_bind (wpAny_typeOf hT2 ?_)
 refine wpAny_pure ?_
 show wpAny _ A.in1 (rule "list.extend.makes-room" >>= fun _ => Builtin.List.listTouch (.ref s.heap.objs.size) >>= fun _ =>
  again (.builtin "list.extend.loop" ⟨[.ref s.heap.objs.size, .ref H.objs.size, .ref s.heap.objs.size], []⟩)) _ _ _
 refine wpAny_bind (wpAny_rule ?_)
 have hS₁ : (H.push O).get? s.heap.objs.size = some { cls := .type "list", data := .seq ([] : List Value).toArray } := Heap.get?_push_of_some _ (hH ▸ Heap.get?_push_size _ rfl)
 refine wpAny_bind ?_
 show wpAny _ A.in1 (updateSeq s.heap.objs.size (·.push .none) >>= fun _ => updateSeq s.heap.objs.size (·.pop)) _ _ _
 refine wpAny_bind (wpAny_updateSeq hS₁ rfl ?_)
 have hS₂ := Heap.get?_update_self (Obj.mapSeq (·.push Value.none)) hS₁ rfl
 refine wpAny_updateSeq hS₂ rfl ?_
 have hS₃ := Heap.get?_update_self (Obj.mapSeq (·.pop)) hS₂ rfl
 have oth : ∀ b o, b ≠ s.heap.objs.size → (H.push O).get? b = some o → (((H.push O).update s.heap.objs.size (Obj.mapSeq (·.push Value.none))).update s.heap.objs.size (Obj.mapSeq (·.pop))).get? b = some o :=
  fun b o hb e => (Heap.get?_update_other _ _ (Ne.symm hb)).trans ((Heap.get?_update_other _ _ (Ne.symm hb)).trans e)
 have hdH : d < H.objs.size := by rw [hHs]; exact Nat.lt_succ_of_lt hdl
 have hHne : H.objs.size ≠ s.heap.objs.size := by rw [hHs]; exact Nat.succ_ne_self _
 have hSf : s.heap.objs.size ∉ [H.objs.size, d] := fun z => by
  simp only [List.mem_cons, List.not_mem_nil, or_false] at z
  rcases z with z | z
  ·exact hHne z.symm
  ·exact Nat.ne_of_gt hdl z
 have W := (Walks.dictKeys (knd := knd) (A := A.in1) hh H.objs.size d (Nat.ne_of_lt hdH) kvs ep).toS
 refine wpAny_pure ⟨plainId_quiet F.plain_extend_loop _, codeAny_extend_loopS (A := A) W hn _ hSf _ kvs.length 0 _ _ _ rfl (Nat.zero_le _) ⟨?_, ?_⟩ hS₃ (ItemsOf.nil _) fun s' acc' c' hmv hS' hacc => ?_⟩
 ·exact ⟨_, oth _ _ hHne (Heap.get?_push_size _ (by rw [← hO]; rfl)), by rw [← hO], by rw [← hO]; rfl⟩
 ·exact hm2.at' fun o e => oth _ _ (Nat.ne_of_lt hdl) e
 ·show wpAny _ A (load s.heap.objs.size >>= _) _ _ s'
  refine wpAny_bind (wpAny_load hS' ?_)
  refine wpAny_pure (hQ s' acc' (fun b ob e => hmv.heap b ob (fun hb => ?_) (oth _ _ (Nat.ne_of_lt (Heap.lt_size e)) (Heap.get?_push_of_some _ (hH ▸ Heap.get?_push_of_some _ e)))) hmv.gens hmv.drawn hmv.os (Heap.lt_size hS') hacc)
  have hlt := Heap.lt_size e
  simp only [List.mem_cons, List.not_mem_nil, or_false] at hb
  rcases hb with h | h
  ·exact Nat.ne_of_lt hlt h
  ·rw [h, hHs] at hlt; exact absurd hlt (Nat.not_lt.mpr (Nat.le_succ _))
theorem ZN5 {d : Addr} {kvs : List (κ × Value)} {ep : Nat} {Q : Value → Shared → Prop} (hh : A.handled = none) (hd : (d == sysModules) = false) (hm : s.heap.DictAt knd d kvs ep) (h64 : kvs.length < 64)
  (hI : ∀ acc : Array Value, ItemsOf (fun i v => ∃ k x, kvs[i]? = some (k, x) ∧ knd.is k v = true) acc kvs.length → ∃ ns, IntsAre acc.toList ns ∧ ∀ (s' : Shared) (l : Addr) (out : Array Value) (ns' : List Int) (e : Nat), s.heap.objs.size ≤ l → (∀ b o, s.heap.get? b = some o → s'.heap.get? b = some o) → s'.gens = s.gens → s'.drawn = s.drawn → s'.os = s.os →
   s'.heap.get? l = some (seqObj "list" out e) → out.size = kvs.length → IntsAre out.toList ns' → ns'.Perm ns → ns'.Pairwise (· ≤ ·) → Q (.ref l) s') :
  wpAny (model prog w) A (call (.builtin "sorted") [.ref d]) Q E s := by
 refine Calls.call_function_entry kind_sorted plain_sorted entry_sorted (args_sorted1 _) ?_
 unfold Builtin.«sorted»
 refine wpAny_bind (m := checkCount "sorted" 1 1 _) (wpAny_pure ?_)
 refine wpAny_bind (ZM7 (knd := knd) hh hd hm (by rw [sizeLine_eq]; omega) fun s1 acc hk e1 e2 e3 hlt hacc => ?_)
 obtain ⟨ns, hns, hQ⟩ := hI acc hacc
 refine wpAny_bind (wpAny_newList (hsz := by rw [Array.length_toList, hacc.1, sizeLine_eq]; omega) ?_)
 have hoL : (s1.heap.push (seqObj "list" acc.toList.toArray 0)).get? s1.heap.objs.size = some (seqObj "list" acc.toList.toArray 0) := Heap.get?_push_size _ rfl
 show wpAny _ _ _ _ _ { s1 with heap := s1.heap.push (seqObj "list" acc.toList.toArray 0) }
 refine wpAny_bind (wpAny_holding (wpAny_call_entry slot_list_sort ⟨_, hoL, rfl⟩ entry_list_sort (list_sort_tree hoL hns (by rw [Array.length_toList, hacc.1]; exact h64) fun out ns' a1 a2 a3 => ⟨_, rfl, ?_⟩) (args_list_sort _)))
 refine wpAny_pure ⟨_, rfl, ?_⟩
 obtain ⟨e, he⟩ := sortedHeap_at (out := out) hoL
 have hle : s.heap.objs.size ≤ s1.heap.objs.size := Nat.le_of_lt hlt
 refine hQ _ _ out ns' e hle (fun b o eb => ?_) e1 e2 e3 he ?_ a1 a2 a3
 ·have hb := Heap.lt_size (hk _ _ eb)
  exact (sortedHeap_old (Nat.ne_of_lt hb) (by rw [Heap.size_push]; exact Nat.lt_succ_of_lt hb)).trans (Heap.get?_push_of_some _ (hk _ _ eb))
 ·have l1 := IntsAre.length a1
  have l2 := IntsAre.length hns
  have l3 := a2.length_eq
  have l4 := hacc.1
  simp only [Array.length_toList] at l1 l2
  omega
end
theorem ZLv : ∀ (vs : List (Key × Value)) (ns : List Int) (l : List Value), vs.map (·.1) = ns.map Sum.inl → l.length = vs.length → (∀ (j : Nat) (v : Value), l[j]? = some v → ∃ k x, vs[j]? = some (k, x) ∧ ZIn k v = true) → IntsAre l ns
 | [], [], [], _, _, _ => .nil
 | [], [], _ :: _, _, h, _ => by simp at h
 | [], _ :: _, _, h, _, _ => by simp at h
 | _ :: _, [], _, h, _, _ => by simp at h
 | _ :: _, _ :: _, [], _, h, _ => by simp at h
 | (k, x) :: vs, n :: ns, v :: l, h1, h2, h3 => by
  simp only [List.map_cons, List.cons.injEq] at h1
  obtain ⟨rfl, h1⟩ := h1
  obtain ⟨k', x', e, hk⟩ := h3 0 v rfl
  simp only [List.getElem?_cons_zero, Option.some.injEq, Prod.mk.injEq] at e
  obtain ⟨rfl, rfl⟩ := e
  rcases ZFF hk with ⟨i, t, e1, e2⟩ | ⟨y, t, e1, e2⟩
  ·cases e1; cases e2
   refine .cons _ _ (ZLv vs ns l h1 (by simpa using h2) fun j v e => ?_)
   have := h3 (j + 1) v (by simpa using e)
   simpa using this
  ·cases e1
theorem KV.keysEq {κ : Type} : ∀ {kvs : List (κ × V)} {us : List (κ × Value)}, KV kvs us → us.map (·.1) = kvs.map (·.1)
 | _, _, .nil => rfl
 | _, _, .cons h t => by rw [List.map_cons, List.map_cons, h.1, KV.keysEq t]
theorem IntsAre.vals : ∀ {vs : List Value} {ns : List Int}, IntsAre vs ns → ZEU (ns.map V.int) vs
 | _, _, .nil => .nil
 | _, _, .cons _ t h => .cons ⟨t, rfl⟩ (IntsAre.vals h)
def ZM8 : List V → Hp → VK → Prop := fun xs H Q => ∃ (p : Addr) (kvs : List (Key × V)) (ns : List Int), xs = [.ref p] ∧ Rd H p (.dK kvs) ∧ kvs.map (·.1) = ns.map Sum.inl ∧ kvs.length < 64 ∧ ∀ (l : Addr) (ns' : List Int), H l = none → ns'.Perm ns → ns'.Pairwise (· ≤ ·) → Q (.ref l) (upd H l (.lst (ns'.map V.int)))
theorem ZK9 {X : Cx} (hc : X.calm = true) : ZFG X (.builtin "sorted") ZM8 := by
 intro pins s σ H xs us Q I r h
 obtain ⟨p, kvs, ns, rfl, hd, hns, h64, q⟩ := h
 obtain ⟨u, rfl, ru⟩ := r.one
 cases ru
 obtain ⟨z, hd, vs, rel, dd⟩ := ZHK I.hok hd
 obtain ⟨ep, dd⟩ := dd.dictAt
 have hlen : vs.length = kvs.length := rel.length.symm
 refine ZN5 (I.ok.hd hc) hd dd (by rw [hlen]; exact h64) fun acc hacc => ⟨ns, ?_, fun s' l out ns' e hl hk e1 e2 e3 he ho a1 a2 a3 => ?_⟩
 ·exact ZLv vs ns acc.toList (by rw [KV.keysEq rel]; exact hns) (by rw [Array.length_toList]; exact hacc.1) fun j v e => hacc.2 j v (by simpa using e)
 ·obtain ⟨h', g', d', tk, os'⟩ := s'
  simp only at e1 e2 e3
  subst e1 e2 e3
  refine ⟨.ref l, upd H l (.lst (ns'.map V.int)), I.laid (t' := tk) hk hl ?_, rfl, q l ns' (I.hok.fresh hl) a2 a3⟩
  refine ⟨?_, out.toList, e, IntsAre.vals a1, he⟩
  have l1 := a2.length_eq
  have l2 := congrArg List.length hns
  simp only [List.length_map] at l2 ⊢
  rw [sizeLine_eq]
  omega
section
variable {X : Cx} {o i value : Expr} {pos pos' : Pos} {td ty tv : TE}
theorem ZYH {b : Expr} (h : ZMc b = false) : ZSV b := by
 intro ov iv
 cases b <;> first | rfl | cases h
theorem ZHD (hu : X.A.units + 1 < cLine) (ho : QE X o td) (hi : QE X i ty) (hs : ZMc i = false := by rfl) : QE X (.Subscript o i pos) (ZPK td ty) := ⟨ZU2 hu ho.h hi.h (ZYH hs)⟩
theorem ZGt (hu : X.A.units + 1 < cLine) (hv : QE X value tv) (ho : QE X o td) (hi : QE X i ty) (hs : ZGM value = false := by rfl) : QS X (.Assign [.Subscript o i pos'] value pos) (ZPL td ty tv) := ⟨ZU3 hu ho.h hi.h hv.h (ZG7 hs)⟩
theorem ZM9 : QE X (.Dict [] [] pos) ZM1 := ⟨ZSY⟩
end
section
variable {σ : St} {H : Hp} {Q : VK} {D : ZFI}
def ZPM (x y : V) (H : Hp) (Q : VK) : Prop := ∃ a v, x = .ref a ∧ ZFS H a y (some v) ∧ Q v H
theorem ZSe {td ty : TE} (h : td σ H fun x H1 => ty σ H1 fun y H2 => ZPM x y H2 Q) : ZPK td ty σ H Q := h
def ZPN (v x y : V) (H : Hp) (R : Hp → Prop) : Prop := ∃ a H4, x = .ref a ∧ ZIx H a y v H4 ∧ R H4
theorem ZSf {td ty tv : TE} (h : tv σ H fun v H1 => td σ H1 fun x H2 => ty σ H2 fun y H3 => ZPN v x y H3 (D.nx σ)) : ZPL td ty tv D σ H := h
def ZPO (H : Hp) (Q : VK) : Prop := ∀ p, H p = none → Q (.ref p) (upd H p (.dK []))
theorem ZSg (h : ZPO H Q) : ZM1 σ H Q := h
theorem ZU4 (h : ∀ p H2, H p = none → H2 p = some (.dK []) → ZEI H H2 → Q (.ref p) H2) : ZPO H Q := fun p hp => h p _ hp ZEN (ZEI.new hp)
end
def ZEZ (m : PL) (t : Int) : Option Int := (m.find? fun kv => decide (kv.1 = t)).map (·.2)
def ZFJ (m : PL) (t h : Int) : PL := if (m.any fun kv => decide (kv.1 = t)) = true then m.map fun kv => if kv.1 = t then (kv.1, h) else kv else m ++ [(t, h)]
def dkE (p : Int × Int) : Key × V := (.inl p.1, .int p.2)
def ZEf (m : PL) : List (Key × V) := m.map dkE
theorem ZNA {a b : Int} : ((Sum.inl a : Key) = Sum.inl b) ↔ a = b := ⟨fun h => Sum.inl.inj h, fun h => h ▸ rfl⟩
theorem ZXB (m : PL) (t : Int) : ((ZEf m).any fun kv => decide (kv.1 = Sum.inl t)) = m.any fun kv => decide (kv.1 = t) := by
 unfold ZEf
 rw [List.any_map]
 congr 1
 funext p
 simp only [Function.comp, dkE, ZNA]
theorem ZQc (m : PL) (t h : Int) : ZFi (ZEf m) (.inl t) (.int h) = ZEf (ZFJ m t h) := by
 unfold ZFi ZFJ
 rw [ZXB]
 by_cases c : (m.any fun kv => decide (kv.1 = t)) = true
 ·rw [if_pos c, if_pos c]
  unfold ZEf
  rw [List.map_map, List.map_map]
  refine List.map_congr_left fun p _ => ?_
  simp only [Function.comp, dkE, ZNA]
  split <;> simp
 ·rw [if_neg c, if_neg c]
  simp [ZEf, dkE]
theorem ZGU (t : Int) : ∀ m : PL, ZEc (ZEf m) (.inl t) = (ZEZ m t).map V.int
 | [] => rfl
 | p :: m => by
  have ih := ZGU t m
  by_cases e : p.1 = t
  ·have : ZEc (ZEf (p :: m)) (.inl t) = some (.int p.2) := ZFU (p := dkE p) (by simp [dkE, e])
   rw [this]
   simp [ZEZ, List.find?_cons, e]
  ·have : ZEc (ZEf (p :: m)) (.inl t) = ZEc (ZEf m) (.inl t) := ZFR (p := dkE p) (by simp [dkE, e])
   rw [this, ih]
   simp [ZEZ, List.find?_cons, e]
theorem ZNB {H : Hp} {Q : VK} {p : Addr} {m : PL} {t v : Int} (h1 : H p = some (.dK (ZEf m))) (h2 : ZEZ m t = some v) (h : Q (.int v) H) : ZPM (.ref p) (.int t) H Q :=
 ⟨p, .int v, rfl, by
  have := ZFS.k (k := Sum.inl t) h1
  rw [ZGU, h2] at this
  exact this, h⟩
theorem ZKV {H : Hp} {R : Hp → Prop} {p : Addr} {m : PL} {t v : Int} (h1 : H p = some (.dK (ZEf m))) (hz : m.length < sizeLine) (h : ∀ H2, H2 p = some (.dK (ZEf (ZFJ m t v))) → Kp p H H2 → R H2) : ZPN (.int v) (.ref p) (.int t) H R :=
 ⟨p, _, rfl, ZIx.k (k := Sum.inl t) h1 (by simpa [ZEf] using hz), by
  rw [ZQc]
  exact h _ ZEN Kp.upd⟩
theorem ZNC {H : Hp} {Q : VK} (h : ∀ p H2, H p = none → H2 p = some (.dK (ZEf [])) → ZEI H H2 → Q (.ref p) H2) : ZPO H Q := ZU4 h
theorem ZSh (m : PL) (t h j : Int) : ZEZ (ZFJ m t h) j = if j = t then some h else ZEZ m j := by
 have e1 := ZGU j (ZFJ m t h)
 rw [← ZQc, ZHC] at e1
 have e2 := ZGU j m
 rw [e2] at e1
 simp only [ZNA] at e1
 by_cases e : j = t
 ·rw [if_pos e] at e1 ⊢
  cases hg : ZEZ (ZFJ m t h) j with
  | none => rw [hg] at e1; cases e1
  | some x => rw [hg] at e1; simp at e1; rw [e1]
 ·rw [if_neg e] at e1 ⊢
  cases hg : ZEZ (ZFJ m t h) j <;> cases hm : ZEZ m j <;> rw [hg, hm] at e1 <;> simp_all
theorem ZKW (m : PL) (t h : Int) : (ZFJ m t h).length ≤ m.length + 1 := by
 unfold ZFJ
 split <;> simp
theorem ZGu {t : Int} : ∀ {m : PL}, ZEZ m t = none ↔ t ∉ m.map (·.1)
 | [] => by simp [ZEZ]
 | p :: m => by
  have ih := ZGu (t := t) (m := m)
  by_cases e : p.1 = t
  ·simp [ZEZ, List.find?_cons, e]
  ·have e' : ¬ t = p.1 := fun z => e z.symm
   have : ZEZ (p :: m) t = ZEZ m t := by simp [ZEZ, List.find?_cons, e]
   rw [this, ih]
   simp [e']
theorem ZQd (m : PL) (t h : Int) : (ZFJ m t h).map (·.1) = if t ∈ m.map (·.1) then m.map (·.1) else m.map (·.1) ++ [t] := by
 have ha : (m.any fun kv => decide (kv.1 = t)) = true ↔ t ∈ m.map (·.1) := by simp
 unfold ZFJ
 by_cases c : (m.any fun kv => decide (kv.1 = t)) = true
 ·rw [if_pos c, if_pos (ha.mp c), List.map_map]
  refine List.map_congr_left fun p _ => ?_
  simp only [Function.comp]
  split <;> rfl
 ·rw [if_neg c, if_neg (fun z => c (ha.mpr z))]
  simp
theorem ZGB {m : PL} {t h : Int} (n : (m.map (·.1)).Nodup) : ((ZFJ m t h).map (·.1)).Nodup := by
 rw [ZQd]
 split
 ·exact n
 ·rename_i c
  rw [List.nodup_append]
  exact ⟨n, by simp, fun a ha b hb e => c (by simp at hb; subst hb; subst e; exact ha)⟩
theorem ZE1 {t h : Int} : ∀ {m : PL}, (m.map (·.1)).Nodup → (ZEZ m t = some h ↔ (t, h) ∈ m)
 | [], _ => by simp [ZEZ]
 | p :: m, n => by
  simp only [List.map_cons, List.nodup_cons] at n
  have ih := ZE1 (t := t) (h := h) n.2
  by_cases e : p.1 = t
  ·have : ZEZ (p :: m) t = some p.2 := by simp [ZEZ, List.find?_cons, e]
   rw [this]
   constructor
   ·intro z; cases z; rw [← e]; exact List.mem_cons_self
   ·intro z
    rcases List.mem_cons.mp z with z | z
    ·rw [← z]
    ·exact absurd (List.mem_map.mpr ⟨_, z, rfl⟩) (by rw [← e] at *; exact n.1)
  ·have : ZEZ (p :: m) t = ZEZ m t := by simp [ZEZ, List.find?_cons, e]
   rw [this, ih]
   constructor
   ·exact fun z => List.mem_cons_of_mem _ z
   ·intro z
    rcases List.mem_cons.mp z with z | z
    ·exact absurd (by rw [← z]) e
    ·exact z
theorem ZEP.prs {H : Hp} : ∀ {vs : List V} {l : PL}, ZEP H vs l → ZYG H vs (l.map dkE)
 | _, _, .nil => .nil
 | _, _, .cons ⟨a, e, z⟩ t => .cons ⟨a, e, z⟩ (ZEP.prs t)
theorem ZEP.length {H : Hp} {vs : List V} {l : PL} (h : ZEP H vs l) : vs.length = l.length := Paired.length h
theorem ZEP.snoc {H : Hp} : ∀ {vs : List V} {l : PL}, ZEP H vs l → ∀ {a : Addr} {p : Int × Int}, H a = some (.tup [.int p.1, .int p.2]) → ZEP H (vs ++ [.ref a]) (l ++ [p])
 | _, _, .nil, a, p, z => .cons ⟨a, rfl, z⟩ .nil
 | _, _, .cons h t, a, p, z => .cons h (ZEP.snoc t z)
theorem ZEP.at {H : Hp} : ∀ {vs : List V} {l : PL}, ZEP H vs l → ∀ {i : Nat} {v : V}, vs[i]? = some v → ∃ a p, v = .ref a ∧ l[i]? = some p ∧ H a = some (.tup [.int p.1, .int p.2])
 | _, _, .nil, i, v, e => by simp at e
 | _, _, @Paired.cons _ _ _ _ p _ _ ⟨a, e1, z⟩ t, 0, v, e => by
  simp at e; subst e
  exact ⟨a, p, e1, rfl, z⟩
 | _, _, .cons _ t, i + 1, v, e => by
  obtain ⟨a, p, h1, h2, h3⟩ := ZEP.at t (by simpa using e)
  exact ⟨a, p, h1, by simpa using h2, h3⟩
theorem ZEP.kp {p : Addr} {H H' : Hp} (k : Kp p H H') {n : Nat} {xs : List V} (hp : H p = some (.lst xs)) : ∀ {vs : List V} {l : PL}, ZEP H vs l → ZEP H' vs l
 | _, _, .nil => .nil
 | _, _, .cons ⟨a, e, z⟩ t => .cons ⟨a, e, k _ _ z (fun c => by subst c; rw [hp] at z; cases z)⟩ (ZEP.kp k (n := n) hp t)
theorem ZLA {H : Hp} {Q : VK} {p : Addr} {m : PL} (h1 : H p = some (.dK (ZEf m))) (hz : m.length < 64) (h : ∀ l H2 (ns : List Int), H l = none → H2 l = some (.lst (ns.map V.int)) → ns.Perm (m.map (·.1)) → ns.Pairwise (· ≤ ·) → ZEI H H2 → Q (.ref l) H2) : ZM8 [.ref p] H Q :=
 ⟨p, _, m.map (·.1), rfl, .inl h1, by simp [ZEf, dkE], by simpa [ZEf] using hz, fun l ns hl hp hs => h l _ ns hl ZEN hp hs (ZEI.new hl)⟩
def Asc (cv : PL) : Prop := cv.Pairwise fun a b => a.1 < b.1
def ZU5 (m cv : PL) : Prop := Asc cv ∧ ∀ t h, (t, h) ∈ cv ↔ ZEZ m t = some h
def ZFZ (m : PL) (ns : List Int) : PL := ns.map fun t => (t, (ZEZ m t).getD 0)
theorem ZPP {m : PL} {ns : List Int} (nd : (m.map (·.1)).Nodup) (hp : ns.Perm (m.map (·.1))) (hs : ns.Pairwise (· ≤ ·)) : ZU5 m (ZFZ m ns) := by
 have hn : ns.Nodup := hp.nodup_iff.mpr nd
 refine ⟨?_, fun t h => ?_⟩
 ·unfold Asc ZFZ
  rw [List.pairwise_map]
  exact (hs.and hn).imp fun ⟨a, b⟩ => by
   show _ < _
   omega
 ·unfold ZFZ
  rw [List.mem_map]
  constructor
  ·rintro ⟨u, hu, e⟩
   have hu' := hp.mem_iff.mp hu
   cases hg : ZEZ m u with
   | none => exact absurd hu' (ZGu.mp hg)
   | some x =>
    rw [hg] at e
    cases e
    exact hg
  ·intro hg
   refine ⟨t, hp.mem_iff.mpr ?_, by rw [hg]; rfl⟩
   by_cases c : t ∈ m.map (·.1)
   ·exact c
   ·rw [ZGu.mpr c] at hg; cases hg
theorem ZOc : bootBuiltins "repr" = some (.builtin "repr") := by decide +kernel
theorem ZQe : bootBuiltins "divmod" = some (.builtin "divmod") := by decide +kernel
theorem ZJ7 {prog : Program} {w : World} {A : Around} {E : Value → Shared → Prop} {s : Shared} {t sl : Addr} {items : Array Value} {vl vu : Value} {lo hi : Option Int} {Q : Value → Shared → Prop} (ht : IsTup s.heap t items) (hs : s.heap.IsSliceOf sl vl vu .none) (pl : IsPart vl lo) (pu : IsPart vu hi)
  (hw : HT.sIx items.size 0 lo = 0 ∧ HT.sIx items.size items.size hi = items.size) (h : Q (.ref t) s) : wpAny (model prog w) A (getItem (.ref t) (.ref sl)) Q E s := by
 obtain ⟨os, hos, hcs, hds⟩ := id hs
 have hTs : s.TypeIs (.ref sl) "slice" := ⟨os, hos, hcs⟩
 unfold getItem
 try with_reducible refine wpAny_holding ?_
 first | refine wpAny_bind (wpAny_pure ?_) | skip
 refine wpAny_bind (wpAny_sequenceKey ht.typeIs (by decide) ?_)
 refine wpAny_bind (wpAny_callSpecial?_slot (name := Str.ofString "__getitem__") ht.typeIs PyProof.Rows.slot_tuple_getitem
  (wpAny_call_entry PyProof.Rows.slot_tuple_getitem ht.typeIs entry_tuple_getitem ?_ (args_tuple_getitem _ _)))
 show wpAny _ _ (Builtin.Tuple.tupleItemsOf (.ref t) >>= _) _ _ s
 refine wpAny_bind (tupleItemsOf_ ht ?_)
 refine wpAny_bind (wpAny_typeOf hTs ?_)
 rw [if_pos (by decide)]
 refine wpAny_bind (HT.sliceApplied_gen hs pl pu ?_)
 rw [hw.1, hw.2]
 have hyes : ((((0 : Nat) : Int) == 0 && (1 : Int) == 1 && (items.size - 0) == items.size) = true) := by simp
 show wpAny _ _ (if ((((0 : Nat) : Int) == 0 && (1 : Int) == 1 && (items.size - 0) == items.size) = true) then _ else _) _ _ s
 rw [if_pos hyes]
 unfold Builtin.Tuple.tupleIsExact
 refine wpAny_bind (wpAny_bind (wpAny_typeOf ht.typeIs (wpAny_pure ?_)))
 rw [if_pos (by decide)]
 refine wpAny_bind (wpAny_rule ?_)
 first
  | exact wpAny_pure ⟨_, rfl, wpAny_pure h⟩
  | exact wpAny_bind (wpAny_pure (wpAny_pure ⟨_, rfl, wpAny_pure h⟩))
def ZXC (K : W.Frag) : V → Option Int → Option Int → Hp → VK → Prop := fun x lo hi H Q => ∃ a xs, x = .ref a ∧ SqT K H a xs ∧
 ((HT.sIx xs.length 0 lo = 0 ∧ HT.sIx xs.length xs.length hi = xs.length) → Q (.ref a) H) ∧ (¬ (HT.sIx xs.length 0 lo = 0 ∧ HT.sIx xs.length xs.length hi = xs.length) → ∀ p, H p = none → Q (.ref p) (upd H p (.tup (ZGe xs lo hi))))
theorem ZU6 {X : Cx} (K : W.Frag) (hK : X.K = K) : SlR X (ZXC K) := by
 subst hK
 intro pins s σ H x v vl vu lo hi sl Q I rx hs pl pu h
 obtain ⟨a, xs, rfl, hx, q1, q2⟩ := h
 by_cases hw : HT.sIx xs.length 0 lo = 0 ∧ HT.sIx xs.length xs.length hi = xs.length
 ·cases rx
  obtain ⟨its, r, ht, hz⟩ := I.tuple hx
  have hlen : its.toArray.size = xs.length := by rw [List.size_toArray]; exact r.length.symm
  refine ⟨"tuple", _, PyProof.Rows.slot_tuple_getitem.lookup, ht.typeIs, ?_⟩
  exact ZJ7 ht hs pl pu (by rw [hlen]; exact hw) ⟨.ref a, H, I, rfl, q1 hw⟩
 ·exact ZWV pins s σ H (.ref a) v vl vu lo hi sl Q I rx hs pl pu ⟨a, xs, rfl, hx, hw, q2 hw⟩
theorem ZQf {xs : List V} {lo hi : Option Int} (h : HT.sIx xs.length 0 lo = 0 ∧ HT.sIx xs.length xs.length hi = xs.length) : ZGe xs lo hi = xs := by
 unfold ZGe
 rw [h.1, h.2]
 simp
section
variable {X : Cx} {pos pos' : Pos} {e : Expr} {te : TE}
theorem ZYI {op : Operator} {r : R2} (ho : OpR X (inplaceOp op) r) : PIp X op r := ho
theorem ZND {i : Nat} {x : Str} {op : Operator} {r : R2} (hN : X.N.Nodup) (hi : X.N[i]? = some x) (hx : Loc X.env.scope x) (ho : OpR X (inplaceOp op) r) (he : QE X e te) (hf : X.fn x = true ∨ X.env.scope.names.lookup x = some .local := by first | exact .inl rfl | exact .inr rfl | assumption) :
 QS X (.AugAssign (.Name x pos') op e pos) (ZRn i te r) := ⟨ZWG hN hi hx he.h (ZYI ho) hf⟩
theorem ZXD {i : Nat} {r : R2} {D : ZFI} {σ : St} {H : Hp} {x : V} (e1 : σ[i]? = some (some x)) (h : te σ H fun y H1 => r x y H1 fun z H2 => D.nx (σ.set i (some z)) H2) : ZRn i te r D σ H := ⟨x, e1, h⟩
end
def ZTx (Pv : St → Hp → Prop) (μ : St → Hp → Nat) (tb : TS) (D : ZFI) (n : Nat) (σ : St) (H : Hp) : Prop :=
 ∃ N : St → Hp → Prop, (∀ σ' H', N σ' H' → ∃ m', m' < n ∧ m' = μ σ' H' ∧ Pv σ' H') ∧ tb { D with nx := N, ct := N, bk := D.nx } σ H
theorem ZNE {c : TT} {tb : TS} {D : ZFI} {σ : St} {H : Hp} (Pv : St → Hp → Prop) (μ : St → Hp → Nat) (h0 : Pv σ H)
  (hs : ∀ σ H, Pv σ H → c σ H fun b H1 => if b = true then ZTx Pv μ tb D (μ σ H) σ H1 else D.nx σ H1) : ZMh c tb D σ H := by
 refine ⟨fun m σ H => m = μ σ H ∧ Pv σ H, ⟨_, rfl, h0⟩, ?_⟩
 rintro m σ H ⟨rfl, p⟩
 exact hs σ H p
theorem ZOd {Pv : St → Hp → Prop} {μ : St → Hp → Nat} {tb : TS} {D : ZFI} {n : Nat} {σ : St} {H : Hp} (h : tb { D with nx := fun σ' H' => Pv σ' H' ∧ μ σ' H' < n, ct := fun σ' H' => Pv σ' H' ∧ μ σ' H' < n, bk := D.nx } σ H) : ZTx Pv μ tb D n σ H :=
 ⟨_, fun σ' H' ⟨p, l⟩ => ⟨_, l, rfl, p⟩, h⟩
theorem ZEI.kpN {H H1 H2 : Hp} {l : Addr} (s : ZEI H H1) (hl : H l = none) (k : Kp l H1 H2) : ZEI H H2 := fun q o e => k q o (s q o e) (ZET e hl)
theorem ZEP.kpL {p : Addr} {H H' : Hp} (k : Kp p H H') {xs : List V} (hp : H p = some (.lst xs)) {vs : List V} {l : PL} (h : ZEP H vs l) : ZEP H' vs l := ZEP.kp k (n := 0) hp h
theorem Pot.ne_tup {H : Hp} {p l : Addr} {xs : List V} (h : Pot H p) (hl : H l = some (.tup xs)) : l ≠ p := by
 obtain ⟨x, y, h, r⟩ := h
 intro e; subst e; rw [h] at hl; cases hl
section
variable {K : W.Frag} {H H' : Hp} {Q : VK} {a b : Addr} {xs ys : List V} {cv l m : PL}
theorem ZXE {lo hi : Option Int} (h1 : H a = some (.tup xs)) (h : ∀ p H2, H2 p = some (.tup (ZGe xs lo hi)) → ZEI H H2 → Q (.ref p) H2) : ZXC K (.ref a) lo hi H Q :=
 ⟨a, xs, rfl, SqT.of h1, fun e => h a H (by rw [ZQf e]; exact h1) (ZEI.refl H), fun _ p hp => h p _ ZEN (ZEI.new hp)⟩
def PrT (H : Hp) (a : Addr) (cv : PL) : Prop := ∃ vs, H a = some (.tup vs) ∧ ZEP H vs cv
def PrL (H : Hp) (a : Addr) (cv : PL) : Prop := ∃ vs, H a = some (.lst vs) ∧ ZEP H vs cv
theorem PrT.same (h : PrT H a cv) (s : ZEI H H') : PrT H' a cv := by
 obtain ⟨vs, h1, h2⟩ := h
 exact ⟨vs, s _ _ h1, h2.same s⟩
end
section
variable {K : W.Frag} {H H' : Hp} {a p l : Addr} {cv : PL} {xs : List V}
theorem Pot.kp (h : Pot H p) (k : Kp l H H') (n : p ≠ l) : Pot H' p := by
 obtain ⟨x, y, h, r⟩ := h
 exact ⟨x, y, k _ _ h n, r⟩
theorem PrT.kpL (h : PrT H a cv) (k : Kp l H H') (hl : H l = some (.lst xs)) : PrT H' a cv := by
 obtain ⟨vs, h1, h2⟩ := h
 exact ⟨vs, k _ _ h1 (fun e => by subst e; rw [h1] at hl; cases hl), h2.kpL k hl⟩
end
theorem ZHn (a b : Str) : (a ++ b).length = a.length + b.length := by
 show (a.cps ++ b.cps).size = a.cps.size + b.cps.size
 exact Array.size_append
section
variable {X : Cx}
theorem ZFY {H : Hp} {Q : VK} {i j : Str} (h : Q (.bl (decide (i = j))) H) : rEq (.str i) (.str j) H Q := ⟨rfl, by
 have : decide (V.str i = V.str j) = decide (i = j) := by
  by_cases e : i = j
  ·subst e; simp
  ·rw [decide_eq_false e, decide_eq_false (fun z => e (V.str.inj z))]
 rw [this]; exact h⟩
theorem ZQg {T : String} {name : Str} {id : String} {r : V → List V → Hp → VK → Prop} {apos cpos : Pos} {o : Expr} {to : TE} (pa : PlainAttrs T) (slot : Slot T name id) (hty : typeOf (.builtin id) = pure (.type "method_descriptor")) (hm : MtR X id r) (ho : QE X o to)
 (hbase : attributeBase o name X.env (eval o X.env) = eval o X.env := by rfl) (hline : (apos.endLine == cpos.line) = true := by rfl) : QE X (.Call (.Attribute o name apos) [] [] cpos) (ZSC X.K T r to) := ⟨ZWY pa slot hty hm ho.h hbase hline⟩
theorem ZXF {K : W.Frag} {T : String} {r : V → List V → Hp → VK → Prop} {to : TE} {σ : St} {H : Hp} {Q : VK} (h : to σ H fun x H1 => tyV K T x H1 ∧ r x [] H1 Q) : ZSC K T r to σ H Q := h
end
def ZFO (n : Nat) {α : Type} : KasT α → (α → Prop) → Prop
 | .ret a, R => R a
 | .ask i j k, R => i < n ∧ j < n ∧ ∀ b, ZFO n (k b) R
theorem ZFO.bind {n : Nat} {α β : Type} {f : α → KasT β} {R : α → Prop} {R' : β → Prop} (h : ∀ a, R a → ZFO n (f a) R') : ∀ t : KasT α, ZFO n t R → ZFO n (t.bind f) R'
 | .ret a, g => h a g
 | .ask i j k, g => ⟨g.1, g.2.1, fun b => ZFO.bind h (k b) (g.2.2 b)⟩
theorem ZQh {n : Nat} {cmp : Nat → Nat → (Bool → Shared → Prop) → Shared → Prop} {c : Nat → Nat → Bool} {s : Shared} (hc : ∀ i j C, i < n → j < n → C (c i j) s → cmp i j C s) {α : Type} {Q : α → Shared → Prop} {R : α → Prop} : ∀ t : KasT α, ZFO n t R → Q (evT c t) s → t.kasWp cmp Q s
 | .ret _, _, h => h
 | .ask i j k, g, h => hc i j _ g.1 g.2.1 (ZQh hc (k (c i j)) (g.2.2 _) h)
section
variable {n : Nat}
def Inn (n : Nat) (p : Array Nat) : Prop := 0 < n ∧ ∀ v ∈ p.toList, v < n
theorem Inn.at {p : Array Nat} (h : Inn n p) (i : Nat) : p.getD i 0 < n := by
 by_cases hi : i < p.size
 ·have := ZGq (p := p) hi
  exact h.2 _ (Array.mem_toList_iff.mpr (Array.mem_of_getElem? this))
 ·have : p.getD i 0 = 0 := by simp [Array.getD, hi]
  rw [this]
  exact h.1
theorem Inn.perm {p q : Array Nat} (h : Inn n p) (e : q.toList.Perm p.toList) : Inn n q := ⟨h.1, fun v hv => h.2 v (e.mem_iff.mp hv)⟩
theorem Inn.rev {p : Array Nat} (h : Inn n p) (i j : Nat) : Inn n (kas_rev p i j) := h.perm (ZMp p i j)
theorem ZKX {p : Array Nat} (h : Inn n p) : ∀ f a, ZFO n (kas_asc p f a) (fun _ => True)
 | 0, _ => trivial
 | f + 1, a => ⟨h.at _, h.at _, fun b => by
  cases b with
  | true => exact trivial
  | false => exact ZKX h f (a + 1)⟩
theorem ZIA : ∀ (f : Nat) {p : Array Nat} (a q : Nat), Inn n p → ZFO n (kas_desc f p a q) (fun r => Inn n r.1)
 | 0, _, _, _, h => h
 | f + 1, p, a, q, h => ⟨h.at _, h.at _, fun b => by
  cases b with
  | true =>
   show ZFO n (if q > 0 then kas_desc f (kas_rev p (a - (q + 1)) a) (a + 1) 0 else kas_desc f p (a + 1) 0) _
   split
   ·exact ZIA f _ _ (h.rev _ _)
   ·exact ZIA f _ _ h
  | false =>
   refine ⟨h.at _, h.at _, fun d => ?_⟩
   cases d with
   | true => exact h
   | false => exact ZIA f _ _ h⟩
theorem ZLw {p : Array Nat} (h : Inn n p) (m k : Nat) : ZFO n (kas_tail3 m k p) (fun r => Inn n r.2) := by
 unfold kas_tail3
 refine ZFO.bind (R := fun _ => True) (fun a _ => ?_) _ (ZKX (h.rev _ _) _ _)
 exact h.rev _ _
theorem ZLB {p : Array Nat} (h : Inn n p) (m k : Nat) : ZFO n (kas_descPart m k p) (fun r => Inn n r.2) := by
 refine ZFO.bind (R := fun r => Inn n r.1) (fun r hr => ?_) _ (ZIA _ _ _ h)
 show ZFO n (if r.2.2 > 0 then _ else _) _
 split
 ·exact ZLw (hr.rev _ _) _ _
 ·exact ZLw hr _ _
theorem ZPQ {p : Array Nat} (h : Inn n p) (k : Nat) : ZFO n (kas_count k p) (fun r => Inn n r.2) := by
 refine ZFO.bind (R := fun _ => True) (fun m _ => ?_) _ (ZKX h _ _)
 show ZFO n (if (m == k) = true then _ else _) _
 split
 ·exact h
 ·split
  ·refine ⟨h.at _, h.at _, fun b => ?_⟩
   cases b with
   | true => exact h
   | false => exact ZLB (h.rev _ _) _ _
  ·exact ZLB h _ _
theorem ZIy {p : Array Nat} (h : Inn n p) (k : Nat) : ∀ f l r, ZFO n (kas_place p k f l r) (fun _ => True)
 | 0, _, _ => trivial
 | f + 1, l, r => by
  show ZFO n (if l ≥ r then _ else _) _
  split
  ·exact trivial
  ·refine ⟨h.at _, h.at _, fun b => ?_⟩
   cases b with
   | true => exact ZIy h k f _ _
   | false => exact ZIy h k f _ _
theorem ZNF : ∀ (f : Nat) {p : Array Nat} (k : Nat), Inn n p → ZFO n (kas_bin f p k) (fun _ => True)
 | 0, _, _, _ => trivial
 | f + 1, p, k, h => ZFO.bind (R := fun _ => True) (fun l _ => ZNF f _ (h.perm (Array.perm_iff_toList_perm.mp (bubble_perm p k _)))) _ (ZIy h k _ _ _)
theorem ZQi (hn : 0 < n) : ZFO n (kas_sort n) (fun _ => True) := by
 have h : Inn n (List.toArray (List.range n)) := ⟨hn, fun v hv => by simpa using hv⟩
 refine ZFO.bind (R := fun r => Inn n r.2) (fun r hr => ?_) _ (ZPQ h _)
 show ZFO n (if r.1 < n then _ else _) _
 split
 ·exact ZNF _ _ hr
 ·exact trivial
end
def ltP (p q : Int × Int) : Bool := decide (p.1 < q.1) || (decide (p.1 = q.1) && decide (p.2 < q.2))
theorem ZFg {p q : Int × Int} : ltP p q = true ↔ p.1 < q.1 ∨ (p.1 = q.1 ∧ p.2 < q.2) := by simp [ltP]
theorem ZFW {p q : Int × Int} : ltP p q = false ↔ ¬ (p.1 < q.1 ∨ (p.1 = q.1 ∧ p.2 < q.2)) := by
 rw [← ZFg]; simp
def ZMd (h : Heap) (a : Addr) (v : Value) (p : Int × Int) : Prop := ∃ b t u, v = .ref b ∧ b ≠ a ∧ IsTup h b #[.int p.1 t, .int p.2 u]
def ZGh (h : Heap) (a : Addr) (vs : List Value) (l : PL) : Prop := Paired (ZMd h a) vs l
theorem ZGh.get {h : Heap} {a : Addr} : ∀ {vs : List Value} {l : PL}, ZGh h a vs l → ∀ {i : Nat}, i < l.length → ZMd h a (vs.getD i .none) (l.getD i (0, 0))
 | _, _, .nil, i, hi => absurd hi (Nat.not_lt_zero _)
 | _, _, .cons g t, 0, _ => g
 | _, _, .cons g t, i + 1, hi => by
  have := ZGh.get t (i := i) (by simpa using hi)
  simpa using this
theorem ZGh.katT {h : Heap} {a : Addr} : ∀ {vs : List Value} {l : PL}, ZGh h a vs l → ∃ fs, KatTups h vs fs ∧ fs.length = vs.length ∧ ∀ v ∈ fs, ∃ x t, v = .int x t
 | _, _, .nil => ⟨[], .nil, rfl, fun v hv => by cases hv⟩
 | _, _, @Paired.cons _ _ _ v p _ _ ⟨b, t, u, e, _, o, ho, hc, k, hd⟩ r => by
  obtain ⟨fs, h1, h2, h3⟩ := ZGh.katT r
  subst e
  refine ⟨.int p.1 t :: fs, .cons ho hc hd rfl h1, by simp [h2], fun v hv => ?_⟩
  rcases List.mem_cons.mp hv with rfl | hv
  ·exact ⟨_, _, rfl⟩
  ·exact h3 v hv
section
variable {prog : Program} {w : World} {A : Around} {E : Value → Shared → Prop} {s : Shared}
theorem ZN6 {a : Addr} {v v' : Value} {p q : Int × Int} {C : Bool → Shared → Prop} (hp : ZMd s.heap a v p) (hq : ZMd s.heap a v' q) (h : C (ltP p q) s) : wpAny (model prog w) A (keyLt' (tuples' true) v v') C E s := by
 obtain ⟨b, t, u, rfl, _, o, ho, hc, k, hd⟩ := hp
 obtain ⟨b', t', u', rfl, _, o', ho', hc', k', hd'⟩ := hq
 refine kat_lt ho hd ho' hd' ?_
 refine kat_cons (wpAny_eqBool_int ?_)
 by_cases e1 : p.1 = q.1
 ·rw [show (p.1 == q.1) = true by simp [e1]]
  refine kat_yes (kat_cons (wpAny_eqBool_int ?_))
  by_cases e2 : p.2 = q.2
  ·rw [show (p.2 == q.2) = true by simp [e2]]
   refine kat_yes (kat_nil ?_)
   have : ltP p q = false := by rw [ZFW]; omega
   rw [this] at h
   exact h
  ·rw [show (p.2 == q.2) = false by simp [e2]]
   refine kat_no (kat_one _ _ (lt_int ?_))
   have : ltP p q = decide (p.2 < q.2) := by simp [ltP, e1]
   rw [this] at h
   exact h
 ·rw [show (p.1 == q.1) = false by simp [e1]]
  refine kat_no (oneLt_int ?_)
  have : ltP p q = decide (p.1 < q.1) := by simp [ltP, e1]
  rw [this] at h
  exact h
theorem ZLC {a : Addr} {vs : List Value} {l : PL} {n : Nat} {P : Fin → Shared → Prop} (ho : s.heap.get? a = some (seqObj "list" vs.toArray n))
  (hT : ZGh s.heap a vs l) (hd : l.Nodup) (h64 : vs.length < 64)
  (h : ∀ (ix : List Nat), ix.Perm (List.range vs.length) → (ix.map fun i => l.getD i (0, 0)).Pairwise (fun p q => ltP p q = true) → P (.done (.ret .none)) { s with heap := sortedHeap s.heap a vs (ix.map fun i => vs.getD i Value.none).toArray }) :
  wpAny (model prog w) A (Builtin.«list.sort» ⟨[.ref a], []⟩) P E s := by
 have hlen : vs.length = l.length := Paired.length hT
 have ha : a < s.heap.objs.size := Heap.lt_size ho
 rw [list_sort_plain]
 refine wpAny_bind (listItems_at ho rfl ?_)
 refine wpAny_bind (listUpdate_at ho rfl ?_ (by rw [List.size_toArray, sizeLine_eq]; omega) (Nat.zero_le _))
 obtain ⟨e1, ho1⟩ : ∃ e1, (s.heap.update a (Obj.mapSeq fun _ => (#[] : Array Value))).get? a = some (seqObj "list" #[] e1) := ⟨_, get?_update_seq ho fun _ => #[]⟩
 refine wpAny_bind (seqEpoch_at ho1 rfl ?_)
 refine wpAny_bind (wpAny_newTuple ?_ (by show vs.length ≤ _; rw [sizeLine_eq]; omega))
 refine wpAny_bind (wpAny_newList ?_ (Nat.zero_le _))
 refine wpAny_holding ?_
 generalize hh : (((s.heap.update a (Obj.mapSeq fun _ => (#[] : Array Value))).push (seqObj "tuple" vs.toArray 0)).push (seqObj "list" #[] 0)) = h3
 have ho3 : h3.get? a = some (seqObj "list" #[] e1) := by rw [← hh]; exact Heap.get?_push_of_some _ (Heap.get?_push_of_some _ ho1)
 have keep : ∀ b o, b ≠ a → s.heap.get? b = some o → h3.get? b = some o := fun b o hb e => by
  rw [← hh]
  exact Heap.get?_push_of_some _ (Heap.get?_push_of_some _ ((Heap.get?_update_other _ _ (Ne.symm hb)).trans e))
 have hT3 : ZGh h3 a vs l := Paired.mapP hT fun v p ⟨b, t, u, e, hb, o, hx, r⟩ => ⟨b, t, u, e, hb, o, keep b o hb hx, r⟩
 have done : ∀ (ix : List Nat), ix.Perm (List.range vs.length) → (ix.map fun i => l.getD i (0, 0)).Pairwise (fun p q => ltP p q = true) →
   P (.done (.ret .none)) { s with heap := h3.update a (Obj.mapSeq fun _ => (ix.map fun i => vs.getD i Value.none).toArray) } := fun ix hp hs => by
  have := h ix hp hs
  unfold sortedHeap at this
  rw [hh] at this
  exact this
 show wpAny (model prog w) A _ P E { s with heap := h3 }
 dsimp only
 by_cases h2 : vs.toArray.size < 2
 ·rw [if_pos h2, if_pos h2]
  refine wpAny_bind (wpAny_pure ?_)
  have hsmall : (List.range vs.length).map (fun i => vs.getD i Value.none) = vs := by
   rw [List.size_toArray] at h2
   match vs, h2 with
   | [], _ => rfl
   | [v], _ => rfl
  have hpw : ((List.range vs.length).map fun i => l.getD i (0, 0)).Pairwise (fun p q => ltP p q = true) := by
   rw [List.size_toArray] at h2
   match vs, h2 with
   | [], _ => exact List.Pairwise.nil
   | [v], _ => exact List.pairwise_singleton _ _
  have D := done (List.range vs.length) (List.Perm.refl _) hpw
  rw [hsmall] at D
  show wpAny (model prog w) A ((pure () : StateT SortSt Sem Unit).run (SortSt.mk' general' (vs.toArray.zip vs.toArray) #[] 7 none) >>= _) P E { s with heap := h3 }
  rw [StateT.run_pure]
  refine wpAny_bind (wpAny_pure ?_)
  dsimp only
  have hout : ((arrOf (SortSt.mk' general' (vs.toArray.zip vs.toArray) #[] 7 none)).map (·.2)) = vs.toArray := by
   show ((vs.toArray.zip vs.toArray).map (·.2)) = vs.toArray
   apply Array.toList_inj.mp
   rw [Array.toList_map, Array.toList_zip]
   exact List.map_snd_zip (Nat.le_refl _)
  rw [hout]
  refine wpAny_bind (seqEpoch_at (s := { s with heap := h3 }) ho3 rfl ?_)
  refine wpAny_bind (listUpdate_at (s := { s with heap := h3 }) ho3 rfl ?_ (Nat.zero_le _) (by rw [List.size_toArray, sizeLine_eq]; omega))
  simp only [bne_self_eq_false, Bool.false_eq_true, if_false]
  exact wpAny_pure D
 ·rw [if_neg h2, if_neg h2]
  have h2' : 2 ≤ vs.length := by rw [List.size_toArray] at h2; omega
  obtain ⟨fs, k1, k2, k3⟩ := hT3.katT
  refine wpAny_bind (kat_kind (T := .type "int") (s := { s with heap := h3 }) k1 (by omega) (fun v hv => ?_) (by decide) ?_)
  ·obtain ⟨x, t, rfl⟩ := k3 v hv
   exact Looks.of_pure rfl
  have hkk : tuples' (Value.type "int" != Value.type "tuple") = tuples' true := by
   have : (Value.type "int" != Value.type "tuple") = true := by decide
   rw [this]
  rw [hkk]
  let c : Nat → Nat → Bool := fun i j => ltP (l.getD i (0, 0)) (l.getD j (0, 0))
  have O : Ord c vs.length := by
   refine ⟨fun i j k h1 h2 => ?_, fun i j h1 => ?_, fun i j hi hj hne h1 => ?_⟩
   ·have h1 := ZFg.mp h1
    have h2 := ZFg.mp h2
    exact ZFg.mpr (by omega)
   ·have h1 := ZFg.mp h1
    exact ZFW.mpr (by omega)
   ·have h1 := ZFW.mp h1
    refine ZFg.mpr ?_
    have hne2 : l.getD i (0, 0) ≠ l.getD j (0, 0) := by
     intro e
     have hi' : i < l.length := by omega
     have hj' : j < l.length := by omega
     have hpw := List.pairwise_iff_getElem.mp (List.nodup_iff_pairwise_ne.mp hd)
     have e1 : l.getD i (0, 0) = l[i] := by simp [hi']
     have e2 : l.getD j (0, 0) = l[j] := by simp [hj']
     rw [e1, e2] at e
     rcases Nat.lt_trichotomy i j with z | z | z
     ·exact hpw i j hi' hj' z e
     ·exact hne z
     ·exact hpw j i hj' hi' z e.symm
    have hne3 : ¬ ((l.getD i (0, 0)).1 = (l.getD j (0, 0)).1 ∧ (l.getD i (0, 0)).2 = (l.getD j (0, 0)).2) := fun z => hne2 (Prod.ext z.1 z.2)
    omega
  obtain ⟨S1, S2⟩ := ZUY O (by omega)
  refine wpAny_bind (wpAny_mono (kat_run (E := E) (vs := vs) (ks := vs) (Q := fun st' s' => s' = { s with heap := h3 } ∧ arrOf st' = (evT c (kas_sort vs.length)).map (kas_item (vs.toArray.zip vs.toArray)) ∧ failedOf st' = none)
   (G := fun p s' => s' = { s with heap := h3 } ∧ p = evT c (kas_sort vs.length)) rfl h2' h64 (fun p st' s' a1 a2 a3 a4 => ⟨a4.1, by rw [a2, a4.2], a3⟩)
   (ZQh (c := c) (n := vs.length) (fun i j C hi hj hC => ?_) _ (ZQi (by omega)) ⟨rfl, rfl⟩)) ?_ fun _ _ e => e)
  ·exact ZN6 (hT3.get (by omega)) (hT3.get (by omega)) hC
  ·rintro ⟨⟨⟩, st'⟩ s' ⟨rfl, har, hf⟩
   dsimp only
   rw [kat_snds rfl har]
   have hperm : (evT c (kas_sort vs.length)).toList.Perm (List.range vs.length) := S1
   have hsz : (evT c (kas_sort vs.length)).size = vs.length := by have := S1.length_eq; simpa using this
   have hpw : ((evT c (kas_sort vs.length)).toList.map fun i => l.getD i (0, 0)).Pairwise (fun p q => ltP p q = true) := by
    rw [List.pairwise_map, List.pairwise_iff_getElem]
    intro i j hi hj hij
    have := S2 i j hij (by simp at hj; omega)
    have e1 : gt0 (evT c (kas_sort vs.length)) i = (evT c (kas_sort vs.length)).toList[i] := ZK5 (by rw [← Array.getElem?_toList, List.getElem?_eq_getElem hi])
    have e2 : gt0 (evT c (kas_sort vs.length)) j = (evT c (kas_sort vs.length)).toList[j] := ZK5 (by rw [← Array.getElem?_toList, List.getElem?_eq_getElem hj])
    rw [e1, e2] at this
    exact this
   refine wpAny_bind (seqEpoch_at (s := { s with heap := h3 }) ho3 rfl ?_)
   refine wpAny_bind (listUpdate_at (s := { s with heap := h3 }) ho3 rfl ?_ (Nat.zero_le _) ?_)
   ·rw [hf]
    simp only [bne_self_eq_false, Bool.false_eq_true, if_false]
    exact wpAny_pure (done _ hperm hpw)
   ·show (((evT c (kas_sort vs.length)).toList.map fun i => vs.getD i Value.none).toArray).size ≤ _
    rw [List.size_toArray, List.length_map, Array.length_toList, hsz, sizeLine_eq]
    omega
end
theorem ZQj {α : Type} {l : List α} {d : α} {ix : List Nat} (h : ix.Perm (List.range l.length)) : (ix.map fun i => l.getD i d).Perm l := by
 have e : (List.range l.length).map (fun i => l.getD i d) = l := by
  apply List.ext_getElem
  ·simp
  ·intro i h1 h2
   simp at h1 ⊢
   rw [List.getElem?_eq_getElem h1]
   rfl
 have := h.map fun i => l.getD i d
 rw [e] at this
 exact this
section
variable {σ : St} {H : Hp} {Q : VK} {to : TE}
theorem ZJL {m : PL} (h : (m.map (·.1)).Nodup) : m.Nodup := by
 rw [List.nodup_iff_pairwise_ne, List.pairwise_map] at h
 exact List.nodup_iff_pairwise_ne.mpr (h.imp fun hab e => hab (by rw [e]))
end
def Bn (n : Nat) (x : Int) : Prop := x.natAbs < 2 ^ n
theorem Bn.mono {m n : Nat} {x : Int} (h : Bn m x) (hm : m ≤ n) : Bn n x := Nat.lt_of_lt_of_le h (Nat.pow_le_pow_right (by decide) hm)
theorem Bn.of {n : Nat} {x : Int} (h1 : -(2 ^ n) < x) (h2 : x < 2 ^ n) : Bn n x := by
 unfold Bn
 have e : ((2 ^ n : Nat) : Int) = (2 : Int) ^ n := by simp
 have : (x.natAbs : Int) < ((2 ^ n : Nat) : Int) := by rw [e]; omega
 exact Int.ofNat_lt.mp this
theorem ZJZ {m n : Nat} {x y : Int} (h : Bn m x) (g : Bn n y) (hm : m + n ≤ 8000) : IntMulOk x y := by
 have h1 : Builtin.Int.intBits x ≤ m := intBits_le h
 have h2 : Builtin.Int.intBits y ≤ n := intBits_le g
 unfold IntMulOk
 have : Builtin.Int.intTooBig ((Builtin.Int.intBits x : Int) + (Builtin.Int.intBits y : Int)) = false := by
  unfold Builtin.Int.intTooBig
  refine decide_eq_false ?_
  have hb : (8000 : Int) ≤ bitsLine := by decide
  omega
 rw [this]
 simp
theorem ZOe : ∀ (ts : List Str) (B : Nat), (∀ t ∈ ts, t.length ≤ B) → (Str.join ", " ts).length ≤ ts.length * (B + 2) := by
 intro ts B hB
 by_cases hne : ts = []
 ·subst hne
  rw [List.length_nil, Nat.zero_mul]
  exact Nat.le_of_eq rfl
 ·have h1 := PySem.join_length_add ts hne
  have h2 : piled ts ≤ ts.length * (B + 2) := by
   clear h1 hne
   induction ts with
   | nil => rw [List.length_nil, Nat.zero_mul, piled_nil]; exact Nat.le_refl _
   | cons t ts ih =>
    have := ih fun x hx => hB x (List.mem_cons_of_mem _ hx)
    have h3 := hB t List.mem_cons_self
    rw [List.length_cons, Nat.succ_mul]
    show piled (t :: ts) ≤ _
    rw [piled_cons]
    omega
  omega
theorem ZLY {i : Int} (h : Bn 1900 i) : ((PyData.int i).shown).length ≤ 1921 ∧ (PyData.int i).showable = true := by
 have hl : i.natAbs.log2 < 1920 := by
  by_cases z : i.natAbs = 0
  ·rw [z]; decide
  ·exact Nat.lt_of_lt_of_le ((Nat.log2_lt z).mpr h) (by decide)
 refine ⟨?_, ?_⟩
 ·rw [PyData.shown_int]
  exact int_text_len_1921 hl
 ·simp only [PyData.showable]
  exact decide_eq_true hl
theorem ZLx {xs : List PyData} {B : Nat} (h : ∀ x ∈ xs, x.shown.length ≤ B) : (PyData.tuple xs).shown.length ≤ xs.length * (B + 2) + 3 := by
 rw [PyData.shown_tuple, ZHn, ZHn]
 have h1 : (Str.join ", " (PyData.shownAll xs)).length ≤ xs.length * (B + 2) := by
  have := ZOe (PyData.shownAll xs) B (fun t ht => by
   have : ∀ ys : List PyData, (∀ y ∈ ys, y.shown.length ≤ B) → ∀ t ∈ PyData.shownAll ys, t.length ≤ B := by
    intro ys
    induction ys with
    | nil => intro _ t ht; rw [PyData.shownAll_nil] at ht; cases ht
    | cons y ys ih =>
     intro hy t ht
     rw [PyData.shownAll_cons] at ht
     rcases List.mem_cons.mp ht with rfl | ht
     ·exact hy y List.mem_cons_self
     ·exact ih (fun z hz => hy z (List.mem_cons_of_mem _ hz)) t ht
   exact this xs h t ht)
  rw [PyData.shownAll_length] at this
  exact this
 have h2 : (((if xs.length == 1 then ",)" else ")" : String)) : Str).length ≤ 2 := by split <;> decide
 have h3 : (("(" : Str)).length = 1 := rfl
 omega
theorem ZOf {xs : List PyData} (h : ∀ x ∈ xs, x.showable = true) : PyData.showableAll xs = true := by
 induction xs with
 | nil => simp only [PyData.showableAll]
 | cons x xs ih =>
  simp only [PyData.showableAll]
  rw [h x List.mem_cons_self, ih fun y hy => h y (List.mem_cons_of_mem _ hy)]
  rfl
theorem ZQk {xs : List PyData} (h : ∀ x ∈ xs, x.canLay0 = true) : PyData.canLayAll0 xs = true := by
 induction xs with
 | nil => rfl
 | cons x xs ih =>
  show (PyData.canLay0 x && PyData.canLayAll0 xs) = true
  rw [h x List.mem_cons_self, ih fun y hy => h y (List.mem_cons_of_mem _ hy)]
  rfl
theorem ZQl {xs : List PyData} {B : Nat} (h : ∀ x ∈ xs, x.depth ≤ B) : PyData.depthAll xs ≤ B := by
 induction xs with
 | nil => exact Nat.zero_le _
 | cons x xs ih =>
  have h1 := h x List.mem_cons_self
  have h2 := ih fun y hy => h y (List.mem_cons_of_mem _ hy)
  simp only [PyData.depthAll]
  omega
inductive ZEq (H : Hp) : V → Option (PL) → Prop where
 | non : ZEq H .non Option.none
 | pr {c : Addr} {qs : PL} (h : PrT H c qs) (hl : qs.length = 4) : ZEq H (.ref c) (Option.some qs)
theorem ZEq.same {H H' : Hp} {v : V} {o : Option (PL)} (h : ZEq H v o) (s : ZEI H H') : ZEq H' v o := by
 cases h with
 | non => exact .non
 | pr e hl => exact .pr (e.same s) hl
theorem ZEq.kpL {H H' : Hp} {l : Addr} {xs : List V} {v : V} {o : Option (PL)} (h : ZEq H v o) (k : Kp l H H') (hl : H l = Option.some (.lst xs)) : ZEq H' v o := by
 cases h with
 | non => exact .non
 | pr e hn => exact .pr (e.kpL k hl) hn
inductive ZFA (H : Hp) : List V → List (Option (PL)) → Prop where
 | nil : ZFA H [] []
 | cons {v : V} {o : Option (PL)} {vs : List V} {os : List (Option (PL))} (h : ZEq H v o) (t : ZFA H vs os) : ZFA H (v :: vs) (o :: os)
theorem ZFA.mapP {H H' : Hp} (f : ∀ v o, ZEq H v o → ZEq H' v o) : ∀ {vs : List V} {os : List (Option (PL))}, ZFA H vs os → ZFA H' vs os
 | _, _, .nil => .nil
 | _, _, .cons h t => .cons (f _ _ h) (ZFA.mapP f t)
theorem ZFA.same {H H' : Hp} {vs : List V} {os : List (Option (PL))} (h : ZFA H vs os) (s : ZEI H H') : ZFA H' vs os := h.mapP fun _ _ d => d.same s
theorem ZFA.len {H : Hp} : ∀ {vs : List V} {os : List (Option (PL))}, ZFA H vs os → vs.length = os.length
 | _, _, .nil => rfl
 | _, _, .cons _ t => by simp [ZFA.len t]
theorem ZFA.snoc {H : Hp} : ∀ {vs : List V} {os : List (Option (PL))}, ZFA H vs os → ∀ {v : V} {o : Option (PL)}, ZEq H v o → ZFA H (vs ++ [v]) (os ++ [o])
 | _, _, .nil, _, _, d => .cons d .nil
 | _, _, .cons h t, _, _, d => .cons h (ZFA.snoc t d)
def ZLD : Option (PL) → PyData
 | none => .none
 | some qs => .tuple (qs.map ZTt)
theorem ZFA.dats {K : W.Frag} {H : Hp} : ∀ {vs : List V} {os : List (Option (PL))}, ZFA H vs os → ZGP K H vs (os.map ZLD)
 | _, _, .nil => .nil
 | _, _, .cons .non t => .cons .non (ZFA.dats t)
 | _, _, .cons (.pr ⟨us, g, p⟩ _) t => .cons (.tup (SqT.of g) p.dats) (ZFA.dats t)
section
variable {X : Cx}
inductive ZHe (K : W.Frag) (H : Hp) : V → Str → Prop where
 | int {i : Int} (h : Bn 1900 i) : ZHe K H (.int i) ((toString i : String) : Str)
 | bl (b : Bool) : ZHe K H (.bl b) (if b then "True" else "False" : Str)
 | non : ZHe K H .non "None"
 | str {x : Str} (h : (reprText x).length ≤ sizeLine) : ZHe K H (.str x) (reprText x)
 | dat {a : Addr} {d : PyData} (h : Dat K H (.ref a) d) (h2 : d.showable = true) (h3 : d.hasDict = false) (h4 : d.depth ≤ 60) (h5 : d.shown.length ≤ sizeLine) : ZHe K H (.ref a) d.shown
 | dct {a : Addr} {k v : Int} (h : H a = Option.some (.dK [(Sum.inl k, .int v)])) (hk : Bn 1900 k) (hv : Bn 1900 v) : ZHe K H (.ref a) (PyData.dict [(.int k, .int v)]).shown
mutual
theorem Dat.same {K : W.Frag} {H H' : Hp} (s : ZEI H H') : ∀ {x : V} {d : PyData}, Dat K H x d → Dat K H' x d
 | _, _, .non => .non
 | _, _, .bl b => .bl b
 | _, _, .int i => .int i
 | _, _, .str x => .str x
 | _, _, .tup h r => .tup (s.seqT h) (ZGP.same s r)
 | _, _, .lst h r => .lst (s.seq h) (ZGP.same s r)
theorem ZGP.same {K : W.Frag} {H H' : Hp} (s : ZEI H H') : ∀ {x : List V} {d : List PyData}, ZGP K H x d → ZGP K H' x d
 | _, _, .nil => .nil
 | _, _, .cons h r => .cons (Dat.same s h) (ZGP.same s r)
end
theorem ZXG {i : Int} (h : Bn 1900 i) : i.natAbs.log2 < 1920 := by
 by_cases z : i.natAbs = 0
 ·rw [z]; decide
 ·exact Nat.lt_of_lt_of_le ((Nat.log2_lt z).mpr h) (by decide)
theorem ZSi {k v : Int} (hk : Bn 1900 k) (hv : Bn 1900 v) : (PyData.dict [(.int k, .int v)]).shown.length ≤ sizeLine ∧ (PyData.dict [(.int k, .int v)]).showable = true ∧ (PyData.dict [(.int k, .int v)]).depth ≤ 10 := by
 have h1 := ZLY hk
 have h2 := ZLY hv
 refine ⟨?_, ?_, ?_⟩
 ·rw [PyData.shown_dict, ZHn, ZHn, PyData.shownKv_cons, PyData.shownKv_nil]
  have hj := ZOe [(PyData.int k).shown ++ ": " ++ (PyData.int v).shown] 3900 (fun t ht => by
   simp only [List.mem_cons, List.not_mem_nil, or_false] at ht
   rw [ht, ZHn, ZHn]
   have : ((": " : Str)).length = 2 := rfl
   omega)
  have e1 : (("{" : Str)).length = 1 := rfl
  have e2 : (("}" : Str)).length = 1 := rfl
  rw [e1, e2]
  refine Nat.le_trans (Nat.add_le_add_right (Nat.add_le_add_left hj 1) 1) ?_
  show 1 + 1 * (3900 + 2) + 1 ≤ sizeLine
  decide
 ·simp only [PyData.showable, PyData.showableKv]
  have a1 := h1.2
  have a2 := h2.2
  simp only [PyData.showable] at a1 a2
  rw [a1, a2]
  rfl
 ·simp only [PyData.depth, PyData.depthKv]
  decide
def ZQm (K : W.Frag) : List V → Hp → VK → Prop := fun xs H Q => ∃ x t, xs = [x] ∧ ZHe K H x t ∧ Q (.str t) H
theorem ZNG (K : W.Frag) (hK : X.K = K) (hg : X.A.guards = some []) (hu : X.A.units + 64 < cLine) : ZFG X (.builtin "repr") (ZQm K) := by
 subst hK
 intro pins s σ H xs us Q I r h
 obtain ⟨x, t, rfl, hS, q⟩ := h
 obtain ⟨u, rfl, ru⟩ := r.one
 cases hS with
 | @int i h =>
  obtain ⟨tk, rfl⟩ := (show ∃ t, u = Value.int i t from ru)
  exact PySem.P.repr_of_int (ZXG h) ⟨.str _, H, I.kept (t' := s.toks + 1) fun _ _ e => e, ⟨_, rfl⟩, q⟩
 | bl b =>
  cases (show u = Value.bool b from ru)
  exact PySem.P.repr_of_bool ⟨.str _, H, I.kept (t' := s.toks + 1) fun _ _ e => e, ⟨_, rfl⟩, q⟩
 | non =>
  cases (show u = Value.none from ru)
  exact PySem.P.repr_of_none ⟨.str _, H, I.kept (t' := s.toks + 1) fun _ _ e => e, ⟨_, rfl⟩, q⟩
 | @str x h =>
  obtain ⟨tk, rfl⟩ := (show ∃ t, u = Value.str x t from ru)
  exact PySem.P.repr_of_str ⟨.str _, H, I.kept (t' := s.toks + 1) fun _ _ e => e, ⟨_, rfl⟩, q⟩ h
 | @dat a d hD hs hnd hd hz =>
  obtain ⟨as, ra⟩ := hD.reads I ru
  cases ru
  exact repr_of_reads' ra hs (PyData.noDict_hsm hnd) hg (by omega) (fun _ _ e => e) (fun h' u tk hk => ⟨.str d.shown, H, I.kept (t' := tk) hk, ⟨u, rfl⟩, q⟩) hz
 | @dct a k v h hk hv =>
  cases ru
  obtain ⟨z, hsm, vs, rel, dd⟩ := ZK8 I.hok h
  obtain ⟨hz, hs, hd⟩ := ZSi hk hv
  cases rel with
  | @cons p q0 ps qs h0 t0 =>
   cases t0
   obtain ⟨e1, t2, e2⟩ := h0
   obtain ⟨qk, qv⟩ := q0
   simp only at e1 e2
   subst e1 e2
   have ra : Reads s.heap (.ref a) (.dict [(.int k, .int v)]) (a :: ([] ++ [])) := PyProof.V.reads_dictOf (enc := fun (k : Key) => match k with | .inl i => PyData.int i | .inr x => PyData.str x) (fun k key e => by
    rcases ZFF e with ⟨i, t, rfl, rfl⟩ | ⟨x, t, rfl, rfl⟩
    ·exact .int i t
    ·exact .str x t) dd (.cons (.int v t2) .nil)
   exact repr_of_reads' ra hs (fun _ z => by simp at z; rw [z] at hsm; simp at hsm) hg (by omega) (fun _ _ e => e) (fun h' u tk hk => ⟨.str _, H, I.kept (t' := tk) hk, ⟨u, rfl⟩, q⟩) hz
theorem ZNH {K : W.Frag} {H : Hp} {Q : VK} {x : V} {t : Str} (h1 : ZHe K H x t) (h : Q (.str t) H) : ZQm K [x] H Q := ⟨x, t, rfl, h1, h⟩
end
def Sm (n k : Nat) (d : PyData) : Prop := d.shown.length ≤ n ∧ d.showable = true ∧ d.canLay0 = true ∧ d.depth ≤ k
theorem Sm.mono {n k m j : Nat} {d : PyData} (h : Sm n k d) (h1 : n ≤ m) (h2 : k ≤ j) : Sm m j d := ⟨Nat.le_trans h.1 h1, h.2.1, h.2.2.1, Nat.le_trans h.2.2.2 h2⟩
theorem Sm.int {i : Int} (h : Bn 1900 i) : Sm 2000 3 (.int i) := by
 have := ZLY h
 exact ⟨Nat.le_trans this.1 (by decide), this.2, rfl, by simp only [PyData.depth]; decide⟩
theorem Sm.non : Sm 2000 3 .none := by
 refine ⟨?_, by simp only [PyData.showable], rfl, by simp only [PyData.depth]; decide⟩
 rw [PyData.shown_none]
 decide
theorem Sm.tup {n k : Nat} {xs : List PyData} (h : ∀ x ∈ xs, Sm n k x) (hl : xs.length ≤ 4) : Sm (4 * (n + 2) + 3) (k + 5) (.tuple xs) := by
 refine ⟨?_, ?_, ?_, ?_⟩
 ·have := ZLx fun x hx => (h x hx).1
  have h2 : xs.length * (n + 2) ≤ 4 * (n + 2) := Nat.mul_le_mul_right _ hl
  omega
 ·simp only [PyData.showable]
  exact ZOf fun x hx => (h x hx).2.1
 ·show PyData.canLayAll0 xs = true
  exact ZQk fun x hx => (h x hx).2.2.1
 ·have := ZQl fun x hx => (h x hx).2.2.2
  simp only [PyData.depth]
  omega
section
variable {X : Cx} {pins : List (Addr × Obj)} {σ : St} {H : Hp} {s : Shared}
theorem ZLy {h' : Heap} {a : Addr} (I : Inv X pins σ H s) (k : ∀ b o, s.heap.get? b = some o → h'.get? b = some o) (ha : s.heap.objs.size ≤ a) :
  ∀ {us : List V} {m : PL} {its : List Value}, ZEP H us m → ZEU us its → ZGh h' a its m
 | _, _, _, .nil, .nil => .nil
 | _, _, _, .cons (b := p) ⟨b, e, z⟩ t, .cons r q => by
  subst e
  cases r
  obtain ⟨its, rv, hp, _⟩ := I.tuple (SqT.of z)
  obtain ⟨o, ho, hc, n, hd⟩ := hp
  have hb : b < s.heap.objs.size := Heap.lt_size ho
  obtain ⟨u1, u2, e2, r1, r2⟩ := rv.two
  obtain ⟨t1, rfl⟩ := r1
  obtain ⟨t2, rfl⟩ := r2
  subst e2
  exact .cons ⟨b, t1, t2, rfl, fun z => Nat.lt_irrefl _ (Nat.lt_of_lt_of_le (z ▸ hb) ha), o, k _ _ ho, hc, n, hd⟩ (ZLy I k ha t q)
end
section
variable {prog : Program} {w : World} {A : Around} {E : Value → Shared → Prop} {s : Shared}
theorem ZMF {l : Addr} {vs : List Value} {m : PL} {Q : Value → Shared → Prop} (hl : s.heap.IsList l vs.toArray)
  (hT : ∀ h' a, (∀ b o, s.heap.get? b = some o → h'.get? b = some o) → s.heap.objs.size ≤ a → ZGh h' a vs m) (hd : m.Nodup) (h64 : vs.length < 64)
  (h : ∀ (ix : List Nat), ix.Perm (List.range vs.length) → (ix.map fun i => m.getD i (0, 0)).Pairwise (fun p q => ltP p q = true) → Q (.ref (s.heap.objs.size + 1)) { s with heap := sortedAll s.heap vs (ix.map fun i => vs.getD i Value.none).toArray }) :
  wpAny (model prog w) A (call (.builtin "sorted") [.ref l]) Q E s := by
 refine Calls.call_function_entry kind_sorted plain_sorted entry_sorted (args_sorted1 _) ?_
 unfold Builtin.«sorted»
 refine wpAny_bind (m := checkCount "sorted" 1 1 _) (wpAny_pure ?_)
 refine wpAny_bind (collect_list hl ?_ (by rw [sizeLine_eq]; omega))
 refine wpAny_bind (wpAny_newList ?_ (by rw [sizeLine_eq]; omega))
 have hsz : ((s.heap.push (seqObj "list" #[] 0)).update s.heap.objs.size (Obj.mapSeq (· ++ vs.toArray))).objs.size = s.heap.objs.size + 1 := by
  rw [Heap.size_update, size_push']
 have hoL : (((s.heap.push (seqObj "list" #[] 0)).update s.heap.objs.size (Obj.mapSeq (· ++ vs.toArray))).push (seqObj "list" vs.toArray 0)).get? (s.heap.objs.size + 1) = some (seqObj "list" vs.toArray 0) := by
  rw [← hsz]; exact Heap.get?_push_size _ rfl
 show wpAny _ _ _ _ _ { s with heap := ((s.heap.push (seqObj "list" #[] 0)).update s.heap.objs.size (Obj.mapSeq (· ++ vs.toArray))).push (seqObj "list" vs.toArray 0) }
 rw [hsz]
 have kp : ∀ b o, s.heap.get? b = some o → (((s.heap.push (seqObj "list" #[] 0)).update s.heap.objs.size (Obj.mapSeq (· ++ vs.toArray))).push (seqObj "list" vs.toArray 0)).get? b = some o := fun b o e =>
  Heap.get?_push_of_some _ ((Heap.get?_update_other _ _ (Ne.symm (Nat.ne_of_lt (Heap.lt_size e)))).trans (Heap.get?_push_of_some _ e))
 refine wpAny_bind (wpAny_holding (wpAny_call_entry slot_list_sort ⟨_, hoL, rfl⟩ entry_list_sort (ZLC (s := { s with heap := ((s.heap.push (seqObj "list" #[] 0)).update s.heap.objs.size (Obj.mapSeq (· ++ vs.toArray))).push (seqObj "list" vs.toArray 0) }) hoL (hT _ _ kp (Nat.le_succ _)) hd h64 fun ix a1 a2 => ⟨_, rfl, ?_⟩) (args_list_sort _)))
 exact wpAny_pure ⟨_, rfl, h ix a1 a2⟩
end
theorem ZU7 : ∀ {us : List V} {its : List Value}, ZEU us its → ∀ (ix : List Nat), (∀ i ∈ ix, i < us.length) → ZEU (ix.map fun i => us.getD i .non) (ix.map fun i => its.getD i Value.none) := by
 intro us its rv ix
 induction ix with
 | nil => intro _; exact .nil
 | cons i ix ih =>
  intro h
  have hi := h i (List.mem_cons_self ..)
  obtain ⟨u, hu, ru⟩ := rv.get (List.getElem?_eq_getElem hi)
  have e1 : us.getD i .non = us[i] := by simp [hi]
  have e2 : its.getD i Value.none = u := by simp [hu]
  refine .cons ?_ (ih fun j hj => h j (List.mem_cons_of_mem _ hj))
  show ZER (us.getD i .non) (its.getD i Value.none)
  rw [e1, e2]
  exact ru
theorem ZSj {H : Hp} {us : List V} {m : PL} (hP : ZEP H us m) : ∀ (ix : List Nat), (∀ i ∈ ix, i < us.length) → ZEP H (ix.map fun i => us.getD i .non) (ix.map fun i => m.getD i (0, 0)) := by
 intro ix
 induction ix with
 | nil => intro _; exact .nil
 | cons i ix ih =>
  intro h
  have hi := h i (List.mem_cons_self ..)
  obtain ⟨c, p, e, hp, hc⟩ := hP.at (List.getElem?_eq_getElem hi)
  have e1 : us.getD i .non = us[i] := by simp [hi]
  have e2 : m.getD i (0, 0) = p := by simp [hp]
  refine .cons ⟨c, ?_, ?_⟩ (ih fun j hj => h j (List.mem_cons_of_mem _ hj))
  ·show us.getD i .non = _
   rw [e1, e]
  ·show H c = some (.tup [.int (m.getD i (0, 0)).1, .int (m.getD i (0, 0)).2])
   rw [e2]; exact hc
def ZNI (K : W.Frag) : List V → Hp → VK → Prop := fun xs H Q => ∃ (p : Addr) (us : List V) (m : PL), xs = [.ref p] ∧ SqL K H p us ∧ ZEP H us m ∧ m.Nodup ∧ m.length < 64 ∧
 ∀ (l : Addr) (us' : List V) (m' : PL), H l = none → ZEP H us' m' → m'.Perm m → m'.Pairwise (fun p q => ltP p q = true) → Q (.ref l) (upd H l (.lst us'))
theorem ZLE {X : Cx} (K : W.Frag) (hK : X.K = K) : ZFG X (.builtin "sorted") (ZNI K) := by
 subst hK
 intro pins s σ H xs us Q I r h
 obtain ⟨p, vs, m, rfl, hS, hP, hn, h64, q⟩ := h
 obtain ⟨u, rfl, ru⟩ := r.one
 cases ru
 obtain ⟨its, rv, pl, hz⟩ := I.list hS
 have hlen : vs.length = m.length := hP.length
 have hl2 := rv.length
 refine ZMF (vs := its) pl.isList (fun h' a k ha => ZLy I k ha hP rv) hn (by omega) fun ix a1 a2 => ?_
 have hix : ∀ i ∈ ix, i < vs.length := fun i hi => by
  have := List.mem_range.mp (a1.mem_iff.mp hi)
  omega
 obtain ⟨e, he⟩ := sortedAll_at s.heap its (ix.map fun i => its.getD i Value.none).toArray
 refine ⟨.ref (s.heap.objs.size + 1), upd H (s.heap.objs.size + 1) (.lst (ix.map fun i => vs.getD i .non)), I.laid (t' := s.toks) (fun b o e => sortedAll_old e) (Nat.le_succ _) ?_, rfl, q _ _ (ix.map fun i => m.getD i (0, 0)) (I.hok.fresh (Nat.le_succ _)) (ZSj hP ix hix) (ZQj (by rw [← hlen, hl2]; exact a1)) a2⟩
 refine ⟨?_, _, e, ZU7 rv ix hix, he⟩
 have := a1.length_eq
 rw [List.length_map, this, List.length_range, sizeLine_eq]
 omega
theorem ZLF {K : W.Frag} {H : Hp} {Q : VK} {p : Addr} {us : List V} {m : PL} (h1 : SqL K H p us) (h2 : ZEP H us m) (h3 : m.Nodup) (h4 : m.length < 64)
  (h : ∀ l us' m' H2, H l = none → H2 l = some (.lst us') → ZEP H2 us' m' → m'.Perm m → m'.Pairwise (fun p q => ltP p q = true) → ZEI H H2 → Q (.ref l) H2) : ZNI K [.ref p] H Q :=
 ⟨p, us, m, rfl, h1, h2, h3, h4, fun l us' m' n hP a1 a2 => h l us' m' _ n ZEN (hP.same (ZEI.new n)) a1 a2 (ZEI.new n)⟩
def ZNJ : List V → Hp → VK → Prop := fun xs H Q => ∃ i j, xs = [.int i, .int j] ∧ ZH7 i j ∧ ∀ p, H p = none → Q (.ref p) (upd H p (.tup [.int (i / j), .int (i % j)]))
theorem ZNK {X : Cx} : ZFG X (.builtin "divmod") ZNJ := by
 intro pins s σ H xs us Q I r h
 obtain ⟨i, j, rfl, ⟨h1, h2⟩, q⟩ := h
 obtain ⟨u, w', rfl, ⟨t, rfl⟩, ⟨t', rfl⟩⟩ := ZO3 r
 refine divmod_int (by omega) ?_ (.inl (PyProof.noPylong_of_log2 h2))
 rw [Int.fdiv_eq_ediv_of_nonneg i (by omega), Int.fmod_eq_emod_of_nonneg i (by omega)]
 have hn : H s.heap.objs.size = none := I.hok.fresh (Nat.le_refl _)
 refine ⟨.ref s.heap.objs.size, _, ?_, rfl, q _ hn⟩
 refine I.laid (fun b o e => Heap.get?_push_of_some _ e) (Nat.le_refl _) ⟨⟨by simp only [List.length_cons, List.length_nil]; rw [sizeLine_eq]; decide, fun z => absurd rfl (z (i / j))⟩, [.int (i / j) s.toks, .int (i % j) (s.toks + 1)], .cons ⟨_, rfl⟩ (.cons ⟨_, rfl⟩ .nil), ?_⟩
 exact ⟨_, Heap.get?_push_size s.heap rfl, rfl, 0, rfl⟩
theorem ZQn {H : Hp} {Q : VK} {i j : Int} (h1 : ZH7 i j) (h : ∀ p H2, H p = none → H2 p = some (.tup [.int (i / j), .int (i % j)]) → ZEI H H2 → Q (.ref p) H2) : ZNJ [.int i, .int j] H Q :=
 ⟨i, j, rfl, h1, fun p hp => h p _ hp ZEN (ZEI.new hp)⟩
section
variable {X : Cx} {k : Nat} {f : Addr} {fd : FuncData} {ps : List Str} {sp : Sp}
theorem ZJ1 {pins : List (Addr × Obj)} {σ : St} {H : Hp} {s : Shared} {Q : VK} {us : List Value} {vs : List V} {E1 : Value → Shared → Prop} (F : ZEM X.prog X.w X.K X.mg X.base CX0 k f fd ps sp) (hr : Room k X.A.in1) (hb : ZEH X.K fd ps [])
  (I : Inv X pins σ H s) (r : ZEU vs us) (h : sp vs H Q E0) : wpAny (model X.prog X.w) X.A.in1 (call (.ref f) us) (EP X pins σ Q) E1 s := by
 have hl : (us ++ []).length = ps.length := by rw [List.append_nil, ← r.length]; exact F.len _ _ _ _ h
 refine wpAny_call (codeAny_mono (F.run X.A.in1 X.stack s H ⟨us, []⟩ (us ++ []) vs Q E0 hr I.env0.in1 (hb s us I.kIn hl) (by rw [List.append_nil]; exact r) h) fun r s' hq => ?_)
 cases r with
 | error e => exact False.elim hq
 | ok fl =>
  cases fl with
  | ret u => exact I.after hq
  | next => exact False.elim hq
  | brk => exact False.elim hq
  | cont => exact False.elim hq
theorem Inv.pin2 {pins : List (Addr × Obj)} {σ : St} {H : Hp} {s : Shared} {a b : Addr} {oa ob : Obj} (I : Inv X pins σ H s) (fa : ZFl X pins H a) (fb : ZFl X pins H b) (ha : s.heap.get? a = some oa) (hb : s.heap.get? b = some ob) (ca : ∀ v, oa.data ≠ .cell v) (cb : ∀ v, ob.data ≠ .cell v) :
  Inv X ((a, oa) :: (b, ob) :: pins) σ H s := I.pins_of fun p hp => by
 rcases List.mem_cons.mp hp with rfl | hp
 ·exact ⟨ha, fa.1, fa.2.1, fa.2.2.1, ca⟩
 ·rcases List.mem_cons.mp hp with rfl | hp
  ·exact ⟨hb, fb.1, fb.2.1, fb.2.2.1, cb⟩
  ·exact I.pin p (List.mem_append_right _ hp)
theorem Inv.unpin2 {pins : List (Addr × Obj)} {σ : St} {H : Hp} {s : Shared} {a b : Addr} {oa ob : Obj} (I : Inv X ((a, oa) :: (b, ob) :: pins) σ H s) : s.heap.get? a = some oa ∧ s.heap.get? b = some ob ∧ Inv X pins σ H s :=
 ⟨(I.pin (a, oa) (List.mem_append_right _ (.head _))).1, (I.pin (b, ob) (List.mem_append_right _ (.tail _ (.head _)))).1, I.pins_of fun p hp => I.pin p (List.mem_append_right _ (.tail _ (.tail _ hp)))⟩
theorem Inv.turnedAt {pins : List (Addr × Obj)} {σ : St} {H : Hp} {s : Shared} {h' : Heap} {t' : Nat} {it : Addr} (I : Inv X pins σ H s) (fa : ZFl X pins H it) (k : ∀ b o, b ≠ it → s.heap.get? b = some o → h'.get? b = some o) : Inv X pins σ H { s with heap := h', toks := t' } := by
 obtain ⟨f0, f1, f2, f3, f4, f5⟩ := fa
 exact I.turned k f0 f1 f3 f4 f5
theorem ZMG {pins : List (Addr × Obj)} {σ : St} {H : Hp} (hc : X.calm = true) (F : ZEM X.prog X.w X.K X.mg X.base CX0 k f fd ps sp) (hr : Room k X.A.in1) (hb : ZEH X.K fd ps []) {l I S : Addr} {us : List V} (kf : Nat → Int) (hSI : S ≠ I) (hS : SqT X.K H l us)
  (fI : ZFl X pins H I) (fS : ZFl X pins H S) (turn : ∀ i v, us[i]? = some v → ∀ Q : VK, Q (.int (kf i)) H → sp [v] H Q E0) {R : Result → Shared → Prop}
  (hR : ∀ i v u s', us[i]? = some v → ZER v u → (∀ j, j < us.length → kf i ≤ kf j ∧ (j < i → kf i < kf j)) → Inv X pins σ H s' → R (.ok (.ret u)) s') :
  ∀ (r j i : Nat) (s : Shared) (v : V) (vb : Value) (tb : Tok) (c : Nat), us.length - (j + 1) = r → j + 1 ≤ us.length → Inv X pins σ H s → s.heap.get? S = some (seqObj "list" #[vb, .int (kf i) tb] c) → s.heap.IsTupleIter I l (j + 1) →
   us[i]? = some v → ZER v vb → i ≤ j → (∀ j', j' ≤ j → kf i ≤ kf j' ∧ (j' < i → kf i < kf j')) →
   codeAny (model X.prog X.w) X.A (.builtin "min.loop" ⟨[.ref I, .ref f, .ref S], []⟩) R s := by
 have hname : (toString "min" ++ toString ".loop" : String) = "min.loop" := by decide
 intro r
 induction r with
 | zero =>
  intro j i s v vb tb c hr' hj J nS hit hv rv hij hbest
  have hin : j + 1 = us.length := by omega
  obtain ⟨its, rvs, p, hz⟩ := J.tuple hS
  have hl := rvs.length
  refine codeAny_builtin PySem.F.entry_min_loop ?_
  rw [Around.under_plainId PySem.F.plain_min_loop _]
  show wpAny _ X.A.in1 (seqItems? (.ref S) >>= _) _ _ _
  refine wpAny_bind (wpAny_seqItems nS rfl ?_)
  show wpAny _ X.A.in1 (tryCatch (pyNext (.ref I)) _ >>= _) _ _ _
  refine wpAny_bind (wpAny_tryCatch (wpAny_pyNext_tuple_end (J.ok.hd hc) hit (show s.heap.IsTuple l its.toArray from p) (by simp; omega) fun h' eb => ?_))
  have J1 : Inv X pins σ H { s with heap := h' } := J.turnedAt (t' := s.toks) fI fun b o hb e => eb b o hb e
  have hS' : h'.get? S = some (seqObj "list" #[vb, .int (kf i) tb] c) := eb S _ hSI nS
  show wpAny _ X.A.in1 (updateSeq S (fun _ => #[]) >>= _) _ _ _
  refine wpAny_bind ?_
  refine wpAny_updateSeq hS' rfl (wpAny_bind (wpAny_letGo (wpAny_pure ?_)))
  exact hR i v vb _ hv rv (fun j' hj' => hbest j' (by omega)) (J1.turnedAt (t' := s.toks) fS fun b o hb e => (Heap.get?_update_other _ _ (Ne.symm hb)).trans e)
 | succ r ih =>
  intro j i s v vb tb c hr' hj J nS hit hv rv hij hbest
  have hlt : j + 1 < us.length := by omega
  obtain ⟨its, rvs, p, hz⟩ := J.tuple hS
  have hx : us[j + 1]? = some us[j + 1] := List.getElem?_eq_getElem hlt
  obtain ⟨u, hu, ru⟩ := rvs.get hx
  refine codeAny_builtin PySem.F.entry_min_loop ?_
  rw [Around.under_plainId PySem.F.plain_min_loop _]
  show wpAny _ X.A.in1 (seqItems? (.ref S) >>= _) _ _ _
  refine wpAny_bind (wpAny_seqItems nS rfl ?_)
  show wpAny _ X.A.in1 (tryCatch (pyNext (.ref I)) _ >>= _) _ _ _
  refine wpAny_bind (wpAny_tryCatch (wpAny_pyNext_tuple_item hit (show s.heap.IsTuple l its.toArray from p) (x := u) (by simpa using hu) fun h' st' sb => ?_))
  have J1 : Inv X pins σ H { s with heap := h' } := J.turnedAt (t' := s.toks) fI fun b o hb e => (sb.2 b hb).trans e
  have hS' : h'.get? S = some (seqObj "list" #[vb, .int (kf i) tb] c) := (sb.2 S hSI).trans nS
  obtain ⟨oI, hoI, hoc, hod⟩ := id st'
  have J2 := J1.pin2 (s := { s with heap := h' }) fS fI hS' hoI (fun v z => by cases z) (fun v z => by rw [hod] at z; cases z)
  show wpAny _ X.A.in1 (tryCatch (holding [u] (call (.ref f) [u])) _ >>= _) _ _ _
  refine wpAny_bind (wpAny_tryCatch (wpAny_holding (wpAny_mono (ZJ1 (E1 := fun _ _ => False) F hr hb J2 (.cons ru .nil) (turn (j + 1) _ hx (fun v H' => v = .int (kf (j + 1)) ∧ H' = H) ⟨rfl, rfl⟩)) (fun x s'' he => ?_) fun _ _ hF => hF.elim)))
  obtain ⟨v2, H2, J3, r2, e2, e3⟩ := he
  subst e2 e3
  obtain ⟨t2, rfl⟩ := r2
  obtain ⟨nS2, nI2, J4⟩ := J3.unpin2
  have hit2 : s''.heap.IsTupleIter I l (j + 1 + 1) := ⟨oI, nI2, hoc, hod⟩
  show wpAny _ X.A.in1 (tryCatch (holding [u, .int (kf (j + 1)) t2] (richCompare .Lt (.int (kf (j + 1)) t2) (.int (kf i) tb) >>= _)) _ >>= _) _ _ _
  refine wpAny_bind (wpAny_tryCatch (wpAny_holding (wpAny_bind (CmpOf.ints_lt (prog := X.prog) (w := X.w) (A := X.A.in1) (P := fun i v => ∃ t, v = .int (kf i) t) kf (fun i v h => h) (j + 1) i _ _ _ _ _ ⟨t2, rfl⟩ ⟨tb, rfl⟩ ?_))))
  refine wpAny_bind (wpAny_holding (wpAny_truthy_bool ?_))
  refine wpAny_bind (wpAny_letGo (wpAny_pure ?_))
  by_cases hb' : kf (j + 1) < kf i
  ·obtain ⟨c2, hc2⟩ : ∃ c2, (s''.heap.update S (Obj.mapSeq fun _ => #[u, .int (kf (j + 1)) t2])).get? S = some (seqObj "list" #[u, .int (kf (j + 1)) t2] c2) := ⟨_, get?_update_seq nS2 fun _ => #[u, .int (kf (j + 1)) t2]⟩
   simp only [hb', decide_true, if_true]
   refine wpAny_bind ?_
   refine wpAny_updateSeq nS2 rfl (wpAny_bind (wpAny_letGo ?_))
   rw [hname]
   refine wpAny_pure ⟨plainId_quiet PySem.F.plain_min_loop _, ih (j + 1) (j + 1) _ _ u t2 c2 (by omega) hlt (J4.turnedAt (t' := s''.toks) fS fun b o hb e => (Heap.get?_update_other _ _ (Ne.symm hb)).trans e) hc2 ⟨oI, (Heap.get?_update_other _ _ hSI).trans nI2, hoc, hod⟩ hx ru (Nat.le_refl _) fun j' hj' => ?_⟩
   by_cases e : j' = j + 1
   ·subst e
    exact ⟨by omega, fun _ => by omega⟩
   ·have hb1 := hbest j' (by omega)
    have hb2 := hb1.1
    exact ⟨by omega, fun _ => by omega⟩
  ·simp only [hb', decide_false, Bool.false_eq_true, if_false]
   refine wpAny_bind (wpAny_letGo ?_)
   rw [hname]
   refine wpAny_pure ⟨plainId_quiet PySem.F.plain_min_loop _, ih (j + 1) i _ v vb tb c (by omega) hlt J4 nS2 hit2 hv rv (by omega) fun j' hj' => ?_⟩
   by_cases e : j' = j + 1
   ·subst e
    exact ⟨by omega, fun _ => by omega⟩
   ·exact hbest j' (by omega)
theorem ZMH {pins : List (Addr × Obj)} {σ : St} {H : Hp} {s : Shared} {Q : VK} {E1 : Value → Shared → Prop} (hc : X.calm = true) (F : ZEM X.prog X.w X.K X.mg X.base CX0 k f fd ps sp) (hr : Room k X.A.in1) (hb : ZEH X.K fd ps []) {l : Addr} {us : List V} (kf : Nat → Int) (J : Inv X pins σ H s) (hS : SqT X.K H l us) (hne : us ≠ [])
  (turn : ∀ i v, us[i]? = some v → ∀ Q : VK, Q (.int (kf i)) H → sp [v] H Q E0) (hQ : ∀ i v, us[i]? = some v → (∀ j, j < us.length → kf i ≤ kf j ∧ (j < i → kf i < kf j)) → Q v H) :
  wpAny (model X.prog X.w) X.A (call (.builtin "min") [.ref l] [(Str.ofString "key", .ref f)]) (EP X pins σ Q) E1 s := by
 have hname : (toString "min" ++ toString ".loop" : String) = "min.loop" := by decide
 have hpos : 0 < us.length := List.length_pos_iff.mpr hne
 obtain ⟨its, rvs, p, hz⟩ := J.tuple hS
 have hls : s.heap.IsTuple l its.toArray := p
 refine kmk_tree PySem.F.kind_min PySem.F.plain_min PySem.F.entry_min (kmk_min_key _ _) ?_
 show wpAny _ X.A.in1 (Builtin.Builtins.bindParams "min" ["key", "default"] 0 ⟨[], [(Str.ofString "key", .ref f)]⟩ >>= _) _ _ s
 refine wpAny_bind (wpAny_of_eq (show Builtin.Builtins.bindParams "min" ["key", "default"] 0 ⟨[], [(Str.ofString "key", .ref f)]⟩ = pure [some (.ref f), none] from rfl) ?_)
 refine wpAny_bind (wpAny_pure ?_)
 refine wpAny_bind (wpAny_pyIter_tuple hls ?_)
 refine wpAny_bind (wpAny_newList ?_ (Nat.zero_le _))
 rw [hname]
 refine wpAny_pure ⟨plainId_quiet PySem.F.plain_min_loop _, ?_⟩
 generalize hO : ({ cls := .type "tuple_iterator", data := .fields #[.ref l, .int 0 0] } : Obj) = O
 have hSs : (s.heap.push O).objs.size = s.heap.objs.size + 1 := size_push' ..
 have hSI : (s.heap.push O).objs.size ≠ s.heap.objs.size := by rw [hSs]; exact Nat.ne_of_gt (Nat.lt_succ_self _)
 have gI : ((s.heap.push O).push (seqObj "list" #[] 0)).get? s.heap.objs.size = some O := Heap.get?_push_of_some _ (Heap.get?_push_size _ (by rw [← hO]; rfl))
 have gS : ((s.heap.push O).push (seqObj "list" #[] 0)).get? (s.heap.push O).objs.size = some (seqObj "list" #[] 0) := Heap.get?_push_size _ rfl
 have fI : ZFl X pins H s.heap.objs.size := J.fpOk (Nat.le_refl _) (J.hok.fresh (Nat.le_refl _))
 have fS : ZFl X pins H (s.heap.push O).objs.size := J.fpOk (by rw [hSs]; exact Nat.le_succ _) (J.hok.fresh (by rw [hSs]; exact Nat.le_succ _))
 have J0 : Inv X pins σ H { s with heap := (s.heap.push O).push (seqObj "list" #[] 0) } := J.kept (t' := s.toks) fun b o e => Heap.get?_push_of_some _ (Heap.get?_push_of_some _ e)
 obtain ⟨its0, rvs0, p0, hz0⟩ := J0.tuple hS
 have hx : us[0]? = some us[0] := List.getElem?_eq_getElem hpos
 obtain ⟨u, hu, ru⟩ := rvs0.get hx
 refine codeAny_builtin PySem.F.entry_min_loop ?_
 rw [Around.under_plainId PySem.F.plain_min_loop _]
 show wpAny _ X.A.in1 (seqItems? (.ref _) >>= _) _ _ _
 refine wpAny_bind (wpAny_seqItems gS rfl ?_)
 show wpAny _ X.A.in1 (tryCatch (pyNext (.ref s.heap.objs.size)) _ >>= _) _ _ _
 refine wpAny_bind (wpAny_tryCatch (wpAny_pyNext_tuple_item (s := { s with heap := (s.heap.push O).push (seqObj "list" #[] 0) }) (i := 0) ⟨O, gI, by rw [← hO], by rw [← hO]; rfl⟩ (show ((s.heap.push O).push (seqObj "list" #[] 0)).IsTuple l its0.toArray from p0) (x := u) (by simpa using hu) fun h' st' sb => ?_))
 have J1 : Inv X pins σ H { s with heap := h' } := J0.turnedAt (t' := s.toks) fI fun b o hb e => (sb.2 b hb).trans e
 have hS' : h'.get? (s.heap.push O).objs.size = some (seqObj "list" #[] 0) := (sb.2 _ hSI).trans gS
 obtain ⟨oI, hoI, hoc, hod⟩ := id st'
 have J2 := J1.pin2 (s := { s with heap := h' }) fS fI hS' hoI (fun v z => by cases z) (fun v z => by rw [hod] at z; cases z)
 show wpAny _ X.A.in1 (tryCatch (holding [u] (call (.ref f) [u])) _ >>= _) _ _ _
 refine wpAny_bind (wpAny_tryCatch (wpAny_holding (wpAny_mono (ZJ1 (E1 := fun _ _ => False) F hr hb J2 (.cons ru .nil) (turn 0 _ hx (fun v H' => v = .int (kf 0) ∧ H' = H) ⟨rfl, rfl⟩)) (fun x s'' he => ?_) fun _ _ hF => hF.elim)))
 obtain ⟨v2, H2, J3, r2, e2, e3⟩ := he
 subst e2 e3
 obtain ⟨t2, rfl⟩ := r2
 obtain ⟨nS2, nI2, J4⟩ := J3.unpin2
 obtain ⟨c2, hc2⟩ : ∃ c2, (s''.heap.update (s.heap.push O).objs.size (Obj.mapSeq fun _ => #[u, .int (kf 0) t2])).get? (s.heap.push O).objs.size = some (seqObj "list" #[u, .int (kf 0) t2] c2) := ⟨_, get?_update_seq nS2 fun _ => #[u, .int (kf 0) t2]⟩
 show wpAny _ X.A.in1 (updateSeq (s.heap.push O).objs.size (fun _ => #[u, .int (kf 0) t2]) >>= _) _ _ _
 refine wpAny_bind ?_
 refine wpAny_updateSeq nS2 rfl ?_
 rw [hname]
 refine wpAny_pure ⟨plainId_quiet PySem.F.plain_min_loop _, ZMG hc F hr hb kf hSI hS fI fS turn (fun i v u s' hv rv hbest J' => ⟨v, _, J', rv, hQ i v hv hbest⟩) _ 0 0 _ _ u t2 c2 rfl hpos (J4.turnedAt (t' := s''.toks) fS fun b o hb e => (Heap.get?_update_other _ _ (Ne.symm hb)).trans e) hc2 ⟨oI, (Heap.get?_update_other _ _ hSI).trans nI2, hoc, hod⟩ hx ru (Nat.le_refl _) fun j' hj' => ?_⟩
 have e : j' = 0 := by omega
 subst e
 exact ⟨by omega, fun h => absurd h (Nat.lt_irrefl _)⟩
def ZKY (K : W.Frag) (sp : Sp) (vs : List V) (H : Hp) (Q : VK) : Prop := ∃ (l : Addr) (us : List V) (kf : Nat → Int), vs = [.ref l] ∧ SqT K H l us ∧ us ≠ [] ∧ (∀ i v, us[i]? = some v → ∀ Q : VK, Q (.int (kf i)) H → sp [v] H Q E0) ∧
 ∀ i v, us[i]? = some v → (∀ j, j < us.length → kf i ≤ kf j ∧ (j < i → kf i < kf j)) → Q v H
def ZNL (K : W.Frag) (sp : Sp) (t : TA) : TE := fun σ H Q => t σ H fun vs H1 => ZKY K sp vs H1 Q
theorem ZPR {x : Str} {e : Expr} {t : TA} {p kp kpos pos : Pos} (K : W.Frag) (hK : X.K = K) (hc : X.calm = true) (F : ZEM X.prog X.w X.K X.mg X.base CX0 k f fd ps sp) (hr : Room (k + 1) X.A) (hgm : Gl X "min") (hmm : X.mg "min" = none) (hg : Gl X x) (hm : X.mg x = some (.ref f)) (hb : ZEH X.K fd ps []) (ha : QA X [e] t)
  (hs : ZGf e = false := by rfl) (hd : (x == ("__debug__" : Str)) = false := by decide) : QE X (.Call (.Name "min" p) [e] [⟨some "key", .Name x kp, kpos⟩] pos) (ZNL K sp t) := by
 subst hK
 refine ⟨?_⟩
 intro pins s σ H Q I h
 refine wpAny_Call_Name_kw (ZHO I hgm hmm ZMq ?_ (by decide) (by decide))
 have hse := ZGr (e := e) (es := []) (env := X.env) hs
 refine PyProof.Rows.callWith_kw (thn (ha.h pos pins s σ H _ I h) fun us s1 ⟨vs, H1, I1, r1, q1⟩ => PyProof.Rows.kws_cons (ZGp I1 hg hm (PyProof.Rows.kws_nil ?_) hd)) (by rw [hse]; rfl) (by rw [hse]; rfl)
 obtain ⟨l, ws, kf, e1, g1, g2, g3, g4⟩ := q1
 subst e1
 obtain ⟨u, rfl, ru⟩ := r1.one
 cases ru
 exact ZMH hc F hr.in1 hb kf I1 g1 g2 g3 g4
theorem ZPS {K : W.Frag} {H : Hp} {Q : VK} {sp : Sp} {l : Addr} {us : List V} (kf : Nat → Int) (h1 : SqT K H l us) (h2 : us ≠ []) (h3 : ∀ i v, us[i]? = some v → ∀ Q : VK, Q (.int (kf i)) H → sp [v] H Q E0)
 (h : ∀ i v, us[i]? = some v → (∀ j, j < us.length → kf i ≤ kf j ∧ (j < i → kf i < kf j)) → Q v H) : ZKY K sp [.ref l] H Q := ⟨l, us, kf, rfl, h1, h2, h3, h⟩
theorem ZN7 {K : W.Frag} {sp : Sp} {t : TA} {σ : St} {H : Hp} {Q : VK} (h : t σ H fun vs H1 => ZKY K sp vs H1 Q) : ZNL K sp t σ H Q := h
theorem ZMI {pins : List (Addr × Obj)} {σ : St} {H : Hp} (hc : X.calm = true) (F : ZEM X.prog X.w X.K X.mg X.base CX0 k f fd ps sp) (hr : Room k X.A.in1) (hb : ZEH X.K fd ps []) {l I S : Addr} {us : List V} (kf : Nat → Int) (hSI : S ≠ I) (hS : SqT X.K H l us)
  (fI : ZFl X pins H I) (fS : ZFl X pins H S) (turn : ∀ i v, us[i]? = some v → ∀ Q : VK, Q (.int (kf i)) H → sp [v] H Q E0) {R : Result → Shared → Prop}
  (hR : ∀ i v u s', us[i]? = some v → ZER v u → (∀ j, j < us.length → kf i ≥ kf j ∧ (j < i → kf i > kf j)) → Inv X pins σ H s' → R (.ok (.ret u)) s') :
  ∀ (r j i : Nat) (s : Shared) (v : V) (vb : Value) (tb : Tok) (c : Nat), us.length - (j + 1) = r → j + 1 ≤ us.length → Inv X pins σ H s → s.heap.get? S = some (seqObj "list" #[vb, .int (kf i) tb] c) → s.heap.IsTupleIter I l (j + 1) →
   us[i]? = some v → ZER v vb → i ≤ j → (∀ j', j' ≤ j → kf i ≥ kf j' ∧ (j' < i → kf i > kf j')) →
   codeAny (model X.prog X.w) X.A (.builtin "max.loop" ⟨[.ref I, .ref f, .ref S], []⟩) R s := by
 have hname : (toString "max" ++ toString ".loop" : String) = "max.loop" := by decide
 intro r
 induction r with
 | zero =>
  intro j i s v vb tb c hr' hj J nS hit hv rv hij hbest
  have hin : j + 1 = us.length := by omega
  obtain ⟨its, rvs, p, hz⟩ := J.tuple hS
  have hl := rvs.length
  refine codeAny_builtin PySem.F.entry_max_loop ?_
  rw [Around.under_plainId PySem.F.plain_max_loop _]
  show wpAny _ X.A.in1 (seqItems? (.ref S) >>= _) _ _ _
  refine wpAny_bind (wpAny_seqItems nS rfl ?_)
  show wpAny _ X.A.in1 (tryCatch (pyNext (.ref I)) _ >>= _) _ _ _
  refine wpAny_bind (wpAny_tryCatch (wpAny_pyNext_tuple_end (J.ok.hd hc) hit (show s.heap.IsTuple l its.toArray from p) (by simp; omega) fun h' eb => ?_))
  have J1 : Inv X pins σ H { s with heap := h' } := J.turnedAt (t' := s.toks) fI fun b o hb e => eb b o hb e
  have hS' : h'.get? S = some (seqObj "list" #[vb, .int (kf i) tb] c) := eb S _ hSI nS
  show wpAny _ X.A.in1 (updateSeq S (fun _ => #[]) >>= _) _ _ _
  refine wpAny_bind ?_
  refine wpAny_updateSeq hS' rfl (wpAny_bind (wpAny_letGo (wpAny_pure ?_)))
  exact hR i v vb _ hv rv (fun j' hj' => hbest j' (by omega)) (J1.turnedAt (t' := s.toks) fS fun b o hb e => (Heap.get?_update_other _ _ (Ne.symm hb)).trans e)
 | succ r ih =>
  intro j i s v vb tb c hr' hj J nS hit hv rv hij hbest
  have hlt : j + 1 < us.length := by omega
  obtain ⟨its, rvs, p, hz⟩ := J.tuple hS
  have hx : us[j + 1]? = some us[j + 1] := List.getElem?_eq_getElem hlt
  obtain ⟨u, hu, ru⟩ := rvs.get hx
  refine codeAny_builtin PySem.F.entry_max_loop ?_
  rw [Around.under_plainId PySem.F.plain_max_loop _]
  show wpAny _ X.A.in1 (seqItems? (.ref S) >>= _) _ _ _
  refine wpAny_bind (wpAny_seqItems nS rfl ?_)
  show wpAny _ X.A.in1 (tryCatch (pyNext (.ref I)) _ >>= _) _ _ _
  refine wpAny_bind (wpAny_tryCatch (wpAny_pyNext_tuple_item hit (show s.heap.IsTuple l its.toArray from p) (x := u) (by simpa using hu) fun h' st' sb => ?_))
  have J1 : Inv X pins σ H { s with heap := h' } := J.turnedAt (t' := s.toks) fI fun b o hb e => (sb.2 b hb).trans e
  have hS' : h'.get? S = some (seqObj "list" #[vb, .int (kf i) tb] c) := (sb.2 S hSI).trans nS
  obtain ⟨oI, hoI, hoc, hod⟩ := id st'
  have J2 := J1.pin2 (s := { s with heap := h' }) fS fI hS' hoI (fun v z => by cases z) (fun v z => by rw [hod] at z; cases z)
  show wpAny _ X.A.in1 (tryCatch (holding [u] (call (.ref f) [u])) _ >>= _) _ _ _
  refine wpAny_bind (wpAny_tryCatch (wpAny_holding (wpAny_mono (ZJ1 (E1 := fun _ _ => False) F hr hb J2 (.cons ru .nil) (turn (j + 1) _ hx (fun v H' => v = .int (kf (j + 1)) ∧ H' = H) ⟨rfl, rfl⟩)) (fun x s'' he => ?_) fun _ _ hF => hF.elim)))
  obtain ⟨v2, H2, J3, r2, e2, e3⟩ := he
  subst e2 e3
  obtain ⟨t2, rfl⟩ := r2
  obtain ⟨nS2, nI2, J4⟩ := J3.unpin2
  have hit2 : s''.heap.IsTupleIter I l (j + 1 + 1) := ⟨oI, nI2, hoc, hod⟩
  show wpAny _ X.A.in1 (tryCatch (holding [u, .int (kf (j + 1)) t2] (richCompare .Gt (.int (kf (j + 1)) t2) (.int (kf i) tb) >>= _)) _ >>= _) _ _ _
  refine wpAny_bind (wpAny_tryCatch (wpAny_holding (wpAny_bind (CmpOf.ints_gt (prog := X.prog) (w := X.w) (A := X.A.in1) (P := fun i v => ∃ t, v = .int (kf i) t) kf (fun i v h => h) (j + 1) i _ _ _ _ _ ⟨t2, rfl⟩ ⟨tb, rfl⟩ ?_))))
  refine wpAny_bind (wpAny_holding (wpAny_truthy_bool ?_))
  refine wpAny_bind (wpAny_letGo (wpAny_pure ?_))
  by_cases hb' : kf (j + 1) > kf i
  ·obtain ⟨c2, hc2⟩ : ∃ c2, (s''.heap.update S (Obj.mapSeq fun _ => #[u, .int (kf (j + 1)) t2])).get? S = some (seqObj "list" #[u, .int (kf (j + 1)) t2] c2) := ⟨_, get?_update_seq nS2 fun _ => #[u, .int (kf (j + 1)) t2]⟩
   simp only [hb', decide_true, if_true]
   refine wpAny_bind ?_
   refine wpAny_updateSeq nS2 rfl (wpAny_bind (wpAny_letGo ?_))
   rw [hname]
   refine wpAny_pure ⟨plainId_quiet PySem.F.plain_max_loop _, ih (j + 1) (j + 1) _ _ u t2 c2 (by omega) hlt (J4.turnedAt (t' := s''.toks) fS fun b o hb e => (Heap.get?_update_other _ _ (Ne.symm hb)).trans e) hc2 ⟨oI, (Heap.get?_update_other _ _ hSI).trans nI2, hoc, hod⟩ hx ru (Nat.le_refl _) fun j' hj' => ?_⟩
   by_cases e : j' = j + 1
   ·subst e
    exact ⟨by omega, fun _ => by omega⟩
   ·have hb1 := hbest j' (by omega)
    have hb2 := hb1.1
    exact ⟨by omega, fun _ => by omega⟩
  ·simp only [hb', decide_false, Bool.false_eq_true, if_false]
   refine wpAny_bind (wpAny_letGo ?_)
   rw [hname]
   refine wpAny_pure ⟨plainId_quiet PySem.F.plain_max_loop _, ih (j + 1) i _ v vb tb c (by omega) hlt J4 nS2 hit2 hv rv (by omega) fun j' hj' => ?_⟩
   by_cases e : j' = j + 1
   ·subst e
    exact ⟨by omega, fun _ => by omega⟩
   ·exact hbest j' (by omega)
theorem ZMJ {pins : List (Addr × Obj)} {σ : St} {H : Hp} {s : Shared} {Q : VK} {E1 : Value → Shared → Prop} (hc : X.calm = true) (F : ZEM X.prog X.w X.K X.mg X.base CX0 k f fd ps sp) (hr : Room k X.A.in1) (hb : ZEH X.K fd ps []) {l : Addr} {us : List V} (kf : Nat → Int) (J : Inv X pins σ H s) (hS : SqT X.K H l us) (hne : us ≠ [])
  (turn : ∀ i v, us[i]? = some v → ∀ Q : VK, Q (.int (kf i)) H → sp [v] H Q E0) (hQ : ∀ i v, us[i]? = some v → (∀ j, j < us.length → kf i ≥ kf j ∧ (j < i → kf i > kf j)) → Q v H) :
  wpAny (model X.prog X.w) X.A (call (.builtin "max") [.ref l] [(Str.ofString "key", .ref f)]) (EP X pins σ Q) E1 s := by
 have hname : (toString "max" ++ toString ".loop" : String) = "max.loop" := by decide
 have hpos : 0 < us.length := List.length_pos_iff.mpr hne
 obtain ⟨its, rvs, p, hz⟩ := J.tuple hS
 have hls : s.heap.IsTuple l its.toArray := p
 refine kmk_tree PySem.F.kind_max PySem.F.plain_max PySem.F.entry_max (kmk_max_key _ _) ?_
 show wpAny _ X.A.in1 (Builtin.Builtins.bindParams "max" ["key", "default"] 0 ⟨[], [(Str.ofString "key", .ref f)]⟩ >>= _) _ _ s
 refine wpAny_bind (wpAny_of_eq (show Builtin.Builtins.bindParams "max" ["key", "default"] 0 ⟨[], [(Str.ofString "key", .ref f)]⟩ = pure [some (.ref f), none] from rfl) ?_)
 refine wpAny_bind (wpAny_pure ?_)
 refine wpAny_bind (wpAny_pyIter_tuple hls ?_)
 refine wpAny_bind (wpAny_newList ?_ (Nat.zero_le _))
 rw [hname]
 refine wpAny_pure ⟨plainId_quiet PySem.F.plain_max_loop _, ?_⟩
 generalize hO : ({ cls := .type "tuple_iterator", data := .fields #[.ref l, .int 0 0] } : Obj) = O
 have hSs : (s.heap.push O).objs.size = s.heap.objs.size + 1 := size_push' ..
 have hSI : (s.heap.push O).objs.size ≠ s.heap.objs.size := by rw [hSs]; exact Nat.ne_of_gt (Nat.lt_succ_self _)
 have gI : ((s.heap.push O).push (seqObj "list" #[] 0)).get? s.heap.objs.size = some O := Heap.get?_push_of_some _ (Heap.get?_push_size _ (by rw [← hO]; rfl))
 have gS : ((s.heap.push O).push (seqObj "list" #[] 0)).get? (s.heap.push O).objs.size = some (seqObj "list" #[] 0) := Heap.get?_push_size _ rfl
 have fI : ZFl X pins H s.heap.objs.size := J.fpOk (Nat.le_refl _) (J.hok.fresh (Nat.le_refl _))
 have fS : ZFl X pins H (s.heap.push O).objs.size := J.fpOk (by rw [hSs]; exact Nat.le_succ _) (J.hok.fresh (by rw [hSs]; exact Nat.le_succ _))
 have J0 : Inv X pins σ H { s with heap := (s.heap.push O).push (seqObj "list" #[] 0) } := J.kept (t' := s.toks) fun b o e => Heap.get?_push_of_some _ (Heap.get?_push_of_some _ e)
 obtain ⟨its0, rvs0, p0, hz0⟩ := J0.tuple hS
 have hx : us[0]? = some us[0] := List.getElem?_eq_getElem hpos
 obtain ⟨u, hu, ru⟩ := rvs0.get hx
 refine codeAny_builtin PySem.F.entry_max_loop ?_
 rw [Around.under_plainId PySem.F.plain_max_loop _]
 show wpAny _ X.A.in1 (seqItems? (.ref _) >>= _) _ _ _
 refine wpAny_bind (wpAny_seqItems gS rfl ?_)
 show wpAny _ X.A.in1 (tryCatch (pyNext (.ref s.heap.objs.size)) _ >>= _) _ _ _
 refine wpAny_bind (wpAny_tryCatch (wpAny_pyNext_tuple_item (s := { s with heap := (s.heap.push O).push (seqObj "list" #[] 0) }) (i := 0) ⟨O, gI, by rw [← hO], by rw [← hO]; rfl⟩ (show ((s.heap.push O).push (seqObj "list" #[] 0)).IsTuple l its0.toArray from p0) (x := u) (by simpa using hu) fun h' st' sb => ?_))
 have J1 : Inv X pins σ H { s with heap := h' } := J0.turnedAt (t' := s.toks) fI fun b o hb e => (sb.2 b hb).trans e
 have hS' : h'.get? (s.heap.push O).objs.size = some (seqObj "list" #[] 0) := (sb.2 _ hSI).trans gS
 obtain ⟨oI, hoI, hoc, hod⟩ := id st'
 have J2 := J1.pin2 (s := { s with heap := h' }) fS fI hS' hoI (fun v z => by cases z) (fun v z => by rw [hod] at z; cases z)
 show wpAny _ X.A.in1 (tryCatch (holding [u] (call (.ref f) [u])) _ >>= _) _ _ _
 refine wpAny_bind (wpAny_tryCatch (wpAny_holding (wpAny_mono (ZJ1 (E1 := fun _ _ => False) F hr hb J2 (.cons ru .nil) (turn 0 _ hx (fun v H' => v = .int (kf 0) ∧ H' = H) ⟨rfl, rfl⟩)) (fun x s'' he => ?_) fun _ _ hF => hF.elim)))
 obtain ⟨v2, H2, J3, r2, e2, e3⟩ := he
 subst e2 e3
 obtain ⟨t2, rfl⟩ := r2
 obtain ⟨nS2, nI2, J4⟩ := J3.unpin2
 obtain ⟨c2, hc2⟩ : ∃ c2, (s''.heap.update (s.heap.push O).objs.size (Obj.mapSeq fun _ => #[u, .int (kf 0) t2])).get? (s.heap.push O).objs.size = some (seqObj "list" #[u, .int (kf 0) t2] c2) := ⟨_, get?_update_seq nS2 fun _ => #[u, .int (kf 0) t2]⟩
 show wpAny _ X.A.in1 (updateSeq (s.heap.push O).objs.size (fun _ => #[u, .int (kf 0) t2]) >>= _) _ _ _
 refine wpAny_bind ?_
 refine wpAny_updateSeq nS2 rfl ?_
 rw [hname]
 refine wpAny_pure ⟨plainId_quiet PySem.F.plain_max_loop _, ZMI hc F hr hb kf hSI hS fI fS turn (fun i v u s' hv rv hbest J' => ⟨v, _, J', rv, hQ i v hv hbest⟩) _ 0 0 _ _ u t2 c2 rfl hpos (J4.turnedAt (t' := s''.toks) fS fun b o hb e => (Heap.get?_update_other _ _ (Ne.symm hb)).trans e) hc2 ⟨oI, (Heap.get?_update_other _ _ hSI).trans nI2, hoc, hod⟩ hx ru (Nat.le_refl _) fun j' hj' => ?_⟩
 have e : j' = 0 := by omega
 subst e
 exact ⟨by omega, fun h => absurd h (Nat.lt_irrefl _)⟩
def ZKZ (K : W.Frag) (sp : Sp) (vs : List V) (H : Hp) (Q : VK) : Prop := ∃ (l : Addr) (us : List V) (kf : Nat → Int), vs = [.ref l] ∧ SqT K H l us ∧ us ≠ [] ∧ (∀ i v, us[i]? = some v → ∀ Q : VK, Q (.int (kf i)) H → sp [v] H Q E0) ∧
 ∀ i v, us[i]? = some v → (∀ j, j < us.length → kf i ≥ kf j ∧ (j < i → kf i > kf j)) → Q v H
def ZNM (K : W.Frag) (sp : Sp) (t : TA) : TE := fun σ H Q => t σ H fun vs H1 => ZKZ K sp vs H1 Q
theorem ZPT {x : Str} {e : Expr} {t : TA} {p kp kpos pos : Pos} (K : W.Frag) (hK : X.K = K) (hc : X.calm = true) (F : ZEM X.prog X.w X.K X.mg X.base CX0 k f fd ps sp) (hr : Room (k + 1) X.A) (hgm : Gl X "max") (hmm : X.mg "max" = none) (hg : Gl X x) (hm : X.mg x = some (.ref f)) (hb : ZEH X.K fd ps []) (ha : QA X [e] t)
  (hs : ZGf e = false := by rfl) (hd : (x == ("__debug__" : Str)) = false := by decide) : QE X (.Call (.Name "max" p) [e] [⟨some "key", .Name x kp, kpos⟩] pos) (ZNM K sp t) := by
 subst hK
 refine ⟨?_⟩
 intro pins s σ H Q I h
 refine wpAny_Call_Name_kw (ZHO I hgm hmm ZK7 ?_ (by decide) (by decide))
 have hse := ZGr (e := e) (es := []) (env := X.env) hs
 refine PyProof.Rows.callWith_kw (thn (ha.h pos pins s σ H _ I h) fun us s1 ⟨vs, H1, I1, r1, q1⟩ => PyProof.Rows.kws_cons (ZGp I1 hg hm (PyProof.Rows.kws_nil ?_) hd)) (by rw [hse]; rfl) (by rw [hse]; rfl)
 obtain ⟨l, ws, kf, e1, g1, g2, g3, g4⟩ := q1
 subst e1
 obtain ⟨u, rfl, ru⟩ := r1.one
 cases ru
 exact ZMJ hc F hr.in1 hb kf I1 g1 g2 g3 g4
theorem ZPU {K : W.Frag} {H : Hp} {Q : VK} {sp : Sp} {l : Addr} {us : List V} (kf : Nat → Int) (h1 : SqT K H l us) (h2 : us ≠ []) (h3 : ∀ i v, us[i]? = some v → ∀ Q : VK, Q (.int (kf i)) H → sp [v] H Q E0)
 (h : ∀ i v, us[i]? = some v → (∀ j, j < us.length → kf i ≥ kf j ∧ (j < i → kf i > kf j)) → Q v H) : ZKZ K sp [.ref l] H Q := ⟨l, us, kf, rfl, h1, h2, h3, h⟩
theorem ZN8 {K : W.Frag} {sp : Sp} {t : TA} {σ : St} {H : Hp} {Q : VK} (h : t σ H fun vs H1 => ZKZ K sp vs H1 Q) : ZNM K sp t σ H Q := h
end
section
variable {X : Cx} {o e value : Expr} {f m : Str} {pos pos' tpos apos : Pos} {ta tv : TE} {t : TA}
def ZXH (K : W.Frag) (f : Str) (x : V) (H : Hp) (Q : VK) : Prop := ∃ a C dx fs v, x = .ref a ∧ H a = some (.ins C dx fs) ∧ Cls K C ∧ ZE4 K C f ∧ fs.lookup f = some v ∧ Q v H
def ZTy (K : W.Frag) (f : Str) (y x : V) (H : Hp) (R : Hp → Prop) : Prop := ∃ a C dx fs, x = .ref a ∧ H a = some (.ins C dx fs) ∧ Cls K C ∧ ZE4 K C f ∧ fs.length < 1000 ∧ R (upd H a (.ins C dx (ZEj f y fs)))
theorem ZEh (K : W.Frag) (hK : X.K = K) (he : QE X e ta) (hb : attributeBase e f X.env (eval e X.env) = eval e X.env := by rfl) : QE X (.Attribute e f pos) (ZR1 K ta f) := by
 subst hK
 exact ⟨ZWO he.h hb⟩
theorem ZFq (K : W.Frag) (hK : X.K = K) (ho : QE X o ta) (hv : QE X value tv) (hs : ZGM value = false := by rfl) : QS X (.Assign [.Attribute o f pos'] value pos) (ZR2 K ta tv f) := by
 subst hK
 exact ⟨ZWP ho.h hv.h (ZG7 hs)⟩
theorem ZLz (K : W.Frag) (hK : X.K = K) (ho : QE X o ta) (hv : QE X value tv) : QS X (.AugAssign (.Attribute o f tpos) .Add value pos) (ZLS K ta tv ZMj f) := by
 subst hK
 exact ⟨ZQD ho.h hv.h ZWQ⟩
section
variable {CX : CXT} {k : Nat} {fa C : Addr} {fd : FuncData} {ps : List Str} {sp : Sp} {dvs : List V} {ds : List Value} {E : XK} {es : List Expr} {x : Str} {p : Pos}
theorem ZEs {pl : Sem Bool} (he : QE X o ta) (c : Cls X.K C) (hm : ZFQ X.K C m fa) (F : ZEM X.prog X.w X.K X.mg X.base CX k fa fd ps sp) (hr : Room k X.A) (hb : ZEH X.K fd ps ds) (hd : ZEU dvs ds) (hx : ZFx CX X E) (ha : QA X (e :: es) t) (hns : ZFE (e :: es) = true := by rfl)
 (ht : eval (.Call (.Attribute o m apos) (e :: es) [] pos) X.env = (do
  let ov ← eval o X.env
  standAt apos.atName
  let (f, first) ← holding [ov] (getMethod ov m pl)
  callWith pos f first (backTo pos (starEach (e :: es) X.env)) (backToKw pos (keywordEach [] X.env))) := by rfl) :
 QE X (.Call (.Attribute o m apos) (e :: es) [] pos) (ZK1 C m sp dvs E ta t) := ⟨ZUS he.h c hm F hr hb hd hx ha.h (ZGY hns) (ZGA (ZF6 hns)) ht⟩
theorem ZGC {pl : Sem Bool} (he : QE X o ta) (c : Cls X.K C) (hm : ZFQ X.K C m fa) (F : ZEM X.prog X.w X.K X.mg X.base CX k fa fd ps sp) (hr : Room k X.A) (hb : ZEH X.K fd ps ds) (hd : ZEU dvs ds) (hx : ZFx CX X E)
 (ht : eval (.Call (.Attribute o m apos) [] [] pos) X.env = (do
  let ov ← eval o X.env
  standAt apos.atName
  let (f, first) ← holding [ov] (getMethod ov m pl)
  callWith pos f first (backTo pos (starEach [] X.env)) (backToKw pos (keywordEach [] X.env))) := by rfl) :
 QE X (.Call (.Attribute o m apos) [] [] pos) (ZK1 C m sp dvs E ta ZMk) := ⟨ZR5 he.h c hm F hr hb hd hx ht⟩
theorem ZJ2 (M : Mk X.K C fa) (F : ZEM X.prog X.w X.K X.mg X.base CX k fa fd ps sp) (hr : Room (k + 1) X.A) (hg : Gl X x) (hm : X.mg x = some (.ref C)) (hb : ZEH X.K fd ps ds) (hd : ZEU dvs ds) (hx : ZFx CX X E) (ha : QA X (e :: es) t)
 (hns : ZFE (e :: es) = true := by rfl) (hdb : (x == ("__debug__" : Str)) = false := by decide) : QE X (.Call (.Name x p) (e :: es) [] pos) (ZO6 C sp dvs E t) := ⟨ZUT M F hr hg hm hb hd hx ha.h hdb (ZGY hns) (ZGA (ZF6 hns))⟩
end
end
section
variable {K : W.Frag} {σ : St} {H : Hp} {Q : VK} {D : ZFI} {f m : Str} {ta tv : TE} {t : TA} {C : Addr} {sp : Sp} {dvs : List V} {E : XK}
theorem ZU8 (h : ta σ H fun x H1 => ZXH K f x H1 Q) : ZR1 K ta f σ H Q := h
theorem ZEx {a dx : Addr} {fs : List (Str × V)} {v : V} (h1 : H a = some (.ins C dx fs)) (c : Cls K C) (n : ZE4 K C f) (l : fs.lookup f = some v) (q : Q v H) : ZXH K f (.ref a) H Q := ⟨a, C, dx, fs, v, rfl, h1, c, n, l, q⟩
theorem ZSk (h : tv σ H fun y H1 => ta σ H1 fun x H2 => ZTy K f y x H2 (D.nx σ)) : ZR2 K ta tv f D σ H := h
theorem ZFa {a dx : Addr} {fs : List (Str × V)} {y : V} {R : Hp → Prop} (h1 : H a = some (.ins C dx fs)) (c : Cls K C) (n : ZE4 K C f) (l : fs.length < 1000) (q : ∀ H2, H2 a = some (.ins C dx (ZEj f y fs)) → Kp a H H2 → R H2) : ZTy K f y (.ref a) H R := ⟨a, C, dx, fs, rfl, h1, c, n, l, q _ ZEN Kp.upd⟩
def ZOg (K : W.Frag) (f : Str) (tv : TE) (σ : St) (R : Hp → Prop) (x : V) (H : Hp) : Prop := ∃ a C dx fs v, x = .ref a ∧ H a = some (.ins C dx fs) ∧ Cls K C ∧ ZE4 K C f ∧ fs.lookup f = some v ∧
 tv σ H fun y H2 => ZMj v y H2 fun z H3 => ∃ dx' fs', H3 a = some (.ins C dx' fs') ∧ fs'.length < 1000 ∧ R (upd H3 a (.ins C dx' (ZEj f z fs')))
theorem ZPV (h : ta σ H fun x H1 => ZOg K f tv σ (D.nx σ) x H1) : ZLS K ta tv ZMj f D σ H := h
def ZQo (C : Addr) (m : Str) (x : V) (H : Hp) (R : Prop) : Prop := ∃ a dx fs, x = .ref a ∧ H a = some (.ins C dx fs) ∧ fs.lookup m = none ∧ R
theorem ZSl (h : ta σ H fun x H1 => ZQo C m x H1 (t σ H1 fun vs H2 => sp (x :: (vs ++ dvs)) H2 Q E)) : ZK1 C m sp dvs E ta t σ H Q := h
theorem ZEa {a dx : Addr} {fs : List (Str × V)} {R : Prop} (h1 : H a = some (.ins C dx fs)) (l : fs.lookup m = none) (q : R) : ZQo C m (.ref a) H R := ⟨a, dx, fs, rfl, h1, l, q⟩
def ZTz (C : Addr) (sp : Sp) (dvs : List V) (E : XK) (vs : List V) (H : Hp) (Q : VK) : Prop := ∀ x dx, H x = none → H dx = none → dx ≠ x → sp (.ref x :: (vs ++ dvs)) (upd (upd H dx (.own x)) x (.ins C dx [])) (fun v H2 => v = .non ∧ Q (.ref x) H2) E
theorem ZSm (h : t σ H fun vs H1 => ZTz C sp dvs E vs H1 Q) : ZO6 C sp dvs E t σ H Q := h
theorem ZJ3 {vs : List V} (h : ∀ x dx H2, H x = none → H2 x = some (.ins C dx []) → ZEI H H2 → sp (.ref x :: (vs ++ dvs)) H2 (fun v H3 => v = .non ∧ Q (.ref x) H3) E) : ZTz C sp dvs E vs H Q := fun x dx hx hdx hne =>
 h x dx _ hx ZEN fun b o e => by rw [ZEV (ZET e hx), ZEV (ZET e hdx)]; exact e
end
structure ZNN (K : W.Frag) (x qual : Str) (st : Stmt) (f : Addr) (fd : FuncData) : Prop where
 ex : ∃ (oc : Value) (od : Option Addr) (dV kV doc pm : Value) (an : Option Addr) (cdv ct : Value) (osl : Array (Option Value)),
  fd = W.fnOf x qual (ZFM st) (ZE6 st) (ZEE st) dV kV doc pm an cdv ct ∧ K.lookup f = some ⟨oc, od, .func fd, osl⟩ ∧ W.codeIn K cdv qual = true
 kp : W.keepIn K (.ref f) = true
theorem ZNN.ok {P : Program} {w : World} {K : W.Frag} {mg : Str → Option Value} {base : Heap} {x qual : Str} {st : Stmt} {f : Addr} {fd : FuncData} {N ps : List Str} {k : Nat} {sp : Sp} (F : ZNN K x qual st f fd) (S : ZEJ N ps (ZEE st)) (len : ∀ vs H Q E, sp vs H Q E → vs.length = ps.length)
  (hbody : ∀ (cdv : Value) (A : Around) (outer : List Env) (s : Shared) (H : Hp) (vs : List V) (Q : VK) (E : XK), Room k (A.deeper (envOfC qual (ZEE st) s.heap.objs.size f cdv)) → sp vs H Q E →
   ∃ t, PSs (ZJV CX0 P w K mg base N qual (ZEE st) f cdv A outer s H E).nox (ZE6 st) t ∧ t { nx := fun _ H' => Q .non H', rt := Q } (start N vs) H) : ZEM P w K mg base CX0 (k + 1) f fd ps sp := by
 obtain ⟨oc, od, dV, kV, doc, pm, an, cdv, ct, osl, rfl, lk, hcd⟩ := F.ex
 refine ZO7 lk hcd S len fun A outer s H vs Q E hr hsp => ?_
 obtain ⟨t, h, q⟩ := hbody cdv A outer s H vs Q E hr hsp
 exact ⟨t, h.nox, q⟩
section
variable {K : W.Frag} {σ : St} {H : Hp} {Q : VK} {f : Str} {tv td ty : TE} {C : Addr}
theorem ZLG {a dx : Addr} {fs : List (Str × V)} {v : V} {R : Hp → Prop} (h1 : H a = some (.ins C dx fs)) (c : Cls K C) (n : ZE4 K C f) (l : fs.lookup f = some v)
 (q : tv σ H fun y H2 => ZMj v y H2 fun z H3 => ∃ dx' fs', H3 a = some (.ins C dx' fs') ∧ fs'.length < 1000 ∧ R (upd H3 a (.ins C dx' (ZEj f z fs')))) : ZOg K f tv σ R (.ref a) H := ⟨a, C, dx, fs, v, rfl, h1, c, n, l, q⟩
def ZJa (a : Addr) (y : V) (H : Hp) (Q : VK) : Prop := ∃ o, ZFS H a y o ∧ Q (o.getD .non) H
def ZNO (ty : TE) (σ : St) (Q : VK) (x : V) (H : Hp) : Prop := ∃ a, x = .ref a ∧ IsD H a ∧ ty σ H fun y H2 => ZJa a y H2 Q
theorem ZQp (h : td σ H fun x H1 => ZNO ty σ Q x H1) : ZM3 td ty σ H Q := h
theorem ZJb {a : Addr} {kvs : List (List Key × V)} (h1 : H a = some (.dT kvs)) (q : ty σ H fun y H2 => ZJa a y H2 Q) : ZNO ty σ Q (.ref a) H := ⟨a, rfl, .inr ⟨kvs, .inl h1⟩, q⟩
theorem ZKa {a b : Addr} {kvs : List (List Key × V)} {k : List Key} (h1 : H a = some (.dT kvs)) (hb : H b = some (.tup (k.map kV))) (q : Q ((ZEc kvs k).getD .non) H) : ZJa a (.ref b) H Q := ⟨_, ZFS.t h1 hb, q⟩
theorem ZL0 {a : Addr} {kvs : List (Key × V)} (h1 : H a = some (.dK kvs)) (q : ty σ H fun y H2 => ZJa a y H2 Q) : ZNO ty σ Q (.ref a) H := ⟨a, rfl, .inl ⟨kvs, .inl h1⟩, q⟩
theorem ZNP {a : Addr} {m : PL} {i : Int} (h1 : H a = some (.dK (ZEf m))) (q : Q (((ZEZ m i).map V.int).getD .non) H) : ZJa a (.int i) H Q := ⟨_, ZFS.k (k := Sum.inl i) h1, by rw [ZGU]; exact q⟩
theorem ZHq {a b : Addr} {kvs : List (List Key × V)} {k : List Key} {v : V} {R : Hp → Prop} (h1 : H a = some (.dT kvs)) (hb : H b = some (.tup (k.map kV))) (hz : kvs.length < sizeLine) (h : ∀ H2, H2 a = some (.dT (ZFi kvs k v)) → Kp a H H2 → R H2) : ZPN v (.ref a) (.ref b) H R :=
 ⟨a, _, rfl, ZIx.t h1 hb hz, h _ ZEN Kp.upd⟩
end
section
variable {X : Cx} {o e : Expr} {apos cpos pos p : Pos} {td ty to : TE}
theorem ZHr (hu : X.A.units + 1 < cLine) (ho : QE X o td) (he : QE X e ty) (m : M1 X o "get" apos e cpos := by exact ⟨rfl, rfl, rfl, rfl⟩) : QE X (.Call (.Attribute o "get" apos) [e] [] cpos) (ZM3 td ty) := ⟨ZSa hu ho.h he.h m⟩
theorem ZKb : QE X (.Dict [] [] pos) ZM2 := ⟨ZSZ⟩
def ZQq (H : Hp) (Q : VK) : Prop := ∀ p, H p = none → Q (.ref p) (upd H p (.dT []))
theorem ZQr {σ : St} {H : Hp} {Q : VK} (h : ZQq H Q) : ZM2 σ H Q := h
theorem ZKc {H : Hp} {Q : VK} (h : ∀ p H2, H p = none → H2 p = some (.dT []) → ZEI H H2 → Q (.ref p) H2) : ZQq H Q := fun p hp => h p _ hp ZEN (ZEI.new hp)
end
theorem ZOh {K : W.Frag} {x qual : Str} {st : Stmt} {f : Addr} {oc : Value} {od an : Option Addr} {osl : Array (Option Value)} {dV kV doc pm cdv ct : Value} (l : K.lookup f = some ⟨oc, od, .func (W.fnOf x qual (ZFM st) (ZE6 st) (ZEE st) dV kV doc pm an cdv ct), osl⟩)
 (c : W.codeIn K cdv qual = true) (k : W.keepIn K (.ref f) = true) : ZNN K x qual st f (W.fnOf x qual (ZFM st) (ZE6 st) (ZEE st) dV kV doc pm an cdv ct) := ⟨⟨oc, od, dV, kV, doc, pm, an, cdv, ct, osl, rfl, l, c⟩, k⟩
def ZOi (K : W.Frag) (fd : FuncData) (ps : List Str) (x : Str) : Prop := ∀ (s : Shared) (u v : Value), K.In s.heap → BindsTo s fd ⟨[u], [(x, v)]⟩ (ps.zip [u, v])
theorem ZEv.there {P : Program} {w : World} {H : Hp} {h : Heap} {a : Addr} {o : HO} (x : ZEv P w H h a o) : ∃ ob, h.get? a = some ob := by
 cases o with
 | lst xs => obtain ⟨_, _, _, _, e⟩ := x; exact ⟨_, e⟩
 | tup xs => obtain ⟨_, _, _, p⟩ := x; obtain ⟨o, e, _⟩ := p; exact ⟨_, e⟩
 | dK kvs => obtain ⟨_, _, _, _, o, _, _, e, _⟩ := x; exact ⟨_, e⟩
 | dT kvs => obtain ⟨_, _, _, _, o, _, _, e, _⟩ := x; exact ⟨_, e⟩
 | set S n => obtain ⟨o, _, _, _, e, _⟩ := x; exact ⟨_, e⟩
 | ins C dx fs => obtain ⟨_, _, _, e, _⟩ := x; exact ⟨_, e⟩
 | own y => exact x
 | xd fs => obtain ⟨_, ⟨_, _, _, e, _⟩, _⟩ := x; exact ⟨_, e⟩
 | rng lo hi => obtain ⟨_, _, _, e⟩ := x; exact ⟨_, e⟩
 | frz ob u => obtain ⟨e, _⟩ := x; exact ⟨_, e⟩
 | tbl ps => exact ⟨_, (show h.get? a = some _ from x)⟩
 | met f y => exact ⟨_, (show h.get? a = some _ from x)⟩
 | ext φ => obtain ⟨_, e, _⟩ := x; exact e
def Cov (B : Heap) (H' : Hp) (h0 h' : Heap) (fs : List Addr) : Prop := ∀ b o, h'.get? b = some o → b ∉ fs → ((∃ u, H' b = some u) ∨ ∃ o0, h0.get? b = some o0) → B.get? b = some o
def CX1 (P : Program) (w : World) : CXT := fun l H s E ev s' => ∃ (e : Addr) (C a0 : Value) (B : Heap) (H' : Hp), ev = .ref e ∧ s'.os = s.os ∧ AllBare s'.gens ∧ Un (frs l) [] H H' s.heap s'.heap ∧ HOk P w H' s'.heap ∧
 s.heap.get? e = none ∧ H' e = none ∧ Heap.FlyingW B l e C a0 s'.heap ∧ Cov B H' s.heap s'.heap (frs l) ∧ E C none H'
section
variable {P : Program} {w : World} {H H' : Hp} {h0 h' h'' B : Heap} {fs : List Addr}
theorem ZIz (hok : HOk P w H' h') (un : Un fs [] H H' h0 h') (cov : Cov B H' h0 h' fs) (st : B.StaysIn h'') (up : h'.UpToSlots h'') (fr : ∀ b ∈ fs, H' b = none ∧ ∃ o, h'.get? b = some o ∧ ∀ vs, o.data ≠ .fields vs) :
  HOk P w H' h'' ∧ Un fs [] H H' h0 h'' ∧ Cov B H' h0 h'' fs := by
 have trk : ∀ b u, H' b = some u → b ∉ fs := fun b u e hb => by rw [(fr b hb).1] at e; cases e
 have old : ∀ b o0, h0.get? b = some o0 → ∃ o', h''.get? b = some o' := fun b o0 e => by
  obtain ⟨o', e'⟩ := un.there b o0 e (by simp)
  by_cases hb : b ∈ fs
  ·obtain ⟨_, o, ho, hd⟩ := fr b hb
   obtain ⟨sl, q⟩ := up b o ho hd
   exact ⟨_, q⟩
  ·exact ⟨o', st _ _ (cov b o' e' hb (.inr ⟨o0, e⟩))⟩
 refine ⟨fun b u e => (hok b u e).stay (fun c v hc q => ?_) (fun _ q => q) fun _ _ q => q, ⟨fun b o e n hb hx => ?_, fun b o e n hb hx => ?_, un.free, fun b o e _ => old b o e, un.tups, un.frzs, un.tbls⟩, fun b o e hb ht => ?_⟩
 ·have hc' : ∃ u, H' c = some u := by
   rcases hc with rfl | hc
   ·exact ⟨_, e⟩
   ·exact ⟨_, hc⟩
  obtain ⟨u', hu'⟩ := hc'
  exact st _ _ (cov c v q (trk c u' hu') (.inl ⟨u', hu'⟩))
 ·exact st _ _ (cov b o (un.keep b o e n hb hx) hb (.inr ⟨o, e⟩))
 ·obtain ⟨sl, q⟩ := un.slot b o e n hb hx
  obtain ⟨_, o2, ho2, hd⟩ := fr b hb
  rw [q] at ho2
  cases ho2
  obtain ⟨sl2, q2⟩ := up b _ q hd
  exact ⟨sl2, q2⟩
 ·have : ∃ o1, h'.get? b = some o1 := by
   rcases ht with ⟨u, hu⟩ | ⟨o0, ho0⟩
   ·exact (hok b u hu).there
   ·exact un.there b o0 ho0 (by simp)
  obtain ⟨o1, h1⟩ := this
  have hB := cov b o1 h1 hb ht
  have := st _ _ hB
  rw [e] at this
  cases this
  exact hB
end
section
variable {P : Program} {w : World} {K : W.Frag} {mg : Str → Option Value} {base : Heap} {N : List Str} {qual : Str} {scope : Scope} {f : Addr} {cd : Value} {A : Around} {outer : List Env} {s : Shared} {H : Hp} {E : XK}
abbrev cxE (P : Program) (w : World) (K : W.Frag) (mg : Str → Option Value) (base : Heap) (N : List Str) (qual : Str) (scope : Scope) (f : Addr) (cd : Value) (A : Around) (outer : List Env) (s : Shared) (H : Hp) (E : XK) : Cx := ZJV (CX1 P w) P w K mg base N qual scope f cd A outer s H E
theorem ZKd {env : Env} {l : List Env} {L : Addr} (h : env.frame = some L) : frs (env :: l) = L :: frs l := by
 unfold frs
 rw [List.filterMap_cons, h]
theorem ZJ4 {X : Cx} {pins : List (Addr × Obj)} {σ : St} {H1 : Hp} {s1 : Shared} (I : Inv X pins σ H1 s1) {B h : Heap} {l : List Env} (hl : h.FunFrames B l) (hs : ∀ b ∈ frs l, b ∈ frs X.stack) : ∀ b ∈ frs l, H1 b = none ∧ ∃ o, h.get? b = some o ∧ ∀ vs, o.data ≠ .fields vs :=
 fun b hb => ⟨I.stkFree b (hs b hb), (hl.mem hb).2⟩
theorem ZIB : ZFx (CX1 P w) (cxE P w K mg base N qual scope f cd A outer s H E) E := by
 intro pins σ H1 s1 ev s' I hc
 obtain ⟨e, C, a0, B, H', rfl, os, bare, un, hok, hen, heH, fl, cov, q⟩ := hc
 have I2 := I.call' (ch := []) os un hok bare (fun b z => absurd z (by simp))
 have hfr : (cxE P w K mg base N qual scope f cd A outer s H E).A.frames = some ((cxE P w K mg base N qual scope f cd A outer s H E).env :: outer) := I.ok.frames
 show wpAny (model P w) _ (leaving _ (.ref e)) _ _ s'
 refine wpAny_leaves_onW (L := s.heap.objs.size) hfr rfl fl fun h'' fl2 up => ?_
 have nL : ∀ b o, s.heap.get? b = some o → b ≠ s.heap.objs.size := fun b o e => Nat.ne_of_lt (Heap.lt_size e)
 have efr : frs ((cxE P w K mg base N qual scope f cd A outer s H E).env :: outer) = s.heap.objs.size :: frs outer := ZKd rfl
 have un2 : Un (frs outer) [] H H' s.heap s'.heap := I2.base
 have cov2 : Cov B H' s.heap s'.heap (frs outer) := fun b o hb hn ht => by
  refine cov b o hb (fun z => ?_) (ht.imp id fun ⟨o0, h0⟩ => I.base.there b o0 h0 (show b ∉ ([] : List Addr) by simp))
  have z2 : b ∈ s.heap.objs.size :: frs outer := by rw [← efr]; exact z
  rcases List.mem_cons.mp z2 with rfl | z2
  ·rcases ht with ⟨u, hu⟩ | ⟨o0, h0⟩
   ·have z3 : H' s.heap.objs.size = none := I2.free
    rw [z3] at hu; cases hu
   ·exact nL _ _ h0 rfl
  ·exact hn z2
 have flo : s'.heap.FunFrames B outer := by
  obtain ⟨_, _, ⟨_, _, k⟩, _⟩ := fl
  exact k
 obtain ⟨hok3, un3, cov3⟩ := ZIz hok un2 cov2 fl2.1 up (ZJ4 I2 flo fun b hb => by
  show b ∈ frs ((cxE P w K mg base N qual scope f cd A outer s H E).env :: outer)
  rw [efr]; exact List.mem_cons_of_mem _ hb)
 refine ⟨e, C, a0, B, H', rfl, I2.os, bare, un3, hok3, ?_, heH, fl2, cov3, q⟩
 cases z : s.heap.get? e with
 | none => rfl
 | some o =>
  obtain ⟨o', e'⟩ := I.base.there e o z (show e ∉ ([] : List Addr) by simp)
  rw [hen] at e'; cases e'
end
theorem ZOj {K : W.Frag} {h : Heap} {C : Addr} {bmB : List Value} {newId : String} (X : K.In h) (q : excIn K C bmB newId = true) :
  ∃ bm N nm q bs hdct sn sub ab col dd k0 k1 k2 k3 k5 mN, h.get? C = some (excClassObj nm q C N bs bm hdct sn sub ab col dd k0 k1 k2 k3 k5 newId) ∧ h.Ns N mN ∧ mN "__init__" = none ∧ OwnTail h bmB bm := by
 unfold excIn at q
 split at q
 ·rename_i dd cd sl ho
  split at q
  ·rename_i C' bm k0 k1 k2 k3 n k5 hm hs
   simp only [Bool.and_eq_true, beq_iff_eq, Bool.not_eq_true'] at q
   obtain ⟨⟨⟨⟨⟨rfl, rfl⟩, hdel⟩, ht⟩, hok⟩, hni⟩ := q
   obtain ⟨nm, bs, mro, ns, qn, hd, sn, sub, ab, col, del⟩ := cd
   dsimp only at hm hdel hok hni
   subst hm hdel
   have hsl : sl = #[k0, k1, k2, k3, some (.builtin n), k5] := by
    obtain ⟨l⟩ := sl
    simp only at hs
    rw [hs]
   subst hsl
   exact ⟨bm, ns, nm, qn, bs, hd, sn, sub, ab, col, dd, k0, k1, k2, k3, k5, _, X _ _ ho, .of_isNs (isNs_of_in X hok), nsMap_none_of_in X hok hni, tail_of_in X ht⟩
  ·cases q
 ·cases q
def ZJc (K : W.Frag) (C : Addr) : Prop := excIn K C [.type "ValueError", .type "Exception", .type "BaseException", .type "object"] "ValueError.__new__" = true
section
variable {P : Program} {w : World} {K : W.Frag} {mg : Str → Option Value} {base : Heap} {N : List Str} {qual : Str} {scope : Scope} {f : Addr} {cd : Value} {A : Around} {outer : List Env} {s : Shared} {H : Hp} {E : XK}
 {x : Str} {np cpos pos : Pos} {e₀ : Expr} {es : List Expr} {t : TA} {C : Addr}
def ZNQ (E : XK) (C : Addr) (t : TA) : TS := fun _ σ H => t σ H fun vs H1 => vs.length ≤ sizeLine ∧ E (.ref C) none H1
theorem ZSn (hC : ZJc K C) (hg : Gl (cxE P w K mg base N qual scope f cd A outer s H E) x) (hm : mg x = some (.ref C)) (ha : PA (cxE P w K mg base N qual scope f cd A outer s H E) (e₀ :: es) t)
  (hdb : (x == ("__debug__" : Str)) = false := by decide)
  (he : starEach (e₀ :: es) (cxE P w K mg base N qual scope f cd A outer s H E).env = (false, eval e₀ (cxE P w K mg base N qual scope f cd A outer s H E).env) :: starEach es (cxE P w K mg base N qual scope f cd A outer s H E).env := by rfl)
  (hpl : (backTo cpos (starEach es (cxE P w K mg base N qual scope f cd A outer s H E).env)).any (·.1) = false := by rfl) :
  PS (cxE P w K mg base N qual scope f cd A outer s H E) (.Raise (some (.Call (.Name x np) (e₀ :: es) [] cpos)) none pos) (ZNQ E C t) := by
 intro pins s1 σ H1 D I h
 have hh : (cxE P w K mg base N qual scope f cd A outer s H E).A.handled = none := I.ok.hd rfl
 obtain ⟨bm, N', nm, qn, bs, hdct, sn, sub, ab, col, dd, k0, k1, k2, k3, k5, mN, hCo, hN, hni, TL⟩ := ZOj I.ok.mod.kin hC
 have FB := PySem.F.excBase_ValueError
 refine wpAny_Raise_call_subT (C := C) (nm := nm) (q := qn) (N := N') (bs := bs) (bm := bm) (hdct := hdct) (sn := sn) (sub := sub) (ab := ab) (col := col) (dd := dd) (k0 := k0) (k1 := k1) (k2 := k2) (k3 := k3) (k5 := k5)
  FB (mN := mN) (TL.hasType FB.hasBase) hh (by rw [he]; show (false || (backTo cpos (starEach es _)).any (·.1)) = false; rw [hpl]; rfl) hni (ZGp I hg hm ⟨rfl, ?_⟩ hdb)
 have hA := ha cpos pins s1 σ H1 _ I h
 rw [he] at hA ⊢
 refine Calls.evalArgs_plain (wpAny_mono hA (fun vs s2 ⟨xs, H2, I2, r, z, q⟩ => ⟨rfl, by rw [← r.length]; exact z, I2.bk _ _ hCo, hN.keeps I2.bk, TL.keeps I2.bk, fun h' e hx => ?_⟩) fun _ _ y => y)
 -- the exception is made: it leaves the frame
 have hfr : (cxE P w K mg base N qual scope f cd A outer s H E).A.frames = some ((cxE P w K mg base N qual scope f cd A outer s H E).env :: outer) := I.ok.frames
 have efr : frs ((cxE P w K mg base N qual scope f cd A outer s H E).env :: outer) = s.heap.objs.size :: frs outer := ZKd rfl
 have stk := I2.stack
 have hin : ∀ env ∈ ((cxE P w K mg base N qual scope f cd A outer s H E).env :: outer), ∀ b, env.frame = some b → b ∈ frs ((cxE P w K mg base N qual scope f cd A outer s H E).env :: outer) := fun env he b hb => List.mem_filterMap.mpr ⟨env, he, hb⟩
 show wpAny (model P w) _ (leaving _ (.ref e)) _ _ { s2 with heap := h' }
 refine wpAny_leaves_madeW (base := hideAll s2.heap (frs ((cxE P w K mg base N qual scope f cd A outer s H E).env :: outer))) (L := s.heap.objs.size) hfr rfl (fun b o q => of_hideAll _ q) (funFrames_hide stk hin) hx fun h'' t' fl2 htup hbt up => ?_
 have I3 : Inv (cxE P w K mg base N qual scope f cd A outer s H E) pins σ H2 { s2 with heap := h' } := I2.kept (h' := h') (t' := s2.toks) hx.keeps
 have cov : Cov (hideAll s2.heap (frs ((cxE P w K mg base N qual scope f cd A outer s H E).env :: outer))) H2 s.heap h' (frs outer) := fun b o hb hn ht => by
  have : ∃ o1, s2.heap.get? b = some o1 := by
   rcases ht with ⟨u, hu⟩ | ⟨o0, ho0⟩
   ·exact (I2.hok b u hu).there
   ·exact I2.base.there b o0 ho0 (show b ∉ ([] : List Addr) by simp)
  obtain ⟨o1, h1⟩ := this
  have h2 := hx.keeps _ _ h1
  rw [hb] at h2
  cases h2
  refine hideAll_get _ h1 fun z => ?_
  rw [efr] at z
  rcases List.mem_cons.mp z with rfl | z
  ·rcases ht with ⟨u, hu⟩ | ⟨o0, h0⟩
   ·have z3 : H2 s.heap.objs.size = none := I2.free
    rw [z3] at hu; cases hu
   ·exact Nat.lt_irrefl _ (Heap.lt_size h0)
  ·exact hn z
 have flo : h'.FunFrames (hideAll s2.heap (frs ((cxE P w K mg base N qual scope f cd A outer s H E).env :: outer))) outer := by
  obtain ⟨_, _, k⟩ := (funFrames_hide stk hin : s2.heap.FunFrames (hideAll s2.heap (frs ((cxE P w K mg base N qual scope f cd A outer s H E).env :: outer))) ((cxE P w K mg base N qual scope f cd A outer s H E).env :: outer))
  exact k.of_keeps fun b o hb _ => ⟨o, hx.keeps b o hb, rfl⟩
 obtain ⟨hok3, un3, cov3⟩ := ZIz (I3.hok) (show Un (frs outer) [] H H2 s.heap h' from I3.base) cov fl2.1 up (ZJ4 I3 flo fun b hb => by
  show b ∈ frs ((cxE P w K mg base N qual scope f cd A outer s H E).env :: outer)
  rw [efr]; exact List.mem_cons_of_mem _ hb)
 refine ⟨e, .ref C, .ref t', _, H2, rfl, I2.os, I2.bare, un3, hok3, ?_, ?_, fl2, cov3, q⟩
 ·cases z : s.heap.get? e with
  | none => rfl
  | some o =>
   obtain ⟨o', e'⟩ := I2.base.there e o z (show e ∉ ([] : List Addr) by simp)
   rw [hx.new] at e'; cases e'
 ·cases z : H2 e with
  | none => rfl
  | some u =>
   obtain ⟨o', e'⟩ := (I2.hok e u z).there
   rw [hx.new] at e'; cases e'
end
section
variable {P : Program} {w : World} {K : W.Frag} {mg : Str → Option Value} {base : Heap}
theorem ZEM.lift {k : Nat} {f : Addr} {fd : FuncData} {ps : List Str} {sp : Sp} (F : ZEM P w K mg base CX0 k f fd ps sp) : ZEM P w K mg base (CX1 P w) k f fd ps sp :=
 ⟨F.len, fun A outer s H args us vs Q E hr he hb hv hs => codeAny_mono (F.run A outer s H args us vs Q E hr he hb hv hs) fun r s' h => by
  cases r with
  | error e => exact h.elim
  | ok fl => cases fl <;> exact h⟩
theorem ZEM.or {k : Nat} {CX : CXT} {f : Addr} {fd : FuncData} {ps : List Str} {sp sq : Sp} (F : ZEM P w K mg base CX k f fd ps sp) (G : ZEM P w K mg base CX k f fd ps sq) : ZEM P w K mg base CX k f fd ps (fun vs H Q E => sp vs H Q E ∨ sq vs H Q E) :=
 ⟨fun vs H Q E h => h.elim (F.len vs H Q E) (G.len vs H Q E), fun A outer s H args us vs Q E hr he hb hv hs => hs.elim (F.run A outer s H args us vs Q E hr he hb hv) (G.run A outer s H args us vs Q E hr he hb hv)⟩
theorem Fun.okx {x qual : Str} {st : Stmt} {f : Addr} {fd : FuncData} {N ps : List Str} {k : Nat} {sp : Sp} (F : Fun K x qual st f fd) (S : ZEJ N ps (ZEE st)) (len : ∀ vs H Q E, sp vs H Q E → vs.length = ps.length)
  (hbody : ∀ (cdv : Value) (A : Around) (outer : List Env) (s : Shared) (H : Hp) (vs : List V) (Q : VK) (E : XK), Room k (A.deeper (envOfC qual (ZEE st) s.heap.objs.size f cdv)) → sp vs H Q E →
   ∃ t, PSs (cxE P w K mg base N qual (ZEE st) f cdv A outer s H E) (ZE6 st) t ∧ t { nx := fun _ H' => Q .non H', rt := Q } (start N vs) H) : ZEM P w K mg base (CX1 P w) (k + 1) f fd ps sp := by
 obtain ⟨oc, od, kV, doc, pm, an, cdv, ct, osl, rfl, lk, hcd⟩ := F.ex
 exact ZO7 lk hcd S len fun A outer s H vs Q E hr hsp => hbody cdv A outer s H vs Q E hr hsp
end
def ZLZ (e : Addr) (C : Value) : HO := .ext fun h => ∃ oe, h.get? e = some oe ∧ oe.cls = C
abbrev Cx.suite (X : Cx) (e : Addr) : Cx := { X with A := X.A.mark (some (.ref e)), calm := false, xe := fun _ _ => False }
section
variable {X : Cx} {pins : List (Addr × Obj)} {σ : St} {H : Hp} {s : Shared} {e : Addr}
theorem Inv.around {A' : Around} {xe' : Value → Shared → Prop} (I : Inv X pins σ H s) (hf : A'.frames = X.A.frames) : Inv { X with A := A', calm := false, xe := xe' } pins σ H s :=
 ⟨⟨I.ok.mod, I.ok.kind, I.ok.glob, I.ok.blt, I.ok.above, I.ok.inj, I.ok.has, I.ok.cab, (fun z => nomatch z), hf.trans I.ok.frames, I.ok.stk, I.ok.exf, I.ok.bs, I.ok.bsz, I.ok.noex, I.ok.exfs, I.ok.funs, I.ok.frf⟩,
  I.os, I.bare, I.base, I.loc, I.cell, I.free, I.freeC, I.pin, I.hok, I.len⟩
theorem Inv.toSuite (I : Inv X pins σ H s) : Inv (X.suite e) pins σ H s := I.around rfl
theorem Inv.ofSuite (ok : X.Ok) (I : Inv (X.suite e) pins σ H s) : Inv X pins σ H s :=
 ⟨ok, I.os, I.bare, I.base, I.loc, I.cell, I.free, I.freeC, I.pin, I.hok, I.len⟩
theorem Inv.track {u : HO} (I : Inv X pins σ H s) (h1 : X.s₀.heap.get? e = none) (h2 : H e = none) (h3 : e ≠ X.env.locals) (h4 : ∀ x c, X.env.cells.lookup x = some c → c ≠ e) (h5 : ∀ p ∈ X.pn ++ pins, p.1 ≠ e) (new : ZEv X.prog X.w (upd H e u) s.heap e u) : Inv X pins σ (upd H e u) s := by
 have ne : ∀ b o, X.s₀.heap.get? b = some o → b ≠ e := fun b o q z => by rw [z, h1] at q; cases q
 refine ⟨I.ok, I.os, I.bare, ⟨I.base.keep, I.base.slot, fun b o q n hx => ?_, I.base.there, fun b xs q => ?_, fun b o xs q => ?_, fun b ps q => ?_⟩, I.loc, I.cell, ?_, fun x c q => ?_, fun p hp => ?_, fun b v q => ?_, I.len⟩
 ·rw [ZEV (ne b o q)]; exact I.base.free b o q n hx
 ·have := I.base.tups b xs q
  rw [ZEV (ZET this h2)]; exact this
 ·have := I.base.frzs b o xs q
  rw [ZEV (ZET this h2)]; exact this
 ·obtain ⟨m, z⟩ := I.base.tbls b ps q
  exact ⟨m, by rw [ZEV (ZET z h2)]; exact z⟩
 ·rw [ZEV (Ne.symm h3)]; exact I.free
 ·rw [ZEV (h4 x c q)]; exact I.freeC x c q
 ·obtain ⟨a, b, c⟩ := I.pin p hp
  exact ⟨a, by rw [ZEV (h5 p hp)]; exact b, c⟩
 ·by_cases hb : b = e
  ·subst hb; rw [ZEN] at q; cases q; exact new
  ·rw [ZEV hb] at q
   exact (I.hok b v q).stay (fun _ _ _ q => q) (fun c r => by rw [ZEV (ZET r h2)]; exact r) fun c xs r => by rw [ZEV (ZET r h2)]; exact r
end
def Fl (X : Cx) (H1 : Hp) (s0 : Shared) (e : Addr) (C : Value) (H' : Hp) (s3 : Shared) : Prop := ∃ (a0 : Value) (B : Heap), s3.os = s0.os ∧ AllBare s3.gens ∧ Un (frs X.stack) [] H1 H' s0.heap s3.heap ∧ HOk X.prog X.w H' s3.heap ∧
 s0.heap.get? e = none ∧ H' e = none ∧ Heap.FlyingW B X.stack e C a0 s3.heap ∧ Cov B H' s0.heap s3.heap (frs X.stack)
section
variable {X : Cx} {pins : List (Addr × Obj)} {σ : St} {H1 H' : Hp} {s0 s3 : Shared} {e : Addr} {C : Value}
theorem Fl.inv (F : Fl X H1 s0 e C H' s3) (I : Inv X pins σ H1 s0) : Inv X pins σ H' s3 := by
 obtain ⟨a0, B, os, bare, un, hok, _⟩ := F
 exact I.call' (ch := []) os un hok bare (fun b z => absurd z (by simp))
theorem ZU9 {P : Program} {w : World} {H : Hp} {h : Heap} {e : Addr} {oe : Obj} {C : Value} (he : h.get? e = some oe) (hc : oe.cls = C) : ZEv P w (upd H e (ZLZ e C)) h e (ZLZ e C) := ⟨⟨oe, he, hc⟩, ⟨oe, he⟩, fun h1 h2 ⟨o, q, c⟩ k => ⟨o, k o q, c⟩⟩
theorem Fl.suite (F : Fl X H1 s0 e C H' s3) (I : Inv X pins σ H1 s0) (hst : X.stack = X.env :: X.outer) (hfr : X.env.frame = some X.env.locals) (hex : X.ex = []) : ∃ oe, oe.cls = C ∧ s3.heap.get? e = some oe ∧ H' e = none ∧ Inv (X.suite e) pins σ (upd H' e (ZLZ e C)) s3 := by
 have I3 := F.inv I
 obtain ⟨a0, B, os, bare, un, hok, hen, heH, fl, cov⟩ := F
 obtain ⟨oe, vs, T, oT, ts, he, hc, hd, _⟩ := fl.2.2.2
 have nfr : e ∉ frs X.stack := fun z => by
  obtain ⟨_, o, ho, hn⟩ := fl.2.2.1.mem z
  rw [he] at ho; cases ho
  exact hn vs hd
 have efr : frs X.stack = X.env.locals :: X.fs := by rw [hst]; exact ZKd hfr
 rw [efr] at nfr
 refine ⟨oe, hc.1, he, heH, (I3.track (u := ZLZ e C) ?_ heH (fun z => nfr (by rw [z]; exact List.mem_cons_self)) (fun x c q z => ?_) (fun p hp z => ?_) (ZU9 he hc.1)).toSuite⟩
 ·cases z : X.s₀.heap.get? e with
  | none => rfl
  | some o =>
   obtain ⟨o', e'⟩ := I.base.there e o z (by rw [hex]; simp)
   rw [hen] at e'; cases e'
 ·obtain ⟨v, o, ho, hdc⟩ := I3.cell x c q
  rw [z, he] at ho; cases ho
  rw [hd] at hdc; cases hdc
 ·have := (I.pin p hp).1
  rw [z, hen] at this; cases this
end
abbrev TX := St → Hp → VK → XK → Prop
def XP (X : Cx) (pins : List (Addr × Obj)) (σ : St) (E : XK) (ev : Value) (s' : Shared) : Prop := ∃ H1 s1 e C H', Inv X pins σ H1 s1 ∧ ev = .ref e ∧ Fl X H1 s1 e C H' s' ∧ E C none H'
structure QX (X : Cx) (e : Expr) (t : TX) : Prop where
 h : ∀ (pins : List (Addr × Obj)) (s : Shared) (σ : St) (H : Hp) (Q : VK) (E : XK), Inv X pins σ H s → t σ H Q E → wpAny (model X.prog X.w) X.A (eval e X.env) (EP X pins σ Q) (XP X pins σ E) s
section
variable {X : Cx} {k : Nat} {f C : Addr} {fd : FuncData} {ps : List Str} {sp : Sp} {dvs : List V} {ds : List Value} {E : XK} {x m : Str} {p pos apos : Pos} {e o : Expr} {es : List Expr} {ta : TE} {t : TA}
theorem ZVA {pins : List (Addr × Obj)} {σ : St} {H : Hp} {s : Shared} {Q : VK} {us : List Value} {vs : List V} (F : ZEM X.prog X.w X.K X.mg X.base (CX1 X.prog X.w) k f fd ps sp) (hr : Room k X.A) (hb : ZEH X.K fd ps ds) (hd : ZEU dvs ds)
  (I : Inv X pins σ H s) (r : ZEU vs us) (h : sp (vs ++ dvs) H Q E) : wpAny (model X.prog X.w) X.A (call (.ref f) us) (EP X pins σ Q) (XP X pins σ E) s := by
 have r2 : ZEU (vs ++ dvs) (us ++ ds) := r.append hd
 have hl : (us ++ ds).length = ps.length := by rw [← r2.length]; exact F.len _ _ _ _ h
 refine wpAny_call (codeAny_mono (F.run X.A X.stack s H ⟨us, []⟩ (us ++ ds) (vs ++ dvs) Q E hr I.env0 (hb s us I.kIn hl) r2 h) fun r s' hq => ?_)
 cases r with
 | error e =>
  obtain ⟨e, C, a0, B, H', rfl, q1, q2, q3, q4, q5, q6, q7, q8, q⟩ := hq
  exact ⟨H, s, e, C, H', I, rfl, ⟨a0, B, q1, q2, q3, q4, q5, q6, q7, q8⟩, q⟩
 | ok fl =>
  cases fl with
  | ret u => exact I.after hq
  | next => exact False.elim hq
  | brk => exact False.elim hq
  | cont => exact False.elim hq
def ZQs (sp : Sp) (dvs : List V) (t : TA) : TX := fun σ H Q E => t σ H fun vs H1 => sp (vs ++ dvs) H1 Q E
theorem ZVB (F : ZEM X.prog X.w X.K X.mg X.base (CX1 X.prog X.w) k f fd ps sp) (hr : Room k X.A) (hg : Gl X x) (hm : X.mg x = some (.ref f)) (hk : W.keepIn X.K (.ref f) = true) (hb : ZEH X.K fd ps ds) (hd : ZEU dvs ds)
  (ha : QA X.nox (e :: es) t) (hns : ZFE (e :: es) = true := by rfl) (hdb : (x == ("__debug__" : Str)) = false := by decide) : QX X (.Call (.Name x p) (e :: es) [] pos) (ZQs sp dvs t) := by
 refine ⟨?_⟩
 intro pins s σ H Q E I h
 refine wpAny_Call_Name_kw (ZGp I hg hm ?_ hdb)
 refine PySem.W.callWith_K (h₀ := X.base) I.ok.mod.kin hk (wpAny_mono (ha.h pos pins s σ H _ (I.wish _) h) (fun us s1 ⟨vs, H1, I1, r, q⟩ => ⟨I1.kIn, ?_⟩) fun _ _ z => False.elim z) (ZGY hns) (ZGA (ZF6 hns))
 exact ZVA F hr hb hd I1.unwish r q
end
abbrev TBX := ZFI → XK → St → Hp → Prop
structure QBX (X : Cx) (st : List Stmt) (t : TBX) : Prop where
 h : ∀ (pins : List (Addr × Obj)) (s : Shared) (σ : St) (H : Hp) (D : ZFI) (E : XK), Inv X pins σ H s → t D E σ H → wpAny (model X.prog X.w) X.A (execs st X.env) (SP X pins D) (XP X pins σ E) s
def ZQt (t : TX) : TBX := fun D E σ H => t σ H (fun _ H1 => D.nx σ H1) E
section
variable {X : Cx} {e : Expr} {t : TX} {pos pos' : Pos} {x : Str} {i : Nat}
theorem one_bx {st : Stmt} {E : Value → Shared → Prop} {pins : List (Addr × Obj)} {D : ZFI} {s : Shared} (h : wpAny (model X.prog X.w) X.A (exec st X.env) (SP X pins D) E s) : wpAny (model X.prog X.w) X.A (execs [st] X.env) (SP X pins D) E s := by
 refine wpAny_execs_cons (thn h fun f s1 q => ?_)
 cases f with
 | next => exact wpAny_execs_nil q
 | ret v => exact q
 | brk => exact q
 | cont => exact q
theorem ZSo (he : QX X e t) (hs : ZGM e = false := by rfl) : QBX X [.Expr e pos] (ZQt t) := ⟨fun pins s σ H D E I h =>
 one_bx (wpAny_Expr_any (thn (he.h pins s σ H _ E I h) fun v s1 ⟨x, H1, I1, r1, q1⟩ => ⟨σ, H1, I1, q1⟩) I.quiet (ZG7 hs))⟩
end
abbrev TH := Value → ZFI → St → Hp → Prop
structure QH (X : Cx) (hs : List ExceptHandler) (t : TH) : Prop where
 h : ∀ (pins : List (Addr × Obj)) (σ : St) (H1 : Hp) (s0 : Shared) (e : Addr) (C : Value) (H' : Hp) (s3 : Shared) (D : ZFI), Inv X pins σ H1 s0 → Fl X H1 s0 e C H' s3 → t C D σ H' → wpAny (model X.prog X.w) X.A (handleBy (.ref e) X.env hs) (SP X pins D) X.xe s3
section
variable {X : Cx}
def ZYJ : TH := fun _ _ _ _ => False
theorem ZXI : QH X [] ZYJ := ⟨fun _ _ _ _ _ _ _ _ _ _ _ h => False.elim h⟩
theorem ZQu {M : Model} {A : Around} {E : Value → Shared → Prop} {s : Shared} {K : W.Frag} {T e : Addr} {oe : Obj} {b : Bool} {Q : Bool → Shared → Prop} (hK : K.In s.heap) (hT : ZJc K T) (he : s.heap.get? e = some oe) (hsub : subIn K oe.cls (.ref T) = some b) (hq : Q b s) : wpAny M A (excMatches (.ref e) (.ref T)) Q E s := by
 obtain ⟨bm, N', nm, qn, bs, hdct, sn, sub, ab, col, dd, k0, k1, k2, k3, k5, mN, hC, hN, hni, TL⟩ := ZOj hK hT
 obtain ⟨h, g, d, tk, os⟩ := s
 have hbase := TL.hasType PySem.F.excBase_ValueError.hasBase
 have hcB : (Value.ref T :: bm).contains (.type "BaseException") = true := by rw [List.contains_cons, hbase, Bool.or_true]
 have f := tc_notTuple
 have L := looks_subIn (M := M) hK hsub
 unfold excMatches
 repeat (first | with_reducible refine wpAny_loadPart_at he ?_ | with_reducible refine wpAny_loadPart_at hC ?_ | (with_reducible refine wpAny_isSubtype_exc hC ?_; rw [hcB]) | with_reducible refine L.at ?_ | wp_step)
 cases b <;> (wp_walk; exact hq)
theorem SP.ofSuite {pins : List (Addr × Obj)} {e : Addr} {D : ZFI} {f : Flow} {s' : Shared} (ok : X.Ok) (h : SP (X.suite e) pins D f s') : SP X pins D f s' := by
 cases f with
 | next => obtain ⟨σ', H', I, q⟩ := h; exact ⟨σ', H', I.ofSuite ok, q⟩
 | brk => obtain ⟨σ', H', I, q⟩ := h; exact ⟨σ', H', I.ofSuite ok, q⟩
 | cont => obtain ⟨σ', H', I, q⟩ := h; exact ⟨σ', H', I.ofSuite ok, q⟩
 | ret u => obtain ⟨v, σ', H', I, r, q⟩ := h; exact ⟨v, σ', H', I.ofSuite ok, r, q⟩
variable {x n : Str} {np pos : Pos} {T : Addr} {b₀ : Stmt} {suite : List Stmt} {ZFp : List ExceptHandler} {ts : Addr → TS} {tr : TH} {i : Nat}
def ZNR (C : Value) (H : Hp) (R : Addr → Hp → Prop) : Prop := ∀ e, H e = none → R e (upd H e (ZLZ e C))
def ZLa (K : W.Frag) (T : Addr) (C : Value) (A B : Prop) : Prop := ∃ b, subIn K C (.ref T) = some b ∧ if b = true then A else B
def tH0 (K : W.Frag) (T : Addr) (ts : Addr → TS) (tr : TH) : TH := fun C D σ H => ZLa K T C (ZNR C H fun e H2 => ts e D σ H2) (tr C D σ H)
theorem ZSp (K : W.Frag) (hK : X.K = K) (hst : X.stack = X.env :: X.outer) (hfr : X.env.frame = some X.env.locals) (hex : X.ex = []) (hg : Gl X x) (hm : X.mg x = some (.ref T)) (hT : ZJc K T)
  (hs : ∀ e : Addr, QB (X.suite e) (b₀ :: suite) (ts e)) (hr : QH X ZFp tr) (hdb : (x == ("__debug__" : Str)) = false := by decide) :
  QH X (.ExceptHandler (some (.Name x np)) none (b₀ :: suite) pos :: ZFp) (tH0 K T ts tr) := by
 subst hK
 refine ⟨?_⟩
 intro pins σ H1 s0 e C H' s3 D I F h
 obtain ⟨oe, rfl, he3, heH, IS⟩ := F.suite I hst hfr hex
 obtain ⟨b, hsub, h⟩ := h
 refine wpAny_handleBy_cons (codeAny_handlers_test ?_) (by intro q; cases q)
 refine ZGp IS hg hm ?_ hdb
 refine ZQu IS.kIn hT he3 hsub ?_
 cases b with
 | false => exact hr.h pins σ H1 s0 e _ H' s3 D I F h
 | true =>
  refine codeAny_handlers_suite ?_
  have F2 := F
  obtain ⟨a0, B, q1, q2, q3, q4, q5, q6, q7, q8⟩ := F2
  refine lands_againW q7 fun h' fl' up => ?_
  have I3 := F.inv I
  obtain ⟨hok3, un3, cov3⟩ := ZIz q4 q3 q8 fl'.1 up (ZJ4 I3 q7.2.2.1 fun b hb => hb)
  have F3 : Fl X H1 s0 e oe.cls H' { s3 with heap := h' } := ⟨a0, B, q1, q2, un3, hok3, q5, q6, fl', cov3⟩
  obtain ⟨oe4, ec4, _, _, IS4⟩ := F3.suite I hst hfr hex
  have := (hs e).h pins _ σ _ D IS4 (h e q6)
  exact wpAny_mono this (fun f s5 hsp => SP.ofSuite I.ok hsp) fun _ _ z => False.elim z
end
section
variable {X : Cx} {body : List Stmt} {h₀ : ExceptHandler} {hs : List ExceptHandler} {pos : Pos} {tb : TBX} {th : TH}
def ZXJ (tb : TBX) (th : TH) : TS := fun D σ H => tb D (fun C _ H' => th C D σ H') σ H
theorem ZXK (hst : X.stack = X.env :: X.outer) (hfr : X.env.frame = some X.env.locals) (hb : QBX X body tb) (hh : QH X (h₀ :: hs) th) : QS X (.Try body (h₀ :: hs) [] [] pos) (ZXJ tb th) := by
 refine ⟨?_⟩
 intro pins s σ H D I h
 refine wpAny_Try_except (wpAny_mono (hb.h pins s σ H D _ I h) (fun f s1 q => ?_) fun ev s1 ⟨H1, s0, e, C, H', I1, eq, F, q⟩ => ?_)
 ·cases f with
  | next => exact wpAny_execs_nil q
  | brk => exact q
  | cont => exact q
  | ret u => exact q
 ·subst eq
  have I3 := F.inv I1
  have F2 := F
  obtain ⟨a0, B, q1, q2, q3, q4, q5, q6, q7, q8⟩ := F2
  have hfrs : X.A.frames = some (X.env :: X.outer) := by rw [← hst]; exact I.ok.frames
  have q7' : Heap.FlyingW B (X.env :: X.outer) e C a0 s1.heap := by rw [← hst]; exact q7
  refine wpAny_looks_onW hfrs hfr q7' fun h4 hheld up4 => ?_
  refine wpAny_landsW hheld fun h5 fl5 up5 => ?_
  have fl5' : Heap.FlyingW B X.stack e C a0 h5 := by rw [hst]; exact fl5
  obtain ⟨hok3, un3, cov3⟩ := ZIz q4 q3 q8 fl5'.1 (up4.trans up5) (ZJ4 I3 q7.2.2.1 fun b hb => hb)
  exact hh.h pins σ H1 s0 e C H' { s1 with heap := h5 } D I1 ⟨a0, B, q1, q2, un3, hok3, q5, q6, fl5', cov3⟩ q
end
end L2
namespace L2
open PySem PySem.Spec PyProof.Rows PySem.W PySem.Builtin PySem.Builtin.ObjectAttr PySem.Builtin.Getset_descriptor
structure ZPW (K : W.Frag) (C : Addr) : Prop where
 ga : findIn K (.ref C) "__getattribute__" = some (some (.builtin "BaseException.__getattribute__"))
 gt : findIn K (.ref C) "__getattr__" = some none
 cl : findIn K (.ref C) "__class__" = some (some (.builtin "object.__class__"))
 ob : mroIn K C (.type "object") = some true
 be : mroIn K C (.type "BaseException") = some true
section
variable {K : W.Frag} {σ : St} {H : Hp} {Q : VK} {D : ZFI} {E : XK} {C T e : Addr} {t : TA} {tb : TBX} {th : TH} {ts : Addr → TS} {tr : TH} {i : Nat}
def ZQv (E : XK) (C : Addr) (vs : List V) (H : Hp) : Prop := vs.length ≤ sizeLine ∧ E (.ref C) none H
theorem ZQw (h : t σ H fun vs H1 => ZQv E C vs H1) : ZNQ E C t D σ H := h
theorem ZNS {vs : List V} (h : vs.length ≤ 1000) (q : E (.ref C) none H) : ZQv E C vs H := ⟨Nat.le_trans h (by decide), q⟩
theorem ZXL (h : tb D (fun C _ H' => th C D σ H') σ H) : ZXJ tb th D σ H := h
theorem ZSq {sp : Sp} {dvs : List V} (h : t σ H fun vs H1 => sp (vs ++ dvs) H1 Q E) : ZQs sp dvs t σ H Q E := h
theorem ZSr {u : TX} (h : u σ H (fun _ H1 => D.nx σ H1) E) : ZQt u D E σ H := h
theorem ZQx {C : Value} {A B : Prop} {b : Bool} (hs : subIn K C (.ref T) = some b) (h : if b = true then A else B) : ZLa K T C A B := ⟨b, hs, h⟩
theorem ZXv {C : Value} (h : ZLa K T C (ZNR C H fun e H2 => ts e D σ H2) (tr C D σ H)) : tH0 K T ts tr C D σ H := h
theorem ZSs {C : Value} {R : Addr → Hp → Prop} (h : ∀ e H2, H e = none → H2 e = some (ZLZ e C) → ZEI H H2 → R e H2) : ZNR C H R := fun e he => h e _ he ZEN (ZEI.new he)
end
section
variable {P : Program} {w : World} {K : W.Frag} {mg : Str → Option Value} {base : Heap} {N : List Str} {qual : Str} {scope : Scope} {f : Addr} {cd : Value} {A : Around} {outer : List Env} {s : Shared} {H : Hp} {E : XK}
 {x : Str} {np cpos pos : Pos} {e₀ : Expr} {es : List Expr} {t : TA} {C : Addr}
theorem ZSt (hC : ZJc K C) (hg : Gl (cxE P w K mg base N qual scope f cd A outer s H E) x) (hm : mg x = some (.ref C)) (ha : QA (cxE P w K mg base N qual scope f cd A outer s H E) (e₀ :: es) t)
 (hns : ZFE (e₀ :: es) = true := by rfl) (hdb : (x == ("__debug__" : Str)) = false := by decide) :
 QS (cxE P w K mg base N qual scope f cd A outer s H E) (.Raise (some (.Call (.Name x np) (e₀ :: es) [] cpos)) none pos) (ZNQ E C t) := ⟨ZSn hC hg hm ha.h hdb (ZGY hns) (ZGA (ZF6 hns))⟩
end
section
variable {P : Program} {w : World} {H H' : Hp} {h0 h' h'' Bs : Heap} {fs ex : List Addr}
def ZYM (B : Heap) (c : Addr) : Heap := B.update c fun o => { o with data := .freed }
end
def fl (low tall : Int) (q : Int × Int) : Int := (q.1 - low * q.2) / (tall * q.2)
def ZFB (cv : PL) (b e : Int) : PL := cv.filter fun p => decide (b ≤ p.1) && decide (p.1 < e)
def InT (cv : PL) : Prop := ∀ p ∈ cv, (-(10 ^ 64) < p.1 ∧ p.1 < 10 ^ 64) ∧ -(10 ^ 64) < p.2 ∧ p.2 < 10 ^ 64
theorem ZLH {cv : PL} (h : Asc cv) {i j : Nat} (hi : i < cv.length) (hj : j < cv.length) (hij : i < j) : cv[i].1 < cv[j].1 := List.pairwise_iff_getElem.mp h i j hi hj hij
theorem col_of {b y m t : Int} (hy : 0 < y) (h1 : b ≤ t) (h2 : t < b + m * y) : ∃ j, 0 ≤ j ∧ j < m ∧ b + j * y ≤ t ∧ t < b + j * y + y := by
 refine ⟨(t - b) / y, Int.ediv_nonneg (by omega) (by omega), ?_, ?_, ?_⟩
 ·exact Int.ediv_lt_of_lt_mul hy (by omega)
 ·have := Int.ediv_mul_le (t - b) (Int.ne_of_gt hy)
  omega
 ·have := Int.lt_ediv_add_one_mul_self (t - b) hy
  rw [Int.add_mul, Int.one_mul] at this
  omega
theorem ZE8 {cv : PL} {b e : Int} {p : Int × Int} : p ∈ ZFB cv b e ↔ p ∈ cv ∧ b ≤ p.1 ∧ p.1 < e := by
 unfold ZFB
 rw [List.mem_filter]
 simp
def Is4 (cv : PL) (o : Option (PL)) : Prop :=
 (o = none ∧ cv = []) ∨ ∃ q0 q1 q2 q3 : Int × Int, o = some [q0, q1, q2, q3] ∧ q0 ∈ cv ∧ q1 ∈ cv ∧ q2 ∈ cv ∧ q3 ∈ cv ∧
  ∀ p ∈ cv, q0.1 ≤ p.1 ∧ p.1 ≤ q1.1 ∧ (q2.2 < p.2 ∨ (q2.2 = p.2 ∧ q2.1 ≤ p.1)) ∧ (p.2 < q3.2 ∨ (p.2 = q3.2 ∧ q3.1 ≤ p.1))
theorem Is4.join {c1 c2 : PL} {a0 a1 a2 a3 b0 b1 b2 b3 : Int × Int} (h : Is4 c1 (some [a0, a1, a2, a3])) (g : Is4 c2 (some [b0, b1, b2, b3])) (hlt : ∀ p ∈ c1, ∀ q ∈ c2, p.1 < q.1) :
  Is4 (c1 ++ c2) (some [a0, b1, if a2.2 ≤ b2.2 then a2 else b2, if b3.2 ≤ a3.2 then a3 else b3]) := by
 rcases h with ⟨e, _⟩ | ⟨q0, q1, q2, q3, e, m0, m1, m2, m3, hb⟩
 ·cases e
 rcases g with ⟨e', _⟩ | ⟨r0, r1, r2, r3, e', n0, n1, n2, n3, gb⟩
 ·cases e'
 cases e
 cases e'
 refine .inr ⟨_, _, _, _, rfl, List.mem_append_left _ m0, List.mem_append_right _ n1, ?_, ?_, fun p hp => ?_⟩
 ·split
  ·exact List.mem_append_left _ m2
  ·exact List.mem_append_right _ n2
 ·split
  ·exact List.mem_append_left _ m3
  ·exact List.mem_append_right _ n3
 ·rcases List.mem_append.mp hp with hp | hp
  ·have k1 := hb p hp
   have k2 := hlt p hp _ n1
   have k3 := hlt p hp _ n2
   have k4 := hlt p hp _ n3
   refine ⟨k1.1, by omega, ?_, ?_⟩
   ·split <;> omega
   ·split <;> omega
  ·have k1 := gb p hp
   have k2 := hlt _ m0 p hp
   have k3 := hlt _ m2 p hp
   have k4 := hlt _ m3 p hp
   refine ⟨by omega, k1.2.1, ?_, ?_⟩
   ·split <;> omega
   ·split <;> omega
theorem Is4.mem {cv : PL} {qs : PL} (h : Is4 cv (some qs)) : ∀ q ∈ qs, q ∈ cv := by
 rcases h with ⟨e, _⟩ | ⟨q0, q1, q2, q3, e, m0, m1, m2, m3, _⟩
 ·cases e
 ·cases e
  intro q hq
  simp only [List.mem_cons, List.not_mem_nil, or_false] at hq
  rcases hq with rfl | rfl | rfl | rfl <;> assumption
theorem Is4.of_none {cv : PL} (h : Is4 cv none) : cv = [] := by
 rcases h with ⟨_, e⟩ | ⟨q0, q1, q2, q3, e, _⟩
 ·exact e
 ·cases e
theorem ZVC {o : Option (PL)} (hb : ∀ qs, o = some qs → qs.length ≤ 4 ∧ ∀ q ∈ qs, Bn 200 q.1 ∧ Bn 200 q.2) : Sm 40000 30 (ZLD o) := by
 cases o with
 | none => exact Sm.non.mono (by decide) (by decide)
 | some qs =>
  refine (Sm.tup (n := 9000) (k := 20) (fun x hx => ?_) (by rw [List.length_map]; exact (hb qs rfl).1)).mono (by decide) (by decide)
  obtain ⟨q, hq, rfl⟩ := List.mem_map.mp hx
  have := (hb qs rfl).2 q hq
  exact (Sm.tup (xs := [.int q.1, .int q.2]) (n := 2000) (k := 10) (fun x hx => by
   simp only [List.mem_cons, List.not_mem_nil, or_false] at hx
   rcases hx with rfl | rfl
   ·exact (Sm.int (this.1.mono (by decide))).mono (by decide) (by decide)
   ·exact (Sm.int (this.2.mono (by decide))).mono (by decide) (by decide)) (by show 2 ≤ 4; decide)).mono (by decide) (by decide)
theorem Is4.minmax {cv : PL} {p0 p1 p2 p3 : Int × Int} {i2 i3 : Nat} (ha : Asc cv) (e0 : cv[0]? = some p0) (e1 : cv[cv.length - 1]? = some p1) (e2 : cv[i2]? = some p2) (e3 : cv[i3]? = some p3)
  (h2 : ∀ j, j < cv.length → (cv.getD i2 (0, 0)).2 ≤ (cv.getD j (0, 0)).2 ∧ (j < i2 → (cv.getD i2 (0, 0)).2 < (cv.getD j (0, 0)).2))
  (h3 : ∀ j, j < cv.length → (cv.getD i3 (0, 0)).2 ≥ (cv.getD j (0, 0)).2 ∧ (j < i3 → (cv.getD i3 (0, 0)).2 > (cv.getD j (0, 0)).2)) : Is4 cv (some [p0, p1, p2, p3]) := by
 obtain ⟨z0, y0⟩ := List.getElem?_eq_some_iff.mp e0
 obtain ⟨z1, y1⟩ := List.getElem?_eq_some_iff.mp e1
 obtain ⟨z2, y2⟩ := List.getElem?_eq_some_iff.mp e2
 obtain ⟨z3, y3⟩ := List.getElem?_eq_some_iff.mp e3
 have d : ∀ {j : Nat} (hj : j < cv.length), cv.getD j (0, 0) = cv[j] := fun {j} hj => by simp [hj]
 refine .inr ⟨p0, p1, p2, p3, rfl, List.mem_of_getElem? e0, List.mem_of_getElem? e1, List.mem_of_getElem? e2, List.mem_of_getElem? e3, fun p hp => ?_⟩
 obtain ⟨j, hj, rfl⟩ := List.getElem_of_mem hp
 have k2 := h2 j hj
 have k3 := h3 j hj
 rw [d z2, d hj, y2] at k2
 rw [d z3, d hj, y3] at k3
 refine ⟨?_, ?_, ?_, ?_⟩
 ·by_cases h : j = 0
  ·subst h; rw [y0]; exact Int.le_refl _
  ·have := ZLH ha z0 hj (by omega)
   rw [y0] at this
   omega
 ·by_cases h : j = cv.length - 1
  ·subst h; rw [y1]; exact Int.le_refl _
  ·have := ZLH ha hj z1 (by omega)
   rw [y1] at this
   omega
 ·by_cases h : i2 < j
  ·have := ZLH ha z2 hj h
   rw [y2] at this
   omega
  ·by_cases h' : j = i2
   ·subst h'; rw [y2]; omega
   ·have := k2.2 (by omega)
    omega
 ·by_cases h : i3 < j
  ·have := ZLH ha z3 hj h
   rw [y3] at this
   omega
  ·by_cases h' : j = i3
   ·subst h'; rw [y3]; omega
   ·have := k3.2 (by omega)
    omega
theorem ZVD {b y t i : Int} (hy : 0 < y) : (b + i * y ≤ t ∧ t < b + i * y + y) ↔ (t - b) / y = i := by
 have h1 := Int.emod_add_mul_ediv (t - b) y
 have h2 := Int.emod_nonneg (t - b) (show y ≠ 0 by omega)
 have h3 := Int.emod_lt_of_pos (t - b) hy
 constructor
 ·rintro ⟨g1, g2⟩
  refine (Int.ediv_emod_unique hy (r := t - b - i * y) (q := i)).mpr ⟨?_, by omega, by omega⟩ |>.1
  rw [Int.mul_comm y i]
  omega
 ·intro e
  rw [e, Int.mul_comm y i] at h1
  constructor <;> omega
theorem ZPX {cv : PL} {j : Nat} {q : Int × Int} {x z : Int} (h : cv[j]? = some q) : ZFB (cv.take (j + 1)) x z = ZFB (cv.take j) x z ++ (if (decide (x ≤ q.1) && decide (q.1 < z)) = true then [q] else []) := by
 rw [List.take_succ, h, ZFB, List.filter_append]
 congr 1
 simp only [Option.toList, List.filter_cons, List.filter_nil]
def ZHS (cv : PL) (b y : Int) (m : Nat) (fs : List (Option (PL))) : Prop := fs.length = m ∧ ∀ (k : Nat) o, fs[k]? = some o → Is4 (ZFB cv (b + (k : Int) * y) (b + (k : Int) * y + y)) o
theorem ZHS.mem {cv : PL} {b y : Int} {m : Nat} {fs : List (Option (PL))} (h : ZHS cv b y m fs) {qs : PL} (hq : some qs ∈ fs) : qs.length ≤ 4 ∧ ∀ q ∈ qs, q ∈ cv := by
 obtain ⟨k, hk, e⟩ := List.getElem_of_mem hq
 have h1 := h.2 k _ (List.getElem?_eq_getElem hk)
 rw [e] at h1
 refine ⟨?_, fun q hq' => (ZE8.mp (h1.mem q hq')).1⟩
 rcases h1 with ⟨z, _⟩ | ⟨q0, q1, q2, q3, z, _⟩
 ·cases z
 ·cases z
  exact Nat.le_refl _
theorem ZLI {K : W.Frag} {H : Hp} {t : Addr} {us : List V} {fs : List (Option (PL))} (f : H t = some (.tup us)) (h : ZFA H us fs) (hb : ∀ qs, some qs ∈ fs → qs.length ≤ 4 ∧ ∀ q ∈ qs, Bn 200 q.1 ∧ Bn 200 q.2) (hl : fs.length ≤ 210) :
  ZHe K H (.ref t) (PyData.tuple (fs.map ZLD)).shown := by
 have fo : ∀ x ∈ fs.map ZLD, Sm 40000 30 x := fun x hx => by
  obtain ⟨o, ho, rfl⟩ := List.mem_map.mp hx
  exact ZVC fun qs e => hb qs (e ▸ ho)
 refine .dat (.tup (SqT.of f) h.dats) ?_ ?_ ?_ ?_
 ·simp only [PyData.showable]
  exact ZOf fun x hx => (fo x hx).2.1
 ·refine PyData.hasDict_of_canLay _ ?_
  show PyData.canLayAll0 (fs.map ZLD) = true
  exact ZQk fun x hx => (fo x hx).2.2.1
 ·have := ZQl (B := 30) fun x hx => (fo x hx).2.2.2
  simp only [PyData.depth]
  omega
 ·refine Nat.le_trans (ZLx (B := 40000) fun x hx => (fo x hx).1) ?_
  rw [List.length_map]
  have : fs.length * (40000 + 2) ≤ 210 * (40000 + 2) := Nat.mul_le_mul_right _ hl
  exact Nat.le_trans (Nat.add_le_add_right this 3) (by decide)
def Ch (e : Int) : Int → PL → Int → Prop
 | x, [], y => x = y
 | x, p :: r, y => (0 ≤ p.1 ∧ p.1 ≤ 40) ∧ p.2 * 2 ^ p.1.toNat = x ∧ x + 2 ^ p.1.toNat ≤ e ∧ (p.1 < 40 → x % (2 * 2 ^ p.1.toNat) = 0 → x + 2 * 2 ^ p.1.toNat ≤ e → False) ∧ Ch e (x + 2 ^ p.1.toNat) r y
theorem ZF0 (k : Nat) : (0 : Int) < 2 ^ k := Int.pow_pos (by decide)
theorem Ch.le {e : Int} : ∀ {r : PL} {x y : Int}, Ch e x r y → x ≤ y
 | [], _, _, h => by cases h; exact Int.le_refl _
 | p :: r, x, y, h => by
  have := Ch.le h.2.2.2.2
  have := ZF0 p.1.toNat
  omega
theorem Ch.snoc {e : Int} {p : Int × Int} : ∀ {r : PL} {x y : Int}, Ch e x r y → (0 ≤ p.1 ∧ p.1 ≤ 40) → p.2 * 2 ^ p.1.toNat = y → y + 2 ^ p.1.toNat ≤ e → (p.1 < 40 → y % (2 * 2 ^ p.1.toNat) = 0 → y + 2 * 2 ^ p.1.toNat ≤ e → False) → Ch e x (r ++ [p]) (y + 2 ^ p.1.toNat)
 | [], _, _, h, h1, h2, h3, h4 => by cases h; exact ⟨h1, h2, h3, h4, rfl⟩
 | _ :: _, _, _, h, h1, h2, h3, h4 => ⟨h.1, h.2.1, h.2.2.1, h.2.2.2.1, Ch.snoc h.2.2.2.2 h1 h2 h3 h4⟩
theorem ZI0 {a b : Nat} (h : a ≤ b) : (2 : Int) ^ a ≤ 2 ^ b := by
 obtain ⟨c, rfl⟩ := Nat.exists_eq_add_of_le h
 rw [Int.pow_add]
 have h1 := ZF0 a
 have h2 := ZF0 c
 have h3 : (2 : Int) ^ a * 1 ≤ 2 ^ a * 2 ^ c := Int.mul_le_mul_of_nonneg_left (by omega) (by omega)
 omega
theorem ZIM {a b : Nat} (h : a ≤ b) : (2 : Int) ^ a ∣ 2 ^ b := by
 obtain ⟨c, rfl⟩ := Nat.exists_eq_add_of_le h
 rw [Int.pow_add]
 exact Int.dvd_mul_right _ _
theorem ZI1 (k : Nat) : (2 : Int) * 2 ^ k = 2 ^ (k + 1) := by rw [Int.pow_succ]; omega
def Few (e : Int) (n : Nat) (x : Int) : Prop := ((2 : Int) ^ n ∣ x ∧ n ≤ 40 ∧ -(2 ^ 40) + (n : Int) ≤ x) ∨ ∃ m : Nat, (2 : Int) ^ m ∣ x ∧ e - x < 2 ^ m ∧ n + m ≤ 80
theorem Few.len {e x : Int} {n : Nat} (h : Few e n x) : n ≤ 80 := by
 rcases h with h | ⟨m, h⟩ <;> omega
theorem ZQy {a : Nat} {x : Int} (h : (2 : Int) ^ a ∣ x) (h1 : -(2 ^ a) < x) (h2 : x < 2 ^ a) : x = 0 := by
 obtain ⟨c, rfl⟩ := h
 have hp := ZF0 a
 have hc : c = 0 := by
  by_cases h0 : c ≤ -1
  ·have : (2 : Int) ^ a * c ≤ 2 ^ a * (-1) := Int.mul_le_mul_of_nonneg_left h0 (by omega)
   omega
  ·by_cases h0' : 1 ≤ c
   ·have : (2 : Int) ^ a * 1 ≤ 2 ^ a * c := Int.mul_le_mul_of_nonneg_left h0' (by omega)
    omega
   ·omega
 rw [hc, Int.mul_zero]
theorem ZNT {e x : Int} {L : Nat} (he : e ≤ 2 ^ 40) (hx : -(2 ^ 40) ≤ x) (h1 : (2 : Int) ^ L ∣ x) (h2 : x + 2 ^ L ≤ e) : L ≤ 40 := by
 have hc : L ≤ 40 ∨ L = 41 ∨ 42 ≤ L := by omega
 rcases hc with h | rfl | h
 ·exact h
 ·exfalso
  obtain ⟨c, hc⟩ := h1
  have e1 : (2 : Int) ^ 41 = 2199023255552 := by decide
  have e2 : (2 : Int) ^ 40 = 1099511627776 := by decide
  rw [e1] at h2 hc
  rw [e2] at he hx
  omega
 ·exfalso
  have h3 := ZI0 h
  have e1 : (2 : Int) ^ 42 = 4398046511104 := by decide
  have e2 : (2 : Int) ^ 40 = 1099511627776 := by decide
  rw [e1] at h3
  rw [e2] at he hx
  omega
theorem Few.step {e x : Int} {n L : Nat} (he : e ≤ 2 ^ 40) (hx : -(2 ^ 40) ≤ x) (h : Few e n x) (h1 : (2 : Int) ^ L ∣ x) (h2 : x + 2 ^ L ≤ e) (h3 : (2 : Int) ^ (L + 1) ∣ x → x + 2 ^ (L + 1) ≤ e → False) : Few e (n + 1) (x + 2 ^ L) := by
 have hL := ZNT he hx h1 h2
 have hp := ZF0 L
 have es : (2 : Int) ^ (L + 1) = 2 * 2 ^ L := (ZI1 L).symm
 rcases h with ⟨hd, hn, hb⟩ | ⟨m, hd, hm, hnm⟩
 ·by_cases ha : (2 : Int) ^ (L + 1) ∣ x
  ·-- limited by the end
   have h4 : ¬ x + 2 ^ (L + 1) ≤ e := fun z => h3 ha z
   by_cases h40 : L = 40
   ·subst h40
    have e2 : (2 : Int) ^ 40 = 1099511627776 := by decide
    have e3 : (2 : Int) ^ (40 + 1) = 2199023255552 := by decide
    have hx0 : x = 0 := ZQy ha (by rw [e3]; rw [e2] at hx; omega) (by rw [e3]; rw [e2] at h2 he; omega)
    subst hx0
    right
    refine ⟨0, Int.one_dvd _, ?_, by omega⟩
    rw [e2] at he h2 ⊢
    show e - (0 + 1099511627776) < 1
    omega
   ·right
    exact ⟨L, Int.dvd_add h1 (Int.dvd_refl _), by omega, by omega⟩
  ·-- limited by where it begins
   have hLn : n ≤ L := by
    by_cases hlt : n ≤ L
    ·exact hlt
    ·exact absurd (Int.dvd_trans (ZIM (by omega)) hd) ha
   have hd' : (2 : Int) ^ (L + 1) ∣ x + 2 ^ L := by
    obtain ⟨c, hc⟩ := h1
    have hodd : c % 2 = 1 := by
     by_cases h0 : c % 2 = 0
     ·exfalso
      apply ha
      refine ⟨c / 2, ?_⟩
      have : c = 2 * (c / 2) := by omega
      rw [hc, es]
      rw [Int.mul_comm 2 ((2 : Int) ^ L), Int.mul_assoc, ← this]
     ·omega
    refine ⟨(c + 1) / 2, ?_⟩
    have : c + 1 = 2 * ((c + 1) / 2) := by omega
    have h5 : x + 2 ^ L = 2 ^ L * (c + 1) := by rw [hc, Int.mul_add, Int.mul_one]
    rw [h5, es, Int.mul_comm 2 ((2 : Int) ^ L), Int.mul_assoc, ← this]
   left
   refine ⟨Int.dvd_trans (ZIM (by omega)) hd', ?_, by omega⟩
   by_cases h40 : L = 40
   ·subst h40
    have e2 : (2 : Int) ^ 40 = 1099511627776 := by decide
    obtain ⟨c, hc⟩ := h1
    rw [e2] at hc he h2 hx hb
    have : c ≠ 0 := by
     rintro rfl
     apply ha
     rw [hc]
     exact ⟨0, by omega⟩
    omega
   ·omega
 ·have hlt : L < m := by
   by_cases hlt : L < m
   ·exact hlt
   ·have := ZI0 (show m ≤ L by omega)
    omega
  have ha : (2 : Int) ^ (L + 1) ∣ x := Int.dvd_trans (ZIM (by omega)) hd
  have h4 : ¬ x + 2 ^ (L + 1) ≤ e := fun z => h3 ha z
  right
  exact ⟨L, Int.dvd_add h1 (Int.dvd_refl _), by omega, by omega⟩
theorem Few.start {e b : Int} (hb : -(2 ^ 40) ≤ b) : Few e 0 b := .inl ⟨Int.one_dvd _, by omega, by simpa using hb⟩
theorem Is4.congr {a b : PL} {o : Option (PL)} (h : Is4 a o) (e : ∀ p, p ∈ a ↔ p ∈ b) : Is4 b o := by
 rcases h with ⟨h1, h2⟩ | ⟨q0, q1, q2, q3, h1, m0, m1, m2, m3, hb⟩
 ·refine .inl ⟨h1, ?_⟩
  cases b with
  | nil => rfl
  | cons p ps =>
   have := (e p).mpr List.mem_cons_self
   rw [h2] at this
   cases this
 ·exact .inr ⟨q0, q1, q2, q3, h1, (e _).mp m0, (e _).mp m1, (e _).mp m2, (e _).mp m3, fun p hp => hb p ((e p).mpr hp)⟩
theorem Is4.uniqueD {cv : PL} {o o' : Option (PL)} (ha : ∀ p ∈ cv, ∀ q ∈ cv, p.1 = q.1 → p = q) (h : Is4 cv o) (g : Is4 cv o') : o = o' := by
 rcases h with ⟨e, hc⟩ | ⟨q0, q1, q2, q3, e, m0, m1, m2, m3, hb⟩
 ·rcases g with ⟨e', _⟩ | ⟨r0, r1, r2, r3, e', n0, _⟩
  ·rw [e, e']
  ·rw [hc] at n0; cases n0
 ·rcases g with ⟨e', hc⟩ | ⟨r0, r1, r2, r3, e', n0, n1, n2, n3, gb⟩
  ·rw [hc] at m0; cases m0
  ·have a0 := hb r0 n0
   have a1 := hb r1 n1
   have a2 := hb r2 n2
   have a3 := hb r3 n3
   have b0 := gb q0 m0
   have b1 := gb q1 m1
   have b2 := gb q2 m2
   have b3 := gb q3 m3
   have e0 : q0 = r0 := ha _ m0 _ n0 (by omega)
   have e1 : q1 = r1 := ha _ m1 _ n1 (by omega)
   have e2 : q2 = r2 := ha _ m2 _ n2 (by omega)
   have e3 : q3 = r3 := ha _ m3 _ n3 (by omega)
   rw [e, e', e0, e1, e2, e3]
def inS (sm : PL) (l : Nat) (s : Int) : PL := ZFB sm (s * 2 ^ l) (s * 2 ^ l + 2 ^ l)
theorem ZGc {sm : PL} {l : Nat} {s : Int} {p : Int × Int} : p ∈ inS sm l s ↔ p ∈ sm ∧ p.1 / 2 ^ l = s := by
 unfold inS
 rw [ZE8]
 have := ZVD (b := 0) (t := p.1) (i := s) (ZF0 l)
 rw [Int.sub_zero, Int.zero_add] at this
 rw [this]
theorem ZNU (x : Int) (l : Nat) : x / 2 ^ (l + 1) = x / 2 ^ l / 2 := by
 rw [Int.pow_succ, ← Int.ediv_ediv_of_nonneg (Int.le_of_lt (ZF0 l))]
theorem ZSu {sm : PL} {l : Nat} {s : Int} {p : Int × Int} : p ∈ inS sm l (2 * s) ++ inS sm l (2 * s + 1) ↔ p ∈ inS sm (l + 1) s := by
 rw [List.mem_append, ZGc, ZGc, ZGc, ZNU]
 constructor
 ·rintro (⟨h1, h2⟩ | ⟨h1, h2⟩)
  ·exact ⟨h1, by omega⟩
  ·exact ⟨h1, by omega⟩
 ·rintro ⟨h1, h2⟩
  have : p.1 / 2 ^ l = 2 * s ∨ p.1 / 2 ^ l = 2 * s + 1 := by omega
  rcases this with h | h
  ·exact .inl ⟨h1, h⟩
  ·exact .inr ⟨h1, h⟩
theorem ZXM {sm : PL} {l : Nat} {a b : Int} (hab : a < b) : ∀ p ∈ inS sm l a, ∀ q ∈ inS sm l b, p.1 < q.1 := by
 intro p hp q hq
 have h1 := (ZGc.mp hp).2
 have h2 := (ZGc.mp hq).2
 by_cases h : p.1 < q.1
 ·exact h
 ·have := Int.ediv_le_ediv (ZF0 l) (show q.1 ≤ p.1 by omega)
  omega
theorem ZLJ {sm : PL} {b x e : Int} (h1 : b ≤ x) (h2 : x ≤ e) (p : Int × Int) : p ∈ ZFB sm b x ++ ZFB sm x e ↔ p ∈ ZFB sm b e := by
 rw [List.mem_append, ZE8, ZE8, ZE8]
 constructor
 ·rintro (⟨g1, g2, g3⟩ | ⟨g1, g2, g3⟩)
  ·exact ⟨g1, g2, by omega⟩
  ·exact ⟨g1, by omega, g3⟩
 ·rintro ⟨g1, g2, g3⟩
  by_cases h : p.1 < x
  ·exact .inl ⟨g1, g2, h⟩
  ·exact .inr ⟨g1, by omega, g3⟩
theorem ZNV {sm : PL} {b x e : Int} : ∀ p ∈ ZFB sm b x, ∀ q ∈ ZFB sm x e, p.1 < q.1 := by
 intro p hp q hq
 have h1 := (ZE8.mp hp).2
 have h2 := (ZE8.mp hq).2
 omega
theorem ZFV {m : PL} (hn : (m.map (·.1)).Nodup) {t h : Int} {q : Int × Int} : q ∈ ZFJ m t h ↔ (q.1 ≠ t ∧ q ∈ m) ∨ q = (t, h) := by
 obtain ⟨a, b⟩ := q
 rw [← ZE1 (ZGB hn), ZSh, ← ZE1 hn]
 by_cases e : a = t
 ·subst e
  simp only [if_true, Option.some.injEq, ne_eq, not_true_eq_false, false_and, false_or, Prod.mk.injEq, true_and]
  exact eq_comm
 ·simp [e]
def kOf (l : Nat) (s : Int) : List Key := [Sum.inl (l : Int), Sum.inl s]
theorem ZVE {l l' : Nat} {s s' : Int} (h : kOf l s = kOf l' s') : l = l' ∧ s = s' := by
 unfold kOf at h
 simp only [List.cons.injEq, Sum.inl.injEq, and_true] at h
 exact ⟨by omega, h.2⟩
def ZFc (H : Hp) (kvs : List (List Key × V)) (sm : PL) (G : Nat → Int → Prop) : Prop := ∀ (l : Nat) (s : Int), l ≤ 40 → G l s → ∃ o, ZEq H ((ZEc kvs (kOf l s)).getD .non) o ∧ Is4 (inS sm l s) o
theorem ZFc.same {H H' : Hp} {kvs : List (List Key × V)} {sm : PL} {G : Nat → Int → Prop} (h : ZFc H kvs sm G) (s : ZEI H H') : ZFc H' kvs sm G := fun l s' hl g => by
 obtain ⟨o, h1, h2⟩ := h l s' hl g
 exact ⟨o, h1.same s, h2⟩
theorem PrT.kpX {H H' : Hp} {a d : Addr} {cv : PL} {ob : HO} (h : PrT H a cv) (k : Kp d H H') (hd : H d = some ob) (hn : ∀ xs, ob ≠ .tup xs) : PrT H' a cv := by
 obtain ⟨us, g, p⟩ := h
 have ne : ∀ {b : Addr} {xs : List V}, H b = some (.tup xs) → H' b = some (.tup xs) := fun {b xs} e => k _ _ e fun z => by
  subst z
  rw [hd] at e
  exact hn _ (Option.some.inj e)
 exact ⟨us, ne g, Paired.mapP p fun _ _ ⟨a, e, z⟩ => ⟨a, e, ne z⟩⟩
theorem ZEq.kpX {H H' : Hp} {d : Addr} {v : V} {o : Option (PL)} {ob : HO} (h : ZEq H v o) (k : Kp d H H') (hd : H d = some ob) (hn : ∀ xs, ob ≠ .tup xs) : ZEq H' v o := by
 cases h with
 | non => exact .non
 | pr e hl => exact .pr (e.kpX k hd hn) hl
theorem ZFc.kpX {H H' : Hp} {kvs : List (List Key × V)} {sm : PL} {G : Nat → Int → Prop} {d : Addr} {ob : HO} (h : ZFc H kvs sm G) (k : Kp d H H') (hd : H d = some ob) (hn : ∀ xs, ob ≠ .tup xs) : ZFc H' kvs sm G := fun l s' hl g => by
 obtain ⟨o, h1, h2⟩ := h l s' hl g
 exact ⟨o, h1.kpX k hd hn, h2⟩
theorem ZFc.other {H : Hp} {kvs : List (List Key × V)} {sm sm' : PL} {t : Int} (h : ZFc H kvs sm fun _ _ => True) (e : ∀ q : Int × Int, q.1 ≠ t → (q ∈ sm ↔ q ∈ sm')) : ZFc H kvs sm' fun l s => s ≠ t / 2 ^ l := fun l s hl g => by
 obtain ⟨o, h1, h2⟩ := h l s hl trivial
 refine ⟨o, h1, h2.congr fun p => ?_⟩
 rw [ZGc, ZGc]
 constructor
 ·rintro ⟨g1, g2⟩
  exact ⟨(e p fun z => g (by rw [← g2, z])).mp g1, g2⟩
 ·rintro ⟨g1, g2⟩
  exact ⟨(e p fun z => g (by rw [← g2, z])).mpr g1, g2⟩
theorem ZFc.put {H' : Hp} {kvs : List (List Key × V)} {sm : PL} {G : Nat → Int → Prop} {t : Int} {i : Nat} {v : V} {o : Option (PL)} (h : ZFc H' kvs sm G) (hv : ZEq H' v o) (ho : Is4 (inS sm i (t / 2 ^ i)) o) :
  ZFc H' (ZFi kvs (kOf i (t / 2 ^ i)) v) sm fun l s => G l s ∨ (l = i ∧ s = t / 2 ^ l) := fun l s hl g => by
 by_cases e : kOf l s = kOf i (t / 2 ^ i)
 ·obtain ⟨rfl, rfl⟩ := ZVE e
  refine ⟨o, ?_, ho⟩
  rw [ZHC, if_pos rfl]
  exact hv
 ·rcases g with g | ⟨rfl, rfl⟩
  ·obtain ⟨o', h1, h2⟩ := h l s hl g
   refine ⟨o', ?_, h2⟩
   rw [ZHC, if_neg e]
   exact h1
  ·exact absurd rfl e
theorem ZFc.mono {H : Hp} {kvs : List (List Key × V)} {sm : PL} {G G' : Nat → Int → Prop} (h : ZFc H kvs sm G) (g : ∀ l s, l ≤ 40 → G' l s → G l s) : ZFc H kvs sm G' := fun l s hl hg => h l s hl (g l s hl hg)
theorem ZFc.tups {H H' : Hp} {kvs : List (List Key × V)} {sm : PL} {G : Nat → Int → Prop} (h : ZFc H kvs sm G) (t : ∀ b xs, H b = some (.tup xs) → H' b = some (.tup xs)) : ZFc H' kvs sm G := fun l s hl g => by
 obtain ⟨o, h1, h2⟩ := h l s hl g
 refine ⟨o, ?_, h2⟩
 generalize (ZEc kvs (kOf l s)).getD .non = v at h1
 cases h1 with
 | non => exact .non
 | pr e hl =>
  obtain ⟨us, g, p⟩ := e
  exact .pr ⟨us, t _ _ g, Paired.mapP p fun _ _ ⟨a, e, z⟩ => ⟨a, e, t _ _ z⟩⟩ hl
def ZFP (m : PL) (t : Int) : PL := m.filter fun p => decide (p.1 ≠ t)
theorem ZOk (m : PL) (t : Int) : ZFf (ZEf m) (.inl t) = ZEf (ZFP m t) := by
 unfold ZFf ZEf ZFP
 rw [List.filter_map]
 congr 1
 apply List.filter_congr
 intro p _
 simp [dkE, Function.comp]
theorem ZFn {m : PL} {t : Int} {q : Int × Int} : q ∈ ZFP m t ↔ q.1 ≠ t ∧ q ∈ m := by
 unfold ZFP
 rw [List.mem_filter, decide_eq_true_iff, and_comm]
theorem ZFu {m : PL} {t : Int} (n : (m.map (·.1)).Nodup) : ((ZFP m t).map (·.1)).Nodup := n.sublist ((List.filter_sublist).map _)
theorem ZJd (m : PL) (t : Int) : (ZFP m t).length ≤ m.length := List.length_filter_le _ _
def Eqv (m m' : PL) : Prop := ∀ q : Int × Int, q ∈ m ↔ q ∈ m'
theorem Eqv.get {m m' : PL} (h : Eqv m m') (n : (m.map (·.1)).Nodup) (n' : (m'.map (·.1)).Nodup) (t : Int) : ZEZ m t = ZEZ m' t := by
 cases hg : ZEZ m' t with
 | some v => rw [ZE1 n, h]; exact (ZE1 n').mp hg
 | none =>
  cases hm : ZEZ m t with
  | none => rfl
  | some v =>
   rw [ZE1 n, h, ← ZE1 n', hg] at hm
   cases hm
theorem Eqv.put {m m' : PL} (h : Eqv m m') (n : (m.map (·.1)).Nodup) (n' : (m'.map (·.1)).Nodup) (t v : Int) : Eqv (ZFJ m t v) (ZFJ m' t v) := fun q => by rw [ZFV n, ZFV n', h q]
theorem Eqv.drop {m m' : PL} (h : Eqv m m') (t : Int) : Eqv (ZFP m t) (ZFP m' t) := fun q => by rw [ZFn, ZFn, h q]
theorem Eqv.symm {m m' : PL} (h : Eqv m m') : Eqv m' m := fun q => (h q).symm
theorem Eqv.trans {a b c : PL} (h : Eqv a b) (g : Eqv b c) : Eqv a c := fun q => (h q).trans (g q)
theorem Eqv.refl (m : PL) : Eqv m m := fun _ => Iff.rfl
theorem ZQz {m : PL} {t v : Int} (n : (m.map (·.1)).Nodup) (hg : ZEZ m t = some v) : Eqv (ZFJ (ZFP m t) t v) m := fun q => by
 rw [ZFV (ZFu n), ZFn]
 obtain ⟨x, y⟩ := q
 constructor
 ·rintro (⟨_, _, h⟩ | h)
  ·exact h
  ·rw [h]; exact (ZE1 n).mp hg
 ·intro h
  by_cases e : x = t
  ·subst e
   have := (ZE1 n).mpr h
   rw [hg] at this
   cases this
   exact .inr rfl
  ·exact .inl ⟨e, e, h⟩
theorem ZQ0 {m : PL} {t v : Int} (n : (m.map (·.1)).Nodup) (hg : ZEZ m t = none) : Eqv (ZFP (ZFJ m t v) t) m := fun q => by
 rw [ZFn, ZFV n]
 constructor
 ·rintro ⟨h, (h' | h')⟩
  ·exact h'.2
  ·exact absurd (by rw [h']) h
 ·intro h
  have : q.1 ≠ t := fun e => by
   rw [ZGu] at hg
   exact hg (List.mem_map.mpr ⟨q, h, e⟩)
  exact ⟨this, .inl ⟨this, h⟩⟩
theorem ZSv {m : PL} {t u v : Int} (n : (m.map (·.1)).Nodup) (hg : ZEZ m t = some u) : Eqv (ZFJ (ZFJ m t v) t u) m := fun q => by
 rw [ZFV (ZGB n), ZFV n]
 obtain ⟨x, y⟩ := q
 constructor
 ·rintro (⟨h, (h' | h')⟩ | h)
  ·exact h'.2
  ·exact absurd (by rw [h']) h
  ·rw [h]; exact (ZE1 n).mp hg
 ·intro h
  by_cases e : x = t
  ·subst e
   have := (ZE1 n).mpr h
   rw [hg] at this
   cases this
   exact .inr rfl
  ·exact .inl ⟨e, .inl ⟨e, h⟩⟩
section
variable {X : Cx} {o e : Expr} {apos cpos pos p : Pos} {td ty to : TE}
theorem ZSw (ho : QE X o td) (he : QE X e ty) (m : M1 X o "pop" apos e cpos := by exact ⟨rfl, rfl, rfl, rfl⟩) : QE X (.Call (.Attribute o "pop" apos) [e] [] cpos) (ZM5 td ty) := ⟨ZSc ho.h he.h m⟩
def ZSx : R2 := fun y x H Q => ∃ a o, x = .ref a ∧ ZFS H a y o ∧ Q (.bl o.isSome) H
def ZKe : R2 := fun y x H Q => ∃ a o, x = .ref a ∧ ZFS H a y o ∧ Q (.bl (!o.isSome)) H
theorem ZJ5 (hu : X.A.units + 1 < cLine) : OpR X (compareOp .In) ZSx := by
 intro pins s σ H x y v u Q I rx ry h
 obtain ⟨a, ov, rfl, g, q⟩ := h
 obtain rfl : u = Value.ref a := ry
 exact ZYF hu I g rx fun s3 I3 => ⟨.bl ov.isSome, H, I3, rfl, q⟩
theorem ZLK (hu : X.A.units + 1 < cLine) : OpR X (compareOp .NotIn) ZKe := by
 intro pins s σ H x y v u Q I rx ry h
 obtain ⟨a, ov, rfl, g, q⟩ := h
 obtain rfl : u = Value.ref a := ry
 exact ZU0 hu I g rx fun s3 I3 => ⟨.bl (!ov.isSome), H, I3, rfl, q⟩
end
section
variable {K : W.Frag} {σ : St} {H : Hp} {Q : VK} {td ty : TE} {a b : Addr} {m m' : PL} {i v : Int}
def ZNW (a : Addr) (y : V) (H : Hp) (Q : VK) : Prop := ∃ kvs k v, H a = some (.dK kvs) ∧ y = kV k ∧ ZEc kvs k = some v ∧ Q v (upd H a (.dK (ZFf kvs k)))
def ZQ1 (ty : TE) (σ : St) (Q : VK) (x : V) (H : Hp) : Prop := ∃ a, x = .ref a ∧ IsD H a ∧ ty σ H fun y H2 => ZNW a y H2 Q
theorem ZSy (h : td σ H fun x H1 => ZQ1 ty σ Q x H1) : ZM5 td ty σ H Q := h
theorem ZSz {kvs : List (Key × V)} (h1 : H a = some (.dK kvs)) (q : ty σ H fun y H2 => ZNW a y H2 Q) : ZQ1 ty σ Q (.ref a) H := ⟨a, rfl, .inl ⟨kvs, .inl h1⟩, q⟩
theorem ZS0 (h1 : H a = some (.dK (ZEf m))) (l : ZEZ m i = some v) (q : ∀ H2, H2 a = some (.dK (ZEf (ZFP m i))) → Kp a H H2 → Q (.int v) H2) : ZNW a (.int i) H Q :=
 ⟨ZEf m, .inl i, .int v, h1, rfl, by rw [ZGU, l]; rfl, by rw [ZOk]; exact q _ ZEN Kp.upd⟩
theorem ZVF (h1 : H a = some (.dK (ZEf m))) (q : Q (.bl (ZEZ m i).isSome) H) : ZSx (.int i) (.ref a) H Q := ⟨a, _, rfl, ZFS.k (k := Sum.inl i) h1, by rw [ZGU, Option.isSome_map]; exact q⟩
theorem ZPY (h1 : H a = some (.dK (ZEf m))) (q : Q (.bl (!(ZEZ m i).isSome)) H) : ZKe (.int i) (.ref a) H Q := ⟨a, _, rfl, ZFS.k (k := Sum.inl i) h1, by rw [ZGU, Option.isSome_map]; exact q⟩
theorem ZQ2 {l : Addr} {xs : List V} {y : V} (h : H l = some (.lst (xs ++ [y]))) (q : ∀ H2, H2 l = some (.lst xs) → Kp l H H2 → Q y H2) : ZWZ (.ref l) [] H Q :=
 ⟨l, xs ++ [y], y, rfl, rfl, h, by simp, by rw [List.dropLast_concat]; exact q _ ZEN Kp.upd⟩
end
def ZQ3 (K : W.Frag) : R2 := fun x y H Q => ∃ p q xs, x = .ref p ∧ y = .ref q ∧ SqL K H p xs ∧ SqL K H q [] ∧ Q (.bl xs.isEmpty) H
section
variable {X : Cx}
theorem ZNX (K : W.Frag) (hK : X.K = K) (hu : X.A.units + 1 < cLine) : OpR X (compareOp .Eq) (ZQ3 K) := by
 subst hK
 intro pins s σ H x y v u Q I rx ry h
 obtain ⟨p, q, xs, rfl, rfl, h1, h2, k⟩ := h
 obtain rfl : v = Value.ref p := rx
 obtain rfl : u = Value.ref q := ry
 obtain ⟨its, rv, pl, hz⟩ := I.list h1
 obtain ⟨its2, rv2, pl2, hz2⟩ := I.list h2
 cases rv2
 have hlen := rv.length
 cases xs with
 | nil =>
  cases rv
  refine SeqAt.eq_listAt (e := fun _ => true) pl.isList pl2.isList rfl (by omega) (fun j h1 _ => absurd h1 (by simp)) ⟨.bl true, H, I, rfl, k⟩
 | cons x xs =>
  refine SeqAt.eq_list_lengthsAt pl.isList pl2.isList ?_ (by omega) ⟨.bl false, H, I, rfl, k⟩
  simp only [List.length_cons] at hlen
  simp only [List.size_toArray, List.length_nil, bne_iff_ne, ne_eq]
  omega
end
section
variable {K : W.Frag} {H : Hp} {Q : VK} {p q : Addr} {xs : List V}
theorem ZKf (h1 : SqL K H p xs) (h2 : SqL K H q []) (k : Q (.bl xs.isEmpty) H) : ZQ3 K (.ref p) (.ref q) H Q := ⟨p, q, xs, rfl, rfl, h1, h2, k⟩
end
end L2
namespace L2
theorem Eqv.len {m m' : PL} (h : Eqv m m') (n : (m.map (·.1)).Nodup) (n' : (m'.map (·.1)).Nodup) : m.length = m'.length :=
 ((List.perm_ext_iff_of_nodup (ZJL n) (ZJL n')).mpr h).length_eq
theorem ZQ4 {cv : PL} (h : Asc cv) : (cv.map (·.1)).Nodup := by
 rw [List.nodup_iff_pairwise_ne, List.pairwise_map]
 exact h.imp fun {a b} hab e => by omega
end L2
namespace L2
open PySem PySem.Spec PyProof.Rows PySem.W
def FrL (l : List Addr) (H H' : Hp) : Prop := ∀ b o, H b = some o → b ∉ l → H' b = some o
theorem FrL.trans {l : List Addr} {H H1 H2 : Hp} (h : FrL l H H1) (g : FrL l H1 H2) : FrL l H H2 := fun b o e n => g b o (h b o e n) n
theorem FrL.mono {l l' : List Addr} {H H' : Hp} (h : FrL l H H') (s : ∀ b ∈ l, b ∈ l') : FrL l' H H' := fun b o e n => h b o e fun z => n (s b z)
theorem FrL.same {l : List Addr} {H H' : Hp} (h : ZEI H H') : FrL l H H' := fun b o e _ => h b o e
theorem FrL.kp {l : List Addr} {H H' : Hp} {q : Addr} (h : Kp q H H') (m : q ∈ l) : FrL l H H' := fun b o e n => h b o e fun z => n (z ▸ m)
theorem ZVG {H0 H : Hp} {b : Addr} (s : ZEI H0 H) (e : H b = none) : H0 b = none := by
 cases e2 : H0 b with
 | none => rfl
 | some o => rw [s _ _ e2] at e; cases e
theorem Pot.noTup {H : Hp} {q : Addr} (h : Pot H q) : ∀ xs, H q ≠ some (.tup xs) := fun xs e => by
 obtain ⟨u, v, e2, _⟩ := h
 rw [e2] at e; cases e
theorem PrT.frL {H H' : Hp} {u : Addr} {cv : PL} {l : List Addr} (h : PrT H u cv) (f : FrL l H H') (nt : ∀ b ∈ l, ∀ xs, H b ≠ some (.tup xs)) : PrT H' u cv := by
 obtain ⟨us, h1, h2⟩ := h
 have kt : ∀ b xs, H b = some (.tup xs) → H' b = some (.tup xs) := fun b xs e => f _ _ e fun z => nt b z xs e
 exact ⟨us, kt _ _ h1, Paired.mapP h2 fun _ _ ⟨a, e, z⟩ => ⟨a, e, kt _ _ z⟩⟩
theorem PrT.tups {H H' : Hp} {u : Addr} {cv : PL} (h : PrT H u cv) (t : ∀ b xs, H b = some (.tup xs) → H' b = some (.tup xs)) : PrT H' u cv := by
 obtain ⟨us, h1, h2⟩ := h
 exact ⟨us, t _ _ h1, Paired.mapP h2 fun _ _ ⟨a, e, z⟩ => ⟨a, e, t _ _ z⟩⟩
end L2
namespace L2
theorem ZQ5 {c : TT} {t u : TS} {D : ZFI} {σ : St} {H : Hp} (h : ZKO c t u D σ H) : ZKO c t u D σ H := h
theorem ZGv {t : TS} {D : ZFI} {σ : St} {H : Hp} (P : St → Hp → Prop) (h1 : ∀ σ' H', P σ' H' → D.nx σ' H') (h2 : ∀ D' : ZFI, D'.rt = D.rt → (∀ σ' H', P σ' H' → D'.nx σ' H') → t D' σ H) : t D σ H := h2 D rfl h1
end L2
namespace L2
open PySem PySem.Spec PyProof.Rows PySem.W
theorem ZEq.tups {H H' : Hp} {v : V} {o : Option (PL)} (h : ZEq H v o) (t : ∀ b xs, H b = some (.tup xs) → H' b = some (.tup xs)) : ZEq H' v o := by
 cases h with
 | non => exact .non
 | pr e hn => exact .pr (e.tups t) hn
theorem ZQ6 {m m' : PL} (h : Eqv m m') (b e : Int) : ∀ p, p ∈ ZFB m b e ↔ p ∈ ZFB m' b e := fun p => by rw [ZE8, ZE8, h p]
theorem ZQ7 {m : PL} (n : (m.map (·.1)).Nodup) : ∀ p ∈ m, ∀ q ∈ m, p.1 = q.1 → p = q := fun p hp q hq e => by
 obtain ⟨x, y⟩ := p
 obtain ⟨z, w⟩ := q
 have e : x = z := e
 subst e
 have h1 := (ZE1 n).mpr hp
 have h2 := (ZE1 n).mpr hq
 rw [h1] at h2
 cases h2
 rfl
theorem ZS1 {m m' : PL} {b e : Int} {o o' : Option (PL)} (hv : Eqv m m') (n : (m.map (·.1)).Nodup) (h : Is4 (ZFB m b e) o) (g : Is4 (ZFB m' b e) o') : o = o' :=
 Is4.uniqueD (fun p hp q hq => ZQ7 n p (ZE8.mp hp).1 q (ZE8.mp hq).1) h (g.congr fun p => (ZQ6 hv b e p).symm)
theorem ZN9 {m m' : PL} {b y : Int} {k : Nat} {fs gs : List (Option (PL))} (hv : Eqv m m') (n : (m.map (·.1)).Nodup) (h : ZHS m b y k fs) (g : ZHS m' b y k gs) : fs = gs := by
 refine List.ext_getElem (by rw [h.1, g.1]) fun i h1 h2 => ?_
 exact ZS1 hv n (h.2 i _ (List.getElem?_eq_getElem h1)) (g.2 i _ (List.getElem?_eq_getElem h2))
theorem ZVH {c : TT} {t u : TS} {D : ZFI} {σ : St} {H : Hp} (P : St → Hp → Prop) (h1 : ∀ σ' H', P σ' H' → u D σ' H') (h2 : ∀ u' : TS, (∀ σ' H', P σ' H' → u' D σ' H') → ZKO c t u' D σ H) : ZKO c t u D σ H := h2 u h1
def Itk (d : Addr) (o : Obj) (kvs : List (Key × V)) : It := ⟨fun i H => H d = some (.frz o (.dK kvs)) ∧ i < kvs.length, fun i H x H' => H' = H ∧ ∃ p, kvs[i]? = some p ∧ x = kV p.1, fun i H => H d = some (.frz o (.dK kvs)) ∧ kvs.length ≤ i⟩
theorem ZQ8 {P : Program} {w : World} {k : Key} {u : Value} (h : (ZEy P w).is k u = true) : ZER (kV k) u := by
 rcases ZFF h with ⟨i, t, rfl, rfl⟩ | ⟨x, t, rfl, rfl⟩
 ·exact ⟨t, rfl⟩
 ·exact ⟨t, rfl⟩
theorem ZXw {kvs : List (Key × V)} {vs : List (Key × Value)} (h : KV kvs vs) : ∀ {i : Nat} {p : Key × V}, kvs[i]? = some p → ∃ q, vs[i]? = some q ∧ q.1 = p.1 := by
 unfold KV at h
 induction h with
 | nil => intro i p e; simp at e
 | @cons a b as bs h t ih =>
  intro i p e
  cases i with
  | zero =>
   simp at e
   subst e
   exact ⟨b, rfl, h.1.symm⟩
  | succ i =>
   obtain ⟨q, h1, h2⟩ := ih (i := i) (p := p) (by simpa using e)
   exact ⟨q, by simpa using h1, h2⟩
theorem ZQ9 {P : Program} {w : World} {K : W.Frag} {tg : Expr} (d it : Addr) (o : Obj) (kvs : List (Key × V)) (es : Array DictEntry) (ep : Nat) (ho : o.data = .dict es ep) : ZMi P w K tg (Itk d o kvs) [it] it (fun i h => h.IsKeyIter it d i kvs.length ep) where
 mem := by simp
 obj := fun i h st b hb => by
  have e : b = it := by simpa using hb
  subst e
  obtain ⟨o, e, c, d⟩ := st
  exact ⟨o, e, fun v z => by rw [d] at z; cases z⟩
 keep := fun i h h' st k => st.at fun o e => k it (by simp) o e
 item := by
  intro X hP hw hK hc i pins s σ H E I hf st hg
  subst hP hw hK
  obtain ⟨hd, hi⟩ := hg
  obtain ⟨f0, f1, f2, f3, f4, f5⟩ := hf it (by simp)
  obtain ⟨hob, z, hsm, vs, rel, dd⟩ := (show ZEv X.prog X.w H s.heap d (.frz o (.dK kvs)) from I.hok d _ hd)
  obtain ⟨ep', dd⟩ := dd.dictAt
  obtain ⟨o2, es2, g1, g2, g3, g4⟩ := id dd
  rw [hob] at g1
  cases g1
  rw [ho] at g3
  cases g3
  have hlen : kvs.length = vs.length := rel.length
  obtain ⟨q, hq, eq⟩ := ZXw rel (List.getElem?_eq_getElem hi)
  rw [hlen] at st
  refine wpAny_pyNext_dict_item (knd := ZEy X.prog X.w) (k := q.1) (v := q.2) st dd hq fun key h' hkey hit' hs' => ?_
  have I1 : Inv X pins σ H { s with heap := h' } := I.turned (t' := s.toks) (fun b o hb e => (hs'.2 b hb).trans e) f0 f1 f3 f4 f5
  obtain ⟨o3, e3, c3, d3⟩ := id hit'
  refine ⟨key, rfl, ZMX (s := { s with heap := h' }) e3 c3 d3 (by decide) ⟨kV kvs[i].1, H, I1, ?_, ⟨rfl, _, List.getElem?_eq_getElem hi, rfl⟩, ?_, fun b hb => (hf b hb).1⟩⟩
  ·rw [← eq]; exact ZQ8 hkey
  ·rw [hlen]; exact hit'
 done := by
  intro X hP hw hK hc i pins s σ H E I hf st hg
  subst hP hw hK
  obtain ⟨hd, hi⟩ := hg
  obtain ⟨f0, f1, f2, f3, f4, f5⟩ := hf it (by simp)
  obtain ⟨hob, z, hsm, vs, rel, dd⟩ := (show ZEv X.prog X.w H s.heap d (.frz o (.dK kvs)) from I.hok d _ hd)
  obtain ⟨ep', dd⟩ := dd.dictAt
  obtain ⟨o2, es2, g1, g2, g3, g4⟩ := id dd
  rw [hob] at g1
  cases g1
  rw [ho] at g3
  cases g3
  have hlen : kvs.length = vs.length := rel.length
  rw [hlen] at st
  exact wpAny_pyNext_dict_end (knd := ZEy X.prog X.w) (I.ok.hd hc) st dd (List.getElem?_eq_none (by omega)) fun h' eb => ⟨rfl, I.turned (t' := s.toks) (fun b o hb e => eb b o hb e) f0 f1 f3 f4 f5⟩
 self := fun _ _ _ _ _ st h => wpAny_pyIter_keyiter st h
def ZJ6 (X : Cx) (d : Addr) : Prop := ∀ o u, X.H₀ d ≠ some (.frz o u)
def ZNY (X : Cx) (R : It → Hp → Prop) (v : V) (H : Hp) : Prop := ∃ d kvs, v = .ref d ∧ H d = some (.dK kvs) ∧ ∀ o, ZJ6 X d → R (Itk d o kvs) (upd H d (.frz o (.dK kvs)))
def ZT0 (X : Cx) (te : TE) : TI := fun σ H R => te σ H fun v H1 => ZNY X R v H1
section
variable {X : Cx} {tg e : Expr} {te t : TE}
theorem ZVI (he : QE X e te) : QI X tg e (ZT0 X te) := by
 refine ⟨?_⟩
 intro pins s σ H R I h
 refine thn (he.h pins s σ H _ I h) fun u s1 ⟨x, H1, I1, rx, d, kvs, ex, hd, q⟩ => ?_
 subst ex
 obtain rfl : u = Value.ref d := rx
 obtain ⟨z, hsm, vs, rel, dd⟩ := ZK8 I1.hok hd
 obtain ⟨ep, dda⟩ := dd.dictAt
 obtain ⟨o, es, ho, hx, hdat, hk, hpr, hn⟩ := id dda
 have hnf : ZJ6 X d := fun o u e => by
  have := I1.base.frzs d o u e
  rw [hd] at this
  cases this
 have hlen : kvs.length = vs.length := rel.length
 -- frozen
 have I2 : Inv X pins σ (upd H1 d (.frz o (.dK kvs))) s1 := by
  have := ZIg (h' := s1.heap) (t' := s1.toks) (ob := .frz o (.dK kvs)) I1 (by rw [hd]; exact True.intro) (Heap.SameBut.refl _ _) ⟨o, ho⟩ ⟨ho, ZM0 z hsm rel dd⟩
  exact this
 refine wpAny_pyIter_dict (knd := ZEy X.prog X.w) hsm dda ?_
 refine ⟨s1.heap.objs.size, [s1.heap.objs.size], _, _, _, rfl, I2.kept (t' := s1.toks) fun b o e => Heap.get?_push_of_some _ e, ZQ9 d _ o kvs es ep hdat, ?_, fun b hb => ?_, q o hnf⟩
 ·rw [hlen]
  exact ⟨_, Heap.get?_push_size _ rfl, rfl, rfl⟩
 ·have e : b = s1.heap.objs.size := by simpa using hb
  subst e
  exact I2.fpOk (Nat.le_refl _) (I2.hok.fresh (Nat.le_refl _))
theorem Inv.thaw {pins : List (Addr × Obj)} {σ : St} {H : Hp} {s : Shared} {d : Addr} {o : Obj} {u : HO} (I : Inv X pins σ H s) (hd : H d = some (.frz o u)) (nf : ZJ6 X d) (hu : Mut (some u)) : Inv X pins σ (upd H d u) s := by
 have hne : ∀ b ob, H b = some ob → (∀ o u, ob ≠ .frz o u) → b ≠ d := fun b ob e n z => by rw [z, hd] at e; cases e; exact n _ _ rfl
 have hnn : ∀ b, H b = none → b ≠ d := fun b e z => by rw [z, hd] at e; cases e
 obtain ⟨ho, hou⟩ := (show ZEv X.prog X.w H s.heap d (.frz o u) from I.hok d _ hd)
 have base := I.base
 refine ⟨I.ok, I.os, I.bare, ⟨base.keep, base.slot, fun b ob e n hx => ?_, base.there, fun b xs e => ?_, fun b ob v e => ?_, fun b ps e => ?_⟩, I.loc, I.cell, ?_, fun x c e => ?_, fun p hp => ?_, fun b ob e => ?_, I.len⟩
 ·have := base.free b ob e n hx
  rw [ZEV (hnn b this)]; exact this
 ·have := base.tups b xs e
  rw [ZEV (hne b _ this fun _ _ z => by cases z)]; exact this
 ·have h1 := base.frzs b ob v e
  have : b ≠ d := fun z => by subst z; exact nf _ _ e
  rw [ZEV this]; exact h1
 ·obtain ⟨more, h1⟩ := base.tbls b ps e
  exact ⟨more, by rw [ZEV (hne b _ h1 fun _ _ z => by cases z)]; exact h1⟩
 ·rw [ZEV (hnn _ I.free)]; exact I.free
 ·rw [ZEV (hnn _ (I.freeC x c e))]; exact I.freeC x c e
 ·obtain ⟨h1, h2, h3⟩ := I.pin p hp
  exact ⟨h1, by rw [ZEV (hnn _ h2)]; exact h2, h3⟩
 ·by_cases hb : b = d
  ·subst hb
   rw [ZEN] at e
   cases e
   exact hou.stay (fun c v _ r => r) (fun c r => by rw [ZEV (hne c _ r fun _ _ z => by cases z)]; exact r) fun c xs r => by rw [ZEV (hne c _ r fun _ _ z => by cases z)]; exact r
  ·rw [ZEV hb] at e
   exact (I.hok b _ e).stay (fun c v _ r => r) (fun c r => by rw [ZEV (hne c _ r fun _ _ z => by cases z)]; exact r) fun c xs r => by rw [ZEV (hne c _ r fun _ _ z => by cases z)]; exact r
def ZPZ (X : Cx) (v : V) (H : Hp) (Q : VK) : Prop := ∃ d o u, ZJ6 X d ∧ H d = some (.frz o u) ∧ Mut (some u) ∧ Q v (upd H d u)
def ZT1 (X : Cx) (t : TE) : TE := fun σ H Q => t σ H fun v H' => ZPZ X v H' Q
theorem ZVJ (h : QE X e t) : QE X e (ZT1 X t) := by
 refine ⟨?_⟩
 intro pins s σ H Q I hq
 refine thn (h.h pins s σ H _ I hq) fun u s1 ⟨x, H1, I1, rx, d, o, v, nf, hd, hm, q⟩ => ?_
 exact ⟨x, _, I1.thaw hd nf hm, rx, q⟩
end
section
variable {X : Cx} {σ : St} {H : Hp} {Q : VK} {R : It → Hp → Prop} {te t : TE} {d : Addr} {m : PL}
theorem ZS2 (h : te σ H fun v H1 => ZNY X R v H1) : ZT0 X te σ H R := h
theorem ZXN (h1 : H d = some (.dK (ZEf m))) (h : ∀ o H2, ZJ6 X d → H2 d = some (.frz o (.dK (ZEf m))) → Kp d H H2 → R (Itk d o (ZEf m)) H2) : ZNY X R (.ref d) H := ⟨d, _, rfl, h1, fun o nf => h o _ nf ZEN Kp.upd⟩
theorem ZS3 (h : t σ H fun v H' => ZPZ X v H' Q) : ZT1 X t σ H Q := h
theorem ZVK {v : V} {o : Obj} (nf : ZJ6 X d) (hd : H d = some (.frz o (.dK (ZEf m)))) (q : ∀ H2, H2 d = some (.dK (ZEf m)) → Kp d H H2 → Q v H2) : ZPZ X v H Q := ⟨d, o, _, nf, hd, True.intro, q _ ZEN Kp.upd⟩
theorem ZS4 {o : Obj} {t v : Int} (h1 : H d = some (.frz o (.dK (ZEf m)))) (h2 : ZEZ m t = some v) (h : Q (.int v) H) : ZPM (.ref d) (.int t) H Q :=
 ⟨d, _, rfl, .inl ⟨ZEf m, .inl t, .inr ⟨o, h1⟩, rfl, by rw [ZGU, h2]; rfl⟩, h⟩
theorem ZXx {i : Nat} (hi : i < m.length) : (ZEf m)[i]? = some (dkE m[i]) := by
 unfold ZEf
 rw [List.getElem?_map, List.getElem?_eq_getElem hi]
 rfl
end
section
variable {K : Type} [DecidableEq K]
def ZHf (xs : List (K × Addr × Value)) (k : K) : List (K × Addr × Value) := xs.filter fun x => decide (x.1 ≠ k)
theorem ZL1 {α β : Type} (f : α → β) : ∀ (l : List α) (j : Nat), (l.map f).eraseIdx j = (l.eraseIdx j).map f
 | [], _ => rfl
 | _ :: _, 0 => rfl
 | x :: l, j + 1 => congrArg (f x :: ·) (ZL1 f l j)
theorem ZPa {k : K} : ∀ {xs : List (K × Addr × Value)}, k ∉ xs.map (·.1) → ZHf xs k = xs := fun {xs} h => by
 unfold ZHf
 rw [List.filter_eq_self]
 intro x hx
 simp only [decide_eq_true_eq]
 exact fun e => h (List.mem_map.mpr ⟨x, hx, e⟩)
theorem ZKE {k : K} {p : Addr × Value} : ∀ {xs : List (K × Addr × Value)} {j : Nat}, (xs.map (·.1)).Nodup → xs[j]? = some (k, p) → xs.eraseIdx j = ZHf xs k
 | [], j, _, h => by simp at h
 | x :: xs, 0, n, h => by
  simp at h
  subst h
  rw [List.map_cons, List.nodup_cons] at n
  rw [List.eraseIdx_cons_zero]
  unfold ZHf
  rw [List.filter_cons_of_neg (by simp)]
  exact (ZPa n.1).symm
 | x :: xs, j + 1, n, h => by
  rw [List.map_cons, List.nodup_cons] at n
  have h' : xs[j]? = some (k, p) := by simpa using h
  have hne : x.1 ≠ k := fun e => n.1 (by rw [e]; exact List.mem_map.mpr ⟨(k, p), List.mem_of_getElem? h', rfl⟩)
  rw [List.eraseIdx_cons_succ]
  unfold ZHf
  rw [List.filter_cons_of_pos (by simpa using hne)]
  congr 1
  exact ZKE n.2 h'
variable {prog : Program} {w : World} {knd : HeapKind prog w K} {A : Around} {E : Value → Shared → Prop} {s : Shared} {d a : Addr} {k : K} {xs : List (K × Addr × Value)}
theorem ZS5 {Q : Option DictEntry → Shared → Prop} (hu : knd.room A) (hkey : knd.is s.heap k a) (hm : s.heap.DictOfH knd d xs) (hsz : xs.length ≤ sizeLine)
  (hnone : atKey xs k = none → Q none { s with toks := s.toks + knd.draws k })
  (hsome : ∀ e p, atKey xs k = some p → e.val = p.2 → ∀ h', h'.DictOfH knd d (ZHf xs k) → Heap.SameBut d s.heap h' → Q (some e) { s with heap := h', toks := s.toks + knd.draws k }) :
  wpAny (model prog w) A (Builtin.Dict.takeOut d (.ref a)) Q E s := by
 obtain ⟨o, es, ep, ho, hc, hd, he, his, hn⟩ := hm
 unfold Builtin.Dict.takeOut
 try with_reducible refine wpAny_holding ?_
 refine wpAny_bind (knd.pyHash hu hkey (wpAny_bind (wpAny_dictFind_heap (s := { s with toks := s.toks + knd.draws k }) hu hkey ho hd he his hn ?_ ?_)))
 ·intro hno
  exact wpAny_pure (hnone (atKey_none_of_get hno))
 ·intro j p hj
  refine wpAny_bind (wpAny_dictEntries (s := { s with toks := s.toks + knd.draws k }) ho hd ?_)
  rw [entry_at he j, hj]
  refine wpAny_bind (wpAny_updateDictKeys (hz := by have e := size_of_entries he; omega) (s := { s with toks := s.toks + knd.draws k }) ho hd (wpAny_pure (hsome _ p (atKey_of_get hn hj) rfl _ ⟨_, _, ep + 1, Heap.get?_update_self _ ho (Obj.isFreed_of_dict (Obj.data_mapDictKeys hd _)),
   hc.mapDictKeys _, Obj.data_mapDictKeys hd _, ?_, ?_, ?_⟩ (Heap.SameBut.update ..))))
  ·rw [← ZKE hn hj, ← ZL1, ← he]
   obtain ⟨l⟩ := es
   simp
  ·intro x hx
   exact knd.keeps (his x (List.mem_filter.mp hx).1) ho hd (Heap.SameBut.update ..)
  ·exact hn.sublist ((List.filter_sublist).map _)
theorem ZOA (knd : HeapKind prog w K) (d a : Addr) (hd : (d == sysModules) = false) (dflt : Value) :
  MeetsIn prog w (Builtin.«dict.pop» ⟨[.ref d, .ref a, dflt], []⟩) (fun A R s => knd.room A.in1 ∧ ∃ k xs, knd.is s.heap k a ∧ s.heap.DictOfH knd d xs ∧ xs.length ≤ sizeLine ∧
   (∀ p, atKey xs k = some p → ∀ h', h'.DictOfH knd d (ZHf xs k) → Heap.SameBut d s.heap h' → ∀ t, R (.ok (.ret p.2)) { s with heap := h', toks := t }) ∧
   (atKey xs k = none → ∀ t, R (.ok (.ret dflt)) { s with toks := t })) :=
 .of_wp fun A R s ⟨hu, k, xs, hkey, hm, hsz, h1, h2⟩ => by
  have hd' := hd
  unfold Builtin.«dict.pop»
  refine wpAny_bind ?_
  unfold Builtin.Dict.keyAndDefault
  refine wpAny_bind (wpAny_notOrdered_dict hm.typeIs ?_)
  show wpAny _ _ (pure (d, Value.ref a, some dflt)) _ _ s
  refine wpAny_pure ?_
  obtain ⟨o, es, ep, ho, hc, hdd, he, his, hn⟩ := id hm
  have hkp : (keyPart (Value.ref a)).isSome = false := rfl
  simp only [hkp, Bool.false_eq_true, if_false]
  refine wpAny_bind (wpAny_dictEntries ho hdd (wpAny_bind (wpAny_pure ?_)))
  by_cases hem : es.isEmpty = true
  ·rw [if_pos hem]
   have hx : xs = [] := by
    have := size_of_entries he
    have h0 : es.size = 0 := by simpa [Array.isEmpty] using hem
    exact List.length_eq_zero_iff.mp (by omega)
   subst hx
   refine wpAny_bind (wpAny_rule (wpAny_bind (wpAny_pure ?_)))
   simp only [Option.isNone_none, if_true]
   refine wpAny_bind (wpAny_missedRemoval_other hd ?_)
   exact wpAny_bind (wpAny_rule (wpAny_pure ⟨dflt, rfl, h2 rfl _⟩))
  ·rw [if_neg hem]
   refine wpAny_bind (ZS5 hu hkey hm hsz (fun hno => ?_) fun e p hp hev h' hm' hs' => ?_)
   ·simp only [Option.isNone_none, if_true]
    refine wpAny_bind (wpAny_missedRemoval_other hd ?_)
    exact wpAny_bind (wpAny_rule (wpAny_pure ⟨dflt, rfl, h2 hno _⟩))
   ·simp only [Option.isNone_some, Bool.false_eq_true, if_false]
    exact wpAny_bind (wpAny_letGo (wpAny_pure ⟨e.val, rfl, by rw [hev]; exact h1 p hp h' hm' hs' _⟩))
end
theorem KT.dropT {H : Hp} {kvs : List (List Key × V)} {xs : List (List Key × Addr × Value)} (r : KT H kvs xs) (k : List Key) : KT H (ZFf kvs k) (ZHf xs k) := by
 unfold ZFf ZHf
 induction r with
 | nil => exact .nil
 | @cons p q ps qs h t ih =>
  by_cases e : p.1 = k
  ·rw [List.filter_cons_of_neg (by simpa using e), List.filter_cons_of_neg (by simpa using h.1.symm.trans e)]
   exact ih
  ·rw [List.filter_cons_of_pos (by simpa using e), List.filter_cons_of_pos (by simpa using fun z => e (h.1.trans z))]
   exact .cons h ih
section
variable {X : Cx} {pins : List (Addr × Obj)} {σ : St} {H : Hp} {s : Shared} {a b : Addr} {kvs : List (List Key × V)} {k : List Key} {A : Around} {E : Value → Shared → Prop}
theorem ZXO {z : V} {r : Value} {Q : Value → Shared → Prop} (hu : A.units + 1 < cLine) (I : Inv X pins σ H s) (e : H a = some (.dT kvs)) (eb : H b = some (.tup (k.map kV))) (rz : ZER z r)
  (h1 : ∀ v, ZEc kvs k = some v → ∀ w' s', Inv X pins σ (upd H a (.dT (ZFf kvs k))) s' → ZER v w' → Q w' s') (h2 : ZEc kvs k = none → ∀ s', Inv X pins σ H s' → Q r s') :
  wpAny (model X.prog X.w) A (call (.builtin "dict.pop") [.ref a, .ref b, r]) Q E s := by
 obtain ⟨z, hd, xs, rel, dd⟩ := ZTv I.hok e
 have hz : xs.length ≤ sizeLine := by rw [← Paired.length rel]; exact z
 refine call_meetsIn PySem.F.slot_dict_pop dd.typeIs PySem.F.entry_dict_pop (PySem.F.args_dict_pop_3 _ _ _) (ZOA (tupleKind (ZEy X.prog X.w)) a b hd r) ⟨tupleKind_room_in1 hu, k, xs, ZHR I.hok eb, dd, hz, fun p hp h' dd' hs t => ?_, fun hn t => ?_⟩
 ·have hv := rel.val k
  rw [hp] at hv
  cases hk : ZEc kvs k with
  | none => rw [hk] at hv; exact hv.elim
  | some v =>
   rw [hk] at hv
   refine h1 v hk _ _ ?_ hv
   obtain ⟨q, es, ep, hq, g2, g3, g4, _, g5⟩ := dd'
   refine ZIg I (by rw [e]; exact True.intro) hs ⟨q, hq⟩ ⟨Nat.le_trans (List.length_filter_le _ _) z, hd, _, (rel.dropT k).keeps fun c ys ec => ?_, q, es, ep, hq, g2, g3, g4, g5⟩
   rw [ZEV (ZTo ec e (fun z => nomatch z))]
   exact ec
 ·have hv := rel.val k
  rw [hn] at hv
  cases hk : ZEc kvs k with
  | some v => rw [hk] at hv; exact hv.elim
  | none => exact h2 hk _ (I.tok _)
end
def ZNZ (a : Addr) (y z : V) (H : Hp) (Q : VK) : Prop := ∃ kvs k b, H a = some (.dT kvs) ∧ y = .ref b ∧ H b = some (.tup (k.map kV)) ∧
 (∀ v, ZEc kvs k = some v → Q v (upd H a (.dT (ZFf kvs k)))) ∧ (ZEc kvs k = none → Q z H)
def ZLb (ty tx : TE) (σ : St) (Q : VK) (x : V) (H : Hp) : Prop := ∃ a, x = .ref a ∧ IsD H a ∧ ty σ H fun y H2 => tx σ H2 fun z H3 => ZNZ a y z H3 Q
def ZNa (td ty tx : TE) : TE := fun σ H Q => td σ H fun x H1 => ZLb ty tx σ Q x H1
theorem ZS6 {X : Cx} {o e f : Expr} {apos cpos : Pos} {td ty tx : TE} (hu : X.A.units + 1 < cLine) (ho : PE X o td) (he : PE X e ty) (hf : PE X f tx) (m : M2 X o "pop" apos e f cpos) : PE X (.Call (.Attribute o "pop" apos) [e, f] [] cpos) (ZNa td ty tx) := by
 intro pins s σ H Q I h
 refine wpAny_Call_method m.base m.few m.line PySem.F.plainAttrs_dict PySem.F.slot_dict_pop PySem.F.type_dict_pop (thn (ho pins s σ H _ I h) fun u s1 ⟨x, H1, I1, rx, a, ex, d, q1⟩ => ?_)
 subst ex
 obtain rfl : u = Value.ref a := rx
 obtain ⟨t1, t2, _⟩ := ZJY I1 d
 refine ⟨t1, t2, ?_⟩
 rw [m.trees]
 refine Calls.callWith_builtin rfl (Calls.evalArgs_plain (Calls.spliced_cons (thn (he pins s1 σ H1 _ I1 q1) fun iv s2 ⟨y, H2, I2, ry, q2⟩ =>
  Calls.spliced_cons (thn (hf pins s2 σ H2 _ I2 q2) fun fv s3 ⟨z, H3, I3, rz, kvs, k, b, ea, ey, eb, q3, q4⟩ => Calls.spliced_nil ?_))))
 subst ey
 obtain rfl : iv = Value.ref b := ry
 exact ZXO hu I3 ea eb rz (fun v l w' s4 I4 rw' => ⟨v, _, I4, rw', q3 v l⟩) fun l s4 I4 => ⟨z, H3, I4, rz, q4 l⟩
section
variable {X : Cx} {o e f : Expr} {apos cpos pos p : Pos} {td ty tx : TE}
theorem ZS7 (hu : X.A.units + 1 < cLine) (ho : QE X o td) (he : QE X e ty) (hf : QE X f tx) (m : M2 X o "pop" apos e f cpos := by exact ⟨rfl, rfl, rfl, rfl⟩) : QE X (.Call (.Attribute o "pop" apos) [e, f] [] cpos) (ZNa td ty tx) := ⟨ZS6 hu ho.h he.h hf.h m⟩
variable {σ : St} {H : Hp} {Q : VK} {a b : Addr} {kvs : List (List Key × V)} {k : List Key} {z : V}
theorem ZRA (h : td σ H fun x H1 => ZLb ty tx σ Q x H1) : ZNa td ty tx σ H Q := h
theorem ZRB (h1 : H a = some (.dT kvs)) (q : ty σ H fun y H2 => tx σ H2 fun z H3 => ZNZ a y z H3 Q) : ZLb ty tx σ Q (.ref a) H := ⟨a, rfl, .inr ⟨kvs, .inl h1⟩, q⟩
theorem ZPb (h : ZEc kvs k = none) : ZFf kvs k = kvs := by
 unfold ZFf
 rw [List.filter_eq_self]
 intro x hx
 simp only [decide_eq_true_eq]
 intro e
 unfold ZEc at h
 rw [Option.map_eq_none_iff, List.find?_eq_none] at h
 exact h x hx (by simpa using e)
theorem ZS8 (h1 : H a = some (.dT kvs)) (hb : H b = some (.tup (k.map kV))) (q : ∀ v H2, H2 a = some (.dT (ZFf kvs k)) → Kp a H H2 → Q v H2) : ZNZ a (.ref b) z H Q :=
 ⟨kvs, k, b, h1, rfl, hb, fun v _ => q v _ ZEN Kp.upd, fun l => q z H (by rw [ZPb l]; exact h1) fun _ _ e _ => e⟩
theorem ZLc (h1 : H a = some (.dT kvs)) (hb : H b = some (.tup (k.map kV))) (q : Q (.bl (ZEc kvs k).isSome) H) : ZSx (.ref b) (.ref a) H Q := ⟨a, _, rfl, ZFS.t h1 hb, q⟩
theorem ZPc (h1 : H a = some (.dT kvs)) (hb : H b = some (.tup (k.map kV))) (q : Q (.bl (!(ZEc kvs k).isSome)) H) : ZKe (.ref b) (.ref a) H Q := ⟨a, _, rfl, ZFS.t h1 hb, q⟩
end
def ZI2 (n : Nat) : List V := (List.range n).map fun (i : Nat) => V.int (i : Int)
def ZKg (vs : List V) (H : Hp) (Q : VK) : Prop := ∃ j : Int, vs = [.int j] ∧ 0 ≤ j ∧ j ≤ 1000 ∧ ∀ l, H l = none → Q (.ref l) (upd H l (.lst (ZI2 j.toNat)))
def ZNb (ta : TA) : TE := fun σ H Q => ta σ H fun vs H1 => ZKg vs H1 Q
theorem ZS9 : ∀ (n : Nat) (its : List Value), its.length = n → (∀ (j : Nat) v, its[j]? = some v → ∃ t, v = Value.int (j : Int) t) → ZEU (ZI2 n) its := by
 intro n
 induction n with
 | zero =>
  intro its h _
  obtain rfl := List.length_eq_zero_iff.mp h
  exact .nil
 | succ n ih =>
  intro its h g
  have hl : n < its.length := by omega
  have e : its = its.take n ++ [its[n]] := by
   rw [← List.take_succ_eq_append_getElem hl, List.take_of_length_le (by omega)]
  have h1 : ZEU (ZI2 n) (its.take n) := ih _ (by rw [List.length_take]; omega) fun j v hv => by
   rw [List.getElem?_take] at hv
   split at hv
   ·exact g j v hv
   ·cases hv
  rw [e]
  have : ZI2 (n + 1) = ZI2 n ++ [V.int (n : Int)] := by unfold ZI2; rw [List.range_succ, List.map_append]; rfl
  rw [this]
  obtain ⟨t, ht⟩ := g n _ (List.getElem?_eq_getElem hl)
  exact Paired.snoc h1 ⟨t, ht⟩
section
variable {X : Cx} {a : Expr} {ta : TA} {p p2 pos pos2 : Pos}
theorem ZPd (hc : X.calm = true) (hgl : Gl X "list") (hml : X.mg "list" = none) (hg : Gl X "range") (hm : X.mg "range" = none) (ha : QA X [a] ta) (hs : ZGf a = false := by rfl) :
  QE X (.Call (.Name "list" p) [.Call (.Name "range" p2) [a] [] pos2] [] pos) (ZNb ta) := by
 refine ⟨?_⟩
 intro pins s σ H Q I h
 refine wpAny_Call_Name_kw (ZHO I hgl hml ZUb ?_ (by decide) (by decide))
 refine PyProof.Rows.callWith_type1 ?_ rfl rfl
 show wpAny _ _ (spliced ((false, eval (.Call (.Name "range" p2) [a] [] pos2) X.env) :: backTo pos (starEach [] X.env))) _ _ s
 refine Calls.spliced_cons ?_
 refine Call_ (ZHO I hg hm boot_range (PyProof.Rows.callWith_type1 (thn (ha.h pos2 pins s σ H _ I h) fun us s1 ⟨vs, H1, I1, r1, q1⟩ => ?_) (ZGr hs) rfl))
 obtain ⟨j, e, q1, q2, q⟩ := q1
 subst e
 cases r1 with
 | cons r rr =>
  cases rr
  obtain ⟨t, rfl⟩ := r
  refine call_range_1 (Calls.spliced_nil ?_)
  have I2 : Inv X pins σ H1 { s1 with heap := s1.heap.push { cls := .type "range", data := .fields #[.int 0 s1.toks, .int j t, .int 1 (s1.toks + 1)] }, toks := s1.toks + 1 + 1 } := I1.kept fun b o e => Heap.get?_push_of_some _ e
  refine call_list_range (n := j.toNat) (I1.ok.hd hc) (IsRange.new ..) (small_one (by omega) (by omega) (by omega) (by omega)) ?_ (by omega) fun h' tk acc' c' hk hS hI => ?_
  ·rw [rangeSize_one]; split <;> omega
  ·refine ⟨.ref _, _, I2.laid (o := .lst (ZI2 j.toNat)) (t' := tk) hk (Nat.le_refl _) ?_, rfl, q _ (I2.hok.fresh (Nat.le_refl _))⟩
   refine ⟨?_, acc'.toList, c', ZS9 _ _ ?_ fun i v hv => ?_, ?_⟩
   ·unfold ZI2; rw [List.length_map, List.length_range]; show _ ≤ 2 ^ 24; omega
   ·rw [Array.length_toList]; exact hI.1
   ·obtain ⟨t, ht⟩ := hI.2 i v (by rw [← Array.getElem?_toList]; exact hv)
    exact ⟨t, by rw [ht]; simp⟩
   ·rw [hS]
theorem ZOB {σ : St} {H : Hp} {Q : VK} (h : ta σ H fun vs H1 => ZKg vs H1 Q) : ZNb ta σ H Q := h
theorem ZPe {H : Hp} {Q : VK} {j : Int} (h0 : 0 ≤ j) (h1 : j ≤ 1000) (q : ∀ l H2, H l = none → H2 l = some (.lst (ZI2 j.toNat)) → ZEI H H2 → Q (.ref l) H2) : ZKg [.int j] H Q :=
 ⟨j, rfl, h0, h1, fun l hl => q l _ hl ZEN (ZEI.new hl)⟩
end
theorem ZRC {X : Cx} (K : W.Frag) (h : X.K = K) : OpR X (compareOp .In) (rIn K false) := h ▸ ZQI
def ZFK (l : List Nat) : List V := l.map fun (i : Nat) => V.int (i : Int)
theorem ZRD (l : List Nat) : (ZFK l).all ZHJ = true := by
 unfold ZFK
 rw [List.all_map]
 simp [List.all_eq_true, ZHJ, Function.comp]
theorem ZNc (k : Nat) : ∀ l : List Nat, inV (.int (k : Int)) (ZFK l) = decide (k ∈ l)
 | [] => rfl
 | x :: l => by
  have ih := ZNc k l
  unfold inV ZFK at ih ⊢
  rw [List.map_cons, List.any_cons, ih]
  by_cases e : x = k
  ·subst e; simp [eqV]
  ·have : ¬ ((x : Int) = (k : Int)) := by omega
   simp [eqV, this, e, Ne.symm e]
theorem ZRE {K : W.Frag} {H : Hp} {Q : VK} {p : Addr} {l : List Nat} {i : Int} {k : Nat} (hi : i = (k : Int)) (h1 : H p = some (.lst (ZFK l))) (q : Q (.bl (decide (k ∈ l))) H) : rIn K false (.int i) (.ref p) H Q :=
 ⟨p, _, rfl, .inl (SqL.of h1), rfl, ZRD l, by subst hi; rw [if_neg (by decide), ZNc]; exact q⟩
section
variable {prog : Program} {w : World} {A : Around} {E : Value → Shared → Prop} {s : Shared}
theorem ZL2 {x y : Int} {t u : Tok} {Q : Value → Shared → Prop} (h : Q (.bool (decide (x < y))) s) : wpAny (model prog w) A (richCompare .Lt (.int x t) (.int y u)) Q E s :=
 richCompare_gives (op := .Lt) (typeIs_int s _ t) (typeIs_int s _ u) F.slot_int_lt F.entry_int_lt (F.args_int_lt_2 _ _) (gives_int_lt _ _ t u) (fun x => nomatch x) h
theorem ZNd {a b : Addr} {oa ob : Obj} {na nb : Nat} {p q : Int × Int} {t1 t2 u1 u2 : Tok} {P : Fin → Shared → Prop} (hoa : s.heap.get? a = some oa) (hda : oa.data = .seq #[.int p.1 t1, .int p.2 t2] na)
  (hob : s.heap.get? b = some ob) (hdb : ob.data = .seq #[.int q.1 u1, .int q.2 u2] nb) (hT : s.TypeIs (.ref b) "tuple") (h : P (.done (.ret (.bool (ltP p q)))) s) :
  wpAny (model prog w) A (Builtin.«tuple.__lt__» ⟨[.ref a, .ref b], []⟩) P E s := by
 show wpAny _ _ (isInstance (.ref b) (.type "tuple") >>= _) _ _ s
 refine wpAny_bind (wpAny_isInstance hT isSubtype_tuple_tuple ?_)
 simp only [Bool.not_true, Bool.false_eq_true, if_false]
 refine wpAny_bind (wpAny_tupleItemsOf hoa hda ?_)
 refine wpAny_bind (wpAny_tupleItemsOf hob hdb ?_)
 refine wpAny_bind ?_
 simp only [List.zip_cons_cons, List.zip_nil_left, List.forIn_cons, List.forIn_nil]
 refine wpAny_bind (wpAny_bind (wpAny_eqBool_int ?_))
 by_cases e1 : p.1 = q.1
 ·rw [show (p.1 == q.1) = true by simpa using e1]
  simp only [Bool.not_true, Bool.false_eq_true, if_false]
  refine wpAny_pure ?_
  refine wpAny_bind (wpAny_bind (wpAny_eqBool_int ?_))
  by_cases e2 : p.2 = q.2
  ·rw [show (p.2 == q.2) = true by simpa using e2]
   simp only [Bool.not_true, Bool.false_eq_true, if_false]
   refine wpAny_pure (wpAny_pure ?_)
   have hl : ltP p q = false := ZFW.mpr (by omega)
   rw [hl] at h
   exact wpAny_pure h
  ·rw [show (p.2 == q.2) = false by simpa using e2]
   simp only [Bool.not_false, if_true]
   have hl : ltP p q = decide (p.2 < q.2) := by
    rw [Bool.eq_iff_iff, ZFg, decide_eq_true_iff]
    omega
   rw [hl] at h
   exact wpAny_bind (wpAny_rule (wpAny_bind (ZL2 (wpAny_bind (wpAny_pure (wpAny_pure (wpAny_pure (wpAny_pure h))))))))
 ·rw [show (p.1 == q.1) = false by simpa using e1]
  simp only [Bool.not_false, if_true]
  have hl : ltP p q = decide (p.1 < q.1) := by
   rw [Bool.eq_iff_iff, ZFg, decide_eq_true_iff]
   omega
  rw [hl] at h
  exact wpAny_bind (wpAny_rule (wpAny_bind (ZL2 (wpAny_bind (wpAny_pure (wpAny_pure (wpAny_pure (wpAny_pure h))))))))
theorem ZL3 {x y : Int} {t u : Tok} {Q : Value → Shared → Prop} (h : Q (.bool (decide (x > y))) s) : wpAny (model prog w) A (richCompare .Gt (.int x t) (.int y u)) Q E s :=
 richCompare_gives (op := .Gt) (typeIs_int s _ t) (typeIs_int s _ u) F.slot_int_gt F.entry_int_gt (F.args_int_gt_2 _ _) (gives_int_gt _ _ t u) (fun x => nomatch x) h
theorem ZNe {a b : Addr} {oa ob : Obj} {na nb : Nat} {p q : Int × Int} {t1 t2 u1 u2 : Tok} {P : Fin → Shared → Prop} (hoa : s.heap.get? a = some oa) (hda : oa.data = .seq #[.int p.1 t1, .int p.2 t2] na)
  (hob : s.heap.get? b = some ob) (hdb : ob.data = .seq #[.int q.1 u1, .int q.2 u2] nb) (hT : s.TypeIs (.ref b) "tuple") (h : P (.done (.ret (.bool (ltP q p)))) s) :
  wpAny (model prog w) A (Builtin.«tuple.__gt__» ⟨[.ref a, .ref b], []⟩) P E s := by
 show wpAny _ _ (isInstance (.ref b) (.type "tuple") >>= _) _ _ s
 refine wpAny_bind (wpAny_isInstance hT isSubtype_tuple_tuple ?_)
 simp only [Bool.not_true, Bool.false_eq_true, if_false]
 refine wpAny_bind (wpAny_tupleItemsOf hoa hda ?_)
 refine wpAny_bind (wpAny_tupleItemsOf hob hdb ?_)
 refine wpAny_bind ?_
 simp only [List.zip_cons_cons, List.zip_nil_left, List.forIn_cons, List.forIn_nil]
 refine wpAny_bind (wpAny_bind (wpAny_eqBool_int ?_))
 by_cases e1 : p.1 = q.1
 ·rw [show (p.1 == q.1) = true by simpa using e1]
  simp only [Bool.not_true, Bool.false_eq_true, if_false]
  refine wpAny_pure ?_
  refine wpAny_bind (wpAny_bind (wpAny_eqBool_int ?_))
  by_cases e2 : p.2 = q.2
  ·rw [show (p.2 == q.2) = true by simpa using e2]
   simp only [Bool.not_true, Bool.false_eq_true, if_false]
   refine wpAny_pure (wpAny_pure ?_)
   have hl : ltP q p = false := ZFW.mpr (by omega)
   rw [hl] at h
   exact wpAny_pure h
  ·rw [show (p.2 == q.2) = false by simpa using e2]
   simp only [Bool.not_false, if_true]
   have hl : ltP q p = decide (p.2 > q.2) := by
    rw [Bool.eq_iff_iff, ZFg, decide_eq_true_iff]
    omega
   rw [hl] at h
   exact wpAny_bind (wpAny_rule (wpAny_bind (ZL3 (wpAny_bind (wpAny_pure (wpAny_pure (wpAny_pure (wpAny_pure h))))))))
 ·rw [show (p.1 == q.1) = false by simpa using e1]
  simp only [Bool.not_false, if_true]
  have hl : ltP q p = decide (p.1 > q.1) := by
   rw [Bool.eq_iff_iff, ZFg, decide_eq_true_iff]
   omega
  rw [hl] at h
  exact wpAny_bind (wpAny_rule (wpAny_bind (ZL3 (wpAny_bind (wpAny_pure (wpAny_pure (wpAny_pure (wpAny_pure h))))))))
theorem ZPf {a b : Addr} {oa ob : Obj} {na nb : Nat} {p q : Int × Int} {t1 t2 u1 u2 : Tok} {Q : Value → Shared → Prop} (hu : A.units < cLine) (hoa : s.heap.get? a = some oa) (hda : oa.data = .seq #[.int p.1 t1, .int p.2 t2] na)
  (hob : s.heap.get? b = some ob) (hdb : ob.data = .seq #[.int q.1 u1, .int q.2 u2] nb) (hTa : s.TypeIs (.ref a) "tuple") (hT : s.TypeIs (.ref b) "tuple") (h : Q (.bool (ltP p q)) s) :
  wpAny (model prog w) A (richCompare .Lt (.ref a) (.ref b)) Q E s :=
 wpAny_richCompare_same_room hTa hT F.slot_tuple_lt (wpAny_call_entry F.slot_tuple_lt hTa F.entry_tuple_lt (ZNd hoa hda hob hdb hT ⟨_, rfl, (fun z => nomatch z), h⟩) (F.args_tuple_lt_2 _ _)) hu
theorem ZPg {a b : Addr} {oa ob : Obj} {na nb : Nat} {p q : Int × Int} {t1 t2 u1 u2 : Tok} {Q : Value → Shared → Prop} (hu : A.units < cLine) (hoa : s.heap.get? a = some oa) (hda : oa.data = .seq #[.int p.1 t1, .int p.2 t2] na)
  (hob : s.heap.get? b = some ob) (hdb : ob.data = .seq #[.int q.1 u1, .int q.2 u2] nb) (hTa : s.TypeIs (.ref a) "tuple") (hT : s.TypeIs (.ref b) "tuple") (h : Q (.bool (ltP q p)) s) :
  wpAny (model prog w) A (richCompare .Gt (.ref a) (.ref b)) Q E s :=
 wpAny_richCompare_same_room hTa hT F.slot_tuple_gt (wpAny_call_entry F.slot_tuple_gt hTa F.entry_tuple_gt (ZNe hoa hda hob hdb hT ⟨_, rfl, (fun z => nomatch z), h⟩) (F.args_tuple_gt_2 _ _)) hu
end
theorem ZI3 {P : Program} {w : World} {H : Hp} {h : Heap} {a : Addr} {p : Int × Int} (ok : HOk P w H h) (e : H a = some (.tup [.int p.1, .int p.2])) : ∃ t1 t2 n o, h.get? a = some o ∧ o.data = .seq #[.int p.1 t1, .int p.2 t2] n ∧ o.cls = .type "tuple" := by
 obtain ⟨_, its, r, o, h1, h2, n, h3⟩ := (show ZEv P w H h a (.tup [.int p.1, .int p.2]) from ok a _ e)
 cases r with
 | cons r1 r =>
  cases r with
  | cons r2 r =>
   cases r
   obtain ⟨t1, rfl⟩ := r1
   obtain ⟨t2, rfl⟩ := r2
   exact ⟨t1, t2, n, o, h1, h3, by first | exact h2.1 | exact h2⟩
theorem ZMK {X : Cx} {pins : List (Addr × Obj)} {σ : St} {H : Hp} (hc : X.calm = true) (hu : X.A.units + 1 < cLine) {l I S : Addr} {us : List V} {prs : PL} (hSI : S ≠ I) (hS : SqL X.K H l us) (hP : ZEP H us prs)
  (fI : ZFl X pins H I) (fS : ZFl X pins H S) {R : Result → Shared → Prop}
  (hR : ∀ i v u s', us[i]? = some v → ZER v u → (∀ j, j < us.length → ltP (prs.getD j (0, 0)) (prs.getD i (0, 0)) = false) → Inv X pins σ H s' → R (.ok (.ret u)) s') :
  ∀ (r j i : Nat) (s : Shared) (v : V) (vb : Value) (c : Nat), us.length - (j + 1) = r → j + 1 ≤ us.length → Inv X pins σ H s → s.heap.get? S = some (seqObj "list" #[vb, vb] c) → s.heap.IsListIter I l (j + 1) →
   us[i]? = some v → ZER v vb → i ≤ j → (∀ j', j' ≤ j → ltP (prs.getD j' (0, 0)) (prs.getD i (0, 0)) = false) →
   codeAny (model X.prog X.w) X.A (.builtin "min.loop" ⟨[.ref I, .none, .ref S], []⟩) R s := by
 have hname : (toString "min" ++ toString ".loop" : String) = "min.loop" := by decide
 intro r
 induction r with
 | zero =>
  intro j i s v vb c hr' hj J nS hit hv rv hij hbest
  have hin : j + 1 = us.length := by omega
  obtain ⟨its, rvs, p, hz⟩ := J.list hS
  have hl := rvs.length
  refine codeAny_builtin PySem.F.entry_min_loop ?_
  rw [Around.under_plainId PySem.F.plain_min_loop _]
  show wpAny _ X.A.in1 (seqItems? (.ref S) >>= _) _ _ _
  refine wpAny_bind (wpAny_seqItems nS rfl ?_)
  show wpAny _ X.A.in1 (tryCatch (pyNext (.ref I)) _ >>= _) _ _ _
  refine wpAny_bind (wpAny_tryCatch (wpAny_pyNext_list_end (J.ok.hd hc) hit (show s.heap.IsList l its.toArray from p.isList) (by simp; omega) fun h' eb => ?_))
  have J1 : Inv X pins σ H { s with heap := h' } := J.turnedAt (t' := s.toks) fI fun b o hb e => eb b o hb e
  have hS' : h'.get? S = some (seqObj "list" #[vb, vb] c) := eb S _ hSI nS
  show wpAny _ X.A.in1 (updateSeq S (fun _ => #[]) >>= _) _ _ _
  refine wpAny_bind ?_
  refine wpAny_updateSeq hS' rfl (wpAny_bind (wpAny_letGo (wpAny_pure ?_)))
  exact hR i v vb _ hv rv (fun j' hj' => hbest j' (by omega)) (J1.turnedAt (t' := s.toks) fS fun b o hb e => (Heap.get?_update_other _ _ (Ne.symm hb)).trans e)
 | succ r ih =>
  intro j i s v vb c hr' hj J nS hit hv rv hij hbest
  have hlt : j + 1 < us.length := by omega
  obtain ⟨its, rvs, p, hz⟩ := J.list hS
  have hx : us[j + 1]? = some us[j + 1] := List.getElem?_eq_getElem hlt
  obtain ⟨u, hu', ru⟩ := rvs.get hx
  refine codeAny_builtin PySem.F.entry_min_loop ?_
  rw [Around.under_plainId PySem.F.plain_min_loop _]
  show wpAny _ X.A.in1 (seqItems? (.ref S) >>= _) _ _ _
  refine wpAny_bind (wpAny_seqItems nS rfl ?_)
  show wpAny _ X.A.in1 (tryCatch (pyNext (.ref I)) _ >>= _) _ _ _
  refine wpAny_bind (wpAny_tryCatch (wpAny_pyNext_list_item hit (show s.heap.IsList l its.toArray from p.isList) (x := u) (by simpa using hu') fun h' st' sb => ?_))
  have J1 : Inv X pins σ H { s with heap := h' } := J.turnedAt (t' := s.toks) fI fun b o hb e => (sb.2 b hb).trans e
  have hS' : h'.get? S = some (seqObj "list" #[vb, vb] c) := (sb.2 S hSI).trans nS
  obtain ⟨oI, hoI, hoc, hod⟩ := id st'
  obtain ⟨ca, pa, ea, hpa, hca⟩ := hP.at hx
  obtain ⟨cb, pb, eb, hpb, hcb⟩ := hP.at hv
  have hpa' : prs.getD (j + 1) (0, 0) = pa := by rw [List.getD, hpa]; rfl
  have hpb' : prs.getD i (0, 0) = pb := by rw [List.getD, hpb]; rfl
  rw [ea] at ru
  cases (show u = Value.ref ca from ru)
  have rv0 := rv
  rw [eb] at rv0
  cases (show vb = Value.ref cb from rv0)
  obtain ⟨ta1, ta2, na, oa, ga1, ga2, ga3⟩ := ZI3 J1.hok hca
  obtain ⟨tb1, tb2, nb, ob, gb1, gb2, gb3⟩ := ZI3 J1.hok hcb
  show wpAny _ X.A.in1 (tryCatch (holding [.ref ca, .ref ca] (richCompare .Lt (.ref ca) (.ref cb) >>= _)) _ >>= _) _ _ _
  refine wpAny_bind (wpAny_tryCatch (wpAny_holding (wpAny_bind (ZPf (s := { s with heap := h' }) hu ga1 ga2 gb1 gb2 ⟨_, ga1, ga3⟩ ⟨_, gb1, gb3⟩ ?_))))
  refine wpAny_bind (wpAny_holding (wpAny_truthy_bool ?_))
  refine wpAny_bind (wpAny_letGo (wpAny_pure ?_))
  cases hb' : ltP pa pb with
  | true =>
   obtain ⟨c2, hc2⟩ : ∃ c2, (h'.update S (Obj.mapSeq fun _ => #[.ref ca, .ref ca])).get? S = some (seqObj "list" #[.ref ca, .ref ca] c2) := ⟨_, get?_update_seq hS' fun _ => #[.ref ca, .ref ca]⟩
   simp only [if_true]
   refine wpAny_bind ?_
   refine wpAny_updateSeq hS' rfl (wpAny_bind (wpAny_letGo ?_))
   rw [hname]
   refine wpAny_pure ⟨plainId_quiet PySem.F.plain_min_loop _, ih (j + 1) (j + 1) _ _ (.ref ca) c2 (by omega) hlt (J1.turnedAt (t' := s.toks) fS fun b o hb e => (Heap.get?_update_other _ _ (Ne.symm hb)).trans e) hc2 ⟨oI, (Heap.get?_update_other _ _ hSI).trans hoI, hoc, hod⟩ hx (by rw [ea]; rfl) (Nat.le_refl _) fun j' hj' => ?_⟩
   rw [hpa']
   have hb1 := ZFg.mp hb'
   rw [ZFW]
   by_cases e : j' = j + 1
   ·subst e
    rw [hpa']
    omega
   ·have hb2 := hbest j' (by omega)
    rw [hpb', ZFW] at hb2
    omega
  | false =>
   simp only [Bool.false_eq_true, if_false]
   refine wpAny_bind (wpAny_letGo ?_)
   rw [hname]
   refine wpAny_pure ⟨plainId_quiet PySem.F.plain_min_loop _, ih (j + 1) i _ v (.ref cb) c (by omega) hlt J1 hS' ⟨oI, hoI, hoc, hod⟩ hv rv (by omega) fun j' hj' => ?_⟩
   by_cases e : j' = j + 1
   ·subst e
    rw [hpa', hpb']
    exact hb'
   ·exact hbest j' (by omega)
theorem ZML {X : Cx} {pins : List (Addr × Obj)} {σ : St} {H : Hp} (hc : X.calm = true) (hu : X.A.units + 1 < cLine) {l I S : Addr} {us : List V} {prs : PL} (hSI : S ≠ I) (hS : SqL X.K H l us) (hP : ZEP H us prs)
  (fI : ZFl X pins H I) (fS : ZFl X pins H S) {R : Result → Shared → Prop}
  (hR : ∀ i v u s', us[i]? = some v → ZER v u → (∀ j, j < us.length → ltP (prs.getD i (0, 0)) (prs.getD j (0, 0)) = false) → Inv X pins σ H s' → R (.ok (.ret u)) s') :
  ∀ (r j i : Nat) (s : Shared) (v : V) (vb : Value) (c : Nat), us.length - (j + 1) = r → j + 1 ≤ us.length → Inv X pins σ H s → s.heap.get? S = some (seqObj "list" #[vb, vb] c) → s.heap.IsListIter I l (j + 1) →
   us[i]? = some v → ZER v vb → i ≤ j → (∀ j', j' ≤ j → ltP (prs.getD i (0, 0)) (prs.getD j' (0, 0)) = false) →
   codeAny (model X.prog X.w) X.A (.builtin "max.loop" ⟨[.ref I, .none, .ref S], []⟩) R s := by
 have hname : (toString "max" ++ toString ".loop" : String) = "max.loop" := by decide
 intro r
 induction r with
 | zero =>
  intro j i s v vb c hr' hj J nS hit hv rv hij hbest
  have hin : j + 1 = us.length := by omega
  obtain ⟨its, rvs, p, hz⟩ := J.list hS
  have hl := rvs.length
  refine codeAny_builtin PySem.F.entry_max_loop ?_
  rw [Around.under_plainId PySem.F.plain_max_loop _]
  show wpAny _ X.A.in1 (seqItems? (.ref S) >>= _) _ _ _
  refine wpAny_bind (wpAny_seqItems nS rfl ?_)
  show wpAny _ X.A.in1 (tryCatch (pyNext (.ref I)) _ >>= _) _ _ _
  refine wpAny_bind (wpAny_tryCatch (wpAny_pyNext_list_end (J.ok.hd hc) hit (show s.heap.IsList l its.toArray from p.isList) (by simp; omega) fun h' eb => ?_))
  have J1 : Inv X pins σ H { s with heap := h' } := J.turnedAt (t' := s.toks) fI fun b o hb e => eb b o hb e
  have hS' : h'.get? S = some (seqObj "list" #[vb, vb] c) := eb S _ hSI nS
  show wpAny _ X.A.in1 (updateSeq S (fun _ => #[]) >>= _) _ _ _
  refine wpAny_bind ?_
  refine wpAny_updateSeq hS' rfl (wpAny_bind (wpAny_letGo (wpAny_pure ?_)))
  exact hR i v vb _ hv rv (fun j' hj' => hbest j' (by omega)) (J1.turnedAt (t' := s.toks) fS fun b o hb e => (Heap.get?_update_other _ _ (Ne.symm hb)).trans e)
 | succ r ih =>
  intro j i s v vb c hr' hj J nS hit hv rv hij hbest
  have hlt : j + 1 < us.length := by omega
  obtain ⟨its, rvs, p, hz⟩ := J.list hS
  have hx : us[j + 1]? = some us[j + 1] := List.getElem?_eq_getElem hlt
  obtain ⟨u, hu', ru⟩ := rvs.get hx
  refine codeAny_builtin PySem.F.entry_max_loop ?_
  rw [Around.under_plainId PySem.F.plain_max_loop _]
  show wpAny _ X.A.in1 (seqItems? (.ref S) >>= _) _ _ _
  refine wpAny_bind (wpAny_seqItems nS rfl ?_)
  show wpAny _ X.A.in1 (tryCatch (pyNext (.ref I)) _ >>= _) _ _ _
  refine wpAny_bind (wpAny_tryCatch (wpAny_pyNext_list_item hit (show s.heap.IsList l its.toArray from p.isList) (x := u) (by simpa using hu') fun h' st' sb => ?_))
  have J1 : Inv X pins σ H { s with heap := h' } := J.turnedAt (t' := s.toks) fI fun b o hb e => (sb.2 b hb).trans e
  have hS' : h'.get? S = some (seqObj "list" #[vb, vb] c) := (sb.2 S hSI).trans nS
  obtain ⟨oI, hoI, hoc, hod⟩ := id st'
  obtain ⟨ca, pa, ea, hpa, hca⟩ := hP.at hx
  obtain ⟨cb, pb, eb, hpb, hcb⟩ := hP.at hv
  have hpa' : prs.getD (j + 1) (0, 0) = pa := by rw [List.getD, hpa]; rfl
  have hpb' : prs.getD i (0, 0) = pb := by rw [List.getD, hpb]; rfl
  rw [ea] at ru
  cases (show u = Value.ref ca from ru)
  have rv0 := rv
  rw [eb] at rv0
  cases (show vb = Value.ref cb from rv0)
  obtain ⟨ta1, ta2, na, oa, ga1, ga2, ga3⟩ := ZI3 J1.hok hca
  obtain ⟨tb1, tb2, nb, ob, gb1, gb2, gb3⟩ := ZI3 J1.hok hcb
  show wpAny _ X.A.in1 (tryCatch (holding [.ref ca, .ref ca] (richCompare .Gt (.ref ca) (.ref cb) >>= _)) _ >>= _) _ _ _
  refine wpAny_bind (wpAny_tryCatch (wpAny_holding (wpAny_bind (ZPg (s := { s with heap := h' }) hu ga1 ga2 gb1 gb2 ⟨_, ga1, ga3⟩ ⟨_, gb1, gb3⟩ ?_))))
  refine wpAny_bind (wpAny_holding (wpAny_truthy_bool ?_))
  refine wpAny_bind (wpAny_letGo (wpAny_pure ?_))
  cases hb' : ltP pb pa with
  | true =>
   obtain ⟨c2, hc2⟩ : ∃ c2, (h'.update S (Obj.mapSeq fun _ => #[.ref ca, .ref ca])).get? S = some (seqObj "list" #[.ref ca, .ref ca] c2) := ⟨_, get?_update_seq hS' fun _ => #[.ref ca, .ref ca]⟩
   simp only [if_true]
   refine wpAny_bind ?_
   refine wpAny_updateSeq hS' rfl (wpAny_bind (wpAny_letGo ?_))
   rw [hname]
   refine wpAny_pure ⟨plainId_quiet PySem.F.plain_max_loop _, ih (j + 1) (j + 1) _ _ (.ref ca) c2 (by omega) hlt (J1.turnedAt (t' := s.toks) fS fun b o hb e => (Heap.get?_update_other _ _ (Ne.symm hb)).trans e) hc2 ⟨oI, (Heap.get?_update_other _ _ hSI).trans hoI, hoc, hod⟩ hx (by rw [ea]; rfl) (Nat.le_refl _) fun j' hj' => ?_⟩
   rw [hpa']
   have hb1 := ZFg.mp hb'
   rw [ZFW]
   by_cases e : j' = j + 1
   ·subst e
    rw [hpa']
    omega
   ·have hb2 := hbest j' (by omega)
    rw [hpb', ZFW] at hb2
    omega
  | false =>
   simp only [Bool.false_eq_true, if_false]
   refine wpAny_bind (wpAny_letGo ?_)
   rw [hname]
   refine wpAny_pure ⟨plainId_quiet PySem.F.plain_max_loop _, ih (j + 1) i _ v (.ref cb) c (by omega) hlt J1 hS' ⟨oI, hoI, hoc, hod⟩ hv rv (by omega) fun j' hj' => ?_⟩
   by_cases e : j' = j + 1
   ·subst e
    rw [hpa', hpb']
    exact hb'
   ·exact hbest j' (by omega)
local macro_rules | `(tactic| walk_at "cp") => `(tactic| (
 intro X pins σ H s Q E1 hc hu l us prs J hS hP hne hQ
 have hname : (toString "min" ++ toString ".loop" : String) = "min.loop" := by decide
 have hname2 : (toString "max" ++ toString ".loop" : String) = "max.loop" := by decide
 have hpos : 0 < us.length := List.length_pos_iff.mpr hne
 obtain ⟨its, rvs, p, hz⟩ := J.list hS
 have hls : s.heap.IsList l its.toArray := p.isList
 first | refine call_function_tree PySem.F.kind_min PySem.F.plain_min PySem.F.entry_min (PySem.F.args_min1 _) ?_ | refine call_function_tree PySem.F.kind_max PySem.F.plain_max PySem.F.entry_max (PySem.F.args_max1 _) ?_
 first | show wpAny _ X.A.in1 (Builtin.Builtins.bindParams "min" ["key", "default"] 0 ⟨[], []⟩ >>= _) _ _ s | show wpAny _ X.A.in1 (Builtin.Builtins.bindParams "max" ["key", "default"] 0 ⟨[], []⟩ >>= _) _ _ s
 first | refine wpAny_bind (wpAny_of_eq (show Builtin.Builtins.bindParams "min" ["key", "default"] 0 ⟨[], []⟩ = pure [none, none] from rfl) ?_) | refine wpAny_bind (wpAny_of_eq (show Builtin.Builtins.bindParams "max" ["key", "default"] 0 ⟨[], []⟩ = pure [none, none] from rfl) ?_)
 refine wpAny_bind (wpAny_pure ?_)
 refine wpAny_bind (wpAny_pyIter_list hls ?_)
 refine wpAny_bind (wpAny_newList ?_ (Nat.zero_le _))
 first | rw [hname] | rw [hname2]
 first | refine wpAny_pure ⟨plainId_quiet PySem.F.plain_min_loop _, ?_⟩ | refine wpAny_pure ⟨plainId_quiet PySem.F.plain_max_loop _, ?_⟩
 generalize hO : ({ cls := .type "list_iterator", data := .fields #[.ref l, .int 0 0] } : Obj) = O
 have hSs : (s.heap.push O).objs.size = s.heap.objs.size + 1 := size_push' ..
 have hSI : (s.heap.push O).objs.size ≠ s.heap.objs.size := by rw [hSs]; exact Nat.ne_of_gt (Nat.lt_succ_self _)
 have gI : ((s.heap.push O).push (seqObj "list" #[] 0)).get? s.heap.objs.size = some O := Heap.get?_push_of_some _ (Heap.get?_push_size _ (by rw [← hO]; rfl))
 have gS : ((s.heap.push O).push (seqObj "list" #[] 0)).get? (s.heap.push O).objs.size = some (seqObj "list" #[] 0) := Heap.get?_push_size _ rfl
 have fI : ZFl X pins H s.heap.objs.size := J.fpOk (Nat.le_refl _) (J.hok.fresh (Nat.le_refl _))
 have fS : ZFl X pins H (s.heap.push O).objs.size := J.fpOk (by rw [hSs]; exact Nat.le_succ _) (J.hok.fresh (by rw [hSs]; exact Nat.le_succ _))
 have J0 : Inv X pins σ H { s with heap := (s.heap.push O).push (seqObj "list" #[] 0) } := J.kept (t' := s.toks) fun b o e => Heap.get?_push_of_some _ (Heap.get?_push_of_some _ e)
 obtain ⟨its0, rvs0, p0, hz0⟩ := J0.list hS
 have hx : us[0]? = some us[0] := List.getElem?_eq_getElem hpos
 obtain ⟨u, hu', ru⟩ := rvs0.get hx
 first | refine codeAny_builtin PySem.F.entry_min_loop ?_ | refine codeAny_builtin PySem.F.entry_max_loop ?_
 first | rw [Around.under_plainId PySem.F.plain_min_loop _] | rw [Around.under_plainId PySem.F.plain_max_loop _]
 show wpAny _ X.A.in1 (seqItems? (.ref _) >>= _) _ _ _
 refine wpAny_bind (wpAny_seqItems gS rfl ?_)
 show wpAny _ X.A.in1 (tryCatch (pyNext (.ref s.heap.objs.size)) _ >>= _) _ _ _
 refine wpAny_bind (wpAny_tryCatch (wpAny_pyNext_list_item (s := { s with heap := (s.heap.push O).push (seqObj "list" #[] 0) }) (i := 0) ⟨O, gI, by rw [← hO], by rw [← hO]; rfl⟩ (show ((s.heap.push O).push (seqObj "list" #[] 0)).IsList l its0.toArray from p0.isList) (x := u) (by simpa using hu') fun h' st' sb => ?_))
 have J1 : Inv X pins σ H { s with heap := h' } := J0.turnedAt (t' := s.toks) fI fun b o hb e => (sb.2 b hb).trans e
 have hS' : h'.get? (s.heap.push O).objs.size = some (seqObj "list" #[] 0) := (sb.2 _ hSI).trans gS
 obtain ⟨oI, hoI, hoc, hod⟩ := id st'
 obtain ⟨c2, hc2⟩ : ∃ c2, (h'.update (s.heap.push O).objs.size (Obj.mapSeq fun _ => #[u, u])).get? (s.heap.push O).objs.size = some (seqObj "list" #[u, u] c2) := ⟨_, get?_update_seq hS' fun _ => #[u, u]⟩
 show wpAny _ X.A.in1 (updateSeq (s.heap.push O).objs.size (fun _ => #[u, u]) >>= _) _ _ _
 refine wpAny_bind ?_
 refine wpAny_updateSeq hS' rfl ?_
 first | rw [hname] | rw [hname2]
 first | refine wpAny_pure ⟨plainId_quiet PySem.F.plain_min_loop _, ZMK hc hu hSI hS hP fI fS (fun i v u s' hv rv hbest J' => ⟨v, _, J', rv, hQ i v hv hbest⟩) _ 0 0 _ _ u c2 rfl hpos (J1.turnedAt (t' := s.toks) fS fun b o hb e => (Heap.get?_update_other _ _ (Ne.symm hb)).trans e) hc2 ⟨oI, (Heap.get?_update_other _ _ hSI).trans hoI, hoc, hod⟩ hx ru (Nat.le_refl _) fun j' hj' => ?_⟩ | refine wpAny_pure ⟨plainId_quiet PySem.F.plain_max_loop _, ZML hc hu hSI hS hP fI fS (fun i v u s' hv rv hbest J' => ⟨v, _, J', rv, hQ i v hv hbest⟩) _ 0 0 _ _ u c2 rfl hpos (J1.turnedAt (t' := s.toks) fS fun b o hb e => (Heap.get?_update_other _ _ (Ne.symm hb)).trans e) hc2 ⟨oI, (Heap.get?_update_other _ _ hSI).trans hoI, hoc, hod⟩ hx ru (Nat.le_refl _) fun j' hj' => ?_⟩
 have e : j' = 0 := by omega
 subst e
 rw [ZFW]
 omega))
theorem ZLd : ∀ {X : Cx} {pins : List (Addr × Obj)} {σ : St} {H : Hp} {s : Shared} {Q : VK} {E1 : Value → Shared → Prop} (hc : X.calm = true) (hu : X.A.units + 1 < cLine) {l : Addr} {us : List V} {prs : PL} (J : Inv X pins σ H s) (hS : SqL X.K H l us) (hP : ZEP H us prs) (hne : us ≠ []) (hQ : ∀ i v, us[i]? = some v → (∀ j, j < us.length → ltP (prs.getD j (0, 0)) (prs.getD i (0, 0)) = false) → Q v H), wpAny (model X.prog X.w) X.A (call (.builtin "min") [.ref l]) (EP X pins σ Q) E1 s := by walk_at "cp"
def ZT2 (K : W.Frag) : List V → Hp → VK → Prop := fun xs H Q => ∃ (l : Addr) (us : List V) (prs : PL), xs = [.ref l] ∧ SqL K H l us ∧ ZEP H us prs ∧ us ≠ [] ∧ ∀ i v, us[i]? = some v → (∀ j, j < us.length → ltP (prs.getD j (0, 0)) (prs.getD i (0, 0)) = false) → Q v H
theorem ZVL {X : Cx} (K : W.Frag) (hK : X.K = K) (hc : X.calm = true) (hu : X.A.units + 1 < cLine) : ZFG X (.builtin "min") (ZT2 K) := by
 subst hK
 intro pins s σ H xs us Q I r h
 obtain ⟨l, vs, prs, rfl, hS, hP, hne, q⟩ := h
 obtain ⟨u, rfl, ru⟩ := r.one
 cases ru
 exact ZLd hc hu I hS hP hne q
theorem ZVM {K : W.Frag} {H : Hp} {Q : VK} {l : Addr} {prs : PL} (h : PrL H l prs) (hne : prs ≠ []) (q : ∀ c r, r ∈ prs → H c = some (.tup [.int r.1, .int r.2]) → (∀ r' ∈ prs, ltP r' r = false) → Q (.ref c) H) : ZT2 K [.ref l] H Q := by
 obtain ⟨us, f, hP⟩ := h
 have hl := hP.length
 refine ⟨l, us, prs, rfl, SqL.of f, hP, fun z => hne (List.length_eq_zero_iff.mp (by rw [← hl, z]; rfl)), fun i v hv hb => ?_⟩
 obtain ⟨c, r, rfl, hr, hc⟩ := hP.at hv
 refine q c r (List.mem_of_getElem? hr) hc fun r' hr' => ?_
 obtain ⟨j, hj, e⟩ := List.getElem_of_mem hr'
 have := hb j (by omega)
 rw [List.getD, List.getD, hr, List.getElem?_eq_getElem hj, e] at this
 exact this
theorem ZLe : ∀ {X : Cx} {pins : List (Addr × Obj)} {σ : St} {H : Hp} {s : Shared} {Q : VK} {E1 : Value → Shared → Prop} (hc : X.calm = true) (hu : X.A.units + 1 < cLine) {l : Addr} {us : List V} {prs : PL} (J : Inv X pins σ H s) (hS : SqL X.K H l us) (hP : ZEP H us prs) (hne : us ≠ []) (hQ : ∀ i v, us[i]? = some v → (∀ j, j < us.length → ltP (prs.getD i (0, 0)) (prs.getD j (0, 0)) = false) → Q v H), wpAny (model X.prog X.w) X.A (call (.builtin "max") [.ref l]) (EP X pins σ Q) E1 s := by walk_at "cp"
def ZT3 (K : W.Frag) : List V → Hp → VK → Prop := fun xs H Q => ∃ (l : Addr) (us : List V) (prs : PL), xs = [.ref l] ∧ SqL K H l us ∧ ZEP H us prs ∧ us ≠ [] ∧ ∀ i v, us[i]? = some v → (∀ j, j < us.length → ltP (prs.getD i (0, 0)) (prs.getD j (0, 0)) = false) → Q v H
theorem ZVN {X : Cx} (K : W.Frag) (hK : X.K = K) (hc : X.calm = true) (hu : X.A.units + 1 < cLine) : ZFG X (.builtin "max") (ZT3 K) := by
 subst hK
 intro pins s σ H xs us Q I r h
 obtain ⟨l, vs, prs, rfl, hS, hP, hne, q⟩ := h
 obtain ⟨u, rfl, ru⟩ := r.one
 cases ru
 exact ZLe hc hu I hS hP hne q
theorem ZVO {K : W.Frag} {H : Hp} {Q : VK} {l : Addr} {prs : PL} (h : PrL H l prs) (hne : prs ≠ []) (q : ∀ c r, r ∈ prs → H c = some (.tup [.int r.1, .int r.2]) → (∀ r' ∈ prs, ltP r r' = false) → Q (.ref c) H) : ZT3 K [.ref l] H Q := by
 obtain ⟨us, f, hP⟩ := h
 have hl := hP.length
 refine ⟨l, us, prs, rfl, SqL.of f, hP, fun z => hne (List.length_eq_zero_iff.mp (by rw [← hl, z]; rfl)), fun i v hv hb => ?_⟩
 obtain ⟨c, r, rfl, hr, hc⟩ := hP.at hv
 refine q c r (List.mem_of_getElem? hr) hc fun r' hr' => ?_
 obtain ⟨j, hj, e⟩ := List.getElem_of_mem hr'
 have := hb j (by omega)
 rw [List.getD, List.getD, hr, List.getElem?_eq_getElem hj, e] at this
 exact this
structure ZPh (K : Frag) (x : Str) (C : Addr) : Prop where
 a : nsIn K mainGlobals x = some (some (.ref C))
 ex : excIn K C [.type "ValueError", .type "Exception", .type "BaseException", .type "object"] "ValueError.__new__" = true
 ga : findIn K (.ref C) "__getattribute__" = some (some (.builtin "BaseException.__getattribute__"))
 gt : findIn K (.ref C) "__getattr__" = some none
 cl : findIn K (.ref C) "__class__" = some (some (.builtin "object.__class__"))
 ob : mroIn K C (.type "object") = some true
 be : mroIn K C (.type "BaseException") = some true
structure ZTA (K : Frag) (x : Str) (C : Addr) : Prop where
 a : nsIn K mainGlobals x = some (some (.ref C))
 pg : plainGet K C Str.empty = true
 hd : hasDictIn K C = true
 po : plainOver K C = true
 sa : findIn K (.ref C) "__setattr__" = some (some (.builtin "object.__setattr__"))
 mi : makesIn K C = true
 kc : keepIn K (.ref C) = true
section
variable {K : Frag} {x qual : Str} {st : Stmt} {f : Addr} {fd : FuncData}
theorem Fun.b1 {p : Str} (F : Fun K x qual st f fd) (h : ∀ (kV doc pm : Value) (an : Option Addr) (cdv ct u : Value), bindArgs (fnOf x qual (ZFM st) (ZE6 st) (ZEE st) .none kV doc pm an cdv ct) ⟨[u], []⟩ = pure ([p].zip [u])) : ZEH K fd [p] [] := F.binds fun _ _ _ _ _ _ us hl => match us, hl with | [_], _ => h _ _ _ _ _ _ _
theorem Fun.b2 {p q : Str} (F : Fun K x qual st f fd) (h : ∀ (kV doc pm : Value) (an : Option Addr) (cdv ct u v : Value), bindArgs (fnOf x qual (ZFM st) (ZE6 st) (ZEE st) .none kV doc pm an cdv ct) ⟨[u, v], []⟩ = pure ([p, q].zip [u, v])) : ZEH K fd [p, q] [] := F.binds fun _ _ _ _ _ _ us hl => match us, hl with | [_, _], _ => h _ _ _ _ _ _ _ _
theorem Fun.b3 {p q r : Str} (F : Fun K x qual st f fd) (h : ∀ (kV doc pm : Value) (an : Option Addr) (cdv ct u v y : Value), bindArgs (fnOf x qual (ZFM st) (ZE6 st) (ZEE st) .none kV doc pm an cdv ct) ⟨[u, v, y], []⟩ = pure ([p, q, r].zip [u, v, y])) : ZEH K fd [p, q, r] [] := F.binds fun _ _ _ _ _ _ us hl => match us, hl with | [_, _, _], _ => h _ _ _ _ _ _ _ _ _
theorem Fun.b5 {p q r t t' : Str} (F : Fun K x qual st f fd) (h : ∀ (kV doc pm : Value) (an : Option Addr) (cdv ct u v y z z' : Value), bindArgs (fnOf x qual (ZFM st) (ZE6 st) (ZEE st) .none kV doc pm an cdv ct) ⟨[u, v, y, z, z'], []⟩ = pure ([p, q, r, t, t'].zip [u, v, y, z, z'])) : ZEH K fd [p, q, r, t, t'] [] := F.binds fun _ _ _ _ _ _ us hl => match us, hl with | [_, _, _, _, _], _ => h _ _ _ _ _ _ _ _ _ _ _
end
def ZNf (K : W.Frag) : R2 := fun x y H Q => ∃ (p : Addr) (xs : List V) (i : Nat) (v : V), x = .ref p ∧ y = .int (i : Int) ∧ SqL K H p xs ∧ xs[i]? = some v ∧ Q v H
section
variable {X : Cx} {o i e f value : Expr} {tpos pos apos cpos : Pos} {to ti te td ty tx : TE}
theorem ZRF : ZWH X (ZNf X.K) := by
 intro pins s σ H x y v u Q I rx ry h
 obtain ⟨p, xs, i, z, rfl, rfl, hq, he, q⟩ := h
 cases rx
 obtain ⟨t, rfl⟩ := ry
 obtain ⟨its, r, pl, hz⟩ := I.list hq
 obtain ⟨w, ew, rw'⟩ := r.get he
 have hl := r.length
 have hn := ZJT
 have hi := (List.getElem?_eq_some_iff.mp he).1
 have hs : sizeLine = 16777216 := sizeLine_eq
 exact wpAny_getItem_list pl.isList (by omega) (by omega) (by simpa using ew) ⟨z, H, I, rw', q⟩
theorem ZVP (K : W.Frag) (hK : X.K = K) (ho : QE X o to) (hi : QE X i ti) (he : QE X e te)
  (ha : ∀ ov iv new, augStore i ov iv new = (do holding [new, ov, iv] (setItem ov iv new); release [new, ov, iv] []; pure .next) := by intros; rfl) : QS X (.AugAssign (.Subscript o i tpos) .Add e pos) (ZOx to ti te (ZNf K) (ipI fun i j => i + j) ZK3) := by
 subst hK
 exact ⟨ZUG ho.h hi.h ZRF he.h ZWI ZGm ha⟩
theorem ZTB (hu : X.A.units + 1 < cLine) (ho : QE X o td) (he : QE X e ty) (hf : QE X f tx) (m : M2 X o "get" apos e f cpos := by exact ⟨rfl, rfl, rfl, rfl⟩) : QE X (.Call (.Attribute o "get" apos) [e, f] [] cpos) (ZM4 td ty tx) := ⟨ZSb hu ho.h he.h hf.h m⟩
theorem ZTC (ho : QE X o td) (he : QE X e ty) (hf : QE X f tx) (m : M2 X o "pop" apos e f cpos := by exact ⟨rfl, rfl, rfl, rfl⟩) : QE X (.Call (.Attribute o "pop" apos) [e, f] [] cpos) (ZM6 td ty tx) := ⟨ZSd ho.h he.h hf.h m⟩
def ZT4 : List V → Hp → VK → Prop := fun xs H Q => ∃ a kvs, xs = [.ref a] ∧ H a = some (.dK kvs) ∧ Q (.int kvs.length) H
theorem ZOl : ZFG X (.builtin "len") ZT4 := by
 intro pins s σ H xs us Q I r h
 obtain ⟨a, kvs, rfl, e, q⟩ := h
 obtain ⟨u, rfl, rx⟩ := ZMZ r
 cases rx
 exact ZXu I (.inl e) fun t s' I' => ⟨.int kvs.length, H, I', ⟨t, rfl⟩, q⟩
end
section
variable {K : W.Frag} {σ : St} {H : Hp} {Q : VK} {D : ZFI} {to ti te td ty tx : TE} {a p : Addr} {m : PL} {i : Int}
theorem ZTD (h : to σ H fun o H1 => ti σ H1 fun i H2 => ZNf K o i H2 fun x H3 => te σ H3 fun y H4 => ipI (fun i j => i + j) x y H4 fun z H5 => ZK3 o i z H5 (D.nx σ)) : ZOx to ti te (ZNf K) (ipI fun i j => i + j) ZK3 D σ H := h
theorem ZXP {xs : List V} {j : Nat} {v : V} (h1 : SqL K H p xs) (hi : i = (j : Int)) (h2 : xs[j]? = some v) (h : Q v H) : ZNf K (.ref p) (.int i) H Q := ⟨p, xs, j, v, rfl, by rw [hi], h1, h2, h⟩
theorem ZTE {i j : Int} (h : Q (.int (i + j)) H) : ipI (fun i j => i + j) (.int i) (.int j) H Q := ⟨i, j, rfl, rfl, h⟩
def ZLf (a : Addr) (y z : V) (H : Hp) (Q : VK) : Prop := ∃ o, ZFS H a y o ∧ Q (o.getD z) H
def ZOm (ty tx : TE) (σ : St) (Q : VK) (x : V) (H : Hp) : Prop := ∃ a, x = .ref a ∧ IsD H a ∧ ty σ H fun y H2 => tx σ H2 fun z H3 => ZLf a y z H3 Q
theorem ZRG (h : td σ H fun x H1 => ZOm ty tx σ Q x H1) : ZM4 td ty tx σ H Q := h
theorem ZRH (h1 : H a = some (.dK (ZEf m))) (q : ty σ H fun y H2 => tx σ H2 fun z H3 => ZLf a y z H3 Q) : ZOm ty tx σ Q (.ref a) H := ⟨a, rfl, .inl ⟨_, .inl h1⟩, q⟩
theorem ZTF {z : V} (h1 : H a = some (.dK (ZEf m))) (q : Q (((ZEZ m i).map V.int).getD z) H) : ZLf a (.int i) z H Q := ⟨_, ZFS.k (k := Sum.inl i) h1, by rw [ZGU]; exact q⟩
def ZLg (a : Addr) (y z : V) (H : Hp) (Q : VK) : Prop := ∃ kvs k, H a = some (.dK kvs) ∧ y = kV k ∧ (∀ v, ZEc kvs k = some v → Q v (upd H a (.dK (ZFf kvs k)))) ∧ (ZEc kvs k = none → Q z H)
def ZOn (ty tx : TE) (σ : St) (Q : VK) (x : V) (H : Hp) : Prop := ∃ a, x = .ref a ∧ IsD H a ∧ ty σ H fun y H2 => tx σ H2 fun z H3 => ZLg a y z H3 Q
theorem ZRI (h : td σ H fun x H1 => ZOn ty tx σ Q x H1) : ZM6 td ty tx σ H Q := h
theorem ZRJ (h1 : H a = some (.dK (ZEf m))) (q : ty σ H fun y H2 => tx σ H2 fun z H3 => ZLg a y z H3 Q) : ZOn ty tx σ Q (.ref a) H := ⟨a, rfl, .inl ⟨_, .inl h1⟩, q⟩
theorem ZPi (h : ZEZ m i = none) : ZFP m i = m := by
 unfold ZFP
 rw [List.filter_eq_self]
 intro q hq
 simp only [decide_eq_true_eq]
 intro e
 exact ZGu.mp h (List.mem_map.mpr ⟨q, hq, e⟩)
theorem ZTG {z : V} (h1 : H a = some (.dK (ZEf m))) (q : ∀ v H2, H2 a = some (.dK (ZEf (ZFP m i))) → Kp a H H2 → Q v H2) : ZLg a (.int i) z H Q :=
 ⟨ZEf m, Sum.inl i, h1, rfl, fun v _ => q v _ (by rw [← ZOk]; exact ZEN) Kp.upd, fun l => q z H (by
  rw [ZGU, Option.map_eq_none_iff] at l
  rw [ZPi l]; exact h1) fun _ _ e _ => e⟩
theorem ZOo (h1 : H a = some (.dK (ZEf m))) (q : Q (.int (m.length : Int)) H) : ZT4 [.ref a] H Q := ⟨a, _, rfl, h1, by rw [show (ZEf m).length = m.length from List.length_map _]; exact q⟩
end
section
variable {X : Cx} {e : Expr} {pos : Pos} {te : TE}
theorem ZVQ {tg : Expr} {g : TG} (he : QE X e te) (hg : QG X tg g) (hs : swapsWithSole [tg] e pos.line X.env = pure false := by rfl) (hw : swappedStores [tg] e X.env = pure none := by rfl)
 (h1 : (assignEach [tg] X.env).map (·.2) = [assign tg X.env] := by rfl) : QS X (.Assign [tg] e pos) (ZJQ te g) := ⟨ZP3 he.h hg.h hs hw h1⟩
end
end L2
namespace My
open PySem L2
theorem ZEe {N P : List Str} {sc : Scope} (a : sc.kind = .function := by rfl) (b : sc.isCoroutine = false := by rfl) (c : sc.isGenerator = false := by rfl) (d : N.Nodup := by decide +kernel) (e : N.take P.length = P := by rfl) (f : ∀ x ∈ P, sc.names.lookup x = some .local ∨ sc.names.lookup x = some .cell := by decide +kernel) (g : ∀ y ∈ sc.names, y.2 ≠ .free := by decide +kernel) : ZEJ N P sc := ⟨a, b, c, d, e, f, g⟩
theorem qsS {X : Cx} {x : Str} {e : Expr} {te : TE} {pos pos' : Pos} {i : Nat} (hN : X.N.Nodup) (he : QE X e te) (hi : X.N[i]? = some x := by rfl) (hx : Loc X.env.scope x := by first | exact Or.inl rfl | exact Or.inr rfl) (hs : ZGM e = false := by rfl) (hf : X.fn x = true ∨ X.env.scope.names.lookup x = some .local := by first | exact .inl rfl | exact .inr rfl | assumption) : QS X (.Assign [.Name x pos'] e pos) (ZJQ te (ZHa i)) := ZUy hN hi hx he hs hf
theorem qgN {X : Cx} {x : Str} {pos : Pos} {i : Nat} (hN : X.N.Nodup) (hi : X.N[i]? = some x := by rfl) (hx : Loc X.env.scope x := by first | exact Or.inl rfl | exact Or.inr rfl) (hf : X.fn x = true ∨ X.env.scope.names.lookup x = some .local := by first | exact .inl rfl | exact .inr rfl | assumption) : QG X (.Name x pos) (ZHa i) := ZFo hN hi hx hf
theorem qcS {X : Cx} {e : Expr} {es : List Expr} {t : TA} {pos p : Pos} {x : Str} {k : Nat} {f : Addr} {fd : FuncData} {ps : List Str} {sp : Sp} (F : ZEM X.prog X.w X.K X.mg X.base CX0 k f fd ps sp) (hr : Room k X.A) (hm : X.mg x = some (.ref f)) (hk : W.keepIn X.K (.ref f) = true) (hb : ZEH X.K fd ps []) (ha : QA X (e :: es) t) (hg : Gl X x := by rfl) (hns : ZFE (e :: es) = true := by rfl) (hdb : (x == ("__debug__" : Str)) = false := by decide) : QE X (.Call (.Name x p) (e :: es) [] pos) (ZK0 sp [] E0 t) := ZKT F hr hg hm hk hb .nil ZEz ha hns hdb
theorem _root_.L2.Room.m {j k : Nat} {A : Around} (r : Room k A) (h : j ≤ k := by decide) : Room j A := r.mono h
local macro_rules | `(tactic| walk_at "l") => `(tactic| (intro vs H Q E h; (repeat (obtain ⟨_, h⟩ := h)); all_goals (subst_vars; rfl)))
local macro_rules | `(tactic| walk_at "w") => `(tactic| repeat walk_at "rd")
local macro_rules | `(tactic| walk_at "s") => `(tactic| simp only [L2.start, List.length_cons, List.length_nil, List.map_cons, List.map_nil, Nat.reduceAdd, Nat.reduceSub, List.replicate_succ, List.replicate_zero, List.cons_append, List.nil_append])
local macro_rules | `(tactic| walk_at "o") => `(tactic| first | exact Or.inl rfl | exact Or.inr rfl)
def top (i : Nat) : Stmt := PySem.Challenge.pw_fourpoints_k73_whole_views_of_changing_s.main.body.getD i (.Pass ⟨0, 0, 0, 0⟩)
abbrev ZOp : Stmt := top 0
abbrev ZI4 : Stmt := top 8
abbrev ZIN : Stmt := top 10
abbrev ZI5 : Stmt := top 11
abbrev ZGx : Stmt := top 12
abbrev ZLh : Stmt := top 13
abbrev ZJe : Stmt := top 14
abbrev ZI6 : Stmt := top 15
abbrev ZHE : Stmt := top 16
abbrev ZIO : Stmt := top 18
abbrev ZJf : Stmt := top 19
abbrev ZKh : Stmt := top 20
abbrev ZIP : Stmt := top 24
abbrev ZGy : Stmt := top 25
abbrev ZHs : Stmt := top 26
abbrev ZHF : Stmt := top 27
abbrev ZIQ : Stmt := top 28
abbrev ZJg : Stmt := top 29
abbrev ZFC : Stmt := ZEl (top 30) 0
abbrev ZI7 : Stmt := ZEl (top 30) 1
abbrev ZIR : Stmt := ZEl (top 30) 2
abbrev ZHt : Stmt := ZEl (top 30) 3
abbrev ZIS : Stmt := ZEl (top 30) 4
abbrev ZGz : Stmt := ZEl (top 30) 5
abbrev ZKF : Stmt := ZEl (top 30) 6
abbrev ZI8 : Stmt := top 32
abbrev ZG0 : Stmt := ZEl (top 33) 0
abbrev ZG1 : Stmt := ZEl (top 33) 1
abbrev ZHU : Stmt := ZEl (top 33) 2
abbrev ZJh : Stmt := ZEl (top 33) 3
abbrev ZIT : Stmt := ZEl (top 33) 4
abbrev ZHV : Stmt := ZEl (top 33) 5
abbrev ZHG : Stmt := ZEl (top 33) 6
abbrev ZHH : Stmt := ZEl (top 33) 7
abbrev ZE2 : Stmt := ZEl (top 35) 0
abbrev ZIU : Stmt := ZEl (top 35) 1
abbrev ZHu : Stmt := ZEl (top 35) 2
abbrev ZIh : Stmt := ZEl (top 35) 3
abbrev ZGD : Stmt := ZEl (top 35) 4
abbrev ZI9 : Stmt := ZEl (top 35) 5
abbrev ZHW : Stmt := ZEl (top 35) 6
abbrev ZHv : Stmt := ZEl (top 35) 7
abbrev ZHX : Stmt := ZEl (top 35) 8
abbrev ZHw : Stmt := ZEl (top 35) 9
abbrev ZJM : Stmt := ZEl (top 35) 10
abbrev ZJi : Stmt := ZEl (top 35) 11
abbrev ZJN : Stmt := ZEl (top 35) 12
abbrev ZJj : Stmt := ZEl (top 35) 13
abbrev ZKi : Stmt := top 37
abbrev ZLi : Stmt := top 38
abbrev ZKj : Stmt := top 39
abbrev ZNg : Stmt := top 40
abbrev ZJA : Stmt := top 41
abbrev ZJB : Stmt := top 42
abbrev ZJC : Stmt := top 43
abbrev ZKk : Stmt := top 44
abbrev ZJk : Stmt := top 45
abbrev ZHx : Stmt := top 46
abbrev ZIC : Stmt := top 47
abbrev ZKl : Stmt := top 48
abbrev ZNh : Stmt := top 49
abbrev ZID : Stmt := top 50
abbrev ZJD : Stmt := top 51
abbrev ZKm : Stmt := top 52
abbrev ZJl : Stmt := top 53
abbrev ZJm : Stmt := top 54
abbrev ZGQ : Stmt := top 55
set_option genInjectivity false in
set_option genSizeOf false in
set_option genSizeOfSpec false in
structure Ad where
 ZCl : Addr
 ZCq : FuncData
 Jv : Addr
 ZAC : FuncData
 JU : Addr
 JN : FuncData
 Jq : Addr
 Jr : FuncData
 Yu : Addr
 Y4 : FuncData
 ZBm : Addr
 ZBi : FuncData
 ZAa : Addr
 ZAT : FuncData
 Jy : Addr
 Jj : FuncData
 YQ : Addr
 YR : FuncData
 JP : Addr
 JS : FuncData
 ZAi : Addr
 ZAQ : FuncData
 ZBE : Addr
 ZA7 : FuncData
 JO : Addr
 JJ : FuncData
 Zd : Addr
 Zc : FuncData
 Y7 : Addr
 Y2 : FuncData
 Zo : Addr
 Zh : FuncData
 JH : Addr
 JL : FuncData
 ZAX : Addr
 ZAo : FuncData
 YE : Addr
 ZU : FuncData
 Jh : Addr
 J5 : FuncData
 JT : Addr
 JM : FuncData
 Y1 : Addr
 Yx : FuncData
 JQ : Addr
 JR : FuncData
 Ys : Addr
 JA : FuncData
 ZA4 : Addr
 ZA3 : FuncData
 Jw : Addr
 Jg : FuncData
 YB : Addr
 YA : FuncData
 Y5 : Addr
 Y9 : FuncData
 Yg : Addr
 Yk : FuncData
 JE : Addr
 JC : FuncData
 YW : Addr
 YV : FuncData
 Yj : Addr
 Yn : FuncData
 Zm : Addr
 Zi : FuncData
 Zj : Addr
 Zn : FuncData
 Zv : Addr
 ZQ : FuncData
 JW : Addr
 JK : FuncData
 Yv : Addr
 Y8 : FuncData
 JY : Addr
 Jc : FuncData
 ZY : Addr
 ZX : FuncData
 Ji : Addr
 J7 : FuncData
 Ym : Addr
 Yi : FuncData
 Yw : Addr
 Y3 : FuncData
 Yl : Addr
 Yh : FuncData
 Yz : Addr
 Y0 : FuncData
 ZAK : Addr
 ZAJ : FuncData
 ZAS : Addr
 ZAm : FuncData
 ZAI : Addr
 ZAE : FuncData
 ZAg : Addr
 ZAV : FuncData
 ZBJ : Addr
 ZBH : FuncData
 ZBk : Addr
 ZBj : FuncData
 ZBI : Addr
 ZBQ : FuncData
 ZCV : Addr
 ZCM : FuncData
 J8 : Addr
 Jf : FuncData
 Jz : Addr
 ZAB : FuncData
 ZAD : Addr
 J6 : FuncData
 ZBD : Addr
 ZA6 : FuncData
 ZAW : Addr
 ZAP : FuncData
 ZA9 : Addr
 ZBK : FuncData
 ZAe : Addr
 ZAb : FuncData
 ZA8 : Addr
 ZA5 : FuncData
 ZAs : Addr
 ZAY : FuncData
 ZAf : Addr
 ZAu : FuncData
 Jt : Addr
 Jm : FuncData
 ZBA : Addr
 ZBB : FuncData
 ZAR : Addr
 ZAt : FuncData
 ZAp : Addr
 ZAc : FuncData
 ZC2 : Addr
 ZCy : FuncData
 ZF : Addr
 ZH : Addr
 ZE : Addr
 ZC : Addr
 ZD : Addr
 ZA : Addr
 ZB : Addr
 ZCa : Tok
 ZCg : Tok
structure Txt (K : W.Frag) (mg : Str → Option Value) (a : Ad) : Prop where
 ZD6 : Fun K "_wall" "_wall" ZOp a.ZCl a.ZCq
 ZD5 : ZEH K a.ZCq ["k"] []
 ZD4 : mg "_wall" = some (.ref a.ZCl)
 Yq : Fun K "is_whole" "is_whole" ZI4 a.Jv a.ZAC
 J9 : ZEH K a.ZAC ["thing"] []
 Ju : mg "is_whole" = some (.ref a.Jv)
 ZAz : Fun K "column_of" "column_of" ZIN a.JU a.JN
 ZCd : ZEH K a.JN ["window", "t"] []
 ZCY : mg "column_of" = some (.ref a.JU)
 Js : Fun K "times_of" "times_of" ZI5 a.Jq a.Jr
 ZBh : ZEH K a.Jr ["window", "k"] []
 ZBR : mg "times_of" = some (.ref a.Jq)
 Z5 : Fun K "columns_of" "columns_of" ZGx a.Yu a.Y4
 Yy : ZEH K a.Y4 ["window"] []
 Y6 : mg "columns_of" = some (.ref a.Yu)
 ZBn : Fun K "moved" "moved" ZLh a.ZBm a.ZBi
 ZCn : ZEH K a.ZBi ["window", "c"] []
 ZCm : mg "moved" = some (.ref a.ZBm)
 ZAq : Fun K "widened" "widened" ZJe a.ZAa a.ZAT
 ZBv : ZEH K a.ZAT ["window"] []
 ZBw : mg "widened" = some (.ref a.ZAa)
 ZBY : Fun K "narrowed" "narrowed" ZI6 a.Jy a.Jj
 ZC1 : ZEH K a.Jj ["window"] []
 ZCu : mg "narrowed" = some (.ref a.Jy)
 YO : Fun K "with_columns" "with_columns" ZHE a.YQ a.YR
 Jd : ZEH K a.YR ["window", "n"] []
 JZ : mg "with_columns" = some (.ref a.YQ)
 Zt : Fun K "height_of" "height_of" ZIO a.JP a.JS
 ZZ : ZEH K a.JS ["sample"] []
 Za : mg "height_of" = some (.ref a.JP)
 ZBt : Fun K "four_of" "four_of" ZJf a.ZAi a.ZAQ
 ZDB : ZEH K a.ZAQ ["curve"] []
 ZDG : mg "four_of" = some (.ref a.ZAi)
 Jo : Fun K "joined" "joined" ZKh a.ZBE a.ZA7
 ZBL : ZEH K a.ZA7 ["one", "other"] []
 ZBC : mg "joined" = some (.ref a.ZBE)
 Zb : Fun K "is_border" "is_border" ZIP a.JO a.JJ
 Zr : ZEH K a.JJ ["thing"] []
 Zs : mg "is_border" = some (.ref a.JO)
 ZT : Fun K "check_borders" "check_borders" ZGy a.Zd a.Zc
 YF : ZEH K a.Zc ["begin", "end"] []
 Z9 : mg "check_borders" = some (.ref a.Zd)
 Yt : Fun K "check_time" "check_time" ZHs a.Y7 a.Y2
 ZAl : ZEH K a.Y2 ["t"] []
 ZAk : mg "check_time" = some (.ref a.Y7)
 ZP : Fun K "check_window" "check_window" ZHF a.Zo a.Zh
 Zl : ZEH K a.Zh ["window"] []
 Zk : mg "check_window" = some (.ref a.Zo)
 ZAw : Fun K "stretches" "stretches" ZIQ a.JH a.JL
 ZCc : ZEH K a.JL ["begin", "end"] []
 ZCi : mg "stretches" = some (.ref a.JH)
 ZBx : Fun K "longest" "longest" ZJg a.ZAX a.ZAo
 ZC5 : ZEH K a.ZAo ["first", "end"] []
 ZC9 : mg "longest" = some (.ref a.ZAX)
 ZBe : ZNN K "__init__" "Tree.__init__" ZFC a.YE a.ZU
 ZBa : ZEH K a.ZU ["self", "curve"] []
 ZDM : ZEH K a.ZU ["self", "curve"] [Value.none]
 ZDQ : ZOi K a.ZU ["self", "curve"] "curve"
 ZC0 : Fun K "put" "Tree.put" ZI7 a.Jh a.J5
 ZBV : ZEH K a.J5 ["self", "t", "h"] []
 ZBg : ZFQ K a.ZF "put" a.Jh
 ZCf : Fun K "take" "Tree.take" ZIR a.JT a.JM
 ZCh : ZEH K a.JM ["self", "t"] []
 ZCe : ZFQ K a.ZF "take" a.JT
 ZCE : Fun K "renew" "Tree.renew" ZHt a.Y1 a.Yx
 ZAh : ZEH K a.Yx ["self", "t", "four"] []
 ZAn : ZFQ K a.ZF "renew" a.Y1
 ZCX : Fun K "four" "Tree.four" ZIS a.JQ a.JR
 ZA1 : ZEH K a.JR ["self", "begin", "end"] []
 ZAx : ZFQ K a.ZF "four" a.JQ
 ZCT : Fun K "fours" "Tree.fours" ZGz a.Ys a.JA
 ZDd : ZEH K a.JA ["self", "window"] []
 ZDg : ZFQ K a.ZF "fours" a.Ys
 ZDr : Fun K "told" "Tree.told" ZKF a.ZA4 a.ZA3
 ZDt : ZEH K a.ZA3 ["self"] []
 ZDs : ZFQ K a.ZF "told" a.ZA4
 ZBd : Fun K "known_in" "known_in" ZI8 a.Jw a.Jg
 ZCv : ZEH K a.Jg ["known", "window"] []
 ZCx : mg "known_in" = some (.ref a.Jw)
 ZBc : Fun K "__init__" "View.__init__" ZG0 a.YB a.YA
 JB : ZEH K a.YA ["self", "store", "window"] []
 ZCC : Fun K "fours" "View.fours" ZG1 a.Y5 a.Y9
 ZCB : ZEH K a.Y9 ["self"] []
 ZCR : ZFQ K a.ZH "fours" a.Y5
 ZB1 : Fun K "forget" "View.forget" ZHU a.Yg a.Yk
 ZAO : ZEH K a.Yk ["self"] []
 ZAN : ZFQ K a.ZH "forget" a.Yg
 ZBr : Fun K "on" "View.on" ZJh a.JE a.JC
 ZBs : ZEH K a.JC ["self", "c"] []
 ZBy : ZFQ K a.ZH "on" a.JE
 ZA0 : Fun K "wide" "View.wide" ZIT a.YW a.YV
 ZA2 : ZEH K a.YV ["self"] []
 ZAy : ZFQ K a.ZH "wide" a.YW
 ZB4 : Fun K "narrow" "View.narrow" ZHV a.Yj a.Yn
 ZAM : ZEH K a.Yn ["self"] []
 ZAL : ZFQ K a.ZH "narrow" a.Yj
 Je : Fun K "columns" "View.columns" ZHG a.Zm a.Zi
 Ja : ZEH K a.Zi ["self", "n"] []
 JX : ZFQ K a.ZH "columns" a.Zm
 Jb : Fun K "step_to" "View.step_to" ZHH a.Zj a.Zn
 ZO : ZEH K a.Zn ["self", "window"] []
 ZN : ZFQ K a.ZH "step_to" a.Zj
 ZBN : ZNN K "__init__" "Store.__init__" ZE2 a.Zv a.ZQ
 ZBG : ZEH K a.ZQ ["self", "curve"] []
 ZDK : ZEH K a.ZQ ["self", "curve"] [Value.none]
 ZDJ : ZOi K a.ZQ ["self", "curve"] "curve"
 ZCk : Fun K "put" "Store.put" ZIU a.JW a.JK
 ZCZ : ZEH K a.JK ["self", "t", "h"] []
 ZCj : ZFQ K a.ZE "put" a.JW
 ZCU : Fun K "take" "Store.take" ZHu a.Yv a.Y8
 ZB7 : ZEH K a.Y8 ["self", "t"] []
 ZCD : ZFQ K a.ZE "take" a.Yv
 ZDS : Fun K "height" "Store.height" ZIh a.JY a.Jc
 ZDU : ZEH K a.Jc ["self", "t"] []
 ZDW : ZFQ K a.ZE "height" a.JY
 Jl : Fun K "check_sample" "Store.check_sample" ZGD a.ZY a.ZX
 Jx : ZEH K a.ZX ["self", "t"] []
 Jn : ZFQ K a.ZE "check_sample" a.ZY
 ZCw : Fun K "do" "Store.do" ZI9 a.Ji a.J7
 ZBT : ZEH K a.J7 ["self", "t", "h"] []
 ZBW : ZFQ K a.ZE "do" a.Ji
 ZB2 : Fun K "bring" "Store.bring" ZHW a.Ym a.Yi
 ZAG : ZEH K a.Yi ["self", "t", "h"] []
 ZAH : ZFQ K a.ZE "bring" a.Ym
 ZCS : Fun K "undo" "Store.undo" ZHv a.Yw a.Y3
 ZCH : ZEH K a.Y3 ["self"] []
 ZCP : ZFQ K a.ZE "undo" a.Yw
 ZB3 : Fun K "times" "Store.times" ZHX a.Yl a.Yh
 ZBz : ZEH K a.Yh ["self"] []
 ZB0 : ZFQ K a.ZE "times" a.Yl
 ZCQ : Fun K "four" "Store.four" ZHw a.Yz a.Y0
 ZCF : ZEH K a.Y0 ["self", "begin", "end"] []
 ZCA : ZFQ K a.ZE "four" a.Yz
 ZDb : Fun K "fours" "Store.fours" ZJM a.ZAK a.ZAJ
 ZDc : ZEH K a.ZAJ ["self", "window"] []
 ZDa : ZFQ K a.ZE "fours" a.ZAK
 ZDn : Fun K "told" "Store.told" ZJi a.ZAS a.ZAm
 ZDk : ZEH K a.ZAm ["self"] []
 ZDj : ZFQ K a.ZE "told" a.ZAS
 ZDX : Fun K "watch" "Store.watch" ZJN a.ZAI a.ZAE
 ZDZ : ZEH K a.ZAE ["self", "window"] []
 ZDY : ZFQ K a.ZE "watch" a.ZAI
 ZDo : Fun K "news" "Store.news" ZJj a.ZAg a.ZAV
 ZDl : ZEH K a.ZAV ["self", "number"] []
 ZDq : ZFQ K a.ZE "news" a.ZAg
 ZBM : Fun K "_law_cell" "_law_cell" ZKi a.ZBJ a.ZBH
 ZCI : ZEH K a.ZBH ["_law_script", "_law_k"] []
 ZCK : mg "_law_cell" = some (.ref a.ZBJ)
 ZBl : Fun K "_law_pot" "_law_pot" ZLi a.ZBk a.ZBj
 ZCo : ZEH K a.ZBj ["_law_cell_here"] []
 ZCr : mg "_law_pot" = some (.ref a.ZBk)
 ZI : Fun K "_law_draw" "_law_draw" ZKj a.ZBI a.ZBQ
 ZK : ZEH K a.ZBQ ["_law_pot_here", "_law_many"] []
 ZJ : mg "_law_draw" = some (.ref a.ZBI)
 ZDA : Fun K "_law_in" "_law_in" ZNg a.ZCV a.ZCM
 ZDm : ZEH K a.ZCM ["_law_t"] []
 ZDp : mg "_law_in" = some (.ref a.ZCV)
 Yr : Fun K "_law_within" "_law_within" ZJA a.J8 a.Jf
 Jp : ZEH K a.Jf ["_law_window_here"] []
 Jk : mg "_law_within" = some (.ref a.J8)
 ZAA : Fun K "_law_height" "_law_height" ZJB a.Jz a.ZAB
 ZBZ : ZEH K a.ZAB ["_law_pot_here"] []
 ZBX : mg "_law_height" = some (.ref a.Jz)
 ZBU : Fun K "_law_window" "_law_window" ZJC a.ZAD a.J6
 ZCs : ZEH K a.J6 ["_law_pot_here"] []
 ZC4 : mg "_law_window" = some (.ref a.ZAD)
 ZBF : Fun K "_law_time" "_law_time" ZKk a.ZBD a.ZA6
 ZCN : ZEH K a.ZA6 ["_law_pot_here", "_law_window_here"] []
 ZCJ : mg "_law_time" = some (.ref a.ZBD)
 ZBq : Fun K "_law_curve" "_law_curve" ZJk a.ZAW a.ZAP
 ZC6 : ZEH K a.ZAP ["_law_pot_here", "_law_window_here"] []
 ZC7 : mg "_law_curve" = some (.ref a.ZAW)
 ZB6 : Fun K "_law_four" "_law_four" ZHx a.ZA9 a.ZBK
 ZDP : ZEH K a.ZBK ["_law_some"] []
 ZDR : mg "_law_four" = some (.ref a.ZA9)
 ZBu : Fun K "_law_fours" "_law_fours" ZIC a.ZAe a.ZAb
 ZC8 : ZEH K a.ZAb ["_law_made", "_law_window_here"] []
 ZDH : mg "_law_fours" = some (.ref a.ZAe)
 ZBO : Fun K "_law_step" "_law_step" ZKl a.ZA8 a.ZA5
 ZCW : ZEH K a.ZA5 ["_law_pot_here", "_law_window_here"] []
 ZCG : mg "_law_step" = some (.ref a.ZA8)
 ZCO : Fun K "_law_go" "_law_go" ZNh a.ZAs a.ZAY
 ZDf : ZEH K a.ZAY ["_law_view", "_law_step_here"] []
 ZDh : mg "_law_go" = some (.ref a.ZAs)
 ZBp : Fun K "_law_known" "_law_known" ZID a.ZAf a.ZAu
 ZDC : ZEH K a.ZAu ["_law_step_here", "_law_window_here", "_law_known_here"] []
 ZDI : mg "_law_known" = some (.ref a.ZAf)
 ZBb : Fun K "_law_column" "_law_column" ZJD a.Jt a.Jm
 ZC3 : ZEH K a.Jm ["_law_window_here", "_law_t"] []
 ZCz : mg "_law_column" = some (.ref a.Jt)
 ZCL : Fun K "_law_deed" "_law_deed" ZKm a.ZBA a.ZBB
 ZDN : ZEH K a.ZBB ["_law_pot_here", "_law_store", "_law_made", "_law_done", "_law_window_here"] []
 ZDL : mg "_law_deed" = some (.ref a.ZBA)
 Ye : Fun K "_law_asked" "_law_asked" ZJl a.ZAR a.ZAt
 JG : ZEH K a.ZAt ["_law_view", "_law_own", "_law_made"] []
 JD : mg "_law_asked" = some (.ref a.ZAR)
 ZBo : Fun K "_law_moved" "_law_moved" ZJm a.ZAp a.ZAc
 ZDF : ZEH K a.ZAc ["_law_pot_here", "_law_view", "_law_own"] []
 ZDE : mg "_law_moved" = some (.ref a.ZAp)
 ZDu : Fun K "law" "law" ZGQ a.ZC2 a.ZCy
 ZD8 : ZEH K a.ZCy ["_law_script"] []
 ZD7 : mg "law" = some (.ref a.ZC2)
 ZM : Cls K a.ZF
 ZDe : mg "Tree" = some (.ref a.ZF)
 ZDT : Mk K a.ZF a.YE
 Zg : ZE4 K a.ZF "looks"
 ZW : ZE4 K a.ZF "samples"
 ZV : ZE4 K a.ZF "kept_fours"
 ZG : Cls K a.ZH
 ZDD : mg "View" = some (.ref a.ZH)
 ZCp : Mk K a.ZH a.YB
 Zu : ZE4 K a.ZH "source"
 ZS : ZE4 K a.ZH "window"
 Ze : ZE4 K a.ZH "asked"
 Zf : ZE4 K a.ZH "known"
 YU : ZE4 K a.ZH "seen"
 ZL : Cls K a.ZE
 ZDV : mg "Store" = some (.ref a.ZE)
 ZDO : Mk K a.ZE a.Zv
 ZAj : ZE4 K a.ZE "tree"
 ZAF : ZE4 K a.ZE "deeds"
 ZAZ : ZE4 K a.ZE "done"
 JF : ZE4 K a.ZE "watches"
 ZD0 : ZJc K a.ZC
 ZDy : ZPW K a.ZC
 ZDw : mg "NoColumn" = some (.ref a.ZC)
 ZD1 : ZJc K a.ZD
 ZD3 : ZPW K a.ZD
 ZD2 : mg "NotHalf" = some (.ref a.ZD)
 ZAd : ZJc K a.ZA
 ZDi : ZPW K a.ZA
 ZAr : mg "OutOfTimes" = some (.ref a.ZA)
 ZDv : ZJc K a.ZB
 ZDx : ZPW K a.ZB
 ZDz : mg "NoSample" = some (.ref a.ZB)
 YJ : W.subIn K (.ref a.ZC) (.ref a.ZC) = some true
 YL : W.kitOne K (.ref a.ZC) (.ref a.ZC) = some true
 Ya : W.subIn K (.ref a.ZC) (.ref a.ZD) = some false
 YZ : W.kitOne K (.ref a.ZC) (.ref a.ZD) = some false
 Z0 : W.subIn K (.ref a.ZC) (.ref a.ZA) = some false
 Zx : W.kitOne K (.ref a.ZC) (.ref a.ZA) = some false
 YI : W.subIn K (.ref a.ZC) (.ref a.ZB) = some false
 YH : W.kitOne K (.ref a.ZC) (.ref a.ZB) = some false
 Yc : W.subIn K (.ref a.ZD) (.ref a.ZC) = some false
 Yf : W.kitOne K (.ref a.ZD) (.ref a.ZC) = some false
 Yo : W.subIn K (.ref a.ZD) (.ref a.ZD) = some true
 Yp : W.kitOne K (.ref a.ZD) (.ref a.ZD) = some true
 YC : W.subIn K (.ref a.ZD) (.ref a.ZA) = some false
 Z7 : W.kitOne K (.ref a.ZD) (.ref a.ZA) = some false
 Yd : W.subIn K (.ref a.ZD) (.ref a.ZB) = some false
 YX : W.kitOne K (.ref a.ZD) (.ref a.ZB) = some false
 Zz : W.subIn K (.ref a.ZA) (.ref a.ZC) = some false
 Zw : W.kitOne K (.ref a.ZA) (.ref a.ZC) = some false
 YD : W.subIn K (.ref a.ZA) (.ref a.ZD) = some false
 Z8 : W.kitOne K (.ref a.ZA) (.ref a.ZD) = some false
 ZR : W.subIn K (.ref a.ZA) (.ref a.ZA) = some true
 Zq : W.kitOne K (.ref a.ZA) (.ref a.ZA) = some true
 Zy : W.subIn K (.ref a.ZA) (.ref a.ZB) = some false
 Z1 : W.kitOne K (.ref a.ZA) (.ref a.ZB) = some false
 YN : W.subIn K (.ref a.ZB) (.ref a.ZC) = some false
 YM : W.kitOne K (.ref a.ZB) (.ref a.ZC) = some false
 YY : W.subIn K (.ref a.ZB) (.ref a.ZD) = some false
 Yb : W.kitOne K (.ref a.ZB) (.ref a.ZD) = some false
 Z3 : W.subIn K (.ref a.ZB) (.ref a.ZA) = some false
 Z4 : W.kitOne K (.ref a.ZB) (.ref a.ZA) = some false
 YK : W.subIn K (.ref a.ZB) (.ref a.ZB) = some true
 YG : W.kitOne K (.ref a.ZB) (.ref a.ZB) = some true
 ZCb : mg "TOP_LEVEL" = some (.int 40 a.ZCa)
 JI : mg "TIMES_END" = some (.int 1099511627776 a.ZCg)
 ZAU : mg "ValueError" = none
 ZB5 : mg "abs" = none
 ZB8 : mg "bool" = none
 ZBP : mg "divmod" = none
 ZCt : mg "int" = none
 Z6 : mg "isinstance" = none
 YT : mg "len" = none
 ZB9 : mg "list" = none
 ZAv : mg "max" = none
 ZBS : mg "min" = none
 Zp : mg "range" = none
 ZBf : mg "repr" = none
 YS : mg "sorted" = none
 Z2 : mg "tuple" = none
local macro_rules | `(tactic| walk_at "sd") => `(tactic| first
 | (show (0 : Int) < _; omega)
 | decide
 | exact ZX8 (by omega) (by omega)
 | exact ZX9 (by omega) (by omega)
 | exact ZH7.of (k := 250) (by omega) (by omega) (by decide)
 | exact Or.inr ⟨by omega, by omega⟩
 | exact Or.inl ⟨by omega, by omega⟩
 | exact ZMs (by omega) (by omega) (by decide))
local macro_rules | `(tactic| walk_at "hp") => `(tactic| first
 | assumption
 | exact ZEN
 | (rw [ZEV (by assumption)]; assumption)
 | (rw [ZEV (Ne.symm (by assumption))]; assumption)
 | (rw [ZEV (by assumption)]; rw [ZEV (by assumption)]; assumption))
local macro_rules | `(tactic| walk_at "rd") => `(tactic| first
 | with_reducible first | refine ZQU ?_ | refine ZQw ?_ | refine ZXL ?_ | refine ZSr ?_ | refine ZSq ?_ | refine ZXv ?_ | refine ZSy ?_ | refine ZSe ?_ | refine ZU8 ?_ | refine ZSk ?_ | refine ZPV ?_ | refine ZSl ?_ | refine ZSm ?_ | refine ZQp ?_ | refine ZQr ?_ | refine ZN7 ?_ | refine ZN8 ?_ | refine ZXF ?_ | refine ZSf ?_ | refine ZSg ?_
 | ((with_reducible refine' ZXD ?e ?_); (case e => rfl))
 | with_reducible first | refine ZWj ?_ | refine ZUd ?_ | refine ZUe ?_ | refine ZWk ?_ | refine ZSN ?_ | refine ZUf ?_ | refine ZSO ?_ | refine ZUg ?_ | refine ZWl ?_ | refine ZUh ?_ | refine ZYB ?_ | refine ZWn ?_ | refine ZXm ?_ | refine ZWo ?_ | refine ZUi ?_ | refine ZUj ?_ | refine ZXn ?_
 | ((with_reducible refine' ZWp ?e ?_); (case e => rfl))
 | with_reducible first | refine ZYC ?_ | refine ZXo ?_ | refine ZXp ?_ | refine ZXq ?_
 | ((with_reducible refine ZMt (C := ZRu) ?c ?_); (case c => exact ZMs (by decide) (by decide) (by decide)); (simp only [Int.reduceToNat, Int.reducePow]))
 | ((with_reducible refine ZMt ?c ?_); (case c => walk_at "sd"))
 | with_reducible first | refine ZYD ?_ | refine ZWq ?_ | refine ZXr ?_ | refine ZUk ?_ | refine ZUl ?_ | refine ZWr ?_ | refine ZWs ?_ | refine ZWt ?_ | refine ZSQ ?_ | refine ZUu ?_ | refine ZWm ?_ | refine ZWv ?_ | refine ZWw ?_ | refine ZWx ?_ | refine ZYE ?_ | refine ZXs ?_ | refine ZQW ?_ | refine ZUr ?_ | refine ZWy ?_ | refine ZUp ?_
 | ((with_reducible refine' ZUn ?s ?_); (case s => first | assumption | exact SqL.of (by assumption)))
 | ((with_reducible refine' ZUo ?s ?_); (case s => first | assumption | exact SqT.of (by assumption)))
 | with_reducible first | refine ZWu ?_ | refine ZUm ?_ | refine ZUs ?_ | refine ZXt ?_ | refine ZUt ?_ | refine ZSR ?_
 | ((with_reducible refine' ZW3 ?s ?_); (case s => first | assumption | exact SqT.of (by assumption)))
 | ((with_reducible refine' ZQX ?s ?_); (case s => first | assumption | exact SqL.of (by assumption)))
 | ((with_reducible refine' ZGH ?s ?e ?_); (case s => exact SqL.of (by assumption)); (case e => rfl))
 | ((with_reducible refine' ZMu ?s ?e ?_); (case s => first | assumption | exact SqT.of (by assumption)); (case e => rfl))
 | ((with_reducible refine' ZUq ?s ?e ?_); (case s => first | assumption | exact SqT.of (by assumption)); (case e => rfl)))
local macro_rules | `(tactic| walk_at "ri") => `(tactic| ((fail_if_success with_reducible refine ZQ5 ?_); walk_at "rd"))
local macro_rules | `(tactic| walk_at "rd") => `(tactic| first
 | with_reducible first | refine ZS2 ?_ | refine ZS3 ?_ | refine ZTD ?_ | refine ZRG ?_ | refine ZRI ?_ | refine ZOB ?_ | refine ZTE ?_)
theorem ZRK (K : W.Frag) : W.kitOne K (.type "int") (.type "int") = some true := by kernel_rfl
theorem ZPj (K : W.Frag) : W.kitOne K (.type "int") (.type "bool") = some false := by kernel_rfl
section
variable {P : Program} {w : World} {K : W.Frag} {mg : Str → Option Value} {base : Heap} {a : Ad}
def ZNi : Sp := fun vs H Q _ => ∃ (c : Addr) (x y : Int), vs = [.ref c] ∧ H c = some (.tup [.int x, .int y]) ∧ Q (.int y) H
theorem ZNj : ZEJ ["sample"] ["sample"] (ZEE ZIO) := ZEe
theorem ZF1 (T : Txt K mg a) : ZEM P w K mg base CX0 1 a.JP a.JS ["sample"] ZNi := by
 refine T.Zt.ok ZNj (by walk_at "l") (fun cdv A outer s H vs Q E hr h => ?_)
 ·obtain ⟨c, x, y, rfl, hc, q⟩ := h
  refine ⟨_, QB.h (ZED (ZES (ZEO (ZEY K rfl) (qv 0) ZEB))), ?_⟩
  walk_at "s"
  walk_at "w"
  exact q
def ZTH (K : W.Frag) : Sp := fun vs H Q _ => ∃ (v1 v2 : V) (o1 o2 : Option (PL)) (c1 c2 : PL), vs = [v1, v2] ∧ ZEq H v1 o1 ∧ Is4 c1 o1 ∧ ZEq H v2 o2 ∧ Is4 c2 o2 ∧ (∀ p ∈ c1, ∀ q ∈ c2, p.1 < q.1) ∧
 ∀ (v : V) (o : Option (PL)) (H' : Hp), ZEq H' v o → Is4 (c1 ++ c2) o → ZEI H H' → Q v H'
theorem ZL4 {H : Hp} {v : V} {c : PL} {qs : PL} (h : ZEq H v (some qs)) (g : Is4 c (some qs)) : ∃ (l : Addr) (q0 q1 q2 q3 : Int × Int) (a0 a1 a2 a3 : Addr), v = .ref l ∧ qs = [q0, q1, q2, q3] ∧ H l = some (.tup [.ref a0, .ref a1, .ref a2, .ref a3]) ∧
  H a0 = some (.tup [.int q0.1, .int q0.2]) ∧ H a1 = some (.tup [.int q1.1, .int q1.2]) ∧ H a2 = some (.tup [.int q2.1, .int q2.2]) ∧ H a3 = some (.tup [.int q3.1, .int q3.2]) := by
 cases h with
 | @pr l qs h hl =>
  obtain ⟨us, f, hP⟩ := h
  rcases g with ⟨e, _⟩ | ⟨q0, q1, q2, q3, e, _⟩
  ·cases e
  ·cases e
   cases hP with
   | cons h0 t => cases t with
    | cons h1 t => cases t with
     | cons h2 t => cases t with
      | cons h3 t =>
       cases t
       obtain ⟨a0, rfl, e0⟩ := h0
       obtain ⟨a1, rfl, e1⟩ := h1
       obtain ⟨a2, rfl, e2⟩ := h2
       obtain ⟨a3, rfl, e3⟩ := h3
       exact ⟨l, q0, q1, q2, q3, a0, a1, a2, a3, rfl, rfl, f, e0, e1, e2, e3⟩
theorem ZJn : ZEJ ["one", "other", "lowest", "highest"] ["one", "other"] (ZEE ZKh) := ZEe
theorem ZJo (T : Txt K mg a) : ZEM P w K mg base CX0 2 a.ZBE a.ZA7 ["one", "other"] (ZTH K) := by
 refine T.Jo.ok ZJn (by walk_at "l") (fun cdv A outer s H vs Q E hr h => ?_)
 ·obtain ⟨v1, v2, o1, o2, c1, c2, rfl, h1, g1, h2, g2, hlt, k⟩ := h
  refine ⟨_, QB.h (ZEC (ZEg (ZEQ (ZIa) (qv 0) ZFH (ZEW _)) (ZED (ZES (qv 1))) ZEd) (ZEC (ZEg (ZEQ (ZIa) (qv 1) ZFH (ZEW _)) (ZED (ZES (qv 0))) ZEd) (ZEC (qsS (i := 2) ZJn.nd (ZIt (ZEQ (ZHc) (qcS (ZF1 T) hr T.Za T.Zt.kp T.ZZ (ZD9 (ZEO (ZEY K rfl) (qv 0) ZEB) ZEA)) (qcS (ZF1 T) hr T.Za T.Zt.kp T.ZZ (ZD9 (ZEO (ZEY K rfl) (qv 1) ZEB) ZEA)) (ZEW _)) (ZEO (ZEY K rfl) (qv 0) ZEB) (ZEO (ZEY K rfl) (qv 1) ZEB))) (ZEC (qsS (i := 3) ZJn.nd (ZIt (ZEQ (ZTp) (qcS (ZF1 T) hr T.Za T.Zt.kp T.ZZ (ZD9 (ZEO (ZEY K rfl) (qv 0) ZEB) ZEA)) (qcS (ZF1 T) hr T.Za T.Zt.kp T.ZZ (ZD9 (ZEO (ZEY K rfl) (qv 1) ZEB) ZEA)) (ZEW _)) (ZEO (ZEY K rfl) (qv 0) ZEB) (ZEO (ZEY K rfl) (qv 1) ZEB))) (ZED (ZES (ZEb (ZD9 (ZEO (ZEY K rfl) (qv 0) ZEB) (ZD9 (ZEO (ZEY K rfl) (qv 1) ZEB) (ZD9 (qv 2) (ZD9 (qv 3) ZEA))))))))))), ?_⟩
  walk_at "s"
  walk_at "w"
  cases o1 with
  | none =>
   cases h1
   refine ZEp (fun _ => ?_) (fun h => absurd rfl h)
   walk_at "w"
   refine k v2 o2 H h2 ?_ (ZEI.refl H)
   rw [g1.of_none, List.nil_append]
   exact g2
  | some qs1 =>
   obtain ⟨l1, q0, q1, q2, q3, a0, a1, a2, a3, rfl, rfl, f1, e0, e1, e2, e3⟩ := ZL4 h1 g1
   refine ZEp (fun h => by cases h) (fun _ => ?_)
   walk_at "w"
   cases o2 with
   | none =>
    cases h2
    refine ZEp (fun _ => ?_) (fun h => absurd rfl h)
    walk_at "w"
    refine k (.ref l1) _ H h1 ?_ (ZEI.refl H)
    rw [g2.of_none, List.append_nil]
    exact g1
   | some qs2 =>
    obtain ⟨l2, r0, r1, r2, r3, b0, b1, b2, b3, rfl, rfl, f2, d0, d1, d2, d3⟩ := ZL4 h2 g2
    refine ZEp (fun h => by cases h) (fun _ => ?_)
    walk_at "w"
    refine ⟨a2, _, _, rfl, e2, ?_⟩
    walk_at "w"
    refine ⟨b2, _, _, rfl, d2, ?_⟩
    walk_at "w"
    have J := g1.join g2 hlt
    have fin : ∀ (x y : Addr) (p2 p3 : Int × Int), H x = some (.tup [.int p2.1, .int p2.2]) → H y = some (.tup [.int p3.1, .int p3.2]) → Is4 (c1 ++ c2) (some [q0, r1, p2, p3]) → ∀ l H', H l = none → H' l = some (.tup [.ref a0, .ref b1, .ref x, .ref y]) → ZEI H H' → Q (.ref l) H' := fun x y p2 p3 hx hy J l H' n' f' S' =>
     k (.ref l) _ H' (.pr ⟨_, f', .cons ⟨a0, rfl, S' _ _ e0⟩ (.cons ⟨b1, rfl, S' _ _ d1⟩ (.cons ⟨x, rfl, S' _ _ hx⟩ (.cons ⟨y, rfl, S' _ _ hy⟩ .nil)))⟩ rfl) J S'
    have part2 : ∀ (x : Addr) (p2 : Int × Int), True := fun _ _ => trivial
    refine ZEp (fun hl => ?_) (fun hl => ?_)
    ·walk_at "w"
     refine ⟨a3, _, _, rfl, e3, ?_⟩
     walk_at "w"
     refine ⟨b3, _, _, rfl, d3, ?_⟩
     walk_at "w"
     refine ZEp (fun hh => ?_) (fun hh => ?_)
     ·walk_at "w"
      rw [if_pos hl, if_pos hh] at J
      exact ZEK (by show 4 ≤ sizeLine; decide) fun l H' n' f' S' => fin _ _ _ _ e2 e3 J l H' n' f' S'
     ·walk_at "w"
      rw [if_pos hl, if_neg hh] at J
      exact ZEK (by show 4 ≤ sizeLine; decide) fun l H' n' f' S' => fin _ _ _ _ e2 d3 J l H' n' f' S'
    ·walk_at "w"
     refine ⟨a3, _, _, rfl, e3, ?_⟩
     walk_at "w"
     refine ⟨b3, _, _, rfl, d3, ?_⟩
     walk_at "w"
     refine ZEp (fun hh => ?_) (fun hh => ?_)
     ·walk_at "w"
      rw [if_neg hl, if_pos hh] at J
      exact ZEK (by show 4 ≤ sizeLine; decide) fun l H' n' f' S' => fin _ _ _ _ d2 e3 J l H' n' f' S'
     ·walk_at "w"
      rw [if_neg hl, if_neg hh] at J
      exact ZEK (by show 4 ≤ sizeLine; decide) fun l H' n' f' S' => fin _ _ _ _ d2 d3 J l H' n' f' S'
theorem ZVR {xs : List V} {v : V} (h : xs[xs.length - 1]? = some v) : atI xs (-1) = some v := by
 have hlt := (List.getElem?_eq_some_iff.mp h).1
 unfold atI ixN
 rw [if_neg (by decide), if_pos (by omega)]
 have : ((-1 : Int) + (xs.length : Int)).toNat = xs.length - 1 := by omega
 rw [this]
 exact h
def ZTI (K : W.Frag) : Sp := fun vs H Q _ => ∃ (l : Addr) (cv : PL), vs = [.ref l] ∧ PrT H l cv ∧ Asc cv ∧
 ∀ (v : V) (o : Option (PL)) (H' : Hp), ZEq H' v o → Is4 cv o → ZEI H H' → Q v H'
theorem ZPk : ZEJ ["curve"] ["curve"] (ZEE ZJf) := ZEe
theorem ZPl (T : Txt K mg a) : ZEM P w K mg base CX0 3 a.ZAi a.ZAQ ["curve"] (ZTI K) := by
 refine T.ZBt.ok ZPk (by walk_at "l") (fun cdv A outer s H vs Q E hr h => ?_)
 ·obtain ⟨l, cv, rfl, ⟨us, gL, pL⟩, hasc, k⟩ := h
  have hul : us.length = cv.length := pL.length
  refine ⟨_, QB.h (ZEC (ZEg (ZEQ (ZE9) (ZEk (ZIf K rfl) rfl T.YT ZHQ (ZD9 (qv 0) ZEA)) ZEB (ZEW _)) (ZED (ZES ZFH)) ZEd) (ZED (ZES (ZEb (ZD9 (ZEO (ZEY K rfl) (qv 0) ZEB) (ZD9 (ZEO (ZEY K rfl) (qv 0) (ZIs ZHo ZEB)) (ZD9 (ZPR K rfl rfl (ZF1 T) hr rfl T.ZBS rfl T.Za T.ZZ (ZD9 (qv 0) ZEA)) (ZD9 (ZPT K rfl rfl (ZF1 T) hr rfl T.ZAv rfl T.Za T.ZZ (ZD9 (qv 0) ZEA)) ZEA)))))))), ?_⟩
  walk_at "s"
  walk_at "w"
  refine ZEp (fun h => ?_) (fun h => ?_)
  ·walk_at "w"
   have : cv = [] := List.length_eq_zero_iff.mp (by have h := V.int.inj h; omega)
   exact k _ none H .non (.inl ⟨rfl, this⟩) (ZEI.refl H)
  ·have hpos : 0 < us.length := by
    rcases Nat.eq_zero_or_pos us.length with z | z
    ·exact absurd (by rw [z]; rfl) h
    ·exact z
   have hne : us ≠ [] := List.length_pos_iff.mp hpos
   obtain ⟨c0, q0, ec0, hq0, hc0⟩ := pL.at (List.getElem?_eq_getElem hpos)
   obtain ⟨c1, q1, ec1, hq1, hc1⟩ := pL.at (List.getElem?_eq_getElem (show us.length - 1 < us.length by omega))
   have hx0 : us[0]? = some (.ref c0) := by rw [List.getElem?_eq_getElem hpos, ec0]
   have hx1 : us[us.length - 1]? = some (.ref c1) := by rw [List.getElem?_eq_getElem (show us.length - 1 < us.length by omega), ec1]
   have turn : ∀ i v, us[i]? = some v → ∀ Q : VK, Q (.int (cv.getD i (0, 0)).2) H → ZNi [v] H Q E0 := fun i v hv Q q => by
    obtain ⟨c, p, rfl, hp, hc⟩ := pL.at hv
    have e : cv.getD i (0, 0) = p := by simp [hp]
    rw [e] at q
    exact ⟨c, p.1, p.2, rfl, hc, q⟩
   walk_at "w"
   refine ZMu (SqT.of gL) (ZIY (j := 0) hx0) ?_
   walk_at "w"
   refine ZMu (SqT.of gL) (ZVR hx1) ?_
   walk_at "w"
   refine ZPS (fun i => (cv.getD i (0, 0)).2) (SqT.of gL) hne turn fun i2 v2 hv2 hb2 => ?_
   walk_at "w"
   refine ZPU (fun i => (cv.getD i (0, 0)).2) (SqT.of gL) hne turn fun i3 v3 hv3 hb3 => ?_
   obtain ⟨c2, q2, rfl, hq2, hc2⟩ := pL.at hv2
   obtain ⟨c3, q3, rfl, hq3, hc3⟩ := pL.at hv3
   walk_at "w"
   refine ZEK (by show 4 ≤ sizeLine; decide) fun c4 H4 n4 f4 S4 => ?_
   have hP4 : ZEP H4 [.ref c0, .ref c1, .ref c2, .ref c3] [q0, q1, q2, q3] := .cons ⟨c0, rfl, S4 _ _ hc0⟩ (.cons ⟨c1, rfl, S4 _ _ hc1⟩ (.cons ⟨c2, rfl, S4 _ _ hc2⟩ (.cons ⟨c3, rfl, S4 _ _ hc3⟩ .nil)))
   rw [hul] at hq1 hb2 hb3
   exact k _ (some [q0, q1, q2, q3]) H4 (.pr ⟨_, f4, hP4⟩ rfl) (Is4.minmax hasc hq0 hq1 hq2 hq3 hb2 hb3) S4
def InT (x : Int) : Prop := -1099511627776 ≤ x ∧ x ≤ 1099511627776
def ZVS : Sp := fun vs H Q _ => ∃ i : Int, vs = [.int i] ∧ Q (.bl true) H
theorem ZOC : ZEJ ["thing"] ["thing"] (ZEE ZI4) := ZEe
theorem ZIV (T : Txt K mg a) : ZEM P w K mg base CX0 1 a.Jv a.ZAC ["thing"] ZVS := by
 refine T.Yq.ok ZOC (by walk_at "l") (fun cdv A outer s H vs Q E hr h => ?_)
 ·obtain ⟨i, rfl, q⟩ := h
  refine ⟨_, QB.h (ZED (ZES (ZJX (ZEk (ZQZ K rfl) rfl T.Z6 ZJK (ZD9 (qv 0) (ZD9 (ZOb (v := .ty "int") rfl T.ZCt ZWc rfl) ZEA))) (ZJW (ZW5 (ZEk (ZQZ K rfl) rfl T.Z6 ZJK (ZD9 (qv 0) (ZD9 (ZOb (v := .ty "bool") rfl T.ZB8 ZUa rfl) ZEA)))))))), ?_⟩
  walk_at "s"
  walk_at "w"
  refine ZQV (.int i) (ZRK _) (ZWm (ZFD ?_))
  walk_at "w"
  refine ZQV (.int i) (ZPj _) ?_
  walk_at "w"
  exact q
def ZTJ : Sp := fun vs H Q _ => ∃ i : Int, vs = [.int i] ∧ ((InT i ∧ Q (.bl true) H) ∨ (¬ InT i ∧ Q (.bl false) H))
theorem ZNk : ZEJ ["thing"] ["thing"] (ZEE ZIP) := ZEe
theorem ZGV (T : Txt K mg a) : ZEM P w K mg base CX0 2 a.JO a.JJ ["thing"] ZTJ := by
 refine T.Zb.ok ZNk (by walk_at "l") (fun cdv A outer s H vs Q E hr h => ?_)
 ·obtain ⟨i, rfl, h⟩ := h
  refine ⟨_, QB.h (ZED (ZES (ZJX (qcS (ZIV T) hr T.Ju T.Yq.kp T.J9 (ZD9 (qv 0) ZEA)) (ZJW (ZSS ZHc ZHc (ZIs ZHo (ZJz (v := .int 1099511627776) rfl T.JI ⟨_, rfl⟩)) (qv 0) (ZJz (v := .int 1099511627776) rfl T.JI ⟨_, rfl⟩)))))), ?_⟩
  walk_at "s"
  walk_at "w"
  refine ⟨i, rfl, ?_⟩
  walk_at "w"
  refine ZFD ?_
  walk_at "w"
  unfold InT at h
  refine ZEp (fun h1 => ?_) (fun h1 => ?_)
  ·walk_at "w"
   rcases h with ⟨hi, q⟩ | ⟨hi, q⟩
   ·rw [decide_eq_true hi.2]
    exact q
   ·rw [decide_eq_false fun z => hi ⟨by omega, z⟩]
    exact q
  ·rcases h with ⟨hi, q⟩ | ⟨hi, q⟩
   ·exact absurd hi.1 (by omega)
   ·walk_at "w"
    exact q
def ZVT : Sp := fun vs H Q _ => ∃ b e : Int, vs = [.int b, .int e] ∧ InT b ∧ InT e ∧ Q .non H
theorem ZHy : ZEJ ["begin", "end"] ["begin", "end"] (ZEE ZGy) := ZEe
theorem ZHz (T : Txt K mg a) : ZEM P w K mg base CX0 3 a.Zd a.Zc ["begin", "end"] ZVT := by
 refine T.ZT.ok ZHy (by walk_at "l") (fun cdv A outer s H vs Q E hr h => ?_)
 ·obtain ⟨b, e, rfl, hb, he, q⟩ := h
  refine ⟨_, QB.h (ZED (ZEg (QW.pt (ZJ0 (ZGJ (ZFy (qcS (ZGV T) hr T.Zs T.Zb.kp T.Zr (ZD9 (qv 0) ZEA)))) (ZId (ZGJ (ZFy (qcS (ZGV T) hr T.Zs T.Zb.kp T.Zr (ZD9 (qv 1) ZEA))))))) (ZED ZGT) ZEd)), ?_⟩
  walk_at "s"
  walk_at "w"
  refine ⟨b, rfl, .inl ⟨hb, ?_⟩⟩
  walk_at "w"
  refine ZEw ?_
  walk_at "w"
  refine ⟨e, rfl, .inl ⟨he, ?_⟩⟩
  walk_at "w"
  refine ZEw ?_
  walk_at "w"
  exact q
def ZRL : Sp := fun vs H Q _ => ∃ x e : Int, vs = [.int x, .int e] ∧ InT x ∧ InT e ∧ x < e ∧
 ∀ (t : Addr) (L : Nat) (H' : Hp), H' t = some (.tup [.int L, .int (2 ^ L)]) → (2 : Int) ^ L ∣ x → x + 2 ^ L ≤ e → ((2 : Int) ^ (L + 1) ∣ x → x + 2 ^ (L + 1) ≤ e → False) → ZEI H H' → Q (.ref t) H'
theorem ZG2 : ZEJ ["first", "end", "level", "size"] ["first", "end"] (ZEE ZJg) := ZEe
theorem ZPm (T : Txt K mg a) : ZEM P w K mg base CX0 1 a.ZAX a.ZAo ["first", "end"] ZRL := by
 refine T.ZBx.ok ZG2 (by walk_at "l") (fun cdv A outer s H vs Q E hr h => ?_)
 ·obtain ⟨x, e, rfl, hx, he, hxe, k⟩ := h
  unfold InT at hx he
  refine ⟨_, QB.h (ZEC (qsS (i := 2) ZG2.nd ZEB) (ZEC (qsS (i := 3) ZG2.nd ZEB) (ZEC (ZMx PassesOwn.never (QW.pt (ZGg (ZEQ (ZE9) (ZEG ZHP (qv 0) (ZEG ZEr ZEB (qv 3))) ZEB (ZEW _)) (ZGN (ZEQ (ZHc) (ZEG ZE3 (qv 0) (ZEG ZEr ZEB (qv 3))) (qv 1) (ZEW _))))) (ZEC (ZND (i := 2) ZG2.nd rfl (by walk_at "o") ZOO ZEB) (ZED (ZND (i := 3) ZG2.nd rfl (by walk_at "o") ZUJ ZEB)))) (ZED (ZES (ZEb (ZD9 (qv 2) (ZD9 (qv 3) ZEA)))))))), ?_⟩
  walk_at "s"
  walk_at "w"
  refine ZNE (fun σ H' => H' = H ∧ ∃ L : Nat, ∃ z : Int, z = 2 ^ L ∧ σ = [some (.int x), some (.int e), some (.int L), some (.int z)] ∧ z ∣ x ∧ x + z ≤ e) (fun σ H' => match σ with | [_, _, some (.int l), some (.int z)] => (2199023255552 - z).toNat | _ => 0) ?_ ?_
  ·exact ⟨rfl, 0, 1, rfl, rfl, Int.one_dvd _, by omega⟩
  ·rintro σ H' ⟨rfl, L, z, hz, rfl, hd, hle⟩
   have hp : 0 < z := by rw [hz]; exact ZF0 L
   have hz2 : z ≤ 2199023255552 := by omega
   walk_at "w"
   rw [ZFm]
   refine ZEp (fun h1 => ?_) (fun h1 => ?_)
   ·walk_at "w"
    refine ZEp (fun h2 => ?_) (fun h2 => ?_)
    ·refine ZOd ?_
     walk_at "w"
     refine ⟨⟨rfl, L + 1, z * 2, ?_, ?_, ?_, by omega⟩, ?_⟩
     ·rw [hz, Int.pow_succ]
     ·show [some (V.int x), some (V.int e), some (V.int ((L : Int) + 1)), some (V.int (z * 2))] = _
      rfl
     ·rw [Int.mul_comm]; exact Int.dvd_of_emod_eq_zero h1
     ·show (2199023255552 - z * 2).toNat < (2199023255552 - z).toNat
      omega
    ·walk_at "w"
     refine ZEK (by show 2 ≤ sizeLine; decide) fun t H2 n2 f2 S2 => ?_
     subst hz
     refine k t L H2 f2 hd hle (fun _ h4 => h2 ?_) S2
     rw [ZI1]; exact h4
   ·refine ZEw ?_
    walk_at "w"
    refine ZEK (by show 2 ≤ sizeLine; decide) fun t H2 n2 f2 S2 => ?_
    subst hz
    refine k t L H2 f2 hd hle (fun h3 _ => h1 ?_) S2
    rw [ZI1]; exact Int.emod_eq_zero_of_dvd h3
def ZJp (b e : Int) : Int := if e > b then e else b
def ZOD : Sp := fun vs H Q _ => ∃ b e : Int, vs = [.int b, .int e] ∧ InT b ∧ InT e ∧
 ∀ (t : Addr) (prs : PL) (H' : Hp), PrT H' t prs → Ch e b prs (ZJp b e) → prs.length ≤ 80 → ZEI H H' → Q (.ref t) H'
theorem ZF2 : ZEJ ["begin", "end", "found", "first", "level", "size"] ["begin", "end"] (ZEE ZIQ) := ZEe
theorem ZNl (T : Txt K mg a) : ZEM P w K mg base CX0 4 a.JH a.JL ["begin", "end"] ZOD := by
 refine T.ZAw.ok ZF2 (by walk_at "l") (fun cdv A outer s H vs Q E hr h => ?_)
 ·obtain ⟨b, e, rfl, hb, he, k⟩ := h
  refine ⟨_, QB.h (ZEC (ZEX (qcS (ZHz T) hr T.Z9 T.ZT.kp T.YF (ZD9 (qv 0) (ZD9 (qv 1) ZEA)))) (ZEC (qsS (i := 2) ZF2.nd (ZFX ZEA)) (ZEC (qsS (i := 3) ZF2.nd (qv 0)) (ZEC (ZMx PassesOwn.never (ZEQ (ZJw) (qv 3) (qv 1) (ZEW _)) (ZEC (ZFT (qcS (ZPm T) hr.m T.ZC9 T.ZBx.kp T.ZC5 (ZD9 (qv 3) (ZD9 (qv 1) ZEA))) (ZFN (n := 2) K rfl rfl (ZEL (qgN (i := 4) ZF2.nd) (ZEL (qgN (i := 5) ZF2.nd) ZE7)))) (ZEC (ZEX (ZIv PySem.F.plainAttrs_list PySem.F.slot_list_append PySem.F.type_list_append ZF5 (qv 2) (ZD9 (ZEb (ZD9 (qv 4) (ZD9 (ZEG ZGS (qv 3) (qv 5)) ZEA))) ZEA))) (ZED (ZND (i := 3) ZF2.nd rfl (by walk_at "o") ZOO (qv 5)))))) (ZED (ZES (ZGa (ZHB K rfl) rfl T.Z2 ZG6 (ZD9 (qv 2) ZEA)))))))), ?_⟩
  walk_at "s"
  walk_at "w"
  refine ⟨b, e, rfl, hb, he, ?_⟩
  unfold InT at hb he
  walk_at "w"
  refine ZEK (by show 0 ≤ sizeLine; decide) fun l H1 n1 f1 S1 => ?_
  walk_at "w"
  have e40 : (2 : Int) ^ 40 = 1099511627776 := by decide
  refine ZNE (fun σ H' => ZEI H H' ∧ ∃ (x : Int) (prs : PL), (∃ v4 v5, σ = [some (.int b), some (.int e), some (.ref l), some (.int x), v4, v5]) ∧ PrL H' l prs ∧ Ch e b prs x ∧ Few e prs.length x ∧ x ≤ ZJp b e ∧ b ≤ x) (fun σ H' => match σ with | [_, _, _, some (.int x), _, _] => (e - x).toNat | _ => 0) ?_ ?_
  ·exact ⟨S1, b, [], ⟨_, _, rfl⟩, ⟨[], f1, .nil⟩, rfl, Few.start (by rw [e40]; omega), by unfold ZJp; split <;> omega, Int.le_refl _⟩
  ·rintro σ H' ⟨S', x, prs, ⟨v4, v5, rfl⟩, ⟨vs, f', hP⟩, hch, hfew, hmx, hbx⟩
   walk_at "w"
   refine ZEp (fun hxe => ?_) (fun hxe => ?_)
   ·refine ZOd ?_
    walk_at "w"
    refine ⟨x, e, rfl, ⟨by omega, by omega⟩, he, hxe, fun t L H2 f2 hd hle hmax S2 => ?_⟩
    have hL : L ≤ 40 := ZNT (by rw [e40]; omega) (by rw [e40]; omega) hd hle
    have hp := ZF0 L
    have hL2 := ZI0 hL
    rw [e40] at hL2
    have hfs := Few.step (by rw [e40]; omega) (by rw [e40]; omega) hfew hd hle hmax
    generalize hz : (2 : Int) ^ L = z at *
    walk_at "w"
    refine ⟨tyL (S2 _ _ f'), ?_⟩
    walk_at "w"
    refine ZEK (by show 2 ≤ sizeLine; decide) fun t3 H3 n3 f3 S3 => ?_
    have fl := S3 _ _ (S2 _ _ f')
    walk_at "w"
    refine ZF7 fl ?_ fun H4 f4 K4 => ?_
    ·rw [hP.length]
     exact Nat.lt_of_le_of_lt hfew.len (by decide)
    walk_at "w"
    have hxz : x / z * z = x := Int.ediv_mul_cancel hd
    refine ⟨⟨((S'.trans S2).trans S3).kpN n1 K4, x + z, prs ++ [((L : Int), x / z)], ⟨_, _, rfl⟩, ⟨_, f4, ?_⟩, ?_, ?_, ?_, by omega⟩, ?_⟩
    ·exact ZEP.kpL K4 fl ((hP.same (S2.trans S3)).snoc f3)
    ·have := Ch.snoc (p := ((L : Int), x / z)) hch ⟨by simp, by simp; omega⟩ (by rw [show ((L : Int), x / z).1.toNat = L from Int.toNat_natCast L, hz]; exact hxz) (by rw [show ((L : Int), x / z).1.toNat = L from Int.toNat_natCast L, hz]; exact hle) (by
      rw [show ((L : Int), x / z).1.toNat = L from Int.toNat_natCast L, hz]
      intro _ h5 h6
      have ez : (2 : Int) ^ (L + 1) = 2 * z := by rw [← ZI1, hz]
      refine hmax ?_ ?_
      ·rw [ez]; exact Int.dvd_of_emod_eq_zero h5
      ·rw [ez]; exact h6)
     rw [show ((L : Int), x / z).1.toNat = L from Int.toNat_natCast L, hz] at this
     exact this
    ·rw [List.length_append]; exact hfs
    ·unfold ZJp; split <;> omega
    ·show (e - (x + z)).toNat < (e - x).toNat
     omega
   ·walk_at "w"
    refine ZHm (SqL.of f') fun t H2 n2 f2 S2 => ?_
    have ex : x = ZJp b e := by
     unfold ZJp at hmx ⊢
     split <;> rename_i hh
     ·rw [if_pos hh] at hmx; omega
     ·rw [if_neg hh] at hmx; omega
    rw [ex] at hch
    exact k t prs H2 ⟨vs, f2, hP.same S2⟩ hch hfew.len (S'.trans S2)
def ZVU (K : W.Frag) : Sp := fun vs H Q _ => ∃ (p : Addr) (b y m k : Int), vs = [.ref p, .int k] ∧ H p = some (.tup [.int b, .int y, .int m]) ∧ 0 ≤ k ∧ k < m ∧ m ≤ 1000 ∧
 ∀ (u : Addr) (H' : Hp), H u = none → H' u = some (.tup [.int (b + k * y), .int (b + k * y + y)]) → ZEI H H' → Q (.ref u) H'
theorem ZGi : ZEJ ["window", "k", "begin", "wide", "many", "first"] ["window", "k"] (ZEE ZI5) := ZEe
theorem ZKG (T : Txt K mg a) : ZEM P w K mg base CX0 2 a.Jq a.Jr ["window", "k"] (ZVU K) := by
 refine T.Js.ok ZGi (by walk_at "l") (fun cdv A outer s H vs Q E hr h => ?_)
 ·obtain ⟨p, b, y, m, n, rfl, hT, h0, h1, h2, k⟩ := h
  refine ⟨_, QB.h (ZEC (ZFT (qv 0) (ZFN (n := 3) K rfl rfl (ZEL (qgN (i := 2) ZGi.nd) (ZEL (qgN (i := 3) ZGi.nd) (ZEL (qgN (i := 4) ZGi.nd) ZE7))))) (ZEC (ZEg (QW.pt (ZJ0 (ZGJ (ZFy (qcS (ZIV T) hr T.Ju T.Yq.kp T.J9 (ZD9 (qv 1) ZEA)))) (ZId (ZGJ (ZIu ZHc ZJw ZEB (qv 1) (qv 4)))))) (ZED ZGT) ZEd) (ZEC (qsS (i := 5) ZGi.nd (ZEG ZE3 (qv 2) (ZEG ZEr (qv 1) (qv 3)))) (ZED (ZES (ZEb (ZD9 (qv 5) (ZD9 (ZEG ZE3 (qv 5) (qv 3)) ZEA)))))))), ?_⟩
  walk_at "s"
  walk_at "w"
  refine ⟨n, rfl, ?_⟩
  walk_at "w"
  refine ZEw ?_
  walk_at "w"
  refine ZEp (fun _ => ?_) (fun h => absurd h0 h)
  walk_at "w"
  rw [decide_eq_true h1]
  refine ZEw ?_
  walk_at "w"
  exact ZEK (by show 2 ≤ sizeLine; decide) fun u H2 n2 f2 S2 => k u H2 n2 f2 S2
def ZHL (b y : Int) (n : Nat) : PL := (List.range n).map fun (i : Nat) => (b + (i : Int) * y, b + (i : Int) * y + y)
theorem ZHT (b y : Int) (n : Nat) : (ZHL b y n).length = n := by rw [ZHL, List.length_map, List.length_range]
theorem ZLL (b y : Int) (n : Nat) : ZHL b y (n + 1) = ZHL b y n ++ [(b + (n : Int) * y, b + (n : Int) * y + y)] := by rw [ZHL, List.range_succ, List.map_append]; rfl
theorem ZJE {b y : Int} {n i : Nat} {p : Int × Int} (h : (ZHL b y n)[i]? = some p) : p = (b + (i : Int) * y, b + (i : Int) * y + y) := by
 rw [ZHL, List.getElem?_map] at h
 obtain ⟨j, hj, rfl⟩ := Option.map_eq_some_iff.mp h
 rw [List.getElem?_range (by have := (List.getElem?_eq_some_iff.mp hj).1; rwa [List.length_range] at this)] at hj
 rw [← Option.some.inj hj]
def ZRM (K : W.Frag) : Sp := fun vs H Q _ => ∃ (p : Addr) (b y m : Int), vs = [.ref p] ∧ H p = some (.tup [.int b, .int y, .int m]) ∧ 1 ≤ m ∧ m ≤ 1000 ∧
 ∀ (l : Addr) (us : List V) (H' : Hp), H l = none → H' l = some (.lst us) → ZEP H' us (ZHL b y m.toNat) → ZEI H H' → Q (.ref l) H'
theorem ZMM : ZEJ ["window"] ["window"] (ZEE ZGx) := ZEe
theorem ZHY (T : Txt K mg a) : ZEM P w K mg base CX0 3 a.Yu a.Y4 ["window"] (ZRM K) := by
 refine T.Z5.ok ZMM (by walk_at "l") (fun cdv A outer s H vs Q E hr h => ?_)
 ·obtain ⟨p, b, y, m, rfl, hT, h1, h2, k⟩ := h
  refine ⟨_, QB.h (ZED (ZES (ZGb (N := ["window"]) (sc := ZEE ZGx) (own := ["k"]) (caps := ["window"]) (ks := [0]) rfl rfl rfl ⟨rfl, by decide +kernel, by decide +kernel, by decide +kernel, by decide +kernel, rfl, by decide +kernel⟩ (ZGs rfl T.Zp (ZD9 (ZEO (ZEY K rfl) (qv 0) ZEB) ZEA)) (fun _ _ _ _ _ => ZFo (i := 0) (show List.Nodup (α := Str) ["k", "window"] from by decide +kernel) rfl (by walk_at "o") (.inr rfl)) (fun _ _ _ _ _ => ZHA) (fun _ _ _ _ _ => qcS (ZKG T) hr T.ZBR T.Js.kp T.ZBh (ZD9 (qv 1) (ZD9 (qv 0) ZEA)))))), ?_⟩
  walk_at "s"
  walk_at "w"
  refine ZIb (by omega) (by omega) ?_
  intro l n1
  refine ZGZ m.toNat (fun i σ' H' => (∃ o, σ' = [o, some (.ref p)]) ∧ ZEI H H' ∧ ∃ vs, H' l = some (.lst vs) ∧ ZEP H' vs (ZHL b y i)) ?_ ?_ ?_
  ·exact ⟨⟨none, rfl⟩, ZEI.new n1, [], ZEN, .nil⟩
  ·rintro σ H2 ⟨_, S2, vs, f2, hP⟩
   refine ⟨Nat.le_refl _, ?_⟩
   walk_at "w"
   exact k l vs H2 n1 f2 hP S2
  ·rintro i σ H2 hi ⟨⟨o, rfl⟩, S2, vs, f2, hP⟩
   refine ⟨hi, ?_⟩
   rintro x H'' ⟨rfl, rfl⟩
   walk_at "w"
   refine ZFD ?_
   walk_at "w"
   refine ⟨p, b, y, m, _, rfl, S2 _ _ hT, by omega, by omega, by omega, fun u H3 n3 f3 S3 => ?_⟩
   have e0 : (0 + (i : Int)) = (i : Int) := by omega
   rw [e0] at f3
   refine ⟨vs, S3 _ _ f2, ?_, ⟨_, rfl⟩, (S2.trans S3).kpN n1 Kp.upd, vs ++ [.ref u], ZEN, ?_⟩
   ·rw [hP.length, ZHT]
    exact Nat.lt_of_lt_of_le hi (Nat.le_trans (show m.toNat ≤ 1000 by omega) (by decide))
   ·rw [ZLL]
    exact ZEP.kpL Kp.upd (S3 _ _ f2) ((hP.same S3).snoc (p := (b + (i : Int) * y, b + (i : Int) * y + y)) f3)
end
def tfl (n : Int) (d1 d2 : Addr) : List (Str × V) := [("looks", V.int n), ("samples", V.ref d1), ("kept_fours", V.ref d2)]
theorem sn1 : (("samples" : Str) == "looks") = false := by decide +kernel
theorem sn2 : (("kept_fours" : Str) == "looks") = false := by decide +kernel
theorem sn3 : (("kept_fours" : Str) == "samples") = false := by decide +kernel
theorem ZIE {n : Int} {d1 d2 : Addr} : (tfl n d1 d2).lookup ("looks" : Str) = some (.int n) := by
 unfold tfl
 rw [List.lookup_cons, beq_self_eq_true]
theorem ZHM {n : Int} {d1 d2 : Addr} : (tfl n d1 d2).lookup ("samples" : Str) = some (.ref d1) := by
 unfold tfl
 rw [List.lookup_cons, sn1, List.lookup_cons, beq_self_eq_true]
theorem ZKn {n : Int} {d1 d2 : Addr} : (tfl n d1 d2).lookup ("kept_fours" : Str) = some (.ref d2) := by
 unfold tfl
 rw [List.lookup_cons, sn2, List.lookup_cons, sn3, List.lookup_cons, beq_self_eq_true]
theorem ZH0 {n : Int} {d1 d2 : Addr} {m : Str} (h1 : (m == ("looks" : Str)) = false := by decide +kernel) (h2 : (m == ("samples" : Str)) = false := by decide +kernel) (h3 : (m == ("kept_fours" : Str)) = false := by decide +kernel) : (tfl n d1 d2).lookup m = none := by
 unfold tfl
 rw [List.lookup_cons, h1, List.lookup_cons, h2, List.lookup_cons, h3]
 rfl
theorem ZVV {n n' : Int} {d1 d2 : Addr} : ZEj "looks" (.int n') (tfl n d1 d2) = tfl n' d1 d2 := by
 show (if ("looks" : Str) = "looks" then [(("looks" : Str), V.int n')] ++ _ else _) = _
 rw [if_pos rfl]
 rfl
theorem ZVW {d1 d2 : Addr} : ZEj "kept_fours" (.ref d2) (ZEj "samples" (.ref d1) (ZEj "looks" (.int 0) [])) = tfl 0 d1 d2 := by
 have e1 : ¬ ("looks" : Str) = "samples" := by decide +kernel
 have e2 : ¬ ("looks" : Str) = "kept_fours" := by decide +kernel
 have e3 : ¬ ("samples" : Str) = "kept_fours" := by decide +kernel
 show ZEj "kept_fours" (.ref d2) (ZEj "samples" (.ref d1) [(("looks" : Str), V.int 0)]) = _
 rw [show ZEj "samples" (.ref d1) [(("looks" : Str), V.int 0)] = (if ("looks" : Str) = "samples" then [(("looks" : Str), V.ref d1)] else (("looks" : Str), V.int 0) :: ZEj "samples" (.ref d1) []) from rfl, if_neg e1]
 show (if ("looks" : Str) = "kept_fours" then _ else (("looks" : Str), V.int 0) :: (if ("samples" : Str) = "kept_fours" then _ else (("samples" : Str), V.ref d1) :: ZEj "kept_fours" (.ref d2) [])) = _
 rw [if_neg e2, if_neg e3]
 rfl
def ZEn (C : Addr) (H : Hp) (p : Addr) (n : Int) (d1 d2 : Addr) (sm : PL) (c : Nat) : Prop :=
 ∃ dx kvs, H p = some (.ins C dx (tfl n d1 d2)) ∧ H d1 = some (.dK (ZEf sm)) ∧ H d2 = some (.dT kvs) ∧ (sm.map (·.1)).Nodup ∧ ZFc H kvs sm (fun _ _ => True) ∧ kvs.length ≤ 41 * c
theorem ZEn.same {C : Addr} {H H' : Hp} {p d1 d2 : Addr} {n : Int} {sm : PL} {c : Nat} (h : ZEn C H p n d1 d2 sm c) (s : ZEI H H') : ZEn C H' p n d1 d2 sm c := by
 obtain ⟨dx, kvs, h1, h2, h3, h4, h5, h6⟩ := h
 exact ⟨dx, kvs, s _ _ h1, s _ _ h2, s _ _ h3, h4, h5.same s, h6⟩
def Fr3 (p d1 d2 : Addr) (H H' : Hp) : Prop := ∀ b o, H b = some o → b ≠ p → b ≠ d1 → b ≠ d2 → H' b = some o
section
variable {P : Program} {w : World} {K : W.Frag} {mg : Str → Option Value} {base : Heap} {a : Ad}
local macro_rules | `(tactic| walk_at "rd") => `(tactic| first
 | with_reducible first | refine ZEx (by assumption) (‹Txt _ _ _›).ZM (‹Txt _ _ _›).Zg ZIE ?_ | refine ZEx (by assumption) (‹Txt _ _ _›).ZM (‹Txt _ _ _›).ZW ZHM ?_ | refine ZEx (by assumption) (‹Txt _ _ _›).ZM (‹Txt _ _ _›).ZV ZKn ?_)
def Tm (t : Int) : Prop := -1099511627776 ≤ t ∧ t < 1099511627776
def ZTK : Sp := fun vs H Q _ => ∃ t : Int, vs = [.int t] ∧ Tm t ∧ Q .non H
theorem ZMN : ZEJ ["t"] ["t"] (ZEE ZHs) := ZEe
theorem ZJO (T : Txt K mg a) : ZEM P w K mg base CX0 3 a.Y7 a.Y2 ["t"] ZTK := by
 refine T.Yt.ok ZMN (by walk_at "l") (fun cdv A outer s H vs Q E hr h => ?_)
 ·obtain ⟨t, rfl, ht, q⟩ := h
  unfold Tm at ht
  refine ⟨_, QB.h (ZED (ZEg (QW.pt (ZJ0 (ZGJ (ZFy (qcS (ZGV T) hr T.Zs T.Zb.kp T.Zr (ZD9 (qv 0) ZEA)))) (ZId (ZEQ (ZE9) (qv 0) (ZJz (v := .int 1099511627776) rfl T.JI ⟨_, rfl⟩) (ZEW _))))) (ZED ZGT) ZEd)), ?_⟩
  walk_at "s"
  walk_at "w"
  refine ⟨t, rfl, .inl ⟨⟨by omega, by omega⟩, ?_⟩⟩
  walk_at "w"
  refine ZEw ?_
  walk_at "w"
  rw [ZFm]
  refine ZEp (fun h => ?_) (fun h => ?_)
  ·exfalso
   omega
  ·walk_at "w"
   exact q
def ZVX (C : Addr) : Sp := fun vs H Q _ => ∃ (p d1 d2 dx : Addr) (n t : Int) (v : V) (o : Option (PL)) (sm : PL) (kvs : List (List Key × V)) (c : Nat), vs = [.ref p, .int t, v] ∧ H p = some (.ins C dx (tfl n d1 d2)) ∧ H d1 = some (.dK (ZEf sm)) ∧ H d2 = some (.dT kvs) ∧ (sm.map (·.1)).Nodup ∧
 ZFc H kvs sm (fun l s => s ≠ t / 2 ^ l) ∧ kvs.length ≤ 41 * c ∧ c ≤ 1000 ∧ ZEq H v o ∧ Is4 (inS sm 0 t) o ∧ ∀ H', ZEn C H' p n d1 d2 sm (c + 1) → Kp d2 H H' → Q .non H'
theorem ZGL : ZEJ ["self", "t", "four", "s", "level", "halves"] ["self", "t", "four"] (ZEE ZHt) := ZEe
theorem ZJP (T : Txt K mg a) : ZEM P w K mg base CX0 3 a.Y1 a.Yx ["self", "t", "four"] (ZVX a.ZF) := by
 refine T.ZCE.ok ZGL (by walk_at "l") (fun cdv A outer s H vs Q E hr h => ?_)
 ·obtain ⟨p, d1, d2, dx, n, t, v, o, sm, kvs, c, rfl, hp, h1, h2, hnd, hkf, hlen, hc, hv, ho, k⟩ := h
  have hu := ZF9 hr
  have np2 : p ≠ d2 := fun z => by subst z; rw [hp] at h2; cases h2
  have n12 : d1 ≠ d2 := fun z => by subst z; rw [h1] at h2; cases h2
  refine ⟨_, QB.h (ZEC (ZGt hu (qv 2) (ZEh K rfl (qv 0)) (ZEb (ZD9 ZEB (ZD9 (qv 1) ZEA)))) (ZEC (qsS (i := 3) ZGL.nd (qv 1)) (ZED (ZGK PassesOwn.never rfl (ZGs rfl T.Zp (ZD9 (ZJz (v := .int 40) rfl T.ZCb ⟨_, rfl⟩) ZEA)) (qgN (i := 4) ZGL.nd) (ZEC (qsS (i := 3) ZGL.nd (ZEG ZGS (qv 3) ZEB)) (ZEC (qsS (i := 5) ZGL.nd (ZEb (ZD9 (ZHr hu (ZEh K rfl (qv 0)) (ZEb (ZD9 (qv 4) (ZD9 (ZEG ZEr ZEB (qv 3)) ZEA)))) (ZD9 (ZHr hu (ZEh K rfl (qv 0)) (ZEb (ZD9 (qv 4) (ZD9 (ZEG ZE3 (ZEG ZEr ZEB (qv 3)) ZEB) ZEA)))) ZEA)))) (ZED (ZGt hu (qcS (ZJo T) hr T.ZBC T.Jo.kp T.ZBL (ZD9 (ZEO (ZEY K rfl) (qv 5) ZEB) (ZD9 (ZEO (ZEY K rfl) (qv 5) ZEB) ZEA))) (ZEh K rfl (qv 0)) (ZEb (ZD9 (ZEG ZE3 (qv 4) ZEB) (ZD9 (qv 3) ZEA))))))))))), ?_⟩
  walk_at "s"
  walk_at "w"
  refine ZEK (by show 2 ≤ sizeLine; decide) fun b3 H3 n3 f3 S3 => ?_
  walk_at "w"
  refine ZHq (k := kOf 0 t) (S3 _ _ h2) f3 (Nat.lt_of_le_of_lt (show kvs.length ≤ 41000 by omega) (by decide)) fun H4 f4 K4 => ?_
  have K04 : Kp d2 H H4 := (Kp.same S3).trans K4
  have nt : ∀ (l : List (List Key × V)) (xs : List V), HO.dT l ≠ .tup xs := fun l xs z => by cases z
  have e0 : t / 2 ^ 0 = t := by simp
  have hk4 : ZFc H4 (ZFi kvs (kOf 0 t) v) sm (fun l s => s ≠ t / 2 ^ l ∨ l ≤ 0) := by
   have h := ((hkf.same S3).put (i := 0) (t := t) (hv.same S3) (by rw [e0]; exact ho)).kpX K4 (S3 _ _ h2) (nt _)
   rw [e0] at h
   refine h.mono fun l s hl g => ?_
   rcases g with g | g
   ·exact .inl g
   ·have : l = 0 := by omega
    subst this
    by_cases e : s = t / 2 ^ 0
    ·exact .inr ⟨rfl, e⟩
    ·exact .inl e
  have hl4 : (ZFi kvs (kOf 0 t) v).length ≤ 41 * c + 1 := Nat.le_trans (ZGO _ _ _) (by omega)
  walk_at "w"
  refine ZIb (by decide) (by decide) (ZJy (fun i σ H' => (∃ v4 v5, σ = [some (.ref p), some (.int t), some v, some (.int (t / 2 ^ i)), v4, v5]) ∧ Kp d2 H H' ∧ ∃ kvs', H' d2 = some (.dT kvs') ∧ ZFc H' kvs' sm (fun l s => s ≠ t / 2 ^ l ∨ l ≤ i) ∧ kvs'.length ≤ 41 * c + 1 + i) ?_ ?_ ?_)
  ·exact ⟨⟨none, none, by rw [e0]; rfl⟩, K04, _, f4, hk4, hl4⟩
  ·rintro i σ H5 hi ⟨⟨v4, v5, rfl⟩, K5, kv5, f5, hk5, hl5⟩
   have hi40 : i < 40 := hi
   have hp5 := K5 _ _ hp np2
   have ez : (0 + (i : Int)) = (i : Int) := by omega
   rw [ez]
   walk_at "w"
   generalize hs : t / 2 ^ i / 2 = s
   have hs1 : t / 2 ^ (i + 1) = s := by rw [ZNU, hs]
   refine ZJb f5 ?_
   walk_at "w"
   refine ZEK (by show 2 ≤ sizeLine; decide) fun b6 H6 n6 f6 S6 => ?_
   refine ZKa (k := kOf i (2 * s)) (S6 _ _ f5) f6 ?_
   have hp6 := S6 _ _ hp5
   have f56 := S6 _ _ f5
   walk_at "w"
   refine ZJb f56 ?_
   walk_at "w"
   refine ZEK (by show 2 ≤ sizeLine; decide) fun b7 H7 n7 f7 S7 => ?_
   refine ZKa (k := kOf i (2 * s + 1)) (S7 _ _ f56) f7 ?_
   have S57 := S6.trans S7
   walk_at "w"
   refine ZEK (by show 2 ≤ sizeLine; decide) fun b8 H8 n8 f8 S8 => ?_
   have S58 := S57.trans S8
   have hk8 := hk5.same S58
   obtain ⟨oa, ha1, ha2⟩ := hk8 i (2 * s) (by omega) (.inr (Nat.le_refl _))
   obtain ⟨ob, hb1, hb2⟩ := hk8 i (2 * s + 1) (by omega) (.inr (Nat.le_refl _))
   walk_at "w"
   refine ⟨_, _, oa, ob, _, _, rfl, ha1, ha2, hb1, hb2, ZXM (by omega), fun v9 o9 H9 h9 g9 S9 => ?_⟩
   have g9 : Is4 (inS sm (i + 1) s) o9 := g9.congr fun q => ZSu
   have S59 := S58.trans S9
   have hp9 := S59 _ _ hp5
   walk_at "w"
   refine ZEK (by show 2 ≤ sizeLine; decide) fun b10 H10 n10 f10 S10 => ?_
   have S510 := S59.trans S10
   have f510 := S510 _ _ f5
   refine ZHq (k := kOf (i + 1) s) f510 ?_ (Nat.lt_of_le_of_lt (show kv5.length ≤ 42000 by omega) (by decide)) fun H11 f11 K11 => ?_
   ·rw [f10]
    show some (HO.tup [V.int ((i : Int) + 1), V.int s]) = some (HO.tup [V.int ((i + 1 : Nat) : Int), V.int s])
    rw [show ((i + 1 : Nat) : Int) = (i : Int) + 1 by omega]
   walk_at "w"
   refine ⟨⟨some (.int i), some (.ref b8), by rw [hs1]; rfl⟩, (K5.then S510).trans K11, _, f11, ?_, Nat.le_trans (ZGO _ _ _) (by omega)⟩
   have h := ((hk5.same S510).put (i := i + 1) (t := t) (h9.same S10) (by rw [hs1]; exact g9)).kpX K11 f510 (nt _)
   rw [hs1] at h
   refine h.mono fun l s' hl g => ?_
   rcases g with g | g
   ·exact .inl (.inl g)
   ·by_cases e : l = i + 1
    ·by_cases e2 : s' = t / 2 ^ l
     ·exact .inr ⟨e, e2⟩
     ·exact .inl (.inl e2)
    ·exact .inl (.inr (by omega))
  ·rintro σ H5 ⟨⟨v4, v5, rfl⟩, K5, kv5, f5, hk5, hl5⟩
   walk_at "w"
   refine k H5 ⟨dx, kv5, K5 _ _ hp np2, K5 _ _ h1 n12, f5, hnd, hk5.mono fun l s hl _ => .inr hl, ?_⟩ K5
   have : kv5.length ≤ 41 * c + 1 + 40 := hl5
   omega
def ZXQ (C : Addr) : Sp := fun vs H Q _ => ∃ (p d1 d2 : Addr) (n t h : Int) (sm : PL) (c : Nat), vs = [.ref p, .int t, .int h] ∧ ZEn C H p n d1 d2 sm c ∧ Tm t ∧ c ≤ 1000 ∧ sm.length ≤ 1000 ∧
 ∀ H', ZEn C H' p n d1 d2 (ZFJ sm t h) (c + 1) → Fr3 p d1 d2 H H' → Q .non H'
theorem ZOE : ZEJ ["self", "t", "h"] ["self", "t", "h"] (ZEE ZI7) := ZEe
theorem ZKH (T : Txt K mg a) : ZEM P w K mg base CX0 4 a.Jh a.J5 ["self", "t", "h"] (ZXQ a.ZF) := by
 refine T.ZC0.ok ZOE (by walk_at "l") (fun cdv A outer s H vs Q E hr h => ?_)
 ·obtain ⟨p, d1, d2, n, t, x, sm, c, rfl, ⟨dx, kvs, hp, h1, h2, hnd, hkf, hlen⟩, ht, hc, hsl, k⟩ := h
  have hu := ZF9 hr
  have np1 : p ≠ d1 := fun z => by subst z; rw [hp] at h1; cases h1
  have n21 : d2 ≠ d1 := fun z => by subst z; rw [h1] at h2; cases h2
  refine ⟨_, QB.h (ZEC (ZEX (qcS (ZJO T) hr T.ZAk T.Yt.kp T.ZAl (ZD9 (qv 1) ZEA))) (ZEC (ZGt hu (qv 2) (ZEh K rfl (qv 0)) (qv 1)) (ZED (ZEX (ZEs (qv 0) T.ZM T.ZAn (ZJP T) hr T.ZAh .nil ZEz (ZD9 (qv 1) (ZD9 (qcS (ZPl T) hr T.ZDG T.ZBt.kp T.ZDB (ZD9 (ZEb (ZD9 (ZEb (ZD9 (qv 1) (ZD9 (qv 2) ZEA))) ZEA)) ZEA)) ZEA))))))), ?_⟩
  walk_at "s"
  walk_at "w"
  refine ⟨t, rfl, ht, ?_⟩
  walk_at "w"
  refine ZKV h1 (Nat.lt_of_le_of_lt hsl (by decide)) fun H3 f3 K3 => ?_
  have hp3 := K3 _ _ hp np1
  have h23 := K3 _ _ h2 n21
  have hk3 : ZFc H3 kvs (ZFJ sm t x) (fun l s => s ≠ t / 2 ^ l) := (ZFc.other hkf fun q hq => by
   rw [ZFV hnd]
   constructor
   ·exact fun z => .inl ⟨hq, z⟩
   ·rintro (z | z)
    ·exact z.2
    ·exact absurd (by rw [z]) hq).kpX K3 h1 (fun xs z => by cases z)
  walk_at "w"
  refine ZEa hp3 ZH0 ?_
  walk_at "w"
  refine ZEK (by show 2 ≤ sizeLine; decide) fun b4 H4 n4 f4 S4 => ?_
  walk_at "w"
  refine ZEK (by show 1 ≤ sizeLine; decide) fun b5 H5 n5 f5 S5 => ?_
  walk_at "w"
  refine ⟨b5, [(t, x)], rfl, ⟨_, f5, .cons ⟨b4, rfl, S5 _ _ f4⟩ .nil⟩, List.pairwise_singleton _ _, fun v6 o6 H6 h6 g6 S6 => ?_⟩
  have S36 := S4.trans (S5.trans S6)
  walk_at "w"
  refine ⟨p, d1, d2, dx, n, t, v6, o6, ZFJ sm t x, kvs, c, rfl, S36 _ _ hp3, S36 _ _ f3, S36 _ _ h23, ZGB hnd, hk3.same S36, hlen, hc, h6, g6.congr fun q => ?_, fun H7 hT7 K7 => ?_⟩
  ·rw [List.mem_singleton, ZGc, ZFV hnd]
   simp only [Int.pow_zero, Int.ediv_one]
   constructor
   ·rintro rfl
    exact ⟨.inr rfl, rfl⟩
   ·rintro ⟨h1 | h1, h2⟩
    ·exact absurd h2 h1.1
    ·exact h1
  ·walk_at "w"
   exact k H7 hT7 fun b o e e1 e2 e3 => K7 _ _ (S36 _ _ (K3 _ _ e e2)) e3
def ZVY (C : Addr) : Sp := fun vs H Q _ => ∃ (p dx : Addr) (x : V) (cv : PL), vs = [.ref p, x] ∧ H p = some (.ins C dx []) ∧ ((x = .non ∧ cv = []) ∨ ∃ t, x = .ref t ∧ PrT H t cv) ∧ (cv.map (·.1)).Nodup ∧ (∀ q ∈ cv, Tm q.1) ∧ cv.length ≤ 100 ∧
 ∀ (d1 d2 : Addr) (sm : PL) (H' : Hp), H d1 = none → H d2 = none → ZEn C H' p 0 d1 d2 sm cv.length → (∀ q, q ∈ sm ↔ q ∈ cv) → sm.length ≤ cv.length → Kp p H H' → Q .non H'
theorem ZGn : ZEJ ["self", "curve", "t", "h"] ["self", "curve"] (ZEE ZFC) := ZEe
theorem ZKo (T : Txt K mg a) : ZEM P w K mg base CX0 5 a.YE a.ZU ["self", "curve"] (ZVY a.ZF) := by
 refine T.ZBe.ok ZGn (by walk_at "l") (fun cdv A outer s H vs Q E hr h => ?_)
 ·obtain ⟨p, dx, x, cv, rfl, hp, hx, hnd, htm, hlen, k⟩ := h
  refine ⟨_, QB.h (ZEC (ZFq K rfl (qv 0) ZEB) (ZEC (ZFq K rfl (qv 0) ZM9) (ZEC (ZFq K rfl (qv 0) ZKb) (ZED (ZEg (ZEQ (ZLV) (qv 1) ZFH (ZEW _)) (ZED (ZGK PassesOwn.never rfl (ZMy K rfl (qv 1)) (ZFN (n := 2) K rfl rfl (ZEL (qgN (i := 2) ZGn.nd) (ZEL (qgN (i := 3) ZGn.nd) ZE7))) (ZED (ZEX (ZEs (qv 0) T.ZM T.ZBg (ZKH T) hr T.ZBV .nil ZEz (ZD9 (qv 2) (ZD9 (qv 3) ZEA))))))) ZEd))))), ?_⟩
  walk_at "s"
  walk_at "w"
  refine ZFa hp T.ZM T.Zg (by show 0 < 1000; decide) fun H1 f1 K1 => ?_
  walk_at "w"
  refine ZNC fun d1 H2 n2 f2 S2 => ?_
  have hp2 := S2 _ _ f1
  have nd1 : d1 ≠ p := fun z => by rw [z, f1] at n2; cases n2
  walk_at "w"
  refine ZFa hp2 T.ZM T.ZW (by show 1 < 1000; decide) fun H3 f3 K3 => ?_
  have f23 := K3 _ _ f2 nd1
  walk_at "w"
  refine ZKc fun d2 H4 n4 f4 S4 => ?_
  have hp4 := S4 _ _ f3
  have nd2 : d2 ≠ p := fun z => by rw [z, f3] at n4; cases n4
  walk_at "w"
  refine ZFa hp4 T.ZM T.ZV (by show 2 < 1000; decide) fun H5 f5 K5 => ?_
  have f5 : H5 p = some (.ins a.ZF dx (tfl 0 d1 d2)) := by rw [f5, ZVW]
  have K05 : Kp p H H5 := (((K1.then S2).trans K3).then S4).trans K5
  have f25 := K5 _ _ (S4 _ _ f23) nd1
  have f45 := K5 _ _ f4 nd2
  have hn1 : H d1 = none := by
   cases e : H d1 with
   | none => rfl
   | some o =>
    have := K1 _ _ e nd1
    rw [n2] at this
    cases this
  have hn2 : H d2 = none := by
   cases e : H d2 with
   | none => rfl
   | some o =>
    have := ((K1.then S2).trans K3) _ _ e nd2
    rw [n4] at this
    cases this
  have hT5 : ZEn a.ZF H5 p 0 d1 d2 [] 0 := ⟨dx, [], f5, f25, f45, List.nodup_nil, fun l s hl _ => ⟨none, .non, .inl ⟨rfl, rfl⟩⟩, Nat.le_refl _⟩
  walk_at "w"
  rcases hx with ⟨rfl, rfl⟩ | ⟨t, rfl, hT⟩
  ·refine ZMb (fun h => absurd rfl h) (fun _ => ?_)
   walk_at "w"
   exact k d1 d2 [] H5 hn1 hn2 hT5 (fun q => Iff.rfl) (Nat.le_refl _) K05
  ·refine ZMb (fun _ => ?_) (fun h => by cases h)
   obtain ⟨us, g, hP⟩ := hT
   have ntp : ∀ {b : Addr} {xs : List V}, H b = some (.tup xs) → b ≠ p := fun e z => by rw [z, hp] at e; cases e
   have g5 := K05 _ _ g (ntp g)
   walk_at "w"
   refine ZLW (xs := us) (fun i σ H' => (∃ v2 v3, σ = [some (.ref p), some (.ref t), v2, v3]) ∧ Kp p H H' ∧ ∃ sm, ZEn a.ZF H' p 0 d1 d2 sm i ∧ (∀ q, q ∈ sm ↔ q ∈ cv.take i) ∧ sm.length ≤ i) ?_ ?_ ?_ ?_
   ·exact ⟨⟨_, _, rfl⟩, K05, [], hT5, fun q => by rw [List.take_zero], Nat.le_refl _⟩
   ·rintro i σ H6 _ ⟨_, K6, _⟩
    exact SqT.of (K6 _ _ g (ntp g))
   ·rintro i x σ H6 hx ⟨⟨v2, v3, rfl⟩, K6, sm, hT6, hm6, hl6⟩
    obtain ⟨cc, q, rfl, hq, hc⟩ := hP.at hx
    have hc6 := K6 _ _ hc (ntp hc)
    obtain ⟨dx6, kv6, hp6, h16, h26, hnd6, hkf6, hlen6⟩ := id hT6
    have hi : i < cv.length := (List.getElem?_eq_some_iff.mp hq).1
    walk_at "w"
    refine ZEa hp6 ZH0 ?_
    walk_at "w"
    refine ⟨p, d1, d2, 0, q.1, q.2, sm, i, rfl, hT6, htm q (List.mem_of_getElem? hq), by omega, by omega, fun H7 hT7 Fr7 => ?_⟩
    walk_at "w"
    refine ⟨⟨_, _, rfl⟩, fun b o e nb => Fr7 _ _ (K6 _ _ e nb) nb (fun z => by rw [z, hn1] at e; cases e) (fun z => by rw [z, hn2] at e; cases e), ZFJ sm q.1 q.2, hT7, fun r => ?_, Nat.le_trans (ZKW _ _ _) (by omega)⟩
    rw [ZFV hnd6, List.take_succ, hq, List.mem_append, hm6]
    have hne : ∀ r ∈ cv.take i, r.1 ≠ q.1 := fun r hr e => by
     obtain ⟨j, hj, rfl⟩ := List.getElem_of_mem hr
     rw [List.length_take] at hj
     rw [List.getElem_take] at e
     obtain ⟨z2, y2⟩ := List.getElem?_eq_some_iff.mp hq
     have : (cv.map (·.1))[j]'(by rw [List.length_map]; omega) = (cv.map (·.1))[i]'(by rw [List.length_map]; omega) := by
      rw [List.getElem_map, List.getElem_map, y2]
      exact e
     have := (List.getElem_inj hnd).mp this
     omega
    constructor
    ·rintro (h | h)
     ·exact .inl h.2
     ·exact .inr (by rw [h]; exact List.mem_cons_self)
    ·rintro (h | h)
     ·exact .inl ⟨hne r h, h⟩
     ·exact .inr (by simpa using h)
   ·rintro σ H6 ⟨⟨v2, v3, rfl⟩, K6, sm, hT6, hm6, hl6⟩
    rw [hP.length] at hT6 hm6 hl6
    rw [List.take_length] at hm6
    walk_at "w"
    exact k d1 d2 sm H6 hn1 hn2 hT6 hm6 hl6 K6
end
theorem ZEn.kpX {C : Addr} {H H' : Hp} {p d1 d2 l : Addr} {n : Int} {sm : PL} {c : Nat} {xs : List V} (h : ZEn C H p n d1 d2 sm c) (k : Kp l H H') (hl : H l = some (.lst xs)) : ZEn C H' p n d1 d2 sm c := by
 obtain ⟨dx, kvs, h1, h2, h3, h4, h5, h6⟩ := h
 exact ⟨dx, kvs, k _ _ h1 (fun z => by rw [z, hl] at h1; cases h1), k _ _ h2 (fun z => by rw [z, hl] at h2; cases h2), k _ _ h3 (fun z => by rw [z, hl] at h3; cases h3), h4, h5.kpX k hl (fun _ z => by cases z), h6⟩
theorem ZXR {p d1 d2 : Addr} {H H' : Hp} (h : Kp p H H') : Fr3 p d1 d2 H H' := fun b o e e1 _ _ => h b o e e1
theorem ZEn.keepT {C : Addr} {H H' : Hp} {p d1 d2 : Addr} {n : Int} {sm : PL} {c : Nat} (g : ZEn C H p n d1 d2 sm c) (f : Fr3 p d1 d2 H H') {b : Addr} {xs : List V} (e : H b = some (.tup xs)) : H' b = some (.tup xs) := by
 obtain ⟨dy, kws, g1, g2, g3, _⟩ := g
 exact f _ _ e (fun z => by rw [z, g1] at e; cases e) (fun z => by rw [z, g2] at e; cases e) (fun z => by rw [z, g3] at e; cases e)
theorem ZEn.keepL {C : Addr} {H H' : Hp} {p d1 d2 : Addr} {n : Int} {sm : PL} {c : Nat} (g : ZEn C H p n d1 d2 sm c) (f : Fr3 p d1 d2 H H') {b : Addr} {xs : List V} (e : H b = some (.lst xs)) : H' b = some (.lst xs) := by
 obtain ⟨dy, kws, g1, g2, g3, _⟩ := g
 exact f _ _ e (fun z => by rw [z, g1] at e; cases e) (fun z => by rw [z, g2] at e; cases e) (fun z => by rw [z, g3] at e; cases e)
theorem ZEn.keepP {C : Addr} {H H' : Hp} {p d1 d2 : Addr} {n : Int} {sm : PL} {c : Nat} (g : ZEn C H p n d1 d2 sm c) (f : Fr3 p d1 d2 H H') {b : Addr} {cv : PL} (e : PrT H b cv) : PrT H' b cv := by
 obtain ⟨us, h1, h2⟩ := e
 exact ⟨us, g.keepT f h1, Paired.mapP h2 fun _ _ ⟨a, e, z⟩ => ⟨a, e, g.keepT f z⟩⟩
theorem ZEn.nd {C : Addr} {H : Hp} {p d1 d2 : Addr} {n : Int} {sm : PL} {c : Nat} (g : ZEn C H p n d1 d2 sm c) : (sm.map (·.1)).Nodup := by
 obtain ⟨dy, kws, g1, g2, g3, g4, _⟩ := g
 exact g4
section
variable {P : Program} {w : World} {K : W.Frag} {mg : Str → Option Value} {base : Heap} {a : Ad}
local macro_rules | `(tactic| walk_at "rd") => `(tactic| first
 | with_reducible first | refine ZEx (by assumption) (‹Txt _ _ _›).ZM (‹Txt _ _ _›).Zg ZIE ?_ | refine ZEx (by assumption) (‹Txt _ _ _›).ZM (‹Txt _ _ _›).ZW ZHM ?_ | refine ZEx (by assumption) (‹Txt _ _ _›).ZM (‹Txt _ _ _›).ZV ZKn ?_)
def ZVZ (C : Addr) : Sp := fun vs H Q _ => ∃ (p d1 d2 : Addr) (n b e : Int) (sm : PL) (c : Nat), vs = [.ref p, .int b, .int e] ∧ ZEn C H p n d1 d2 sm c ∧ InT b ∧ InT e ∧
 ∀ (v : V) (o : Option (PL)) (prs : PL) (H' : Hp), ZEq H' v o → Is4 (ZFB sm b e) o → Ch e b prs (ZJp b e) → ZEn C H' p (n + prs.length) d1 d2 sm c → Kp p H H' → Q v H'
theorem Ch.cut {e : Int} : ∀ {prs : PL} {x y : Int}, Ch e x prs y → ∀ {i : Nat} {q : Int × Int}, prs[i]? = some q → ∃ z, Ch e x (prs.take i) z ∧ (0 ≤ q.1 ∧ q.1 ≤ 40) ∧ q.2 * 2 ^ q.1.toNat = z ∧ Ch e x (prs.take (i + 1)) (z + 2 ^ q.1.toNat)
 | [], _, _, _, i, q, h => by simp at h
 | p :: r, x, y, hc, 0, q, h => by
  have : p = q := by simpa using h
  subst this
  obtain ⟨h1, h2, h3, h4, h5⟩ := hc
  exact ⟨x, rfl, h1, h2, h1, h2, h3, h4, rfl⟩
 | p :: r, x, y, hc, i + 1, q, h => by
  obtain ⟨h1, h2, h3, h4, h5⟩ := hc
  obtain ⟨z, g1, g2, g3, g4⟩ := Ch.cut h5 (i := i) (q := q) (by simpa using h)
  exact ⟨z, ⟨h1, h2, h3, h4, g1⟩, g2, g3, h1, h2, h3, h4, g4⟩
theorem Ch.fun {e : Int} : ∀ {prs : PL} {x y z : Int}, Ch e x prs y → Ch e x prs z → y = z
 | [], _, _, _, h, g => h.symm.trans g
 | p :: r, x, y, z, h, g => Ch.fun h.2.2.2.2 g.2.2.2.2
theorem ZGW : ZEJ ["self", "begin", "end", "four", "parts", "stretch"] ["self", "begin", "end"] (ZEE ZIS) := ZEe
theorem ZJq (T : Txt K mg a) : ZEM P w K mg base CX0 5 a.JQ a.JR ["self", "begin", "end"] (ZVZ a.ZF) := by
 refine T.ZCX.ok ZGW (by walk_at "l") (fun cdv A outer s H vs Q E hr h => ?_)
 ·obtain ⟨p, d1, d2, n, b, e, sm, c, rfl, hTr, hb, he, k⟩ := h
  have hu := ZF9 hr
  obtain ⟨dx, kvs, hp, h1, h2, hnd, hkf, hlen⟩ := id hTr
  refine ⟨_, QB.h (ZEC (qsS (i := 3) ZGW.nd ZFH) (ZEC (qsS (i := 4) ZGW.nd (qcS (ZNl T) hr T.ZCi T.ZAw.kp T.ZCc (ZD9 (qv 1) (ZD9 (qv 2) ZEA)))) (ZEC (ZGK PassesOwn.never rfl (ZMy K rfl (qv 4)) (qgN (i := 5) ZGW.nd) (ZED (qsS (i := 3) ZGW.nd (qcS (ZJo T) hr.m T.ZBC T.Jo.kp T.ZBL (ZD9 (qv 3) (ZD9 (ZHr hu (ZEh K rfl (qv 0)) (qv 5)) ZEA)))))) (ZEC (ZLz K rfl (qv 0) (ZEk (ZIf K rfl) rfl T.YT ZHQ (ZD9 (qv 4) ZEA))) (ZED (ZES (qv 3))))))), ?_⟩
  walk_at "s"
  walk_at "w"
  refine ⟨b, e, rfl, hb, he, fun t prs H1 hT1 hch hpl S1 => ?_⟩
  obtain ⟨us, g1, hP1⟩ := hT1
  have hp1 := S1 _ _ hp
  walk_at "w"
  refine ZLW (xs := us) (fun i σ H' => (∃ v v5, σ = [some (.ref p), some (.int b), some (.int e), some v, some (.ref t), v5] ∧ ∃ o z, ZEq H' v o ∧ Ch e b (prs.take i) z ∧ Is4 (ZFB sm b z) o) ∧ ZEI H1 H') ?_ ?_ ?_ ?_
  ·refine ⟨⟨_, _, rfl, none, b, .non, rfl, .inl ⟨rfl, ?_⟩⟩, ZEI.refl _⟩
   cases e0 : ZFB sm b b with
   | nil => rfl
   | cons q qs =>
    have := (ZE8.mp (show q ∈ ZFB sm b b by rw [e0]; exact List.mem_cons_self)).2
    omega
  ·rintro i σ H' _ ⟨_, S'⟩
   exact SqT.of (S' _ _ g1)
  ·rintro i x σ H2 hx ⟨⟨v, v5, rfl, o, z, hv, hz, ho⟩, S2⟩
   obtain ⟨cc, q, rfl, hq, hc⟩ := (hP1.same S2).at hx
   obtain ⟨z', hz', hq1, hq2, hz2⟩ := Ch.cut hch hq
   obtain rfl := Ch.fun hz hz'
   have S02 := S1.trans S2
   obtain ⟨l, hl⟩ : ∃ l : Nat, q.1 = (l : Int) := ⟨q.1.toNat, by omega⟩
   have hln : q.1.toNat = l := by omega
   rw [hln] at hq2 hz2
   have hp2 := S02 _ _ hp
   have h22 := S02 _ _ h2
   obtain ⟨o2, hf2, hi2⟩ := (hkf.same S02) l q.2 (by omega) trivial
   have e4 : inS sm l q.2 = ZFB sm z (z + 2 ^ l) := by unfold inS; rw [hq2]
   rw [e4] at hi2
   walk_at "w"
   refine ZJb h22 ?_
   walk_at "w"
   refine ZKa (k := kOf l q.2) h22 (by rw [hc, hl]; rfl) ?_
   refine ⟨v, _, o, o2, _, _, rfl, hv, ho, hf2, hi2, ZNV, fun v3 o3 H3 h3 g3 S3 => ?_⟩
   walk_at "w"
   refine ⟨⟨_, _, rfl, o3, z + 2 ^ l, h3, hz2, g3.congr fun r => ZLJ hz.le (by have := ZF0 l; omega) r⟩, S2.trans S3⟩
  ·rintro σ H2 ⟨⟨v, v5, rfl, o, z, hv, hz, ho⟩, S2⟩
   rw [hP1.length, List.take_length] at hz
   obtain rfl := Ch.fun hz hch
   have S02 := S1.trans S2
   have hp2 := S02 _ _ hp
   have g2 := S2 _ _ g1
   have hul : us.length = prs.length := hP1.length
   walk_at "w"
   refine ZLG hp2 T.ZM T.Zg ZIE ?_
   walk_at "w"
   refine ⟨n, _, rfl, rfl, dx, _, hp2, by show 3 < 1000; decide, ?_⟩
   rw [ZVV]
   have f3 : (upd H2 p (.ins a.ZF dx (tfl (n + (us.length : Int)) d1 d2))) p = some (.ins a.ZF dx (tfl (n + (us.length : Int)) d1 d2)) := ZEN
   have K3 : Kp p H2 (upd H2 p (.ins a.ZF dx (tfl (n + (us.length : Int)) d1 d2))) := Kp.upd
   generalize upd H2 p (.ins a.ZF dx (tfl (n + (us.length : Int)) d1 d2)) = H3 at f3 K3
   have ntp : ∀ (xs : List V), HO.ins a.ZF dx (tfl n d1 d2) ≠ .tup xs := fun xs z => by cases z
   walk_at "w"
   refine k v o prs H3 (hv.kpX K3 hp2 ntp) (ho.congr fun r => ?_) hch ⟨dx, kvs, by rw [← hul]; exact f3, K3 _ _ (S02 _ _ h1) (fun z => by rw [z, hp] at h1; cases h1), K3 _ _ (S02 _ _ h2) (fun z => by rw [z, hp] at h2; cases h2), hnd, (hkf.same S02).kpX K3 hp2 ntp, hlen⟩ ((Kp.same S02).trans K3)
   rw [ZE8, ZE8]
   unfold ZJp
   split
   ·exact Iff.rfl
   ·constructor
    ·rintro ⟨_, g1, g2⟩
     omega
    ·rintro ⟨_, g1, g2⟩
     omega
end
section
variable {P : Program} {w : World} {K : W.Frag} {mg : Str → Option Value} {base : Heap} {a : Ad}
local macro_rules | `(tactic| walk_at "rd") => `(tactic| first
 | with_reducible first | refine ZEx (by assumption) (‹Txt _ _ _›).ZM (‹Txt _ _ _›).Zg ZIE ?_ | refine ZEx (by assumption) (‹Txt _ _ _›).ZM (‹Txt _ _ _›).ZW ZHM ?_ | refine ZEx (by assumption) (‹Txt _ _ _›).ZM (‹Txt _ _ _›).ZV ZKn ?_)
def ZTL : Sp := fun vs H Q _ => ∃ (p : Addr) (b y m : Int), vs = [.ref p] ∧ H p = some (.tup [.int b, .int y, .int m]) ∧ 0 ≤ m ∧ m ≤ 1000 ∧ InT b ∧ InT (b + m * y) ∧ Q .non H
theorem ZFL : ZEJ ["window", "begin", "wide", "many"] ["window"] (ZEE ZHF) := ZEe
theorem ZG3 (T : Txt K mg a) : ZEM P w K mg base CX0 4 a.Zo a.Zh ["window"] ZTL := by
 refine T.ZP.ok ZFL (by walk_at "l") (fun cdv A outer s H vs Q E hr h => ?_)
 ·obtain ⟨p, b, y, m, rfl, hp, h0, h1, hb, he, q⟩ := h
  refine ⟨_, QB.h (ZEC (ZFT (qv 0) (ZFN (n := 3) K rfl rfl (ZEL (qgN (i := 1) ZFL.nd) (ZEL (qgN (i := 2) ZFL.nd) (ZEL (qgN (i := 3) ZFL.nd) ZE7))))) (ZED (ZEX (qcS (ZHz T) hr T.Z9 T.ZT.kp T.YF (ZD9 (qv 1) (ZD9 (ZEG ZE3 (qv 1) (ZEG ZEr (qv 3) (qv 2))) ZEA)))))), ?_⟩
  walk_at "s"
  walk_at "w"
  refine ⟨b, b + m * y, rfl, hb, he, ?_⟩
  walk_at "w"
  exact q
def ZFd (H : Hp) (q : Addr) (b y m : Int) : Prop := H q = some (.tup [.int b, .int y, .int m]) ∧ 0 < y ∧ 1 ≤ m ∧ m ≤ 100 ∧ InT b ∧ InT (b + m * y)
theorem ZFd.col {H : Hp} {q : Addr} {b y m : Int} (h : ZFd H q b y m) {k : Int} (h0 : 0 ≤ k) (h1 : k < m) : InT (b + k * y) ∧ InT (b + k * y + y) := by
 obtain ⟨_, hy, _, _, hb, he⟩ := h
 have g1 : 0 ≤ k * y := Int.mul_nonneg h0 (by omega)
 have g2 : (k + 1) * y ≤ m * y := Int.mul_le_mul_of_nonneg_right (by omega) (by omega)
 rw [Int.add_mul, Int.one_mul] at g2
 unfold InT at *
 constructor <;> constructor <;> omega
def ZTM (C : Addr) : Sp := fun vs H Q _ => ∃ (p q d1 d2 : Addr) (n b y m : Int) (sm : PL) (c : Nat), vs = [.ref p, .ref q] ∧ ZEn C H p n d1 d2 sm c ∧ ZFd H q b y m ∧
 ∀ (u : Addr) (us : List V) (fs : List (Option (PL))) (n' : Int) (H' : Hp), H' u = some (.tup us) → ZFA H' us fs → ZHS sm b y m.toNat fs → ZEn C H' p n' d1 d2 sm c → Kp p H H' → Q (.ref u) H'
theorem ZMO : ZEJ ["self", "window"] ["self", "window"] (ZEE ZGz) := ZEe
theorem ZVw (T : Txt K mg a) : ZEM P w K mg base CX0 6 a.Ys a.JA ["self", "window"] (ZTM a.ZF) := by
 refine T.ZCT.ok ZMO (by walk_at "l") (fun cdv A outer s H vs Q E hr h => ?_)
 ·obtain ⟨p, q, d1, d2, n, b, y, m, sm, c, rfl, hTr, hW, k⟩ := h
  obtain ⟨hq, hy, hm1, hm2, hb, he⟩ := id hW
  refine ⟨_, QB.h (ZEC (ZEX (qcS (ZG3 T) hr.m T.Zk T.ZP.kp T.Zl (ZD9 (qv 1) ZEA))) (ZED (ZES (ZGa (ZHB K rfl) rfl T.Z2 ZG6 (ZD9 (ZGb (N := ["self", "window"]) (sc := ZEE ZGz) (own := ["first", "behind"]) (caps := ["self"]) (ks := [0]) rfl rfl rfl ⟨rfl, by decide +kernel, by decide +kernel, by decide +kernel, by decide +kernel, rfl, by decide +kernel⟩ (ZFz K rfl (qcS (ZHY T) hr.m T.Y6 T.Z5.kp T.Yy (ZD9 (qv 1) ZEA))) (fun _ _ _ _ _ => ZFN (n := 2) K rfl rfl (ZEL (ZFo (i := 0) (show List.Nodup (α := Str) ["first", "behind", "self"] from by decide +kernel) rfl (by walk_at "o") (.inr rfl)) (ZEL (ZFo (i := 1) (show List.Nodup (α := Str) ["first", "behind", "self"] from by decide +kernel) rfl (by walk_at "o") (.inr rfl)) ZE7))) (fun _ _ _ _ _ => ZHA) (fun _ _ _ _ _ => ZEs (qv 2) T.ZM T.ZAx (ZJq T) hr T.ZA1 .nil ZEz (ZD9 (qv 0) (ZD9 (qv 1) ZEA)))) ZEA))))), ?_⟩
  walk_at "s"
  walk_at "w"
  refine ⟨q, b, y, m, rfl, hq, by omega, by omega, hb, he, ?_⟩
  walk_at "w"
  refine ⟨q, b, y, m, rfl, hq, hm1, by omega, fun l0 us0 H1 n1 f1 hP1 S1 => ?_⟩
  have hT1 := hTr.same S1
  have np1 : ∀ {b : Addr} {xs : List V}, H1 b = some (.tup xs) → b ≠ p := fun e z => by
   obtain ⟨dy, kws, g1, _⟩ := hT1
   rw [z, g1] at e; cases e
  have nl1 : l0 ≠ p := fun z => by
   obtain ⟨dy, kws, g1, _⟩ := hT1
   rw [z, g1] at f1; cases f1
  walk_at "w"
  intro l n2
  have nlp : l ≠ p := fun z => by
   obtain ⟨dy, kws, g1, _⟩ := hT1
   rw [z, g1] at n2; cases n2
  refine ZGZ m.toNat (fun i σ' H' => (∃ o1 o2, σ' = [o1, o2, some (.ref p)]) ∧ Kp p H1 H' ∧ (∃ n', ZEn a.ZF H' p n' d1 d2 sm c) ∧ ∃ vs fs, H' l = some (.lst vs) ∧ ZFA H' vs fs ∧ fs.length = i ∧ ∀ (k : Nat) o, fs[k]? = some o → Is4 (ZFB sm (b + (k : Int) * y) (b + (k : Int) * y + y)) o) ?_ ?_ ?_
  ·exact ⟨⟨none, none, rfl⟩, Kp.same (ZEI.new n2), ⟨n, hT1.same (ZEI.new n2)⟩, [], [], ZEN, .nil, rfl, fun k o h => by simp at h⟩
  ·rintro σ' H2 ⟨_, K2, ⟨n', hT2⟩, vs, fs, f2, hF2, hfl, hO2⟩
   refine ⟨⟨_, SqL.of (K2 _ _ f1 nl1), by rw [hP1.length, ZHT]; exact Nat.le_refl _⟩, ?_⟩
   walk_at "w"
   refine ZHm (SqL.of f2) fun u H3 n3 f3 S3 => ?_
   exact k u vs fs n' H3 f3 (hF2.same S3) ⟨hfl, hO2⟩ (hT2.same S3) (((Kp.same S1).trans K2).then S3)
  ·rintro i σ' H2 hi ⟨⟨o1, o2, rfl⟩, K2, ⟨n', hT2⟩, vs, fs, f2, hF2, hfl, hO2⟩
   have hi2 : i < us0.length := by rw [hP1.length, ZHT]; exact hi
   have f12 := K2 _ _ f1 nl1
   refine ⟨⟨_, _, SqL.of f12, List.getElem?_eq_getElem hi2⟩, ?_⟩
   rintro x H'' ⟨rfl, hx⟩
   have hx := hx _ (SqL.of f12)
   obtain ⟨u, pr, rfl, hpr, f3⟩ := hP1.at hx
   have hpr := ZJE hpr
   subst hpr
   have f32 := K2 _ _ f3 (np1 f3)
   obtain ⟨w1, w2⟩ := hW.col (k := (i : Int)) (by omega) (by omega)
   obtain ⟨dx, kvs, hp2, _⟩ := id hT2
   walk_at "w"
   refine ZFD ?_
   walk_at "w"
   refine ZEa hp2 ZH0 ?_
   walk_at "w"
   refine ⟨p, d1, d2, n', _, _, sm, c, rfl, hT2, w1, w2, fun v o3 prs H3 h3 g3 _ hT3 K3 => ?_⟩
   have fl3 := K3 _ _ f2 nlp
   have hF3 : ZFA H3 vs fs := hF2.mapP fun _ _ d => d.kpX K3 hp2 (fun _ z => by cases z)
   refine ⟨vs, fl3, ?_, ⟨_, _, rfl⟩, ?_, ⟨_, hT3.kpX Kp.upd fl3⟩, vs ++ [v], fs ++ [o3], ZEN, (hF3.snoc h3).mapP fun _ _ d => d.kpL Kp.upd fl3, by simp [hfl], ?_⟩
   ·rw [hF2.len, hfl]
    exact Nat.lt_of_lt_of_le (show i < 100 by omega) (by decide)
   ·intro b' o' e nb
    rw [ZEV (fun z => by rw [z, n2] at e; cases e)]
    exact (K2.trans K3) b' o' e nb
   ·intro k' o' h'
    rw [List.getElem?_append] at h'
    split at h'
    ·exact hO2 k' o' h'
    ·have : k' = i := by
      have := (List.getElem?_eq_some_iff.mp h').1
      simp at this
      omega
     subst this
     rw [hfl, Nat.sub_self] at h'
     have : o3 = o' := by simpa using h'
     subst this
     exact g3
end
def sfl (tr dd dn wt : Addr) : List (Str × V) := [("tree", V.ref tr), ("deeds", V.ref dd), ("done", V.ref dn), ("watches", V.ref wt)]
section
variable {tr dd dn wt : Addr}
theorem sg1 : (("deeds" : Str) == "tree") = false := by decide +kernel
theorem sg2 : (("done" : Str) == "tree") = false := by decide +kernel
theorem sg3 : (("done" : Str) == "deeds") = false := by decide +kernel
theorem sg4 : (("watches" : Str) == "tree") = false := by decide +kernel
theorem sg5 : (("watches" : Str) == "deeds") = false := by decide +kernel
theorem sg6 : (("watches" : Str) == "done") = false := by decide +kernel
theorem ZTN : (sfl tr dd dn wt).lookup ("tree" : Str) = some (.ref tr) := by
 unfold sfl
 rw [List.lookup_cons, beq_self_eq_true]
theorem ZRN : (sfl tr dd dn wt).lookup ("deeds" : Str) = some (.ref dd) := by
 unfold sfl
 rw [List.lookup_cons, sg1, List.lookup_cons, beq_self_eq_true]
theorem ZTO : (sfl tr dd dn wt).lookup ("done" : Str) = some (.ref dn) := by
 unfold sfl
 rw [List.lookup_cons, sg2, List.lookup_cons, sg3, List.lookup_cons, beq_self_eq_true]
theorem ZOF : (sfl tr dd dn wt).lookup ("watches" : Str) = some (.ref wt) := by
 unfold sfl
 rw [List.lookup_cons, sg4, List.lookup_cons, sg5, List.lookup_cons, sg6, List.lookup_cons, beq_self_eq_true]
theorem ZGj {m : Str} (h1 : (m == ("tree" : Str)) = false := by decide +kernel) (h2 : (m == ("deeds" : Str)) = false := by decide +kernel) (h3 : (m == ("done" : Str)) = false := by decide +kernel) (h4 : (m == ("watches" : Str)) = false := by decide +kernel) : (sfl tr dd dn wt).lookup m = none := by
 unfold sfl
 rw [List.lookup_cons, h1, List.lookup_cons, h2, List.lookup_cons, h3, List.lookup_cons, h4]
 rfl
theorem ZVa : ZEj "watches" (.ref wt) (ZEj "done" (.ref dn) (ZEj "deeds" (.ref dd) (ZEj "tree" (.ref tr) []))) = sfl tr dd dn wt := by
 have e1 : ¬ ("tree" : Str) = "deeds" := by decide +kernel
 have e2 : ¬ ("tree" : Str) = "done" := by decide +kernel
 have e3 : ¬ ("deeds" : Str) = "done" := by decide +kernel
 have e4 : ¬ ("tree" : Str) = "watches" := by decide +kernel
 have e5 : ¬ ("deeds" : Str) = "watches" := by decide +kernel
 have e6 : ¬ ("done" : Str) = "watches" := by decide +kernel
 show ZEj "watches" (.ref wt) (ZEj "done" (.ref dn) (ZEj "deeds" (.ref dd) [(("tree" : Str), V.ref tr)])) = _
 rw [show ZEj "deeds" (.ref dd) [(("tree" : Str), V.ref tr)] = (if ("tree" : Str) = "deeds" then _ else (("tree" : Str), V.ref tr) :: ZEj "deeds" (.ref dd) []) from rfl, if_neg e1]
 rw [show ZEj "done" (.ref dn) ((("tree" : Str), V.ref tr) :: ZEj "deeds" (.ref dd) []) = (if ("tree" : Str) = "done" then _ else (("tree" : Str), V.ref tr) :: (if ("deeds" : Str) = "done" then _ else (("deeds" : Str), V.ref dd) :: ZEj "done" (.ref dn) [])) from rfl, if_neg e2, if_neg e3]
 show (if ("tree" : Str) = "watches" then _ else (("tree" : Str), V.ref tr) :: (if ("deeds" : Str) = "watches" then _ else (("deeds" : Str), V.ref dd) :: (if ("done" : Str) = "watches" then _ else (("done" : Str), V.ref dn) :: ZEj "watches" (.ref wt) []))) = _
 rw [if_neg e4, if_neg e5, if_neg e6]
 rfl
theorem ZXS {n : Int} {d1 d2 : Addr} : sfl tr dd dn wt ≠ tfl n d1 d2 := fun h => by
 have := congrArg List.length h
 simp [sfl, tfl] at this
end
structure SA where
 p : Addr
 tr : Addr
 d1 : Addr
 d2 : Addr
 dd : Addr
 dn : Addr
 wt : Addr
def SA.ls (S : SA) : List Addr := [S.dd, S.dn, S.wt]
def SA.own (S : SA) : List Addr := [S.tr, S.d1, S.d2, S.dd, S.dn, S.wt]
def ZHI : Option Int → V
 | none => .non
 | some i => .int i
theorem ZNm (o : Option Int) : (o.map V.int).getD .non = ZHI o := by cases o <;> rfl
def ZEt (H : Hp) (vs : List V) (ds : List (Int × Option Int)) : Prop := Paired (fun v (q : Int × Option Int) => ∃ b, v = .ref b ∧ H b = some (.tup [.int q.1, ZHI q.2])) vs ds
theorem ZEt.tups {H H' : Hp} {vs : List V} {ds : List (Int × Option Int)} (h : ZEt H vs ds) (t : ∀ b xs, H b = some (.tup xs) → H' b = some (.tup xs)) : ZEt H' vs ds := Paired.mapP h fun _ _ ⟨b, e, z⟩ => ⟨b, e, t _ _ z⟩
theorem ZEt.snoc {H : Hp} : ∀ {vs : List V} {ds : List (Int × Option Int)}, ZEt H vs ds → ∀ {b : Addr} {q : Int × Option Int}, H b = some (.tup [.int q.1, ZHI q.2]) → ZEt H (vs ++ [.ref b]) (ds ++ [q])
 | _, _, .nil, _, _, e => .cons ⟨_, rfl, e⟩ .nil
 | _, _, .cons h t, _, _, e => .cons h (ZEt.snoc t e)
theorem ZEt.unsnoc {H : Hp} {q : Int × Option Int} : ∀ {ds : List (Int × Option Int)} {vs : List V}, ZEt H vs (ds ++ [q]) → ∃ us b, vs = us ++ [.ref b] ∧ ZEt H us ds ∧ H b = some (.tup [.int q.1, ZHI q.2])
 | [], _, h => by
  cases h with
  | cons h t =>
   cases t
   obtain ⟨b, rfl, e⟩ := h
   exact ⟨[], b, rfl, .nil, e⟩
 | d :: ds, _, h => by
  cases h with
  | cons h t =>
   obtain ⟨us, b, e1, e2, e3⟩ := ZEt.unsnoc t
   subst e1
   exact ⟨_ :: us, b, rfl, .cons h e2, e3⟩
theorem ZEt.nil_of {H : Hp} {vs : List V} (h : ZEt H vs []) : vs = [] := by cases h; rfl
theorem ZEt.len {H : Hp} {vs : List V} {ds : List (Int × Option Int)} (h : ZEt H vs ds) : vs.length = ds.length := Paired.length h
def ZEF (a : Ad) (H : Hp) (S : SA) (n : Int) (sm : PL) (c : Nat) (ds : List (Int × Option Int)) (ts : List Int) (ws : List V) : Prop :=
 ∃ dx vs, H S.p = some (.ins a.ZE dx (sfl S.tr S.dd S.dn S.wt)) ∧ ZEn a.ZF H S.tr n S.d1 S.d2 sm c ∧ H S.dd = some (.lst vs) ∧ ZEt H vs ds ∧ H S.dn = some (.lst (ts.map V.int)) ∧ H S.wt = some (.lst ws) ∧ S.dd ≠ S.dn ∧ S.dd ≠ S.wt ∧ S.dn ≠ S.wt
def FrS (S : SA) (H H' : Hp) : Prop := ∀ b o, H b = some o → b ∉ S.own → H' b = some o
theorem FrS.trans {S : SA} {H H1 H2 : Hp} (h : FrS S H H1) (g : FrS S H1 H2) : FrS S H H2 := fun b o e n => g b o (h b o e n) n
theorem FrS.same {S : SA} {H H' : Hp} (h : ZEI H H') : FrS S H H' := fun b o e _ => h b o e
theorem FrS.kp {S : SA} {H H' : Hp} {q : Addr} (h : Kp q H H') (m : q ∈ S.own) : FrS S H H' := fun b o e n => h b o e fun z => n (z ▸ m)
theorem FrS.fr3 {S : SA} {H H' : Hp} (h : Fr3 S.tr S.d1 S.d2 H H') : FrS S H H' := fun b o e n => h b o e (fun z => n (by simp [SA.own, z])) (fun z => n (by simp [SA.own, z])) (fun z => n (by simp [SA.own, z]))
section
variable {a : Ad} {H H' : Hp} {S : SA} {n : Int} {sm : PL} {c : Nat} {ds : List (Int × Option Int)} {ts : List Int} {ws : List V}
theorem ZEF.tree (h : ZEF a H S n sm c ds ts ws) : ZEn a.ZF H S.tr n S.d1 S.d2 sm c := let ⟨_, _, _, h, _⟩ := h; h
theorem ZEF.nd (h : ZEF a H S n sm c ds ts ws) : (sm.map (·.1)).Nodup := h.tree.nd
theorem ZEF.same (h : ZEF a H S n sm c ds ts ws) (s : ZEI H H') : ZEF a H' S n sm c ds ts ws := by
 obtain ⟨dx, vs, h1, h2, h3, h4, h5, h6, h7⟩ := h
 exact ⟨dx, vs, s _ _ h1, h2.same s, s _ _ h3, h4.tups fun b xs e => s _ _ e, s _ _ h5, s _ _ h6, h7⟩
theorem ZEF.nown (h : ZEF a H S n sm c ds ts ws) {b : Addr} {o : HO} (e : H b = some o) (h1 : ∀ C dx fs, o ≠ .ins C dx fs) (h2 : (∃ m, o = .dK m) → b ≠ S.d1) (h3 : ∀ m, o ≠ .dT m) (h4 : (∃ m, o = .lst m) → b ∉ S.ls) : b ∉ S.own := by
 obtain ⟨dx, vs, g1, ⟨dy, kvs, t1, t2, t3, _⟩, g3, g4, g5, g6, _⟩ := h
 intro z
 simp only [SA.own, List.mem_cons, List.not_mem_nil, or_false] at z
 rcases z with z | z | z | z | z | z
 ·rw [z, t1] at e; exact h1 _ _ _ (Option.some.inj e).symm
 ·exact h2 ⟨_, (by rw [z, t2] at e; exact (Option.some.inj e).symm)⟩ z
 ·rw [z, t3] at e; exact h3 _ (Option.some.inj e).symm
 ·exact h4 ⟨_, (by rw [z, g3] at e; exact (Option.some.inj e).symm)⟩ (by simp [SA.ls, z])
 ·exact h4 ⟨_, (by rw [z, g5] at e; exact (Option.some.inj e).symm)⟩ (by simp [SA.ls, z])
 ·exact h4 ⟨_, (by rw [z, g6] at e; exact (Option.some.inj e).symm)⟩ (by simp [SA.ls, z])
theorem ZEF.keepT (h : ZEF a H S n sm c ds ts ws) (f : FrS S H H') {b : Addr} {xs : List V} (e : H b = some (.tup xs)) : H' b = some (.tup xs) :=
 f _ _ e (h.nown e (fun _ _ _ z => by cases z) (fun ⟨_, z⟩ => by cases z) (fun _ z => by cases z) (fun ⟨_, z⟩ => by cases z))
theorem ZEF.keepL (h : ZEF a H S n sm c ds ts ws) (f : FrS S H H') {b : Addr} {xs : List V} (e : H b = some (.lst xs)) (nb : b ∉ S.ls) : H' b = some (.lst xs) :=
 f _ _ e (h.nown e (fun _ _ _ z => by cases z) (fun ⟨_, z⟩ => by cases z) (fun _ z => by cases z) fun _ => nb)
theorem ZEF.keepD (h : ZEF a H S n sm c ds ts ws) (f : FrS S H H') {b : Addr} {m : List (Key × V)} (e : H b = some (.dK m)) (nb : b ≠ S.d1) : H' b = some (.dK m) :=
 f _ _ e (h.nown e (fun _ _ _ z => by cases z) (fun _ => nb) (fun _ z => by cases z) (fun ⟨_, z⟩ => by cases z))
theorem ZEF.keepPot (h : ZEF a H S n sm c ds ts ws) (f : FrS S H H') {q : Addr} (e : Pot H q) (nb : q ∉ S.ls) : Pot H' q := by
 obtain ⟨u, v, e, z⟩ := e
 exact ⟨u, v, h.keepL f e nb, z⟩
theorem ZEF.kpL (h : ZEF a H S n sm c ds ts ws) {q : Addr} {xs : List V} (k : Kp q H H') (hq : H q = some (.lst xs)) (nq : q ∉ S.ls) : ZEF a H' S n sm c ds ts ws := by
 obtain ⟨dx, vs, h1, h2, h3, h4, h5, h6, h7⟩ := h
 simp only [SA.ls, List.mem_cons, List.not_mem_nil, or_false, not_or] at nq
 exact ⟨dx, vs, k _ _ h1 (fun z => by rw [z, hq] at h1; cases h1), h2.kpX k hq, k _ _ h3 (Ne.symm nq.1), h4.tups (fun b xs e => k _ _ e (fun z => by rw [z, hq] at e; cases e)), k _ _ h5 (Ne.symm nq.2.1), k _ _ h6 (Ne.symm nq.2.2), h7⟩
theorem ZEF.pot (h : ZEF a H S n sm c ds ts ws) {q : Addr} (hp : Pot H q) (k : Kp q H H') (nq : q ∉ S.ls) : ZEF a H' S n sm c ds ts ws := by
 obtain ⟨u, v, e, _⟩ := hp
 exact h.kpL k e nq
theorem ZEF.kpD (h : ZEF a H S n sm c ds ts ws) {q : Addr} {m : List (Key × V)} (k : Kp q H H') (hq : H q = some (.dK m)) (nq : q ≠ S.d1) : ZEF a H' S n sm c ds ts ws := by
 obtain ⟨dx, vs, h1, ⟨dy, kvs, t1, t2, t3, t4, t5, t6⟩, h3, h4, h5, h6, h7⟩ := h
 refine ⟨dx, vs, k _ _ h1 (fun z => by rw [z, hq] at h1; cases h1), ⟨dy, kvs, k _ _ t1 (fun z => by rw [z, hq] at t1; cases t1), k _ _ t2 (Ne.symm nq), k _ _ t3 (fun z => by rw [z, hq] at t3; cases t3), t4, t5.kpX k hq (fun _ z => by cases z), t6⟩, k _ _ h3 (fun z => by rw [z, hq] at h3; cases h3), h4.tups (fun b xs e => k _ _ e (fun z => by rw [z, hq] at e; cases e)), k _ _ h5 (fun z => by rw [z, hq] at h5; cases h5), k _ _ h6 (fun z => by rw [z, hq] at h6; cases h6), h7⟩
theorem ZEF.fresh (h : ZEF a H S n sm c ds ts ws) {q : Addr} (hq : H q = none) : q ∉ S.ls ∧ q ≠ S.d1 := by
 obtain ⟨dx, vs, h1, ⟨dy, kvs, t1, t2, t3, t4, t5, t6⟩, h3, h4, h5, h6, h7⟩ := h
 refine ⟨fun z => ?_, fun z => by rw [z, t2] at hq; cases hq⟩
 simp only [SA.ls, List.mem_cons, List.not_mem_nil, or_false] at z
 rcases z with z | z | z
 ·rw [z, h3] at hq; cases hq
 ·rw [z, h5] at hq; cases hq
 ·rw [z, h6] at hq; cases hq
theorem ZEF.fr3 (h : ZEF a H S n sm c ds ts ws) {n' : Int} {sm' : PL} {c' : Nat} (f : Fr3 S.tr S.d1 S.d2 H H') (t : ZEn a.ZF H' S.tr n' S.d1 S.d2 sm' c') : ZEF a H' S n' sm' c' ds ts ws := by
 obtain ⟨dx, vs, h1, h2, h3, h4, h5, h6, h7⟩ := h
 refine ⟨dx, vs, ?_, t, h2.keepL f h3, h4.tups (fun b xs e => h2.keepT f e), h2.keepL f h5, h2.keepL f h6, h7⟩
 obtain ⟨dy, kvs, t1, t2, t3, _⟩ := h2
 exact f _ _ h1 (fun z => by rw [z, t1] at h1; injection h1 with h1; injection h1 with _ _ h3; exact ZXS h3.symm) (fun z => by rw [z, t2] at h1; cases h1) (fun z => by rw [z, t3] at h1; cases h1)
theorem ZEF.kpDone (h : ZEF a H S n sm c ds ts ws) {ts' : List Int} (k : Kp S.dn H H') (f : H' S.dn = some (.lst (ts'.map V.int))) : ZEF a H' S n sm c ds ts' ws := by
 obtain ⟨dx, vs, h1, h2, h3, h4, h5, h6, h7, h8, h9⟩ := h
 exact ⟨dx, vs, k _ _ h1 (fun z => by rw [z, h5] at h1; cases h1), h2.kpX k h5, k _ _ h3 h7, h4.tups (fun b xs e => k _ _ e (fun z => by rw [z, h5] at e; cases e)), f, k _ _ h6 (Ne.symm h9), h7, h8, h9⟩
theorem ZEF.kpDeeds (h : ZEF a H S n sm c ds ts ws) {ds' : List (Int × Option Int)} {vs' : List V} (k : Kp S.dd H H') (f : H' S.dd = some (.lst vs')) (g : ZEt H' vs' ds') : ZEF a H' S n sm c ds' ts ws := by
 obtain ⟨dx, vs, h1, h2, h3, h4, h5, h6, h7, h8, h9⟩ := h
 exact ⟨dx, vs', k _ _ h1 (fun z => by rw [z, h3] at h1; cases h1), h2.kpX k h3, f, g, k _ _ h5 (Ne.symm h7), k _ _ h6 (Ne.symm h8), h7, h8, h9⟩
end
def ZE5 (m : PL) (t : Int) : Option Int → PL
 | none => ZFP m t
 | some h => ZFJ m t h
section
variable {P : Program} {w : World} {K : W.Frag} {mg : Str → Option Value} {base : Heap} {a : Ad}
local macro_rules | `(tactic| walk_at "rd") => `(tactic| first
 | with_reducible first | refine ZEx (by assumption) (‹Txt _ _ _›).ZM (‹Txt _ _ _›).ZW ZHM ?_ | refine ZEx (by assumption) (‹Txt _ _ _›).ZL (‹Txt _ _ _›).ZAj ZTN ?_ | refine ZEx (by assumption) (‹Txt _ _ _›).ZL (‹Txt _ _ _›).ZAF ZRN ?_ | refine ZEx (by assumption) (‹Txt _ _ _›).ZL (‹Txt _ _ _›).ZAZ ZTO ?_ | refine ZEx (by assumption) (‹Txt _ _ _›).ZL (‹Txt _ _ _›).JF ZOF ?_)
def ZVb (C : Addr) : Sp := fun vs H Q _ => ∃ (p d1 d2 : Addr) (n t v : Int) (sm : PL) (c : Nat), vs = [.ref p, .int t] ∧ ZEn C H p n d1 d2 sm c ∧ ZEZ sm t = some v ∧ c ≤ 1000 ∧
 ∀ H', ZEn C H' p n d1 d2 (ZFP sm t) (c + 1) → Fr3 p d1 d2 H H' → Q .non H'
theorem ZNn : ZEJ ["self", "t"] ["self", "t"] (ZEE ZIR) := ZEe
theorem ZNo (T : Txt K mg a) : ZEM P w K mg base CX0 4 a.JT a.JM ["self", "t"] (ZVb a.ZF) := by
 refine T.ZCf.ok ZNn (by walk_at "l") (fun cdv A outer s H vs Q E hr h => ?_)
 ·obtain ⟨p, d1, d2, n, t, v, sm, c, rfl, ⟨dx, kvs, hp, h1, h2, hnd, hkf, hlen⟩, hg, hc, k⟩ := h
  have np1 : p ≠ d1 := fun z => by subst z; rw [hp] at h1; cases h1
  have n21 : d2 ≠ d1 := fun z => by subst z; rw [h1] at h2; cases h2
  refine ⟨_, QB.h (ZEC (ZEX (ZSw (ZEh K rfl (qv 0)) (qv 1))) (ZED (ZEX (ZEs (qv 0) T.ZM T.ZAn (ZJP T) hr T.ZAh .nil ZEz (ZD9 (qv 1) (ZD9 ZFH ZEA)))))), ?_⟩
  walk_at "s"
  walk_at "w"
  refine ZSz h1 ?_
  walk_at "w"
  refine ZS0 h1 hg fun H3 f3 K3 => ?_
  have hp3 := K3 _ _ hp np1
  have h23 := K3 _ _ h2 n21
  have hk3 : ZFc H3 kvs (ZFP sm t) (fun l s => s ≠ t / 2 ^ l) := (ZFc.other hkf fun q hq => by
   rw [ZFn]
   exact ⟨fun z => ⟨hq, z⟩, fun z => z.2⟩).kpX K3 h1 (fun xs z => by cases z)
  walk_at "w"
  refine ZEa hp3 ZH0 ?_
  walk_at "w"
  refine ⟨p, d1, d2, dx, n, t, .non, none, ZFP sm t, kvs, c, rfl, hp3, f3, h23, ZFu hnd, hk3, hlen, hc, .non, .inl ⟨rfl, ?_⟩, fun H7 hT7 K7 => ?_⟩
  ·cases e : inS (ZFP sm t) 0 t with
   | nil => rfl
   | cons q qs =>
    have hq : q ∈ inS (ZFP sm t) 0 t := by rw [e]; exact List.mem_cons_self
    rw [ZGc, ZFn] at hq
    simp only [Int.pow_zero, Int.ediv_one] at hq
    exact absurd hq.2 hq.1.1
  ·walk_at "w"
   exact k H7 hT7 fun b o e e1 e2 e3 => K7 _ _ (K3 _ _ e e2) e3
def ZVc (a : Ad) : Sp := fun vs H Q _ => ∃ (p dx : Addr) (x : V) (cv : PL), vs = [.ref p, x] ∧ H p = some (.ins a.ZE dx []) ∧ ((x = .non ∧ cv = []) ∨ ∃ t, x = .ref t ∧ PrT H t cv) ∧ (cv.map (·.1)).Nodup ∧ (∀ q ∈ cv, Tm q.1) ∧ cv.length ≤ 100 ∧
 ∀ (S : SA) (sm : PL) (H' : Hp), S.p = p → (∀ b ∈ S.own, H b = none) → ZEF a H' S 0 sm cv.length [] [] [] → (∀ q, q ∈ sm ↔ q ∈ cv) → sm.length ≤ cv.length → Kp p H H' → Q .non H'
theorem ZJ8 : ZEJ ["self", "curve"] ["self", "curve"] (ZEE ZE2) := ZEe
theorem ZJ9 (T : Txt K mg a) : ZEM P w K mg base CX0 7 a.Zv a.ZQ ["self", "curve"] (ZVc a) := by
 refine T.ZBN.ok ZJ8 (by walk_at "l") (fun cdv A outer s H vs Q E hr h => ?_)
 ·obtain ⟨p, dx, x, cv, rfl, hp, hx, hnd, htm, hlen, k⟩ := h
  refine ⟨_, QB.h (ZEC (ZFq K rfl (qv 0) (ZJ2 T.ZDT (ZKo T) hr rfl T.ZDe T.ZBa .nil ZEz (ZD9 (qv 1) ZEA))) (ZEC (ZFq K rfl (qv 0) (ZFX ZEA)) (ZEC (ZFq K rfl (qv 0) (ZFX ZEA)) (ZED (ZFq K rfl (qv 0) (ZFX ZEA)))))), ?_⟩
  walk_at "s"
  walk_at "w"
  refine ZJ3 fun tr dt H1 n1 f1 S1 => ?_
  refine ⟨tr, dt, x, cv, rfl, f1, ?_, hnd, htm, hlen, fun d1 d2 sm H2 m1 m2 hT2 hm hl K2 => ⟨rfl, ?_⟩⟩
  ·rcases hx with h | ⟨t, h1, h2⟩
   ·exact .inl h
   ·exact .inr ⟨t, h1, h2.same S1⟩
  have S02 : ZEI H H2 := fun b o e => K2 _ _ (S1 _ _ e) (ZET e n1)
  have hp2 := S02 _ _ hp
  have nt : tr ≠ p := fun z => by rw [z, hp] at n1; cases n1
  have free : ∀ {b : Addr}, H1 b = none → H b = none := fun {b} e => by
   cases e2 : H b with
   | none => rfl
   | some o => rw [S1 _ _ e2] at e; cases e
  have free2 : ∀ {b : Addr}, H2 b = none → H b = none := fun {b} e => by
   cases e2 : H b with
   | none => rfl
   | some o => rw [S02 _ _ e2] at e; cases e
  walk_at "w"
  refine ZFa hp2 T.ZL T.ZAj (by show 0 < 1000; decide) fun H3 f3 K3 => ?_
  walk_at "w"
  refine ZEK (by show 0 ≤ sizeLine; decide) fun dd H4 n4 f4 S4 => ?_
  have np4 : dd ≠ p := fun z => by rw [z, f3] at n4; cases n4
  walk_at "w"
  refine ZFa (S4 _ _ f3) T.ZL T.ZAF (by show 1 < 1000; decide) fun H5 f5 K5 => ?_
  walk_at "w"
  refine ZEK (by show 0 ≤ sizeLine; decide) fun dn H6 n6 f6 S6 => ?_
  have np6 : dn ≠ p := fun z => by rw [z, f5] at n6; cases n6
  walk_at "w"
  refine ZFa (S6 _ _ f5) T.ZL T.ZAZ (by show 2 < 1000; decide) fun H7 f7 K7 => ?_
  walk_at "w"
  refine ZEK (by show 0 ≤ sizeLine; decide) fun wt H8 n8 f8 S8 => ?_
  have np8 : wt ≠ p := fun z => by rw [z, f7] at n8; cases n8
  walk_at "w"
  refine ZFa (S8 _ _ f7) T.ZL T.JF (by show 3 < 1000; decide) fun H9 f9 K9 => ?_
  rw [ZVa] at f9
  have K29 : Kp p H2 H9 := (((((K3.then S4).trans K5).then S6).trans K7).then S8).trans K9
  have K24 : Kp p H2 H5 := (K3.then S4).trans K5
  have K26 : Kp p H2 H7 := (K24.then S6).trans K7
  have g4 : H9 dd = some (.lst []) := K9 _ _ (S8 _ _ (K7 _ _ (S6 _ _ (K5 _ _ f4 np4)) np4)) np4
  have g6 : H9 dn = some (.lst []) := K9 _ _ (S8 _ _ (K7 _ _ f6 np6)) np6
  have g8 : H9 wt = some (.lst []) := K9 _ _ f8 np8
  have e46 : dd ≠ dn := fun z => by rw [← z, K5 _ _ f4 np4] at n6; cases n6
  have e48 : dd ≠ wt := fun z => by rw [← z, K7 _ _ (S6 _ _ (K5 _ _ f4 np4)) np4] at n8; cases n8
  have e68 : dn ≠ wt := fun z => by rw [← z, K7 _ _ f6 np6] at n8; cases n8
  have hT9 : ZEn a.ZF H9 tr 0 d1 d2 sm cv.length := by
   obtain ⟨dy, kvs, t1, t2, t3, t4, t5, t6⟩ := hT2
   have nt2 : ∀ {b : Addr} {xs : List V}, H2 b = some (.tup xs) → H9 b = some (.tup xs) := fun e => K29 _ _ e (fun z => by rw [z, hp2] at e; cases e)
   exact ⟨dy, kvs, K29 _ _ t1 nt, K29 _ _ t2 (fun z => by rw [z, hp2] at t2; cases t2), K29 _ _ t3 (fun z => by rw [z, hp2] at t3; cases t3), t4, t5.tups (fun b xs e => nt2 e), t6⟩
  have fr4 : H dd = none := by
   cases e : H dd with
   | none => rfl
   | some o => rw [K3 _ _ (S02 _ _ e) np4] at n4; cases n4
  have fr6 : H dn = none := by
   cases e : H dn with
   | none => rfl
   | some o => rw [K24 _ _ (S02 _ _ e) np6] at n6; cases n6
  have fr8 : H wt = none := by
   cases e : H wt with
   | none => rfl
   | some o => rw [K26 _ _ (S02 _ _ e) np8] at n8; cases n8
  walk_at "w"
  refine k ⟨p, tr, d1, d2, dd, dn, wt⟩ sm H9 rfl (fun b hb => ?_) ⟨dx, [], f9, hT9, g4, .nil, g6, g8, e46, e48, e68⟩ hm hl ((Kp.same S02).trans K29)
  simp only [SA.own, List.mem_cons, List.not_mem_nil, or_false] at hb
  rcases hb with rfl | rfl | rfl | rfl | rfl | rfl
  ·exact n1
  ·exact free m1
  ·exact free m2
  ·exact fr4
  ·exact fr6
  ·exact fr8
def ZTP (a : Ad) : Sp := fun vs H Q _ => ∃ (S : SA) (n t : Int) (o : Option Int) (sm : PL) (c : Nat) (ds : List (Int × Option Int)) (ts : List Int) (ws : List V), vs = [.ref S.p, .int t, ZHI o] ∧ ZEF a H S n sm c ds ts ws ∧
 Tm t ∧ (o = none → (ZEZ sm t).isSome = true) ∧ c ≤ 900 ∧ sm.length ≤ 900 ∧ ts.length ≤ 900 ∧
 ∀ H', ZEF a H' S n (ZE5 sm t o) (c + 1) ds (ts ++ [t]) ws → FrS S H H' → Q .non H'
theorem ZLj : ZEJ ["self", "t", "h"] ["self", "t", "h"] (ZEE ZHW) := ZEe
theorem ZIi (T : Txt K mg a) : ZEM P w K mg base CX0 5 a.Ym a.Yi ["self", "t", "h"] (ZTP a) := by
 refine T.ZB2.ok ZLj (by walk_at "l") (fun cdv A outer s H vs Q E hr h => ?_)
 ·obtain ⟨S, n, t, o, sm, c, ds, ts, ws, rfl, hS, ht, ho, hc, hsl, htl, k⟩ := h
  refine ⟨_, QB.h (ZEC (ZEg (ZEQ (ZIa) (qv 2) ZFH (ZEW _)) (ZED (ZEX (ZEs (ZEh K rfl (qv 0)) T.ZM T.ZCe (ZNo T) hr T.ZCh .nil ZEz (ZD9 (qv 1) ZEA)))) (ZED (ZEX (ZEs (ZEh K rfl (qv 0)) T.ZM T.ZBg (ZKH T) hr T.ZBV .nil ZEz (ZD9 (qv 1) (ZD9 (qv 2) ZEA)))))) (ZED (ZEX (ZIv PySem.F.plainAttrs_list PySem.F.slot_list_append PySem.F.type_list_append ZF5 (ZEh K rfl (qv 0)) (ZD9 (qv 1) ZEA))))), ?_⟩
  walk_at "s"
  have fin : ∀ H1, ZEn a.ZF H1 S.tr n S.d1 S.d2 (ZE5 sm t o) (c + 1) → Fr3 S.tr S.d1 S.d2 H H1 → ZEF a H1 S n (ZE5 sm t o) (c + 1) ds ts ws := fun H1 hT F => hS.fr3 F hT
  obtain ⟨dx, vs, hp, hT, _⟩ := id hS
  obtain ⟨dy, kvs, hq, _⟩ := id hT
  walk_at "w"
  cases o with
  | none =>
   obtain ⟨v, hv⟩ := Option.isSome_iff_exists.mp (ho rfl)
   refine ZEp (fun _ => ?_) (fun h => absurd rfl h)
   walk_at "w"
   refine ZEa hq ZH0 ?_
   walk_at "w"
   refine ⟨S.tr, S.d1, S.d2, n, t, v, sm, c, rfl, hT, hv, by omega, fun H1 hT1 F1 => ?_⟩
   have hS1 := fin H1 hT1 F1
   obtain ⟨dx1, vs1, hp1, hT1', hd1, hD1, hn1, hw1, hne⟩ := id hS1
   walk_at "w"
   refine ⟨tyL hn1, ?_⟩
   walk_at "w"
   refine ZF7 hn1 (by rw [List.length_map]; exact Nat.lt_of_le_of_lt htl (by decide)) fun H2 f2 K2 => ?_
   walk_at "w"
   exact k H2 (hS1.kpDone K2 (by rw [List.map_append]; exact f2)) ((FrS.fr3 F1).trans (.kp K2 (by simp [SA.own])))
  | some h =>
   refine ZEp (fun h => by simp [ZHI] at h) (fun _ => ?_)
   walk_at "w"
   refine ZEa hq ZH0 ?_
   walk_at "w"
   refine ⟨S.tr, S.d1, S.d2, n, t, h, sm, c, rfl, hT, ht, by omega, by omega, fun H1 hT1 F1 => ?_⟩
   have hS1 := fin H1 hT1 F1
   obtain ⟨dx1, vs1, hp1, hT1', hd1, hD1, hn1, hw1, hne⟩ := id hS1
   walk_at "w"
   refine ⟨tyL hn1, ?_⟩
   walk_at "w"
   refine ZF7 hn1 (by rw [List.length_map]; exact Nat.lt_of_le_of_lt htl (by decide)) fun H2 f2 K2 => ?_
   walk_at "w"
   exact k H2 (hS1.kpDone K2 (by rw [List.map_append]; exact f2)) ((FrS.fr3 F1).trans (.kp K2 (by simp [SA.own])))
def ZXy (a : Ad) : Sp := fun vs H Q _ => ∃ (S : SA) (n t : Int) (o : Option Int) (sm : PL) (c : Nat) (ds : List (Int × Option Int)) (ts : List Int) (ws : List V), vs = [.ref S.p, .int t, ZHI o] ∧ ZEF a H S n sm c ds ts ws ∧
 Tm t ∧ (o = none → (ZEZ sm t).isSome = true) ∧ c ≤ 900 ∧ sm.length ≤ 900 ∧ ts.length ≤ 900 ∧ ds.length ≤ 900 ∧
 ∀ H', ZEF a H' S n (ZE5 sm t o) (c + 1) (ds ++ [(t, ZEZ sm t)]) (ts ++ [t]) ws → FrS S H H' → Q (ZHI (ZEZ sm t)) H'
theorem ZKI : ZEJ ["self", "t", "h", "before"] ["self", "t", "h"] (ZEE ZI9) := ZEe
theorem ZKJ (T : Txt K mg a) : ZEM P w K mg base CX0 6 a.Ji a.J7 ["self", "t", "h"] (ZXy a) := by
 refine T.ZCw.ok ZKI (by walk_at "l") (fun cdv A outer s H vs Q E hr h => ?_)
 ·obtain ⟨S, n, t, o, sm, c, ds, ts, ws, rfl, hS, ht, ho, hc, hsl, htl, hdl, k⟩ := h
  have hu := ZF9 hr
  refine ⟨_, QB.h (ZEC (qsS (i := 3) ZKI.nd (ZHr hu (ZEh K rfl (ZEh K rfl (qv 0))) (qv 1))) (ZEC (ZEX (ZEs (qv 0) T.ZL T.ZAH (ZIi T) hr T.ZAG .nil ZEz (ZD9 (qv 1) (ZD9 (qv 2) ZEA)))) (ZEC (ZEX (ZIv PySem.F.plainAttrs_list PySem.F.slot_list_append PySem.F.type_list_append ZF5 (ZEh K rfl (qv 0)) (ZD9 (ZEb (ZD9 (qv 1) (ZD9 (qv 3) ZEA))) ZEA))) (ZED (ZES (qv 3)))))), ?_⟩
  walk_at "s"
  obtain ⟨dx, vs, hp, hT, _⟩ := id hS
  obtain ⟨dy, kvs, hq, hd1, _⟩ := id hT
  walk_at "w"
  refine ZL0 hd1 ?_
  walk_at "w"
  refine ZNP hd1 ?_
  rw [ZNm]
  walk_at "w"
  refine ZEa hp ZGj ?_
  walk_at "w"
  refine ⟨S, n, t, o, sm, c, ds, ts, ws, rfl, hS, ht, ho, hc, hsl, htl, fun H1 hS1 F1 => ?_⟩
  obtain ⟨dx1, vs1, hp1, hT1, hd1, hD1, _⟩ := id hS1
  walk_at "w"
  refine ⟨tyL hd1, ?_⟩
  walk_at "w"
  refine ZEK (by show 2 ≤ sizeLine; decide) fun b H2 n2 f2 S2 => ?_
  walk_at "w"
  refine ZF7 (S2 _ _ hd1) (by rw [hD1.len]; exact Nat.lt_of_le_of_lt hdl (by decide)) fun H3 f3 K3 => ?_
  have nt : ∀ {b : Addr} {xs : List V}, H2 b = some (.tup xs) → H3 b = some (.tup xs) := fun e => K3 _ _ e (fun z => by rw [z, S2 _ _ hd1] at e; cases e)
  walk_at "w"
  exact k H3 ((hS1.same S2).kpDeeds K3 f3 (((hD1.tups fun b xs e => S2 _ _ e).tups fun b xs e => nt e).snoc (q := (t, ZEZ sm t)) (nt f2))) ((F1.trans (.same S2)).trans (.kp K3 (by simp [SA.own])))
def ZXT (a : Ad) : Sp := fun vs H Q _ => ∃ (S : SA) (n t h : Int) (sm : PL) (c : Nat) (ds : List (Int × Option Int)) (ts : List Int) (ws : List V), vs = [.ref S.p, .int t, .int h] ∧ ZEF a H S n sm c ds ts ws ∧
 Tm t ∧ c ≤ 900 ∧ sm.length ≤ 900 ∧ ts.length ≤ 900 ∧ ds.length ≤ 900 ∧
 ∀ H', ZEF a H' S n (ZFJ sm t h) (c + 1) (ds ++ [(t, ZEZ sm t)]) (ts ++ [t]) ws → FrS S H H' → Q (ZHI (ZEZ sm t)) H'
theorem ZNp : ZEJ ["self", "t", "h"] ["self", "t", "h"] (ZEE ZIU) := ZEe
theorem ZNq (T : Txt K mg a) : ZEM P w K mg base CX0 7 a.JW a.JK ["self", "t", "h"] (ZXT a) := by
 refine T.ZCk.ok ZNp (by walk_at "l") (fun cdv A outer s H vs Q E hr h => ?_)
 ·obtain ⟨S, n, t, h, sm, c, ds, ts, ws, rfl, hS, ht, hc, hsl, htl, hdl, k⟩ := h
  refine ⟨_, QB.h (ZEC (ZEX (qcS (ZJO T) hr.m T.ZAk T.Yt.kp T.ZAl (ZD9 (qv 1) ZEA))) (ZED (ZES (ZEs (qv 0) T.ZL T.ZBW (ZKJ T) hr T.ZBT .nil ZEz (ZD9 (qv 1) (ZD9 (qv 2) ZEA)))))), ?_⟩
  walk_at "s"
  obtain ⟨dx, vs, hp, hT, _⟩ := id hS
  walk_at "w"
  refine ⟨t, rfl, ht, ?_⟩
  walk_at "w"
  refine ZEa hp ZGj ?_
  walk_at "w"
  exact ⟨S, n, t, some h, sm, c, ds, ts, ws, rfl, hS, ht, (fun z => by cases z), hc, hsl, htl, hdl, fun H1 hS1 F1 => k H1 hS1 F1⟩
def ZTQ (a : Ad) : Sp := fun vs H Q _ => ∃ (S : SA) (n t v : Int) (sm : PL) (c : Nat) (ds : List (Int × Option Int)) (ts : List Int) (ws : List V), vs = [.ref S.p, .int t] ∧ ZEF a H S n sm c ds ts ws ∧ ZEZ sm t = some v ∧ Q .non H
theorem ZIj : ZEJ ["self", "t"] ["self", "t"] (ZEE ZGD) := ZEe
theorem ZIk (T : Txt K mg a) : ZEM P w K mg base CX0 2 a.ZY a.ZX ["self", "t"] (ZTQ a) := by
 refine T.Jl.ok ZIj (by walk_at "l") (fun cdv A outer s H vs Q E hr h => ?_)
 ·obtain ⟨S, n, t, v, sm, c, ds, ts, ws, rfl, hS, hg, q⟩ := h
  have hu := ZF9 hr
  refine ⟨_, QB.h (ZED (ZEg (QW.pt (ZJ0 (ZGJ (ZFy (qcS (ZIV T) hr T.Ju T.Yq.kp T.J9 (ZD9 (qv 1) ZEA)))) (ZId (ZEQ (ZLK hu) (qv 1) (ZEh K rfl (ZEh K rfl (qv 0))) (by with_unfolding_all rfl))))) (ZED ZGT) ZEd)), ?_⟩
  walk_at "s"
  obtain ⟨dx, vs, hp, hT, _⟩ := id hS
  obtain ⟨dy, kvs, hq, hd1, _⟩ := id hT
  walk_at "w"
  refine ⟨t, rfl, ?_⟩
  walk_at "w"
  refine ZEw ?_
  walk_at "w"
  refine ZPY hd1 ?_
  rw [hg]
  walk_at "w"
  refine ZEw ?_
  walk_at "w"
  exact q
def ZVd (a : Ad) : Sp := fun vs H Q _ => ∃ (S : SA) (n t v : Int) (sm : PL) (c : Nat) (ds : List (Int × Option Int)) (ts : List Int) (ws : List V), vs = [.ref S.p, .int t] ∧ ZEF a H S n sm c ds ts ws ∧
 Tm t ∧ ZEZ sm t = some v ∧ c ≤ 900 ∧ sm.length ≤ 900 ∧ ts.length ≤ 900 ∧ ds.length ≤ 900 ∧
 ∀ H', ZEF a H' S n (ZFP sm t) (c + 1) (ds ++ [(t, some v)]) (ts ++ [t]) ws → FrS S H H' → Q (.int v) H'
theorem ZMP : ZEJ ["self", "t"] ["self", "t"] (ZEE ZHu) := ZEe
theorem ZMQ (T : Txt K mg a) : ZEM P w K mg base CX0 7 a.Yv a.Y8 ["self", "t"] (ZVd a) := by
 refine T.ZCU.ok ZMP (by walk_at "l") (fun cdv A outer s H vs Q E hr h => ?_)
 ·obtain ⟨S, n, t, v, sm, c, ds, ts, ws, rfl, hS, ht, hg, hc, hsl, htl, hdl, k⟩ := h
  refine ⟨_, QB.h (ZEC (ZEX (ZEs (qv 0) T.ZL T.Jn (ZIk T) hr.m T.Jx .nil ZEz (ZD9 (qv 1) ZEA))) (ZED (ZES (ZEs (qv 0) T.ZL T.ZBW (ZKJ T) hr T.ZBT .nil ZEz (ZD9 (qv 1) (ZD9 ZFH ZEA)))))), ?_⟩
  walk_at "s"
  obtain ⟨dx, vs, hp, hT, _⟩ := id hS
  walk_at "w"
  refine ZEa hp ZGj ?_
  walk_at "w"
  refine ⟨S, n, t, v, sm, c, ds, ts, ws, rfl, hS, hg, ?_⟩
  walk_at "w"
  refine ZEa hp ZGj ?_
  walk_at "w"
  refine ⟨S, n, t, none, sm, c, ds, ts, ws, rfl, hS, ht, (fun _ => by rw [hg]; rfl), hc, hsl, htl, hdl, fun H1 hS1 F1 => ?_⟩
  rw [hg] at hS1 ⊢
  exact k H1 hS1 F1
def ZVe (a : Ad) : Sp := fun vs H Q _ => ∃ (S : SA) (n : Int) (sm : PL) (c : Nat) (ds : List (Int × Option Int)) (ts : List Int) (ws : List V), vs = [.ref S.p] ∧ ZEF a H S n sm c ds ts ws ∧
  ((ds = [] ∧ Q (.bl false) H) ∨ ∃ ds' t o, ds = ds' ++ [(t, o)] ∧ Tm t ∧ (o = none → (ZEZ sm t).isSome = true) ∧ c ≤ 900 ∧ sm.length ≤ 900 ∧ ts.length ≤ 900 ∧
    ∀ H', ZEF a H' S n (ZE5 sm t o) (c + 1) ds' (ts ++ [t]) ws → FrS S H H' → Q (.bl true) H')
theorem ZHZ : ZEJ ["self", "t", "before"] ["self"] (ZEE ZHv) := ZEe
theorem ZMR (T : Txt K mg a) : ZEM P w K mg base CX0 6 a.Yw a.Y3 ["self"] (ZVe a) := by
 refine T.ZCS.ok ZHZ (by walk_at "l") (fun cdv A outer s H vs Q E hr h => ?_)
 ·obtain ⟨S, n, sm, c, ds, ts, ws, rfl, hS, k⟩ := h
  refine ⟨_, QB.h (ZEC (ZEg (ZEQ (ZE9) (ZEk (ZIf K rfl) rfl T.YT ZHQ (ZD9 (ZEh K rfl (qv 0)) ZEA)) ZEB (ZEW _)) (ZED (ZES ZIr)) ZEd) (ZEC (ZFT (ZQg PySem.F.plainAttrs_list PySem.F.slot_list_pop PySem.F.type_list_pop ZQK (ZEh K rfl (qv 0))) (ZFN (n := 2) K rfl rfl (ZEL (qgN (i := 1) ZHZ.nd) (ZEL (qgN (i := 2) ZHZ.nd) ZE7)))) (ZEC (ZEX (ZEs (qv 0) T.ZL T.ZAH (ZIi T) hr T.ZAG .nil ZEz (ZD9 (qv 1) (ZD9 (qv 2) ZEA)))) (ZED (ZES ZIr))))), ?_⟩
  walk_at "s"
  obtain ⟨dx, vs, hp, hT, hd, hD, _⟩ := id hS
  have hvl := hD.len
  walk_at "w"
  rw [ZFm]
  rcases k with ⟨rfl, q⟩ | ⟨ds', t, o, rfl, ht, ho, hc, hsl, htl, k⟩
  ·refine ZEp (fun _ => ?_) (fun h => absurd (by rw [hvl]; rfl) h)
   walk_at "w"
   exact q
  ·refine ZEp (fun h => ?_) (fun _ => ?_)
   ·rw [hvl, List.length_append] at h
    simp at h
    omega
   obtain ⟨us, b, rfl, hD', hb⟩ := hD.unsnoc
   walk_at "w"
   refine ⟨tyL hd, ?_⟩
   refine ZQ2 hd fun H1 f1 K1 => ?_
   have hb1 := K1 _ _ hb (fun z => by rw [z, hd] at hb; cases hb)
   have nt : ∀ {b : Addr} {xs : List V}, H b = some (.tup xs) → H1 b = some (.tup xs) := fun e => K1 _ _ e (fun z => by rw [z, hd] at e; cases e)
   have hS1 := hS.kpDeeds K1 f1 (hD'.tups fun b xs e => nt e)
   obtain ⟨dx1, vs1, hp1, _⟩ := id hS1
   walk_at "w"
   refine ZEa hp1 ZGj ?_
   walk_at "w"
   refine ⟨S, n, t, o, sm, c, ds', ts, ws, rfl, hS1, ht, ho, hc, hsl, htl, fun H2 hS2 F2 => ?_⟩
   walk_at "w"
   exact k H2 hS2 ((FrS.kp K1 (by simp [SA.own])).trans F2)
def ZVf (a : Ad) : Sp := fun vs H Q _ => ∃ (S : SA) (n b e : Int) (sm : PL) (c : Nat) (ds : List (Int × Option Int)) (ts : List Int) (ws : List V), vs = [.ref S.p, .int b, .int e] ∧ ZEF a H S n sm c ds ts ws ∧ InT b ∧ InT e ∧
 ∀ (v : V) (o : Option (PL)) (n' : Int) (H' : Hp), ZEq H' v o → Is4 (ZFB sm b e) o → ZEF a H' S n' sm c ds ts ws → Kp S.tr H H' → Q v H'
theorem ZMS : ZEJ ["self", "begin", "end"] ["self", "begin", "end"] (ZEE ZHw) := ZEe
theorem ZMT (T : Txt K mg a) : ZEM P w K mg base CX0 6 a.Yz a.Y0 ["self", "begin", "end"] (ZVf a) := by
 refine T.ZCQ.ok ZMS (by walk_at "l") (fun cdv A outer s H vs Q E hr h => ?_)
 ·obtain ⟨S, n, b, e, sm, c, ds, ts, ws, rfl, hS, hb, he, k⟩ := h
  refine ⟨_, QB.h (ZED (ZES (ZEs (ZEh K rfl (qv 0)) T.ZM T.ZAx (ZJq T) hr T.ZA1 .nil ZEz (ZD9 (qv 1) (ZD9 (qv 2) ZEA))))), ?_⟩
  walk_at "s"
  obtain ⟨dx, vs, hp, hT, _⟩ := id hS
  obtain ⟨dy, kvs, hq, hd1, _⟩ := id hT
  walk_at "w"
  refine ZEa hq ZH0 ?_
  walk_at "w"
  exact ⟨S.tr, S.d1, S.d2, n, b, e, sm, c, rfl, hT, hb, he, fun v o prs H1 h1 g1 _ hT1 K1 => k v o _ H1 h1 g1 (hS.fr3 (ZXR K1) hT1) K1⟩
def ZTR (a : Ad) : Sp := fun vs H Q _ => ∃ (S : SA) (n : Int) (sm : PL) (c : Nat) (ds : List (Int × Option Int)) (ts : List Int) (ws : List V), vs = [.ref S.p] ∧ ZEF a H S n sm c ds ts ws ∧
 ∀ u H', H' u = some (.tup (ts.map V.int)) → ZEI H H' → Q (.ref u) H'
theorem ZLk : ZEJ ["self"] ["self"] (ZEE ZHX) := ZEe
theorem ZLl (T : Txt K mg a) : ZEM P w K mg base CX0 1 a.Yl a.Yh ["self"] (ZTR a) := by
 refine T.ZB3.ok ZLk (by walk_at "l") (fun cdv A outer s H vs Q E hr h => ?_)
 ·obtain ⟨S, n, sm, c, ds, ts, ws, rfl, hS, k⟩ := h
  refine ⟨_, QB.h (ZED (ZES (ZGa (ZHB K rfl) rfl T.Z2 ZG6 (ZD9 (ZEh K rfl (qv 0)) ZEA)))), ?_⟩
  walk_at "s"
  obtain ⟨dx, vs, hp, hT, hd, hD, hn, _⟩ := id hS
  walk_at "w"
  exact ZHm (SqL.of hn) fun u H3 n3 f3 S3 => k u H3 f3 S3
end
theorem FrL.ofS {S : SA} {l : List Addr} {H H' : Hp} (h : FrS S H H') (m : ∀ b ∈ S.own, b ∈ l) : FrL l H H' := fun b o e n => h b o e fun z => n (m b z)
section
variable {a : Ad} {H H' : Hp} {S : SA} {n : Int} {sm : PL} {c : Nat} {ds : List (Int × Option Int)} {ts : List Int} {ws : List V}
theorem ZEF.live (h : ZEF a H S n sm c ds ts ws) : ∀ b ∈ S.p :: S.own, ∃ o, H b = some o := by
 obtain ⟨dx, vs, h1, ⟨dy, kvs, t1, t2, t3, _⟩, h3, h4, h5, h6, h7⟩ := h
 intro b hb
 simp only [SA.own, List.mem_cons, List.not_mem_nil, or_false] at hb
 rcases hb with rfl | rfl | rfl | rfl | rfl | rfl | rfl
 ·exact ⟨_, h1⟩
 ·exact ⟨_, t1⟩
 ·exact ⟨_, t2⟩
 ·exact ⟨_, t3⟩
 ·exact ⟨_, h3⟩
 ·exact ⟨_, h5⟩
 ·exact ⟨_, h6⟩
theorem ZEF.noTup (h : ZEF a H S n sm c ds ts ws) : ∀ b ∈ S.own, ∀ xs, H b ≠ some (.tup xs) := by
 obtain ⟨dx, vs, h1, ⟨dy, kvs, t1, t2, t3, _⟩, h3, h4, h5, h6, h7⟩ := h
 intro b hb xs e
 simp only [SA.own, List.mem_cons, List.not_mem_nil, or_false] at hb
 rcases hb with rfl | rfl | rfl | rfl | rfl | rfl
 ·rw [t1] at e; cases e
 ·rw [t2] at e; cases e
 ·rw [t3] at e; cases e
 ·rw [h3] at e; cases e
 ·rw [h5] at e; cases e
 ·rw [h6] at e; cases e
theorem ZEF.frL (h : ZEF a H S n sm c ds ts ws) {l : List Addr} (f : FrL l H H') (d : ∀ b ∈ l, b ∉ S.p :: S.own) (nt : ∀ b ∈ l, ∀ xs, H b ≠ some (.tup xs)) : ZEF a H' S n sm c ds ts ws := by
 obtain ⟨dx, vs, h1, ⟨dy, kvs, t1, t2, t3, t4, t5, t6⟩, h3, h4, h5, h6, h7⟩ := h
 have k : ∀ b o, H b = some o → b ∈ S.p :: S.own → H' b = some o := fun b o e m => f _ _ e fun z => d b z m
 have kt : ∀ b xs, H b = some (.tup xs) → H' b = some (.tup xs) := fun b xs e => f _ _ e fun z => nt b z xs e
 exact ⟨dx, vs, k _ _ h1 (by simp), ⟨dy, kvs, k _ _ t1 (by simp [SA.own]), k _ _ t2 (by simp [SA.own]), k _ _ t3 (by simp [SA.own]), t4, t5.tups kt, t6⟩, k _ _ h3 (by simp [SA.own]), h4.tups kt, k _ _ h5 (by simp [SA.own]), k _ _ h6 (by simp [SA.own]), h7⟩
theorem ZEF.apart (h : ZEF a H S n sm c ds ts ws) {l : List Addr} (m : ∀ b ∈ l, H b = none) : ∀ b ∈ l, b ∉ S.p :: S.own := fun b hb z => by
 obtain ⟨o, e⟩ := h.live b z
 rw [m b hb] at e; cases e
end
section
variable {P : Program} {w : World} {K : W.Frag} {mg : Str → Option Value} {base : Heap} {a : Ad}
def ZNr (b y m t : Int) : V := if 0 ≤ (t - b) / y ∧ (t - b) / y < m then .int ((t - b) / y) else .non
def ZVg : Sp := fun vs H Q _ => ∃ (p : Addr) (b y m t : Int), vs = [.ref p, .int t] ∧ H p = some (.tup [.int b, .int y, .int m]) ∧ 0 < y ∧ y < 2 ^ 250 ∧ Q (ZNr b y m t) H
theorem ZGX : ZEJ ["window", "t", "begin", "wide", "many", "k"] ["window", "t"] (ZEE ZIN) := ZEe
theorem ZNs (T : Txt K mg a) : ZEM P w K mg base CX0 1 a.JU a.JN ["window", "t"] ZVg := by
 refine T.ZAz.ok ZGX (by walk_at "l") (fun cdv A outer s H vs Q E hr h => ?_)
 ·obtain ⟨p, b, y, m, t, rfl, hT, hy, hy2, q⟩ := h
  refine ⟨_, QB.h (ZEC (ZFT (qv 0) (ZFN (n := 3) K rfl rfl (ZEL (qgN (i := 2) ZGX.nd) (ZEL (qgN (i := 3) ZGX.nd) (ZEL (qgN (i := 4) ZGX.nd) ZE7))))) (ZEC (qsS (i := 5) ZGX.nd (ZEG ZGS (ZEG ZFb (qv 1) (qv 2)) (qv 3))) (ZED (ZES (ZIt (ZIu ZHc ZJw ZEB (qv 5) (qv 4)) (qv 5) ZFH))))), ?_⟩
  walk_at "s"
  walk_at "w"
  refine ZEp (fun h1 => ?_) (fun h1 => ?_)
  ·walk_at "w"
   refine ZEp (fun h2 => ?_) (fun h2 => ?_)
   ·walk_at "w"
    unfold ZNr at q
    rw [if_pos ⟨h1, h2⟩] at q
    exact q
   ·walk_at "w"
    unfold ZNr at q
    rw [if_neg (fun z => h2 z.2)] at q
    exact q
  ·walk_at "w"
   refine ZEw ?_
   walk_at "w"
   unfold ZNr at q
   rw [if_neg (fun z => h1 z.1)] at q
   exact q
end
abbrev win (b y m : Int) : List V := [.int b, .int y, .int m]
def ZVh (K : W.Frag) : Sp := fun vs H Q _ => ∃ (t : Addr) (b y m c : Int), vs = [.ref t, .int c] ∧ SqT K H t (win b y m) ∧ IntMulOk c y ∧ ∀ (u : Addr) (H' : Hp), H u = none → H' u = some (.tup (win (b + c * y) y m)) → ZEI H H' → Q (.ref u) H'
def ZRO (K : W.Frag) : Sp := fun vs H Q _ => ∃ (t : Addr) (b y m : Int), vs = [.ref t] ∧ SqT K H t (win b y m) ∧ ∀ (u : Addr) (H' : Hp), H u = none → H' u = some (.tup (win b (y * 2) m)) → ZEI H H' → Q (.ref u) H'
def ZPn (K : W.Frag) : Sp := fun vs H Q _ => ∃ (t : Addr) (b y m : Int), vs = [.ref t] ∧ SqT K H t (win b y m) ∧ y % 2 = 0 ∧ ∀ (u : Addr) (H' : Hp), H u = none → H' u = some (.tup (win b (y / 2) m)) → ZEI H H' → Q (.ref u) H'
def ZVi (K : W.Frag) : Sp := fun vs H Q _ => ∃ (t : Addr) (b y m n : Int), vs = [.ref t, .int n] ∧ SqT K H t (win b y m) ∧ ∀ (u : Addr) (H' : Hp), H u = none → H' u = some (.tup (win b y n)) → ZEI H H' → Q (.ref u) H'
section
variable {P : Program} {w : World} {K : W.Frag} {mg : Str → Option Value} {base : Heap} {a : Ad}
theorem ZJF : ZEJ ["window", "c", "begin", "wide", "many"] ["window", "c"] (ZEE ZLh) := ZEe
theorem ZNt (T : Txt K mg a) : ZEM P w K mg base CX0 1 a.ZBm a.ZBi ["window", "c"] (ZVh K) := by
 refine T.ZBn.ok ZJF (by walk_at "l") (fun cdv A outer s H vs Q E hr h => ?_)
 ·obtain ⟨t, b, y, m, c, rfl, hT, hm, k⟩ := h
  refine ⟨_, QB.h (ZEC (ZFT (qv 0) (ZFN (n := 3) K rfl rfl (ZEL (qgN (i := 2) ZJF.nd) (ZEL (qgN (i := 3) ZJF.nd) (ZEL (qgN (i := 4) ZJF.nd) ZE7))))) (ZED (ZES (ZEb (ZD9 (ZEG ZE3 (qv 2) (ZEG ZEr (qv 1) (qv 3))) (ZD9 (qv 3) (ZD9 (qv 4) ZEA))))))), ?_⟩
  walk_at "s"
  walk_at "w"
  refine ZMt hm ?_
  walk_at "w"
  exact ZEK (by show 3 ≤ sizeLine; decide) fun u H2 hu f2 S2 => k u H2 hu f2 S2
theorem ZHg : ZEJ ["window", "begin", "wide", "many"] ["window"] (ZEE ZJe) := ZEe
theorem ZLM (T : Txt K mg a) : ZEM P w K mg base CX0 1 a.ZAa a.ZAT ["window"] (ZRO K) := by
 refine T.ZAq.ok ZHg (by walk_at "l") (fun cdv A outer s H vs Q E hr h => ?_)
 ·obtain ⟨t, b, y, m, rfl, hT, k⟩ := h
  refine ⟨_, QB.h (ZEC (ZFT (qv 0) (ZFN (n := 3) K rfl rfl (ZEL (qgN (i := 1) ZHg.nd) (ZEL (qgN (i := 2) ZHg.nd) (ZEL (qgN (i := 3) ZHg.nd) ZE7))))) (ZED (ZES (ZEb (ZD9 (qv 1) (ZD9 (ZEG ZEr (qv 2) ZEB) (ZD9 (qv 3) ZEA))))))), ?_⟩
  walk_at "s"
  walk_at "w"
  exact ZEK (by show 3 ≤ sizeLine; decide) fun u H2 hu f2 S2 => k u H2 hu f2 S2
theorem ZHN : ZEJ ["window", "begin", "wide", "many"] ["window"] (ZEE ZI6) := ZEe
theorem ZOG (T : Txt K mg a) : ZEM P w K mg base CX0 1 a.Jy a.Jj ["window"] (ZPn K) := by
 refine T.ZBY.ok ZHN (by walk_at "l") (fun cdv A outer s H vs Q E hr h => ?_)
 ·obtain ⟨t, b, y, m, rfl, hT, hy, k⟩ := h
  refine ⟨_, QB.h (ZEC (ZFT (qv 0) (ZFN (n := 3) K rfl rfl (ZEL (qgN (i := 1) ZHN.nd) (ZEL (qgN (i := 2) ZHN.nd) (ZEL (qgN (i := 3) ZHN.nd) ZE7))))) (ZEC (ZEg (ZEQ (ZE9) (ZEG ZHP (qv 2) ZEB) ZEB (ZEW _)) (ZED ZGT) ZEd) (ZED (ZES (ZEb (ZD9 (qv 1) (ZD9 (ZEG ZGS (qv 2) ZEB) (ZD9 (qv 3) ZEA)))))))), ?_⟩
  walk_at "s"
  walk_at "w"
  rw [ZFm]
  refine ZEp (fun h => absurd h (by omega)) (fun _ => ?_)
  walk_at "w"
  exact ZEK (by show 3 ≤ sizeLine; decide) fun u H2 hu f2 S2 => k u H2 hu f2 S2
theorem ZLN : ZEJ ["window", "n"] ["window", "n"] (ZEE ZHE) := ZEe
theorem ZIF (T : Txt K mg a) : ZEM P w K mg base CX0 1 a.YQ a.YR ["window", "n"] (ZVi K) := by
 refine T.YO.ok ZLN (by walk_at "l") (fun cdv A outer s H vs Q E hr h => ?_)
 ·obtain ⟨t, b, y, m, n, rfl, hT, k⟩ := h
  refine ⟨_, QB.h (ZED (ZES (ZEb (ZD9 (ZEO (ZEY K rfl) (qv 0) ZEB) (ZD9 (ZEO (ZEY K rfl) (qv 0) ZEB) (ZD9 (qv 1) ZEA)))))), ?_⟩
  walk_at "s"
  walk_at "w"
  exact ZEK (by show 3 ≤ sizeLine; decide) fun u H2 hu f2 S2 => k u H2 hu f2 S2
end
def kx (x z : Int) : List Key := [Sum.inl x, Sum.inl z]
theorem ZLO {x z x' z' : Int} (h : kx x z = kx x' z') : x = x' ∧ z = z' := by
 unfold kx at h
 injection h with h1 h2
 injection h2 with h2 _
 exact ⟨Sum.inl.inj h1, Sum.inl.inj h2⟩
theorem ZJr {κ : Type} [DecidableEq κ] (k j : κ) : ∀ kvs : List (κ × V), ZEc (ZFf kvs k) j = if j = k then none else ZEc kvs j
 | [] => by split <;> rfl
 | p :: r => by
  have ih := ZJr k j r
  unfold ZFf at ih ⊢
  by_cases e : p.1 = k
  ·rw [List.filter_cons_of_neg (by simpa using e), ih]
   split
   ·rfl
   ·rw [ZFR (fun z => ‹¬ j = k› (z.symm.trans e))]
  ·rw [List.filter_cons_of_pos (by simpa using e)]
   by_cases e2 : p.1 = j
   ·rw [ZFU e2, ZFU e2, if_neg (fun z => e (e2.trans z))]
   ·rw [ZFR e2, ZFR e2, ih]
def ZH1 (H : Hp) (sm : PL) (x z : Int) (v : V) : Prop := ∃ o, ZEq H v o ∧ Is4 (ZFB sm x z) o
theorem ZH1.tups {H H' : Hp} {sm : PL} {x z : Int} {v : V} (h : ZH1 H sm x z v) (t : ∀ b xs, H b = some (.tup xs) → H' b = some (.tup xs)) : ZH1 H' sm x z v :=
 let ⟨o, h1, h2⟩ := h; ⟨o, h1.tups t, h2⟩
def Col (b y m x z : Int) : Prop := ∃ k : Int, 0 ≤ k ∧ k < m ∧ x = b + k * y ∧ z = b + k * y + y
def has (kvs : List (List Key × V)) (x z : Int) : Bool := (ZEc kvs (kx x z)).isSome
theorem ZH2 {kvs : List (List Key × V)} {x z : Int} {v : V} (h : ZEc kvs (kx x z) = some v) : has kvs x z = true := by unfold has; rw [h]; rfl
theorem ZH3 {kvs : List (List Key × V)} {x z : Int} (h : ZEc kvs (kx x z) = none) : has kvs x z = false := by unfold has; rw [h]; rfl
theorem ZOq {kvs : List (List Key × V)} {x z x' z' : Int} {v : V} : has (ZFi kvs (kx x z) v) x' z' = (decide (x' = x ∧ z' = z) || has kvs x' z') := by
 unfold has
 rw [ZHC]
 by_cases e : kx x' z' = kx x z
 ·rw [if_pos e, decide_eq_true (ZLO e)]; rfl
 ·rw [if_neg e, decide_eq_false (fun h => e (by rw [h.1, h.2]))]; rfl
def Kin (kvs : List (List Key × V)) (x z : Int) : Prop := has kvs x z = true ∨ (has kvs x ((x + z) / 2) = true ∧ has kvs ((x + z) / 2) z = true)
def ZRP : Sp := fun vs H Q _ => ∃ (d q : Addr) (b y m : Int) (kvs : List (List Key × V)) (sm : PL), vs = [.ref d, .ref q] ∧ H d = some (.dT kvs) ∧ ZFd H q b y m ∧
 (∀ x z v, ZEc kvs (kx x z) = some v → ZH1 H sm x z v) ∧
 ∀ (d' : Addr) (kvs' : List (List Key × V)) (H' : Hp), H d' = none → H' d' = some (.dT kvs') → kvs'.length ≤ m.toNat → (∀ x z v, ZEc kvs' (kx x z) = some v → Col b y m x z ∧ ZH1 H' sm x z v) →
  (∀ x z, Col b y m x z → (has kvs' x z = true ↔ Kin kvs x z)) → ZEI H H' → Q (.ref d') H'
section
variable {P : Program} {w : World} {K : W.Frag} {mg : Str → Option Value} {base : Heap} {a : Ad}
theorem ZGk : ZEJ ["known", "window", "staying", "first", "behind", "middle"] ["known", "window"] (ZEE ZI8) := ZEe
theorem ZOH (T : Txt K mg a) : ZEM P w K mg base CX0 4 a.Jw a.Jg ["known", "window"] ZRP := by
 refine T.ZBd.ok ZGk (by walk_at "l") (fun cdv A outer s H vs Q E hr h => ?_)
 ·obtain ⟨d, q, b, y, m, kvs, sm, rfl, hd, hW, hg, k⟩ := h
  have hu := ZF9 hr
  obtain ⟨hq, hy, hm1, hm2, hb, he⟩ := id hW
  refine ⟨_, QB.h (ZEC (qsS (i := 2) ZGk.nd ZKb) (ZEC (ZGK PassesOwn.never rfl (ZFz K rfl (qcS (ZHY T) hr T.Y6 T.Z5.kp T.Yy (ZD9 (qv 1) ZEA))) (ZFN (n := 2) K rfl rfl (ZEL (qgN (i := 3) ZGk.nd) (ZEL (qgN (i := 4) ZGk.nd) ZE7))) (ZEC (qsS (i := 5) ZGk.nd (ZEG ZGS (ZEG ZE3 (qv 3) (qv 4)) ZEB)) (ZED (ZEg (ZEQ (ZJ5 hu) (ZEb (ZD9 (qv 3) (ZD9 (qv 4) ZEA))) (qv 0) (by with_unfolding_all rfl)) (ZED (ZGt hu (ZHD hu (qv 0) (ZEb (ZD9 (qv 3) (ZD9 (qv 4) ZEA)))) (qv 2) (ZEb (ZD9 (qv 3) (ZD9 (qv 4) ZEA))))) (ZED (ZEg (QW.pt (ZGg (ZEQ (ZJ5 hu) (ZEb (ZD9 (qv 3) (ZD9 (qv 5) ZEA))) (qv 0) (by with_unfolding_all rfl)) (ZGN (ZEQ (ZJ5 hu) (ZEb (ZD9 (qv 5) (ZD9 (qv 4) ZEA))) (qv 0) (by with_unfolding_all rfl))))) (ZED (ZGt hu (qcS (ZJo T) hr.m T.ZBC T.Jo.kp T.ZBL (ZD9 (ZHD hu (qv 0) (ZEb (ZD9 (qv 3) (ZD9 (qv 5) ZEA)))) (ZD9 (ZHD hu (qv 0) (ZEb (ZD9 (qv 5) (ZD9 (qv 4) ZEA)))) ZEA))) (qv 2) (ZEb (ZD9 (qv 3) (ZD9 (qv 4) ZEA))))) ZEd)))))) (ZED (ZES (qv 2))))), ?_⟩
  walk_at "s"
  walk_at "w"
  refine ZKc fun d' H1 n1 f1 S1 => ?_
  have nd : d ≠ d' := ZET hd n1
  walk_at "w"
  refine ⟨q, b, y, m, rfl, S1 _ _ hq, hm1, by omega, fun l us H2 n2 f2 hP2 S2 => ?_⟩
  have nl : l ≠ d' := fun z => by rw [z, f1] at n2; cases n2
  have hul : us.length = m.toNat := by rw [hP2.length, ZHT]
  have S02 := S1.trans S2
  walk_at "w"
  refine ZIc (xs := us) (fun i σ H' => (∃ v3 v4 v5, σ = [some (.ref d), some (.ref q), some (.ref d'), v3, v4, v5]) ∧ Kp d' H2 H' ∧ ∃ kvs', H' d' = some (.dT kvs') ∧ kvs'.length ≤ i ∧
   (∀ x z v, ZEc kvs' (kx x z) = some v → (∃ j : Nat, j < i ∧ x = b + (j : Int) * y ∧ z = b + (j : Int) * y + y) ∧ ZH1 H' sm x z v) ∧ ∀ j : Nat, j < i → (has kvs' (b + (j : Int) * y) (b + (j : Int) * y + y) = true ↔ Kin kvs (b + (j : Int) * y) (b + (j : Int) * y + y))) ?_ ?_ ?_ ?_
  ·exact ⟨⟨_, _, _, rfl⟩, fun _ _ e _ => e, [], S2 _ _ f1, Nat.le_refl _, fun x z v h => (by cases h), fun j h => (by omega)⟩
  ·rintro i σ H3 _ ⟨_, K3, _⟩
   exact SqL.of (K3 _ _ f2 nl)
  ·rintro i x σ H3 hx ⟨⟨v3, v4, v5, rfl⟩, K3, kvs', f3, hl3, hG3, hI3⟩
   obtain ⟨cc, pq, rfl, hpq, hc⟩ := hP2.at hx
   have hil : i < m.toNat := by rw [← hul]; exact (List.getElem?_eq_some_iff.mp hx).1
   obtain rfl := ZJE hpq
   have ntd : ∀ {H' : Hp} {kv : List (List Key × V)}, H' d' = some (.dT kv) → ∀ {e : Addr} {xs : List V}, H' e = some (.tup xs) → e ≠ d' := fun h e xs g z => by rw [z, h] at g; cases g
   have hc3 := K3 _ _ hc (ntd (S2 _ _ f1) hc)
   have hd3 := K3 _ _ (S02 _ _ hd) nd
   have nt03 : ∀ b xs, H b = some (.tup xs) → H3 b = some (.tup xs) := fun b xs e => K3 _ _ (S02 _ _ e) (ZET e n1)
   have hz : kvs'.length < sizeLine := by show _ < 2 ^ 24; omega
   generalize hX : b + (i : Int) * y = X at hc3 hpq
   have hold : ∀ {H' : Hp} {v' : V}, H' d' = some (.dT (ZFi kvs' (kx X (X + y)) v')) → ZH1 H' sm X (X + y) v' → (∀ b xs, H3 b = some (.tup xs) → H' b = some (.tup xs)) → Kin kvs X (X + y) →
     (ZFi kvs' (kx X (X + y)) v').length ≤ i + 1 ∧ (∀ x z v, ZEc (ZFi kvs' (kx X (X + y)) v') (kx x z) = some v → (∃ j : Nat, j < i + 1 ∧ x = b + (j : Int) * y ∧ z = b + (j : Int) * y + y) ∧ ZH1 H' sm x z v) ∧
     ∀ j : Nat, j < i + 1 → (has (ZFi kvs' (kx X (X + y)) v') (b + (j : Int) * y) (b + (j : Int) * y + y) = true ↔ Kin kvs (b + (j : Int) * y) (b + (j : Int) * y + y)) := fun {H' v'} _ hv ht hk => by
    refine ⟨by have := ZGO kvs' (kx X (X + y)) v'; omega, fun x z v h => ?_, fun j hj => ?_⟩
    ·rw [ZHC] at h
     split at h
     ·rename_i e
      obtain ⟨rfl, rfl⟩ := ZLO e
      cases h
      exact ⟨⟨i, by omega, hX.symm, by rw [hX]⟩, hv⟩
     ·obtain ⟨⟨j, hj, e1, e2⟩, g⟩ := hG3 _ _ _ h
      exact ⟨⟨j, by omega, e1, e2⟩, g.tups ht⟩
    ·rw [ZOq]
     by_cases e : j = i
     ·subst e
      rw [hX]
      simp [hk]
     ·have hne : ¬ (b + (j : Int) * y = X ∧ b + (j : Int) * y + y = X + y) := fun z => by
       have h1 : (j : Int) * y = (i : Int) * y := by omega
       have := Int.eq_of_mul_eq_mul_right (by omega) h1
       omega
      rw [decide_eq_false hne, Bool.false_or]
      exact hI3 j (by omega)
   have hskip : ∀ {H' : Hp}, (∀ b xs, H3 b = some (.tup xs) → H' b = some (.tup xs)) → ¬ Kin kvs X (X + y) →
     kvs'.length ≤ i + 1 ∧ (∀ x z v, ZEc kvs' (kx x z) = some v → (∃ j : Nat, j < i + 1 ∧ x = b + (j : Int) * y ∧ z = b + (j : Int) * y + y) ∧ ZH1 H' sm x z v) ∧
     ∀ j : Nat, j < i + 1 → (has kvs' (b + (j : Int) * y) (b + (j : Int) * y + y) = true ↔ Kin kvs (b + (j : Int) * y) (b + (j : Int) * y + y)) := fun {H'} ht hk => by
    refine ⟨by omega, fun x z v h => ?_, fun j hj => ?_⟩
    ·obtain ⟨⟨j, hj, e1, e2⟩, g⟩ := hG3 _ _ _ h
     exact ⟨⟨j, by omega, e1, e2⟩, g.tups ht⟩
    ·by_cases e : j = i
     ·subst e
      rw [hX]
      refine ⟨fun h => ?_, fun h => absurd h hk⟩
      unfold has at h
      obtain ⟨v, hv⟩ := Option.isSome_iff_exists.mp h
      obtain ⟨⟨j', hj', e1, _⟩, _⟩ := hG3 _ _ _ hv
      have h1 : (j : Int) * y = (j' : Int) * y := by omega
      have := Int.eq_of_mul_eq_mul_right (by omega) h1
      omega
     ·exact hI3 j (by omega)
   have g2 : (2 : Nat) ≤ sizeLine := by decide
   have hM : X ≤ (X + (X + y)) / 2 ∧ (X + (X + y)) / 2 ≤ X + y := by omega
   walk_at "w"
   refine ZEK g2 fun u4 H4 n4 f4 S4 => ?_
   walk_at "w"
   refine ZLc (k := kx X (X + y)) (S4 _ _ hd3) f4 ?_
   cases hk : ZEc kvs (kx X (X + y)) with
   | some v =>
    walk_at "w"
    refine ZFD ?_
    walk_at "w"
    refine ZEK g2 fun u5 H5 n5 f5 S5 => ?_
    have hd5 := S5 _ _ (S4 _ _ hd3)
    walk_at "w"
    refine ⟨d, v, rfl, by rw [← hk]; exact ZFS.t (k := kx X (X + y)) hd5 f5, ?_⟩
    walk_at "w"
    refine ZEK g2 fun u6 H6 n6 f6 S6 => ?_
    have S36 := (S4.trans S5).trans S6
    have f36 := S36 _ _ f3
    walk_at "w"
    refine ZHq (k := kx X (X + y)) f36 f6 hz fun H7 f7 K7 => ?_
    have nt7 : ∀ b xs, H3 b = some (.tup xs) → H7 b = some (.tup xs) := fun b xs e => K7 _ _ (S36 _ _ e) (ntd f3 e)
    walk_at "w"
    exact ⟨⟨_, _, _, rfl⟩, (K3.then S36).trans K7, _, f7, hold f7 ((hg _ _ _ hk).tups fun b xs e => nt7 _ _ (nt03 _ _ e)) nt7 (.inl (ZH2 hk))⟩
   | none =>
    walk_at "w"
    refine ZEw ?_
    walk_at "w"
    refine ZEK g2 fun u5 H5 n5 f5 S5 => ?_
    have hd5 := S5 _ _ (S4 _ _ hd3)
    walk_at "w"
    refine ZLc (k := kx X ((X + (X + y)) / 2)) hd5 f5 ?_
    cases hk1 : ZEc kvs (kx X ((X + (X + y)) / 2)) with
    | none =>
     have S35 := S4.trans S5
     walk_at "w"
     refine ZEw ?_
     walk_at "w"
     exact ⟨⟨_, _, _, rfl⟩, K3.then S35, _, S35 _ _ f3, hskip (fun b xs e => S35 _ _ e) fun z => by
      rcases z with z | z
      ·rw [ZH3 hk] at z; cases z
      ·rw [ZH3 hk1] at z; cases z.1⟩
    | some v1 =>
     walk_at "w"
     refine ZFD ?_
     walk_at "w"
     refine ZEK g2 fun u6 H6 n6 f6 S6 => ?_
     have hd6 := S6 _ _ hd5
     have S36 := (S4.trans S5).trans S6
     walk_at "w"
     refine ZLc (k := kx ((X + (X + y)) / 2) (X + y)) hd6 f6 ?_
     cases hk2 : ZEc kvs (kx ((X + (X + y)) / 2) (X + y)) with
     | none =>
      walk_at "w"
      refine ZEw ?_
      walk_at "w"
      exact ⟨⟨_, _, _, rfl⟩, K3.then S36, _, S36 _ _ f3, hskip (fun b xs e => S36 _ _ e) fun z => by
       rcases z with z | z
       ·rw [ZH3 hk] at z; cases z
       ·rw [ZH3 hk2] at z; cases z.2⟩
     | some v2 =>
      walk_at "w"
      refine ZFD ?_
      walk_at "w"
      refine ZEK g2 fun u7 H7 n7 f7 S7 => ?_
      have hd7 := S7 _ _ hd6
      walk_at "w"
      refine ⟨d, v1, rfl, by rw [← hk1]; exact ZFS.t (k := kx X ((X + (X + y)) / 2)) hd7 f7, ?_⟩
      walk_at "w"
      refine ZEK g2 fun u8 H8 n8 f8 S8 => ?_
      have hd8 := S8 _ _ hd7
      have S38 := (S36.trans S7).trans S8
      walk_at "w"
      refine ⟨d, v2, rfl, by rw [← hk2]; exact ZFS.t (k := kx ((X + (X + y)) / 2) (X + y)) hd8 f8, ?_⟩
      obtain ⟨o1, i1, i2⟩ := (hg _ _ _ hk1).tups (H' := H8) fun b xs e => S38 _ _ (nt03 _ _ e)
      obtain ⟨o2, j1, j2⟩ := (hg _ _ _ hk2).tups (H' := H8) fun b xs e => S38 _ _ (nt03 _ _ e)
      walk_at "w"
      refine ⟨v1, v2, o1, o2, _, _, rfl, i1, i2, j1, j2, ZNV, fun v9 o9 H9 h9 g9 S9 => ?_⟩
      walk_at "w"
      refine ZEK g2 fun u10 H10 n10 f10 S10 => ?_
      have S310 := (S38.trans S9).trans S10
      have f310 := S310 _ _ f3
      walk_at "w"
      refine ZHq (k := kx X (X + y)) f310 f10 hz fun H11 f11 K11 => ?_
      have nt11 : ∀ b xs, H10 b = some (.tup xs) → H11 b = some (.tup xs) := fun b xs e => K11 _ _ e (ntd f310 e)
      walk_at "w"
      exact ⟨⟨_, _, _, rfl⟩, (K3.then S310).trans K11, _, f11, hold f11 ⟨o9, (h9.tups fun b xs e => S10 _ _ e).tups nt11, g9.congr fun r => ZLJ hM.1 hM.2 r⟩ (fun b xs e => nt11 _ _ (S310 _ _ e)) (.inr ⟨ZH2 hk1, ZH2 hk2⟩)⟩
  ·rintro σ H3 ⟨⟨v3, v4, v5, rfl⟩, K3, kvs', f3, hl3, hG3, hI3⟩
   rw [hul] at hl3 hG3 hI3
   walk_at "w"
   refine k d' kvs' H3 n1 f3 hl3 (fun x z v h => ?_) (fun x z h => ?_) fun b o e => K3 _ _ (S02 _ _ e) (ZET e n1)
   ·obtain ⟨⟨j, hj, e1, e2⟩, g⟩ := hG3 _ _ _ h
    exact ⟨⟨j, by omega, by omega, e1, e2⟩, g⟩
   ·obtain ⟨j, h0, h1, rfl, rfl⟩ := h
    have := hI3 j.toNat (by omega)
    rwa [Int.toNat_of_nonneg h0] at this
end
def vfl (s q d : Addr) (n e : Int) : List (Str × V) := [("source", V.ref s), ("window", V.ref q), ("asked", V.int n), ("known", V.ref d), ("seen", V.int e)]
section
variable {s q d q' d' : Addr} {n e n' e' : Int}
theorem vn1 : (("window" : Str) == "source") = false := by decide +kernel
theorem vn2 : (("asked" : Str) == "source") = false := by decide +kernel
theorem vn3 : (("asked" : Str) == "window") = false := by decide +kernel
theorem vn4 : (("known" : Str) == "source") = false := by decide +kernel
theorem vn5 : (("known" : Str) == "window") = false := by decide +kernel
theorem vn6 : (("known" : Str) == "asked") = false := by decide +kernel
theorem vn7 : (("seen" : Str) == "source") = false := by decide +kernel
theorem vn8 : (("seen" : Str) == "window") = false := by decide +kernel
theorem vn9 : (("seen" : Str) == "asked") = false := by decide +kernel
theorem ZTS : (("seen" : Str) == "known") = false := by decide +kernel
theorem ZJG : (vfl s q d n e).lookup ("source" : Str) = some (.ref s) := by
 unfold vfl
 rw [List.lookup_cons, beq_self_eq_true]
theorem ZHh : (vfl s q d n e).lookup ("window" : Str) = some (.ref q) := by
 unfold vfl
 rw [List.lookup_cons, vn1, List.lookup_cons, beq_self_eq_true]
theorem ZIG : (vfl s q d n e).lookup ("asked" : Str) = some (.int n) := by
 unfold vfl
 rw [List.lookup_cons, vn2, List.lookup_cons, vn3, List.lookup_cons, beq_self_eq_true]
theorem ZJs : (vfl s q d n e).lookup ("known" : Str) = some (.ref d) := by
 unfold vfl
 rw [List.lookup_cons, vn4, List.lookup_cons, vn5, List.lookup_cons, vn6, List.lookup_cons, beq_self_eq_true]
theorem ZNu : (vfl s q d n e).lookup ("seen" : Str) = some (.int e) := by
 unfold vfl
 rw [List.lookup_cons, vn7, List.lookup_cons, vn8, List.lookup_cons, vn9, List.lookup_cons, ZTS, List.lookup_cons, beq_self_eq_true]
theorem ZFe {m : Str} (h1 : (m == ("source" : Str)) = false := by decide +kernel) (h2 : (m == ("window" : Str)) = false := by decide +kernel) (h3 : (m == ("asked" : Str)) = false := by decide +kernel) (h4 : (m == ("known" : Str)) = false := by decide +kernel) (h5 : (m == ("seen" : Str)) = false := by decide +kernel) : (vfl s q d n e).lookup m = none := by
 unfold vfl
 rw [List.lookup_cons, h1, List.lookup_cons, h2, List.lookup_cons, h3, List.lookup_cons, h4, List.lookup_cons, h5]
 rfl
theorem ZJH (f : Str) (v u : V) (r : List (Str × V)) : ZEj f v ((f, u) :: r) = (f, v) :: r := by
 show (if f = f then _ else _) = _
 rw [if_pos rfl]
theorem ZEu {f g : Str} (h : (f == g) = false) (v u : V) (r : List (Str × V)) : ZEj f v ((g, u) :: r) = (g, u) :: ZEj f v r := by
 show (if g = f then _ else _) = _
 rw [if_neg (fun z => by rw [z, beq_self_eq_true] at h; cases h)]
theorem ZH4 (f : Str) (v : V) : ZEj f v [] = [(f, v)] := rfl
theorem ZTT : ZEj "window" (.ref q') (vfl s q d n e) = vfl s q' d n e := by
 unfold vfl
 rw [ZEu vn1, ZJH]
theorem ZTU : ZEj "asked" (.int n') (vfl s q d n e) = vfl s q d n' e := by
 unfold vfl
 rw [ZEu vn2, ZEu vn3, ZJH]
theorem ZTV : ZEj "known" (.ref d') (vfl s q d n e) = vfl s q d' n e := by
 unfold vfl
 rw [ZEu vn4, ZEu vn5, ZEu vn6, ZJH]
theorem ZTW : ZEj "seen" (.int e') (vfl s q d n e) = vfl s q d n e' := by
 unfold vfl
 rw [ZEu vn7, ZEu vn8, ZEu vn9, ZEu ZTS, ZJH]
theorem ZVj : ZEj "seen" (.int e) (ZEj "known" (.ref d) (ZEj "asked" (.int n) (ZEj "window" (.ref q) (ZEj "source" (.ref s) [])))) = vfl s q d n e := by
 unfold vfl
 rw [ZH4, ZEu vn1, ZH4, ZEu vn2, ZEu vn3, ZH4, ZEu vn4, ZEu vn5, ZEu vn6, ZH4, ZEu vn7, ZEu vn8, ZEu vn9, ZEu ZTS, ZH4]
end
def ZKp (H : Hp) (kvs : List (List Key × V)) (sm : PL) (b y m : Int) (bad : List Int) : Prop :=
 ∀ x z u, ZEc kvs (kx x z) = some u → Col b y m x z ∧ ((∃ t ∈ bad, x ≤ t ∧ t < z) ∨ ZH1 H sm x z u)
theorem ZKp.tups {H H' : Hp} {kvs : List (List Key × V)} {sm : PL} {b y m : Int} {bad : List Int} (h : ZKp H kvs sm b y m bad) (t : ∀ b xs, H b = some (.tup xs) → H' b = some (.tup xs)) : ZKp H' kvs sm b y m bad := fun x z u e =>
 ⟨(h x z u e).1, (h x z u e).2.imp id fun g => g.tups t⟩
def ZE0 (a : Ad) (H : Hp) (S : SA) (v d : Addr) (b y m n : Int) (kvs : List (List Key × V)) (e : Nat) (sm : PL) (ts : List Int) : Prop :=
 ∃ dx q, H v = some (.ins a.ZH dx (vfl S.p q d n (e : Int))) ∧ ZFd H q b y m ∧ H d = some (.dT kvs) ∧ ZKp H kvs sm b y m (ts.drop e) ∧ v ∉ S.p :: S.own ∧ d ∉ S.p :: S.own
section
variable {a : Ad} {H H' : Hp} {S : SA} {v d : Addr} {b y m n : Int} {kvs : List (List Key × V)} {e : Nat} {sm : PL} {ts : List Int}
theorem ZE0.frL (h : ZE0 a H S v d b y m n kvs e sm ts) {l : List Addr} (f : FrL l H H') (nv : v ∉ l) (nd : d ∉ l) (nt : ∀ b ∈ l, ∀ xs, H b ≠ some (.tup xs)) : ZE0 a H' S v d b y m n kvs e sm ts := by
 obtain ⟨dx, q, h1, h2, h3, h4, h5⟩ := h
 have kt : ∀ b xs, H b = some (.tup xs) → H' b = some (.tup xs) := fun b xs e => f _ _ e fun z => nt b z xs e
 exact ⟨dx, q, f _ _ h1 nv, ⟨kt _ _ h2.1, h2.2⟩, f _ _ h3 nd, h4.tups kt, h5⟩
theorem ZE0.same (h : ZE0 a H S v d b y m n kvs e sm ts) (s : ZEI H H') : ZE0 a H' S v d b y m n kvs e sm ts := h.frL (l := []) (FrL.same s) (by simp) (by simp) (by simp)
theorem ZE0.ne (h : ZE0 a H S v d b y m n kvs e sm ts) : v ≠ d := fun z => by
 obtain ⟨dx, q, h1, h2, h3, _⟩ := h
 rw [z, h3] at h1; cases h1
theorem ZE0.noTup (h : ZE0 a H S v d b y m n kvs e sm ts) : ∀ b ∈ [v, d], ∀ xs, H b ≠ some (.tup xs) := by
 obtain ⟨dx, q, h1, h2, h3, _⟩ := h
 intro b hb xs e
 simp only [List.mem_cons, List.not_mem_nil, or_false] at hb
 rcases hb with rfl | rfl
 ·rw [h1] at e; cases e
 ·rw [h3] at e; cases e
end
theorem ZGE {H : Hp} {q : Addr} {b y m : Int} (h : ZFd H q b y m) : y ≤ 2199023255552 := by
 obtain ⟨_, hy, h1, h2, hb, he⟩ := h
 have : 0 ≤ (m - 1) * y := Int.mul_nonneg (by omega) (by omega)
 rw [Int.sub_mul, Int.one_mul] at this
 unfold InT at hb he
 omega
theorem ZTX (xs : List V) (e : Nat) : ZGe xs (some (e : Int)) none = xs.drop e := by
 unfold ZGe
 rw [HT.sIx_nat, HT.sIx_none]
 by_cases h : e ≤ xs.length
 ·rw [Nat.min_eq_left h, List.take_of_length_le (by rw [List.length_drop]; exact Nat.le_refl _)]
 ·rw [Nat.min_eq_right (by omega), List.drop_length, List.take_nil, List.drop_of_length_le (by omega)]
theorem col_of {b y m x z t : Int} (hy : 0 < y) (h : Col b y m x z) (h1 : x ≤ t) (h2 : t < z) : 0 ≤ (t - b) / y ∧ (t - b) / y < m ∧ x = b + (t - b) / y * y ∧ z = b + (t - b) / y * y + y := by
 obtain ⟨k, k0, k1, rfl, rfl⟩ := h
 have hk : (t - b) / y = k := by
  have hq := Int.mul_ediv_add_emod (t - b) y
  have r0 := Int.emod_nonneg (t - b) (by omega : y ≠ 0)
  have r1 := Int.emod_lt_of_pos (t - b) hy
  generalize (t - b) / y = c at hq
  rw [Int.mul_comm] at hq
  rcases Int.lt_trichotomy c k with h | h | h
  ·have := Int.mul_le_mul_of_nonneg_right (show c + 1 ≤ k by omega) (show 0 ≤ y by omega)
   rw [Int.add_mul, Int.one_mul] at this
   omega
  ·exact h
  ·have := Int.mul_le_mul_of_nonneg_right (show k + 1 ≤ c by omega) (show 0 ≤ y by omega)
   rw [Int.add_mul, Int.one_mul] at this
   omega
 rw [hk]
 exact ⟨k0, k1, rfl, rfl⟩
theorem ZRQ {b y t : Int} (hy : 0 < y) : b + (t - b) / y * y ≤ t ∧ t < b + (t - b) / y * y + y := by
 have hq := Int.mul_ediv_add_emod (t - b) y
 have r0 := Int.emod_nonneg (t - b) (by omega : y ≠ 0)
 have r1 := Int.emod_lt_of_pos (t - b) hy
 rw [Int.mul_comm] at hq
 omega
theorem ZTY {kvs : List (List Key × V)} {x z x' z' : Int} : has (ZFf kvs (kx x z)) x' z' = (!decide (x' = x ∧ z' = z) && has kvs x' z') := by
 unfold has
 rw [ZJr]
 by_cases e : kx x' z' = kx x z
 ·rw [if_pos e, decide_eq_true (ZLO e)]; rfl
 ·rw [if_neg e, decide_eq_false (fun h => e (by rw [h.1, h.2]))]; rfl
def hit (bad : List Int) (x z : Int) : Prop := ∃ t ∈ bad, x ≤ t ∧ t < z
def ZTZ (a : Ad) : Sp := fun vs H Q _ => ∃ (S : SA) (v d : Addr) (b y m k n : Int) (kvs : List (List Key × V)) (e : Nat) (sm : PL) (c : Nat) (ds : List (Int × Option Int)) (ts : List Int) (ws : List V), vs = [.ref v] ∧ ZEF a H S n sm c ds ts ws ∧ ZE0 a H S v d b y m k kvs e sm ts ∧ ts.length ≤ 10000 ∧
 ∀ kvs' H', ZE0 a H' S v d b y m k kvs' ts.length sm ts → ZEF a H' S n sm c ds ts ws → (∀ x z, has kvs' x z = true ↔ has kvs x z = true ∧ ¬ hit (ts.drop e) x z) → kvs'.length ≤ kvs.length → FrL [v, d] H H' → Q .non H'
section
variable {P : Program} {w : World} {K : W.Frag} {mg : Str → Option Value} {base : Heap} {a : Ad}
local macro_rules | `(tactic| walk_at "rd") => `(tactic| first
 | with_reducible first | refine ZEx (by assumption) (‹Txt _ _ _›).ZG (‹Txt _ _ _›).Zu ZJG ?_ | refine ZEx (by assumption) (‹Txt _ _ _›).ZG (‹Txt _ _ _›).ZS ZHh ?_ | refine ZEx (by assumption) (‹Txt _ _ _›).ZG (‹Txt _ _ _›).Ze ZIG ?_ | refine ZEx (by assumption) (‹Txt _ _ _›).ZG (‹Txt _ _ _›).Zf ZJs ?_ | refine ZEx (by assumption) (‹Txt _ _ _›).ZG (‹Txt _ _ _›).YU ZNu ?_ | refine ZRA ?_)
theorem ZGd : ZEJ ["self", "times", "t", "k"] ["self"] (ZEE ZHU) := ZEe
theorem ZIl (T : Txt K mg a) : ZEM P w K mg base CX0 3 a.Yg a.Yk ["self"] (ZTZ a) := by
 refine T.ZB1.ok ZGd (by walk_at "l") (fun cdv A outer s H vs Q E hr h => ?_)
 ·obtain ⟨S, v, d, b, y, m, k, n, kvs, e, sm, c, ds, ts, ws, rfl, hS, hV, hlen, kk⟩ := h
  have hu := ZF9 hr
  obtain ⟨dx, q, hv, hW, hd, hk, av, ad⟩ := id hV
  obtain ⟨sx, svs, sp, _⟩ := id hS
  have hy := hW.2.1
  have hy2 := ZGE hW
  have hvd := hV.ne
  refine ⟨_, QB.h (ZEC (qsS (i := 1) ZGd.nd (ZGC (ZEh K rfl (qv 0)) T.ZL T.ZB0 (ZLl T) hr.m T.ZBz .nil ZEz)) (ZEC (ZGK PassesOwn.never rfl (ZMy K rfl (ZMw (ZU6 K rfl) (qv 1) (ZLX (ZEh K rfl (qv 0))) ZUw)) (qgN (i := 2) ZGd.nd) (ZEC (qsS (i := 3) ZGd.nd (qcS (ZNs T) hr.m T.ZCY T.ZAz.kp T.ZCd (ZD9 (ZEh K rfl (qv 0)) (ZD9 (qv 2) ZEA)))) (ZED (ZEg (ZEQ (ZLV) (qv 3) ZFH (ZEW _)) (ZED (ZEX (ZS7 hu (ZEh K rfl (qv 0)) (qcS (ZKG T) hr T.ZBR T.Js.kp T.ZBh (ZD9 (ZEh K rfl (qv 0)) (ZD9 (qv 3) ZEA))) ZFH))) ZEd)))) (ZED (ZFq K rfl (qv 0) (ZEk (ZIf K rfl) rfl T.YT ZHQ (ZD9 (qv 1) ZEA)))))), ?_⟩
  walk_at "s"
  walk_at "w"
  refine ZEa sp ZGj ?_
  refine ⟨S, n, sm, c, ds, ts, ws, rfl, hS, fun u H1 f1 S1 => ?_⟩
  have hv1 := S1 _ _ hv
  walk_at "w"
  refine ZXE f1 fun u2 H2 f2 S2 => ?_
  rw [ZTX, ← List.map_drop] at f2
  have S02 := S1.trans S2
  have hv2 := S02 _ _ hv
  have f12 := S2 _ _ f1
  have hW2 : ZFd H2 q b y m := ⟨S02 _ _ hW.1, hW.2⟩
  have ntd : ∀ {e : Addr} {xs : List V}, H2 e = some (.tup xs) → e ≠ d := fun g z => by rw [z, S02 _ _ hd] at g; cases g
  walk_at "w"
  refine ZLW (xs := (ts.drop e).map V.int) (fun i σ H' => (∃ v2 v3, σ = [some (.ref v), some (.ref u), v2, v3]) ∧ Kp d H2 H' ∧ ∃ kvs', H' d = some (.dT kvs') ∧ kvs'.length ≤ kvs.length ∧ (∀ x z w, ZEc kvs' (kx x z) = some w → ZEc kvs (kx x z) = some w) ∧ ∀ x z, has kvs' x z = true ↔ has kvs x z = true ∧ ¬ hit ((ts.drop e).take i) x z) ?_ ?_ ?_ ?_
  ·exact ⟨⟨_, _, rfl⟩, fun _ _ e _ => e, kvs, S02 _ _ hd, Nat.le_refl _, fun _ _ _ h => h, fun x z => ⟨fun h => ⟨h, fun ⟨t, ht, _⟩ => by rw [List.take_zero] at ht; cases ht⟩, fun h => h.1⟩⟩
  ·rintro i σ H3 _ ⟨_, K3, _⟩
   exact SqT.of (K3 _ _ f2 (ntd f2))
  ·rintro i x σ H3 hx ⟨⟨v2, v3, rfl⟩, K3, kvs', f3, hl3, hs3, hh3⟩
   rw [List.getElem?_map] at hx
   obtain ⟨t, ht, rfl⟩ := Option.map_eq_some_iff.mp hx
   have hv3 := K3 _ _ hv2 hvd
   have hW3 := K3 _ _ hW2.1 (ntd hW2.1)
   have htk : ∀ x z, hit ((ts.drop e).take (i + 1)) x z ↔ hit ((ts.drop e).take i) x z ∨ (x ≤ t ∧ t < z) := fun x z => by
    unfold hit
    rw [List.take_succ, ht]
    constructor
    ·rintro ⟨t', h1, h2⟩
     rcases List.mem_append.mp h1 with h1 | h1
     ·exact .inl ⟨t', h1, h2⟩
     ·obtain rfl : t' = t := by simpa using h1
      exact .inr h2
    ·rintro (⟨t', h1, h2⟩ | h)
     ·exact ⟨t', List.mem_append_left _ h1, h2⟩
     ·exact ⟨t, List.mem_append_right _ (by simp), h⟩
   walk_at "w"
   refine ⟨q, b, y, m, t, rfl, hW3, hy, by omega, ?_⟩
   walk_at "w"
   unfold ZNr
   by_cases hc : 0 ≤ (t - b) / y ∧ (t - b) / y < m
   ·rw [if_pos hc]
    walk_at "w"
    refine ZMb (fun _ => ?_) (fun h => by cases h)
    walk_at "w"
    refine ZRB f3 ?_
    walk_at "w"
    refine ⟨q, b, y, m, _, rfl, hW3, hc.1, hc.2, by have := hW.2.2.2.1; omega, fun u4 H4 n4 f4 S4 => ?_⟩
    walk_at "w"
    refine ZS8 (k := kx (b + (t - b) / y * y) (b + (t - b) / y * y + y)) (S4 _ _ f3) f4 fun w5 H5 f5 K5 => ?_
    walk_at "w"
    refine ⟨⟨_, _, rfl⟩, (K3.then S4).trans K5, _, f5, Nat.le_trans (List.length_filter_le _ _) hl3, fun x z w h => ?_, fun x z => ?_⟩
    ·rw [ZJr] at h
     split at h
     ·cases h
     ·exact hs3 _ _ _ h
    ·rw [ZTY, htk, Bool.and_eq_true, hh3]
     have hin := ZRQ (b := b) (t := t) hy
     constructor
     ·rintro ⟨h1, h2, h3⟩
      refine ⟨h2, fun h => ?_⟩
      rcases h with h | h
      ·exact h3 h
      ·obtain ⟨w, hw⟩ := Option.isSome_iff_exists.mp h2
       obtain ⟨_, _, e1, e2⟩ := col_of hy (hk _ _ _ hw).1 h.1 h.2
       rw [decide_eq_true ⟨e1, e2⟩] at h1
       cases h1
     ·rintro ⟨h1, h2⟩
      refine ⟨?_, h1, fun h => h2 (.inl h)⟩
      rw [decide_eq_false (fun h => h2 (.inr (by rw [h.1, h.2]; exact hin)))]
      rfl
   ·rw [if_neg hc]
    walk_at "w"
    refine ZMb (fun h => absurd rfl h) (fun _ => ?_)
    walk_at "w"
    refine ⟨⟨_, _, rfl⟩, K3, _, f3, hl3, hs3, fun x z => ?_⟩
    rw [htk, hh3]
    refine and_congr_right fun h1 => not_congr ⟨.inl, fun h => ?_⟩
    rcases h with h | h
    ·exact h
    ·obtain ⟨w, hw⟩ := Option.isSome_iff_exists.mp h1
     obtain ⟨e1, e2, _⟩ := col_of hy (hk _ _ _ hw).1 h.1 h.2
     exact absurd ⟨e1, e2⟩ hc
  ·rintro σ H3 ⟨⟨v2, v3, rfl⟩, K3, kvs', f3, hl3, hs3, hh3⟩
   rw [List.length_map, List.take_length] at hh3
   have hv3 := K3 _ _ hv2 hvd
   have f13 := K3 _ _ f12 (ntd f12)
   walk_at "w"
   refine ZFa hv3 T.ZG T.YU (by show 5 < 1000; decide) fun H4 f4 K4 => ?_
   rw [ZTW, List.length_map] at f4
   have F02 : FrL [v, d] H H4 := ((FrL.same S02).trans (FrL.kp K3 (by simp))).trans (FrL.kp K4 (by simp))
   have kt : ∀ b xs, H b = some (.tup xs) → H4 b = some (.tup xs) := fun b xs e => F02 _ _ e fun z => hV.noTup b z xs e
   have hF : ∀ x z u, ZEc kvs' (kx x z) = some u → Col b y m x z ∧ ZH1 H sm x z u := fun x z u h => by
    obtain ⟨h1, h2⟩ := hk _ _ _ (hs3 _ _ _ h)
    refine ⟨h1, h2.resolve_left fun hh => ?_⟩
    exact ((hh3 x z).mp (ZH2 h)).2 hh
   walk_at "w"
   refine kk kvs' H4 ⟨dx, q, f4, ⟨kt _ _ hW.1, hW.2⟩, K4 _ _ f3 (Ne.symm hvd), fun x z u h => ⟨(hF x z u h).1, .inr ((hF x z u h).2.tups kt)⟩, av, ad⟩ (hS.frL F02 (fun b hb => ?_) hV.noTup) hh3 hl3 F02
   simp only [List.mem_cons, List.not_mem_nil, or_false] at hb
   rcases hb with rfl | rfl
   ·exact av
   ·exact ad
end
def ZG4 (kvs : List (List Key × V)) (b y : Int) (N : Nat) : Nat := ((ZHL b y N).filter fun p => !has kvs p.1 p.2).length
theorem ZL5 (kvs : List (List Key × V)) (b y : Int) (i : Nat) : ZG4 kvs b y (i + 1) = ZG4 kvs b y i + if has kvs (b + (i : Int) * y) (b + (i : Int) * y + y) = true then 0 else 1 := by
 unfold ZG4
 rw [ZLL, List.filter_append, List.length_append]
 congr 1
 cases hh : has kvs (b + (i : Int) * y) (b + (i : Int) * y + y) with
 | true => rw [List.filter_cons_of_neg (by simp [hh])]; rfl
 | false => rw [List.filter_cons_of_pos (by simp [hh])]; rfl
def ZTa (a : Ad) : Sp := fun vs H Q _ => ∃ (S : SA) (v d : Addr) (b y m k n : Int) (kvs : List (List Key × V)) (e : Nat) (sm : PL) (c : Nat) (ds : List (Int × Option Int)) (ts : List Int) (ws : List V), vs = [.ref v] ∧ ZEF a H S n sm c ds ts ws ∧ ZE0 a H S v d b y m k kvs e sm ts ∧ ts.length ≤ 10000 ∧ kvs.length ≤ 100000 ∧
 ∀ (u : Addr) (us : List V) (fs : List (Option (PL))) (kvs1 kvs' : List (List Key × V)) (n' : Int) (H' : Hp), H' u = some (.tup us) → ZFA H' us fs → ZHS sm b y m.toNat fs → (∀ x z, has kvs1 x z = true ↔ has kvs x z = true ∧ ¬ hit (ts.drop e) x z) →
  ZE0 a H' S v d b y m (k + (ZG4 kvs1 b y m.toNat : Int)) kvs' ts.length sm ts → ZEF a H' S n' sm c ds ts ws → (∀ x z, Col b y m x z → has kvs' x z = true) → kvs'.length ≤ kvs.length + m.toNat → FrL [v, d, S.tr] H H' → Q (.ref u) H'
section
variable {P : Program} {w : World} {K : W.Frag} {mg : Str → Option Value} {base : Heap} {a : Ad}
local macro_rules | `(tactic| walk_at "rd") => `(tactic| first
 | with_reducible first | refine ZEx (by assumption) (‹Txt _ _ _›).ZG (‹Txt _ _ _›).Zu ZJG ?_ | refine ZEx (by assumption) (‹Txt _ _ _›).ZG (‹Txt _ _ _›).ZS ZHh ?_ | refine ZEx (by assumption) (‹Txt _ _ _›).ZG (‹Txt _ _ _›).Ze ZIG ?_ | refine ZEx (by assumption) (‹Txt _ _ _›).ZG (‹Txt _ _ _›).Zf ZJs ?_ | refine ZEx (by assumption) (‹Txt _ _ _›).ZG (‹Txt _ _ _›).YU ZNu ?_)
theorem ZGl : ZEJ ["self", "columns", "first", "behind"] ["self"] (ZEE ZG1) := ZEe
theorem ZMU (T : Txt K mg a) : ZEM P w K mg base CX0 7 a.Y5 a.Y9 ["self"] (ZTa a) := by
 refine T.ZCC.ok ZGl (by walk_at "l") (fun cdv A outer s H vs Q E hr h => ?_)
 ·obtain ⟨S, v, d, b, y, m, k, n, kvs, e, sm, c, ds, ts, ws, rfl, hS, hV, hlen, hkl, kk⟩ := h
  have hu := ZF9 hr
  obtain ⟨dx, q, hv, hW, hd, hk, av, ad⟩ := id hV
  have hvd := hV.ne
  have tro : S.tr ∈ S.p :: S.own := by simp [SA.own]
  have hvt : v ≠ S.tr := fun z => av (z ▸ tro)
  have hdt : d ≠ S.tr := fun z => ad (z ▸ tro)
  have apart : ∀ b ∈ [v, d], b ∉ S.p :: S.own := fun b hb => by
   simp only [List.mem_cons, List.not_mem_nil, or_false] at hb
   rcases hb with rfl | rfl
   ·exact av
   ·exact ad
  refine ⟨_, QB.h (ZEC (ZEX (ZGC (qv 0) T.ZG T.ZAN (ZIl T) hr.m T.ZAO .nil ZEz)) (ZEC (qsS (i := 1) ZGl.nd (qcS (ZHY T) hr.m T.Y6 T.Z5.kp T.Yy (ZD9 (ZEh K rfl (qv 0)) ZEA))) (ZEC (ZGK PassesOwn.never rfl (ZFz K rfl (qv 1)) (ZFN (n := 2) K rfl rfl (ZEL (qgN (i := 2) ZGl.nd) (ZEL (qgN (i := 3) ZGl.nd) ZE7))) (ZED (ZEg (ZEQ (ZLK hu) (ZEb (ZD9 (qv 2) (ZD9 (qv 3) ZEA))) (ZEh K rfl (qv 0)) (by with_unfolding_all rfl)) (ZEC (ZGt hu (ZEs (ZEh K rfl (qv 0)) T.ZL T.ZCA (ZMT T) hr T.ZCF .nil ZEz (ZD9 (qv 2) (ZD9 (qv 3) ZEA))) (ZEh K rfl (qv 0)) (ZEb (ZD9 (qv 2) (ZD9 (qv 3) ZEA)))) (ZED (ZLz K rfl (qv 0) ZEB))) ZEd))) (ZED (ZES (ZGa (ZHB K rfl) rfl T.Z2 ZG6 (ZD9 (ZGb (N := ["self", "columns", "first", "behind"]) (sc := ZEE ZG1) (own := ["times"]) (caps := ["self"]) (ks := [0]) rfl rfl rfl ⟨rfl, by decide +kernel, by decide +kernel, by decide +kernel, by decide +kernel, rfl, by decide +kernel⟩ (ZFz K rfl (qv 1)) (fun _ _ _ _ _ => ZFo (i := 0) (show List.Nodup (α := Str) ["times", "self"] from by decide +kernel) rfl (by walk_at "o") (.inr rfl)) (fun _ _ _ _ _ => ZHA) (fun _ _ _ _ _ => ZHD hu (ZEh K rfl (qv 1)) (qv 0))) ZEA))))))), ?_⟩
  walk_at "s"
  walk_at "w"
  refine ZEa hv ZFe ?_
  refine ⟨S, v, d, b, y, m, k, n, kvs, e, sm, c, ds, ts, ws, rfl, hS, hV, hlen, fun kvs1 H1 hV1 hS1 hh1 hl1 F1 => ?_⟩
  obtain ⟨dx1, q1, hv1, hW1, hd1, hk1, _⟩ := id hV1
  obtain ⟨hq1, hy, hm1, hm2, hb, he⟩ := id hW1
  walk_at "w"
  refine ⟨q1, b, y, m, rfl, hq1, hm1, by omega, fun l us0 H2 n2 f2 hP2 S2 => ?_⟩
  have hul : us0.length = m.toNat := by rw [hP2.length, ZHT]
  have lne : l ∉ [v, d, S.tr] := fun z => by
   simp only [List.mem_cons, List.not_mem_nil, or_false] at z
   obtain ⟨o, ho⟩ := hS1.live _ tro
   rcases z with rfl | rfl | rfl
   ·rw [hv1] at n2; cases n2
   ·rw [hd1] at n2; cases n2
   ·rw [ho] at n2; cases n2
  have hV2 := hV1.same S2
  have hS2 := hS1.same S2
  have nt2 : ∀ b ∈ [v, d, S.tr], ∀ xs, H2 b ≠ some (.tup xs) := fun b hb xs => by
   simp only [List.mem_cons, List.not_mem_nil, or_false] at hb
   rcases hb with rfl | rfl | rfl
   ·exact hV2.noTup _ (by simp) xs
   ·exact hV2.noTup _ (by simp) xs
   ·exact hS2.noTup _ (by simp [SA.own]) xs
  walk_at "w"
  refine ZIc (xs := us0) (fun i σ H' => (∃ v2 v3, σ = [some (.ref v), some (.ref l), v2, v3]) ∧ FrL [v, d, S.tr] H2 H' ∧ ∃ kvs' n', ZE0 a H' S v d b y m (k + (ZG4 kvs1 b y i : Int)) kvs' ts.length sm ts ∧ ZEF a H' S n' sm c ds ts ws ∧ kvs'.length ≤ kvs1.length + i ∧
   ∀ x z, has kvs' x z = true ↔ has kvs1 x z = true ∨ ∃ j : Nat, j < i ∧ x = b + (j : Int) * y ∧ z = b + (j : Int) * y + y) ?_ ?_ ?_ ?_
  ·refine ⟨⟨_, _, rfl⟩, fun _ _ e _ => e, kvs1, n, ?_, hS2, Nat.le_refl _, fun x z => ⟨.inl, fun h => h.resolve_right fun ⟨j, hj, _⟩ => by omega⟩⟩
   rw [show ZG4 kvs1 b y 0 = 0 from rfl]
   simpa using hV2
  ·rintro i σ H3 _ ⟨_, F3, _⟩
   exact SqL.of (F3 _ _ f2 lne)
  ·rintro i x σ H3 hx ⟨⟨v2, v3, rfl⟩, F3, kvs', n3, hV3, hS3, hl3, hh3⟩
   obtain ⟨cc, pq, rfl, hpq, hc⟩ := hP2.at hx
   have hil : i < m.toNat := by rw [← hul]; exact (List.getElem?_eq_some_iff.mp hx).1
   obtain rfl := ZJE hpq
   have hc3 := F3 _ _ hc fun z => nt2 _ z _ hc
   obtain ⟨w1, w2⟩ := hW1.col (k := (i : Int)) (by omega) (by omega)
   obtain ⟨dx3, q3, hv3, hW3, hd3, hk3, _⟩ := id hV3
   have hms := ZL5 kvs1 b y i
   have hnj : ∀ j : Nat, j < i → ¬ (b + (i : Int) * y = b + (j : Int) * y ∧ b + (i : Int) * y + y = b + (j : Int) * y + y) := fun j hj z => by
    have h1 : (i : Int) * y = (j : Int) * y := by omega
    have := Int.eq_of_mul_eq_mul_right (by omega) h1
    omega
   have hcol : Col b y m (b + (i : Int) * y) (b + (i : Int) * y + y) := ⟨i, by omega, by omega, rfl, rfl⟩
   have hsucc : ∀ x z, (∃ j : Nat, j < i + 1 ∧ x = b + (j : Int) * y ∧ z = b + (j : Int) * y + y) ↔ (∃ j : Nat, j < i ∧ x = b + (j : Int) * y ∧ z = b + (j : Int) * y + y) ∨ (x = b + (i : Int) * y ∧ z = b + (i : Int) * y + y) := fun x z => by
    constructor
    ·rintro ⟨j, hj, e1, e2⟩
     by_cases ej : j = i
     ·subst ej; exact .inr ⟨e1, e2⟩
     ·exact .inl ⟨j, by omega, e1, e2⟩
    ·rintro (⟨j, hj, e⟩ | e)
     ·exact ⟨j, by omega, e⟩
     ·exact ⟨i, by omega, e⟩
   generalize b + (i : Int) * y = X at *
   have g2 : (2 : Nat) ≤ sizeLine := by decide
   walk_at "w"
   refine ZEK g2 fun u4 H4 n4 f4 S4 => ?_
   have hv4 := S4 _ _ hv3
   have hd4 := S4 _ _ hd3
   walk_at "w"
   refine ZPc (k := kx X (X + y)) hd4 f4 ?_
   cases hkx : ZEc kvs' (kx X (X + y)) with
   | some w =>
    walk_at "w"
    refine ZEw ?_
    walk_at "w"
    have hh : has kvs1 X (X + y) = true := ((hh3 _ _).mp (ZH2 hkx)).resolve_right fun ⟨j, hj, e⟩ => hnj j hj e
    rw [if_pos hh] at hms
    refine ⟨⟨_, _, rfl⟩, F3.trans (FrL.same S4), kvs', n3, ?_, hS3.same S4, by omega, fun x z => ?_⟩
    ·rw [hms]; exact hV3.same S4
    ·rw [hh3, hsucc]
     constructor
     ·rintro (h | h)
      ·exact .inl h
      ·exact .inr (.inl h)
     ·rintro (h | h | ⟨rfl, rfl⟩)
      ·exact .inl h
      ·exact .inr h
      ·exact .inl hh
   | none =>
    obtain ⟨sx, svs, sp, _⟩ := id (hS3.same S4)
    walk_at "w"
    refine ZFD ?_
    walk_at "w"
    refine ZEa sp ZGj ?_
    walk_at "w"
    refine ⟨S, n3, _, _, sm, c, ds, ts, ws, rfl, hS3.same S4, w1, w2, fun v5 o5 n5 H5 h5 g5 hS5 K5 => ?_⟩
    have hv5 := K5 _ _ hv4 hvt
    have hd5 := K5 _ _ hd4 hdt
    walk_at "w"
    refine ZEK g2 fun u6 H6 n6 f6 S6 => ?_
    have hd6 := S6 _ _ hd5
    have hv6 := S6 _ _ hv5
    walk_at "w"
    refine ZHq (k := kx X (X + y)) hd6 f6 (by show _ < 2 ^ 24; omega) fun H7 f7 K7 => ?_
    have hv7 := K7 _ _ hv6 hvd
    walk_at "w"
    refine ZLG hv7 T.ZG T.Ze ZIG ?_
    walk_at "w"
    refine ⟨_, _, rfl, rfl, dx3, _, hv7, by show 5 < 1000; decide, ?_⟩
    rw [ZTU]
    have hh : ¬ has kvs1 X (X + y) = true := fun h => by
     have := (hh3 X (X + y)).mpr (.inl h)
     rw [ZH3 hkx] at this; cases this
    rw [if_neg hh] at hms
    have f8 : (upd H7 v (.ins a.ZH dx3 (vfl S.p q3 d (k + (ZG4 kvs1 b y i : Int) + 1) (ts.length : Int)))) v = some (.ins a.ZH dx3 (vfl S.p q3 d (k + (ZG4 kvs1 b y i : Int) + 1) (ts.length : Int))) := ZEN
    have K8 : Kp v H7 (upd H7 v (.ins a.ZH dx3 (vfl S.p q3 d (k + (ZG4 kvs1 b y i : Int) + 1) (ts.length : Int)))) := Kp.upd
    generalize upd H7 v (.ins a.ZH dx3 (vfl S.p q3 d (k + (ZG4 kvs1 b y i : Int) + 1) (ts.length : Int))) = H8 at f8 K8 ⊢
    have F68 : FrL [v, d] H6 H8 := (FrL.kp K7 (by simp)).trans (FrL.kp K8 (by simp))
    have F38 : FrL [v, d, S.tr] H3 H8 := (((FrL.same S4).trans (FrL.kp K5 (by simp))).trans (FrL.same S6)).trans (F68.mono fun b hb => by simp only [List.mem_cons, List.not_mem_nil, or_false] at hb ⊢; rcases hb with h | h <;> simp [h])
    have nt6 : ∀ b ∈ [v, d], ∀ xs, H6 b ≠ some (.tup xs) := fun b hb xs z => by
     simp only [List.mem_cons, List.not_mem_nil, or_false] at hb
     rcases hb with rfl | rfl
     ·rw [hv6] at z; cases z
     ·rw [hd6] at z; cases z
    have kt6 : ∀ b xs, H6 b = some (.tup xs) → H8 b = some (.tup xs) := fun b xs e => F68 _ _ e fun z => nt6 b z xs e
    have kt3 : ∀ b xs, H3 b = some (.tup xs) → H8 b = some (.tup xs) := fun b xs e => kt6 _ _ (S6 _ _ (K5 _ _ (S4 _ _ e) fun z => hS3.noTup b (by rw [z]; simp [SA.own]) xs e))
    have ek : (k + (ZG4 kvs1 b y (i + 1) : Int)) = k + (ZG4 kvs1 b y i : Int) + 1 := by omega
    walk_at "w"
    refine ⟨⟨_, _, rfl⟩, F3.trans F38, _, n5, ⟨dx3, q3, by rw [ek]; exact f8, ⟨kt3 _ _ hW3.1, hW3.2⟩, K8 _ _ f7 (Ne.symm hvd), fun x z u h => ?_, av, ad⟩, (hS5.same S6).frL F68 apart nt6, ?_, fun x z => ?_⟩
    ·rw [ZHC] at h
     split at h
     ·rename_i e
      obtain ⟨rfl, rfl⟩ := ZLO e
      cases h
      exact ⟨hcol, .inr ⟨o5, (h5.tups fun b xs e => S6 _ _ e).tups kt6, g5⟩⟩
     ·exact ⟨(hk3 _ _ _ h).1, (hk3 _ _ _ h).2.imp id fun g => g.tups kt3⟩
    ·have := ZGO kvs' (kx X (X + y)) v5
     omega
    ·rw [ZOq, Bool.or_eq_true, decide_eq_true_iff, hh3, hsucc]
     constructor
     ·rintro (h | h | h)
      ·exact .inr (.inr h)
      ·exact .inl h
      ·exact .inr (.inl h)
     ·rintro (h | h | h)
      ·exact .inr (.inl h)
      ·exact .inr (.inr h)
      ·exact .inl h
  ·rintro σ H3 ⟨⟨v2, v3, rfl⟩, F3, kvs', n3, hV3, hS3, hl3, hh3⟩
   rw [hul] at hV3 hl3 hh3
   have hall : ∀ x z, Col b y m x z → has kvs' x z = true := fun x z h => by
    obtain ⟨j, h0, h1, e1, e2⟩ := h
    exact (hh3 x z).mpr (.inr ⟨j.toNat, by omega, by rw [Int.toNat_of_nonneg h0]; exact e1, by rw [Int.toNat_of_nonneg h0]; exact e2⟩)
   have f23 := F3 _ _ f2 lne
   obtain ⟨dx3, q3, hv3, hW3, hd3, hk3, _⟩ := id hV3
   rw [List.drop_length] at hk3
   walk_at "w"
   intro l2 n4
   refine ZGZ m.toNat (fun i σ' H' => (∃ o1, σ' = [o1, some (.ref v)]) ∧ ZEI H3 H' ∧ ∃ vs fs, H' l2 = some (.lst vs) ∧ ZFA H' vs fs ∧ fs.length = i ∧ ∀ (k : Nat) o, fs[k]? = some o → Is4 (ZFB sm (b + (k : Int) * y) (b + (k : Int) * y + y)) o) ?_ ?_ ?_
   ·exact ⟨⟨none, rfl⟩, ZEI.new n4, [], [], ZEN, .nil, rfl, fun k o h => by simp at h⟩
   ·rintro σ' H5 ⟨_, S5, vs, fs, f5, hF5, hfl, hO5⟩
    refine ⟨⟨_, SqL.of (S5 _ _ f23), by rw [hul]; exact Nat.le_refl _⟩, ?_⟩
    walk_at "w"
    refine ZHm (SqL.of f5) fun u H6 n6 f6 S6 => ?_
    have S36 := S5.trans S6
    refine kk u vs fs kvs1 kvs' n3 H6 f6 (hF5.same S6) ⟨hfl, hO5⟩ hh1 (hV3.same S36) (hS3.same S36) hall (by omega) ?_
    exact (((F1.mono fun b hb => by simp only [List.mem_cons, List.not_mem_nil, or_false] at hb ⊢; rcases hb with h | h <;> simp [h]).trans (FrL.same S2)).trans F3).trans (FrL.same S36)
   ·rintro i σ' H5 hi ⟨⟨o1, rfl⟩, S5, vs, fs, f5, hF5, hfl, hO5⟩
    have hi2 : i < us0.length := by rw [hul]; exact hi
    have f25 := S5 _ _ f23
    refine ⟨⟨_, _, SqL.of f25, List.getElem?_eq_getElem hi2⟩, ?_⟩
    rintro x H'' ⟨rfl, hx⟩
    have hx := hx _ (SqL.of f25)
    obtain ⟨u, pr, rfl, hpr, f6⟩ := hP2.at hx
    have hpr := ZJE hpr
    subst hpr
    have f65 := S5 _ _ (F3 _ _ f6 fun z => nt2 _ z _ f6)
    have hv5 := S5 _ _ hv3
    have hd5 := S5 _ _ hd3
    have hcol : Col b y m (b + (i : Int) * y) (b + (i : Int) * y + y) := ⟨i, by omega, by omega, rfl, rfl⟩
    obtain ⟨w, hw⟩ := Option.isSome_iff_exists.mp (hall _ _ hcol)
    obtain ⟨o6, g6, i6⟩ := ((hk3 _ _ _ hw).2.resolve_left fun ⟨t, ht, _⟩ => by cases ht).tups (H' := H'') fun b xs e => S5 _ _ e
    walk_at "w"
    refine ZFD ?_
    walk_at "w"
    refine ⟨d, w, rfl, by rw [← hw]; exact ZFS.t (k := kx (b + (i : Int) * y) (b + (i : Int) * y + y)) hd5 f65, ?_⟩
    refine ⟨vs, f5, ?_, ⟨_, rfl⟩, S5.kpN n4 Kp.upd, vs ++ [w], fs ++ [o6], ZEN, (hF5.snoc g6).mapP fun _ _ d => d.kpL Kp.upd f5, by simp [hfl], ?_⟩
    ·rw [hF5.len, hfl]
     exact Nat.lt_of_lt_of_le (show i < 100 by omega) (by decide)
    ·intro k' o' h'
     rw [List.getElem?_append] at h'
     split at h'
     ·exact hO5 k' o' h'
     ·have : k' = i := by
       have := (List.getElem?_eq_some_iff.mp h').1
       simp at this
       omega
      subst this
      rw [hfl, Nat.sub_self] at h'
      have : o6 = o' := by simpa using h'
      subst this
      exact i6
end
def ZIW (b y m : Int) : Prop := 0 < y ∧ 1 ≤ m ∧ m ≤ 100 ∧ InT b ∧ InT (b + m * y)
def ZVk (a : Ad) : Sp := fun vs H Q _ => ∃ (S : SA) (p dx q : Addr) (b y m n : Int) (sm : PL) (c : Nat) (ds : List (Int × Option Int)) (ts : List Int) (ws : List V), vs = [.ref p, .ref S.p, .ref q] ∧ H p = some (.ins a.ZH dx []) ∧ ZEF a H S n sm c ds ts ws ∧ ZFd H q b y m ∧ p ∉ S.p :: S.own ∧
 ∀ d H', H d = none → ZE0 a H' S p d b y m 0 [] 0 sm ts → ZEF a H' S n sm c ds ts ws → Kp p H H' → Q .non H'
def ZHi (a : Ad) (H : Hp) (S : SA) (v d : Addr) (k n : Int) (kvs : List (List Key × V)) (e : Nat) (sm : PL) (c : Nat) (ds : List (Int × Option Int)) (ts : List Int) (ws : List V) (b' y' m' : Int) (Q : VK) : Prop :=
 ∀ (d' : Addr) (kvs1 kvs' : List (List Key × V)) (H' : Hp), H d' = none → (∀ x z, has kvs1 x z = true ↔ has kvs x z = true ∧ ¬ hit (ts.drop e) x z) → (∀ x z, Col b' y' m' x z → (has kvs' x z = true ↔ Kin kvs1 x z)) → kvs'.length ≤ m'.toNat →
  ZE0 a H' S v d' b' y' m' k kvs' ts.length sm ts → ZEF a H' S n sm c ds ts ws → FrL [v, d] H H' → Q .non H'
theorem ZHi.at {a : Ad} {H H1 : Hp} {S : SA} {v d : Addr} {k n : Int} {kvs : List (List Key × V)} {e : Nat} {sm : PL} {c : Nat} {ds : List (Int × Option Int)} {ts : List Int} {ws : List V} {b' y' m' : Int} {Q : VK} (h : ZHi a H S v d k n kvs e sm c ds ts ws b' y' m' Q) (s : ZEI H H1) : ZHi a H1 S v d k n kvs e sm c ds ts ws b' y' m' Q :=
 fun d' kvs1 kvs' H' n' h1 h2 h3 h4 h5 f => h d' kvs1 kvs' H' (ZVG s n') h1 h2 h3 h4 h5 ((FrL.same s).trans f)
def ZTb (a : Ad) : Sp := fun vs H Q _ => ∃ (S : SA) (v d q : Addr) (b y m k n b' y' m' : Int) (kvs : List (List Key × V)) (e : Nat) (sm : PL) (c : Nat) (ds : List (Int × Option Int)) (ts : List Int) (ws : List V), vs = [.ref v, .ref q] ∧ ZEF a H S n sm c ds ts ws ∧ ZE0 a H S v d b y m k kvs e sm ts ∧ ts.length ≤ 10000 ∧ ZFd H q b' y' m' ∧
 ZHi a H S v d k n kvs e sm c ds ts ws b' y' m' Q
def ZXz (a : Ad) : Sp := fun vs H Q _ => ∃ (S : SA) (v d : Addr) (b y m k n j : Int) (kvs : List (List Key × V)) (e : Nat) (sm : PL) (c : Nat) (ds : List (Int × Option Int)) (ts : List Int) (ws : List V), vs = [.ref v, .int j] ∧ ZEF a H S n sm c ds ts ws ∧ ZE0 a H S v d b y m k kvs e sm ts ∧ ts.length ≤ 10000 ∧ IntMulOk j y ∧ ZIW (b + j * y) y m ∧
 ZHi a H S v d k n kvs e sm c ds ts ws (b + j * y) y m Q
def ZVl (a : Ad) : Sp := fun vs H Q _ => ∃ (S : SA) (v d : Addr) (b y m k n : Int) (kvs : List (List Key × V)) (e : Nat) (sm : PL) (c : Nat) (ds : List (Int × Option Int)) (ts : List Int) (ws : List V), vs = [.ref v] ∧ ZEF a H S n sm c ds ts ws ∧ ZE0 a H S v d b y m k kvs e sm ts ∧ ts.length ≤ 10000 ∧ ZIW b (y * 2) m ∧
 ZHi a H S v d k n kvs e sm c ds ts ws b (y * 2) m Q
def ZRR (a : Ad) : Sp := fun vs H Q _ => ∃ (S : SA) (v d : Addr) (b y m k n : Int) (kvs : List (List Key × V)) (e : Nat) (sm : PL) (c : Nat) (ds : List (Int × Option Int)) (ts : List Int) (ws : List V), vs = [.ref v] ∧ ZEF a H S n sm c ds ts ws ∧ ZE0 a H S v d b y m k kvs e sm ts ∧ ts.length ≤ 10000 ∧ y % 2 = 0 ∧ ZIW b (y / 2) m ∧
 ZHi a H S v d k n kvs e sm c ds ts ws b (y / 2) m Q
def ZVm (a : Ad) : Sp := fun vs H Q _ => ∃ (S : SA) (v d : Addr) (b y m k n j : Int) (kvs : List (List Key × V)) (e : Nat) (sm : PL) (c : Nat) (ds : List (Int × Option Int)) (ts : List Int) (ws : List V), vs = [.ref v, .int j] ∧ ZEF a H S n sm c ds ts ws ∧ ZE0 a H S v d b y m k kvs e sm ts ∧ ts.length ≤ 10000 ∧ ZIW b y j ∧
 ZHi a H S v d k n kvs e sm c ds ts ws b y j Q
section
variable {P : Program} {w : World} {K : W.Frag} {mg : Str → Option Value} {base : Heap} {a : Ad}
local macro_rules | `(tactic| walk_at "rd") => `(tactic| first
 | with_reducible first | refine ZEx (by assumption) (‹Txt _ _ _›).ZG (‹Txt _ _ _›).Zu ZJG ?_ | refine ZEx (by assumption) (‹Txt _ _ _›).ZG (‹Txt _ _ _›).ZS ZHh ?_ | refine ZEx (by assumption) (‹Txt _ _ _›).ZG (‹Txt _ _ _›).Zf ZJs ?_)
theorem ZKq : ZEJ ["self", "store", "window"] ["self", "store", "window"] (ZEE ZG0) := ZEe
theorem ZH5 (T : Txt K mg a) : ZEM P w K mg base CX0 5 a.YB a.YA ["self", "store", "window"] (ZVk a) := by
 refine T.ZBc.ok ZKq (by walk_at "l") (fun cdv A outer s H vs Q E hr h => ?_)
 ·obtain ⟨S, p, dx, q, b, y, m, n, sm, c, ds, ts, ws, rfl, hp, hS, hW, ap, kk⟩ := h
  obtain ⟨hq, hy, hm1, hm2, hb, he⟩ := id hW
  refine ⟨_, QB.h (ZEC (ZEX (qcS (ZG3 T) hr T.Zk T.ZP.kp T.Zl (ZD9 (qv 2) ZEA))) (ZEC (ZFq K rfl (qv 0) (qv 1)) (ZEC (ZFq K rfl (qv 0) (qv 2)) (ZEC (ZFq K rfl (qv 0) ZEB) (ZEC (ZFq K rfl (qv 0) ZKb) (ZED (ZFq K rfl (qv 0) ZEB))))))), ?_⟩
  walk_at "s"
  walk_at "w"
  refine ⟨q, b, y, m, rfl, hq, by omega, by omega, hb, he, ?_⟩
  walk_at "w"
  refine ZFa hp T.ZG T.Zu (by show 0 < 1000; decide) fun H1 f1 K1 => ?_
  walk_at "w"
  refine ZFa f1 T.ZG T.ZS (by show 1 < 1000; decide) fun H2 f2 K2 => ?_
  walk_at "w"
  refine ZFa f2 T.ZG T.Ze (by show 2 < 1000; decide) fun H3 f3 K3 => ?_
  walk_at "w"
  refine ZKc fun d H4 n4 f4 S4 => ?_
  have nd : d ≠ p := fun z => by rw [z, f3] at n4; cases n4
  walk_at "w"
  refine ZFa (S4 _ _ f3) T.ZG T.Zf (by show 3 < 1000; decide) fun H5 f5 K5 => ?_
  walk_at "w"
  refine ZFa f5 T.ZG T.YU (by show 4 < 1000; decide) fun H6 f6 K6 => ?_
  rw [ZVj] at f6
  have K03 : Kp p H H3 := (K1.trans K2).trans K3
  have K06 : Kp p H H6 := ((K03.then S4).trans K5).trans K6
  have n0 : H d = none := by
   cases e : H d with
   | none => rfl
   | some o => rw [K03 _ _ e nd] at n4; cases n4
  have hnt : ∀ b ∈ [p], ∀ xs, H b ≠ some (.tup xs) := fun b hb xs e => by
   obtain rfl : b = p := by simpa using hb
   rw [hp] at e; cases e
  have hS6 := hS.frL (FrL.kp K06 (l := [p]) (by simp)) (fun b hb => by obtain rfl : b = p := (by simpa using hb); exact ap) hnt
  walk_at "w"
  refine kk d H6 n0 ⟨dx, q, f6, ⟨K06 _ _ hq (fun z => hnt q (by simp [z]) _ hq), hW.2⟩, K6 _ _ (K5 _ _ f4 nd) nd, fun x z u h => (by cases h), ap, hS.apart (l := [d]) (fun b hb => by obtain rfl : b = d := (by simpa using hb); exact n0) d (by simp)⟩ hS6 K06
theorem ZIH : ZEJ ["self", "window"] ["self", "window"] (ZEE ZHH) := ZEe
theorem ZGR (T : Txt K mg a) : ZEM P w K mg base CX0 5 a.Zj a.Zn ["self", "window"] (ZTb a) := by
 refine T.Jb.ok ZIH (by walk_at "l") (fun cdv A outer s H vs Q E hr h => ?_)
 ·obtain ⟨S, v, d, q, b, y, m, k, n, b', y', m', kvs, e, sm, c, ds, ts, ws, rfl, hS, hV, hlen, hW, kk⟩ := h
  obtain ⟨hq, hy, hm1, hm2, hb, he⟩ := id hW
  obtain ⟨dx, q0, hv, hW0, hd, hk, av, ad⟩ := id hV
  refine ⟨_, QB.h (ZEC (ZEX (qcS (ZG3 T) hr T.Zk T.ZP.kp T.Zl (ZD9 (qv 1) ZEA))) (ZEC (ZEX (ZGC (qv 0) T.ZG T.ZAN (ZIl T) hr.m T.ZAO .nil ZEz)) (ZEC (ZFq K rfl (qv 0) (qcS (ZOH T) hr T.ZCx T.ZBd.kp T.ZCv (ZD9 (ZEh K rfl (qv 0)) (ZD9 (qv 1) ZEA)))) (ZED (ZFq K rfl (qv 0) (qv 1)))))), ?_⟩
  walk_at "s"
  walk_at "w"
  refine ⟨q, b', y', m', rfl, hq, by omega, by omega, hb, he, ?_⟩
  walk_at "w"
  refine ZEa hv ZFe ?_
  refine ⟨S, v, d, b, y, m, k, n, kvs, e, sm, c, ds, ts, ws, rfl, hS, hV, hlen, fun kvs1 H1 hV1 hS1 hh1 hl1 F1 => ?_⟩
  obtain ⟨dx1, q1, hv1, hW1, hd1, hk1, _⟩ := id hV1
  rw [List.drop_length] at hk1
  have hWn : ZFd H1 q b' y' m' := ⟨F1 _ _ hq fun z => hV.noTup _ z _ hq, hW.2⟩
  walk_at "w"
  refine ⟨d, q, b', y', m', kvs1, sm, rfl, hd1, hWn, fun x z u h => (hk1 x z u h).2.resolve_left fun ⟨t, ht, _⟩ => (by cases ht), fun d2 kvs2 H2 n2 f2 hl2 hg2 hi2 S2 => ?_⟩
  have hv2 := S2 _ _ hv1
  have nd2 : d2 ≠ v := fun z => by rw [z, hv1] at n2; cases n2
  walk_at "w"
  refine ZFa hv2 T.ZG T.Zf (by show 5 < 1000; decide) fun H3 f3 K3 => ?_
  rw [ZTV] at f3
  walk_at "w"
  refine ZFa f3 T.ZG T.ZS (by show 5 < 1000; decide) fun H4 f4 K4 => ?_
  rw [ZTT] at f4
  have K24 := K3.trans K4
  have nt2 : ∀ b ∈ [v], ∀ xs, H2 b ≠ some (.tup xs) := fun b hb xs e => by
   obtain rfl : b = v := by simpa using hb
   rw [hv2] at e; cases e
  have kt2 : ∀ b xs, H2 b = some (.tup xs) → H4 b = some (.tup xs) := fun b xs e => K24 _ _ e fun z => nt2 b (by simp [z]) xs e
  have n0 : H d2 = none := by
   cases e : H d2 with
   | none => rfl
   | some o =>
    by_cases z : d2 ∈ [v, d]
    ·simp only [List.mem_cons, List.not_mem_nil, or_false] at z
     rcases z with z | z
     ·exact absurd z nd2
     ·rw [z, hd1] at n2; cases n2
    ·rw [F1 _ _ e z] at n2; cases n2
  walk_at "w"
  refine kk d2 kvs1 kvs2 H4 n0 hh1 hi2 hl2 ⟨dx1, q, f4, ⟨kt2 _ _ (S2 _ _ hWn.1), hW.2⟩, K24 _ _ f2 nd2, fun x z u h => ⟨(hg2 x z u h).1, .inr ((hg2 x z u h).2.tups kt2)⟩, av, ?_⟩ ((hS1.same S2).frL (FrL.kp K24 (l := [v]) (by simp)) (fun b hb => by obtain rfl : b = v := (by simpa using hb); exact av) nt2) ((F1.trans (FrL.same S2)).trans (FrL.kp K24 (by simp)))
  exact hS.apart (l := [d2]) (fun b hb => by obtain rfl : b = d2 := (by simpa using hb); exact n0) d2 (by simp)
theorem ZLP : ZEJ ["self", "c"] ["self", "c"] (ZEE ZJh) := ZEe
theorem ZPo (T : Txt K mg a) : ZEM P w K mg base CX0 6 a.JE a.JC ["self", "c"] (ZXz a) := by
 refine T.ZBr.ok ZLP (by walk_at "l") (fun cdv A outer s H vs Q E hr h => ?_)
 ·obtain ⟨S, v, d, b, y, m, k, n, j, kvs, e, sm, c, ds, ts, ws, rfl, hS, hV, hlen, hj, hw, kk⟩ := h
  obtain ⟨dx, q, hv, hW, hd, hk, av, ad⟩ := id hV
  refine ⟨_, QB.h (ZED (ZEX (ZEs (qv 0) T.ZG T.ZN (ZGR T) hr T.ZO .nil ZEz (ZD9 (qcS (ZNt T) hr.m T.ZCm T.ZBn.kp T.ZCn (ZD9 (ZEh K rfl (qv 0)) (ZD9 (qv 1) ZEA))) ZEA)))), ?_⟩
  walk_at "s"
  walk_at "w"
  refine ZEa hv ZFe ?_
  walk_at "w"
  refine ⟨q, b, y, m, j, rfl, SqT.of hW.1, hj, fun u H1 n1 f1 S1 => ?_⟩
  walk_at "w"
  exact ⟨S, v, d, u, b, y, m, k, n, _, _, _, kvs, e, sm, c, ds, ts, ws, rfl, hS.same S1, hV.same S1, hlen, ⟨f1, hw⟩, kk.at S1⟩
theorem ZJt : ZEJ ["self"] ["self"] (ZEE ZIT) := ZEe
theorem ZNv (T : Txt K mg a) : ZEM P w K mg base CX0 6 a.YW a.YV ["self"] (ZVl a) := by
 refine T.ZA0.ok ZJt (by walk_at "l") (fun cdv A outer s H vs Q E hr h => ?_)
 ·obtain ⟨S, v, d, b, y, m, k, n, kvs, e, sm, c, ds, ts, ws, rfl, hS, hV, hlen, hw, kk⟩ := h
  obtain ⟨dx, q, hv, hW, hd, hk, av, ad⟩ := id hV
  refine ⟨_, QB.h (ZED (ZEX (ZEs (qv 0) T.ZG T.ZN (ZGR T) hr T.ZO .nil ZEz (ZD9 (qcS (ZLM T) hr.m T.ZBw T.ZAq.kp T.ZBv (ZD9 (ZEh K rfl (qv 0)) ZEA)) ZEA)))), ?_⟩
  walk_at "s"
  walk_at "w"
  refine ZEa hv ZFe ?_
  walk_at "w"
  refine ⟨q, b, y, m, rfl, SqT.of hW.1, fun u H1 n1 f1 S1 => ?_⟩
  walk_at "w"
  exact ⟨S, v, d, u, b, y, m, k, n, _, _, _, kvs, e, sm, c, ds, ts, ws, rfl, hS.same S1, hV.same S1, hlen, ⟨f1, hw⟩, kk.at S1⟩
theorem ZLm : ZEJ ["self"] ["self"] (ZEE ZHV) := ZEe
theorem ZIm (T : Txt K mg a) : ZEM P w K mg base CX0 6 a.Yj a.Yn ["self"] (ZRR a) := by
 refine T.ZB4.ok ZLm (by walk_at "l") (fun cdv A outer s H vs Q E hr h => ?_)
 ·obtain ⟨S, v, d, b, y, m, k, n, kvs, e, sm, c, ds, ts, ws, rfl, hS, hV, hlen, h2, hw, kk⟩ := h
  obtain ⟨dx, q, hv, hW, hd, hk, av, ad⟩ := id hV
  refine ⟨_, QB.h (ZED (ZEX (ZEs (qv 0) T.ZG T.ZN (ZGR T) hr T.ZO .nil ZEz (ZD9 (qcS (ZOG T) hr.m T.ZCu T.ZBY.kp T.ZC1 (ZD9 (ZEh K rfl (qv 0)) ZEA)) ZEA)))), ?_⟩
  walk_at "s"
  walk_at "w"
  refine ZEa hv ZFe ?_
  walk_at "w"
  refine ⟨q, b, y, m, rfl, SqT.of hW.1, h2, fun u H1 n1 f1 S1 => ?_⟩
  walk_at "w"
  exact ⟨S, v, d, u, b, y, m, k, n, _, _, _, kvs, e, sm, c, ds, ts, ws, rfl, hS.same S1, hV.same S1, hlen, ⟨f1, hw⟩, kk.at S1⟩
theorem ZII : ZEJ ["self", "n"] ["self", "n"] (ZEE ZHG) := ZEe
theorem ZLQ (T : Txt K mg a) : ZEM P w K mg base CX0 6 a.Zm a.Zi ["self", "n"] (ZVm a) := by
 refine T.Je.ok ZII (by walk_at "l") (fun cdv A outer s H vs Q E hr h => ?_)
 ·obtain ⟨S, v, d, b, y, m, k, n, j, kvs, e, sm, c, ds, ts, ws, rfl, hS, hV, hlen, hw, kk⟩ := h
  obtain ⟨dx, q, hv, hW, hd, hk, av, ad⟩ := id hV
  refine ⟨_, QB.h (ZED (ZEX (ZEs (qv 0) T.ZG T.ZN (ZGR T) hr T.ZO .nil ZEz (ZD9 (qcS (ZIF T) hr.m T.JZ T.YO.kp T.Jd (ZD9 (ZEh K rfl (qv 0)) (ZD9 (qv 1) ZEA))) ZEA)))), ?_⟩
  walk_at "s"
  walk_at "w"
  refine ZEa hv ZFe ?_
  walk_at "w"
  refine ⟨q, b, y, m, j, rfl, SqT.of hW.1, fun u H1 n1 f1 S1 => ?_⟩
  walk_at "w"
  exact ⟨S, v, d, u, b, y, m, k, n, _, _, _, kvs, e, sm, c, ds, ts, ws, rfl, hS.same S1, hV.same S1, hlen, ⟨f1, hw⟩, kk.at S1⟩
end
section
variable {P : Program} {w : World} {K : W.Frag} {mg : Str → Option Value} {base : Heap} {a : Ad}
local macro_rules | `(tactic| walk_at "rd") => `(tactic| first
 | with_reducible refine ZEx (by assumption) (‹Txt _ _ _›).ZG (‹Txt _ _ _›).ZS ZHh ?_)
def ZTc (C : Addr) : Sp := fun vs H _ E => ∃ b e : Int, vs = [.int b, .int e] ∧ ¬ (InT b ∧ InT e) ∧ E (.ref C) none H
theorem ZKA (T : Txt K mg a) : ZEM P w K mg base (CX1 P w) 3 a.Zd a.Zc ["begin", "end"] (ZTc a.ZA) := by
 refine T.ZT.okx ZHy (by walk_at "l") (fun cdv A outer s H vs Q E hr h => ?_)
 ·obtain ⟨b, e, rfl, hn, q⟩ := h
  refine ⟨_, QB.h (ZED (ZEg (QW.pt (ZJ0 (ZGJ (ZFy (qcS (ZGV T) hr T.Zs T.Zb.kp T.Zr (ZD9 (qv 0) ZEA)))) (ZId (ZGJ (ZFy (qcS (ZGV T) hr T.Zs T.Zb.kp T.Zr (ZD9 (qv 1) ZEA))))))) (ZED (ZSt T.ZAd rfl T.ZAr (ZD9 ZGI ZEA))) ZEd)), ?_⟩
  walk_at "s"
  walk_at "w"
  by_cases hb : InT b
  ·refine ⟨b, rfl, .inl ⟨hb, ?_⟩⟩
   walk_at "w"
   refine ZEw ?_
   walk_at "w"
   refine ⟨e, rfl, .inr ⟨fun he => hn ⟨hb, he⟩, ?_⟩⟩
   walk_at "w"
   refine ZFD ?_
   walk_at "w"
   exact ZNS (by decide) q
  ·refine ⟨b, rfl, .inr ⟨hb, ?_⟩⟩
   walk_at "w"
   refine ZFD ?_
   walk_at "w"
   exact ZNS (by decide) q
def ZXU (D : Addr) : Sp := fun vs H _ E => ∃ (p : Addr) (b y m : Int), vs = [.ref p] ∧ H p = some (.tup [.int b, .int y, .int m]) ∧ 0 ≤ m ∧ m ≤ 1000 ∧ ¬ (InT b ∧ InT (b + m * y)) ∧ E (.ref D) none H
theorem ZKr (T : Txt K mg a) : ZEM P w K mg base (CX1 P w) 4 a.Zo a.Zh ["window"] (ZXU a.ZA) := by
 refine T.ZP.okx ZFL (by walk_at "l") (fun cdv A outer s H vs Q E hr h => ?_)
 ·obtain ⟨p, b, y, m, rfl, hp, h0, h1, hn, q⟩ := h
  refine ⟨_, QB.h (ZEC (ZFT (qv 0) (ZFN (n := 3) K rfl rfl (ZEL (qgN (i := 1) ZFL.nd) (ZEL (qgN (i := 2) ZFL.nd) (ZEL (qgN (i := 3) ZFL.nd) ZE7))))) (ZED (ZEX (ZKT (ZKA T) hr rfl T.Z9 T.ZT.kp T.YF .nil ZIB (ZD9 (qv 1) (ZD9 (ZEG ZE3 (qv 1) (ZEG ZEr (qv 3) (qv 2))) ZEA)))))), ?_⟩
  walk_at "s"
  walk_at "w"
  exact ⟨b, b + m * y, rfl, hn, q⟩
def ZVn (D : Addr) : Sp := fun vs H _ E => ∃ (v : V) (p : Addr) (b y m : Int), vs = [v, .ref p] ∧ H p = some (.tup [.int b, .int y, .int m]) ∧ 0 ≤ m ∧ m ≤ 1000 ∧ ¬ (InT b ∧ InT (b + m * y)) ∧ E (.ref D) none H
theorem ZGo (T : Txt K mg a) : ZEM P w K mg base (CX1 P w) 5 a.Zj a.Zn ["self", "window"] (ZVn a.ZA) := by
 refine T.Jb.okx ZIH (by walk_at "l") (fun cdv A outer s H vs Q E hr h => ?_)
 ·obtain ⟨v, p, b, y, m, rfl, hp, h0, h1, hn, q⟩ := h
  refine ⟨_, QB.h (ZEC (ZEX (ZKT (ZKr T) hr rfl T.Zk T.ZP.kp T.Zl .nil ZIB (ZD9 (qv 1) ZEA))) (ZEC ZGT (ZEC ZGT (ZED ZGT)))), ?_⟩
  walk_at "s"
  walk_at "w"
  exact ⟨p, b, y, m, rfl, hp, h0, h1, hn, q⟩
def ZMe (a : Ad) (H : Hp) (v : Addr) (b y m : Int) : Prop := ∃ dx s q d n e, H v = some (.ins a.ZH dx (vfl s q d n e)) ∧ ZFd H q b y m
def ZX0 (a : Ad) : Sp := fun vs H _ E => ∃ (v : Addr) (b y m j : Int), vs = [.ref v, .int j] ∧ ZMe a H v b y m ∧ IntMulOk j y ∧ ¬ (InT (b + j * y) ∧ InT (b + j * y + m * y)) ∧ ∀ H', ZEI H H' → E (.ref a.ZA) none H'
theorem ZOI (T : Txt K mg a) : ZEM P w K mg base (CX1 P w) 6 a.JE a.JC ["self", "c"] (ZX0 a) := by
 refine T.ZBr.okx ZLP (by walk_at "l") (fun cdv A outer s H vs Q E hr h => ?_)
 ·obtain ⟨v, b, y, m, j, rfl, ⟨dx, s0, q, d, n, e, hv, hW⟩, hj, hn, k⟩ := h
  refine ⟨_, QB.h (ZED (ZEX (ZEs (qv 0) T.ZG T.ZN (ZGo T) hr T.ZO .nil ZIB (ZD9 (qcS (ZNt T) hr.m T.ZCm T.ZBn.kp T.ZCn (ZD9 (ZEh K rfl (qv 0)) (ZD9 (qv 1) ZEA))) ZEA)))), ?_⟩
  walk_at "s"
  walk_at "w"
  refine ZEa hv ZFe ?_
  walk_at "w"
  refine ⟨q, b, y, m, j, rfl, SqT.of hW.1, hj, fun u H1 n1 f1 S1 => ?_⟩
  walk_at "w"
  exact ⟨_, u, _, _, _, rfl, f1, by have := hW.2.2.1; omega, by have := hW.2.2.2.1; omega, hn, k H1 S1⟩
def ZVo (a : Ad) : Sp := fun vs H _ E => ∃ (v : Addr) (b y m : Int), vs = [.ref v] ∧ ZMe a H v b y m ∧ ¬ (InT b ∧ InT (b + m * (y * 2))) ∧ ∀ H', ZEI H H' → E (.ref a.ZA) none H'
theorem ZMV (T : Txt K mg a) : ZEM P w K mg base (CX1 P w) 6 a.YW a.YV ["self"] (ZVo a) := by
 refine T.ZA0.okx ZJt (by walk_at "l") (fun cdv A outer s H vs Q E hr h => ?_)
 ·obtain ⟨v, b, y, m, rfl, ⟨dx, s0, q, d, n, e, hv, hW⟩, hn, k⟩ := h
  refine ⟨_, QB.h (ZED (ZEX (ZEs (qv 0) T.ZG T.ZN (ZGo T) hr T.ZO .nil ZIB (ZD9 (qcS (ZLM T) hr.m T.ZBw T.ZAq.kp T.ZBv (ZD9 (ZEh K rfl (qv 0)) ZEA)) ZEA)))), ?_⟩
  walk_at "s"
  walk_at "w"
  refine ZEa hv ZFe ?_
  walk_at "w"
  refine ⟨q, b, y, m, rfl, SqT.of hW.1, fun u H1 n1 f1 S1 => ?_⟩
  walk_at "w"
  exact ⟨_, u, _, _, _, rfl, f1, by have := hW.2.2.1; omega, by have := hW.2.2.2.1; omega, hn, k H1 S1⟩
def ZVp (a : Ad) : Sp := fun vs H _ E => ∃ (v : Addr) (b y m j : Int), vs = [.ref v, .int j] ∧ ZMe a H v b y m ∧ 0 ≤ j ∧ j ≤ 1000 ∧ ¬ (InT b ∧ InT (b + j * y)) ∧ ∀ H', ZEI H H' → E (.ref a.ZA) none H'
theorem ZKs (T : Txt K mg a) : ZEM P w K mg base (CX1 P w) 6 a.Zm a.Zi ["self", "n"] (ZVp a) := by
 refine T.Je.okx ZII (by walk_at "l") (fun cdv A outer s H vs Q E hr h => ?_)
 ·obtain ⟨v, b, y, m, j, rfl, ⟨dx, s0, q, d, n, e, hv, hW⟩, hj0, hj1, hn, k⟩ := h
  refine ⟨_, QB.h (ZED (ZEX (ZEs (qv 0) T.ZG T.ZN (ZGo T) hr T.ZO .nil ZIB (ZD9 (qcS (ZIF T) hr.m T.JZ T.YO.kp T.Jd (ZD9 (ZEh K rfl (qv 0)) (ZD9 (qv 1) ZEA))) ZEA)))), ?_⟩
  walk_at "s"
  walk_at "w"
  refine ZEa hv ZFe ?_
  walk_at "w"
  refine ⟨q, b, y, m, j, rfl, SqT.of hW.1, fun u H1 n1 f1 S1 => ?_⟩
  walk_at "w"
  exact ⟨_, u, _, _, _, rfl, f1, hj0, hj1, hn, k H1 S1⟩
end
def ZXV (K : W.Frag) : Sp := fun vs H Q _ => ∃ (s : Addr) (ns : List Int) (k : Int), vs = [.ref s, .int k] ∧ SqL K H s (ns.map V.int) ∧ 0 ≤ k ∧ Q (.int (ns.getD k.toNat 0)) H
def ZX1 : Sp := fun vs H Q _ => ∃ c : Int, vs = [.int c] ∧ ∀ (p : Addr) (H' : Hp), H p = none → Pot H' p → ZEI H H' → Q (.ref p) H'
def ZXW : Sp := fun vs H Q _ => ∃ (p : Addr) (n : Int), vs = [.ref p, .int n] ∧ Pot H p ∧ 0 < n ∧ n < 2 ^ 250 ∧ ∀ (d : Int) (H' : Hp), 0 ≤ d → d < n → Pot H' p → Kp p H H' → Q (.int d) H'
def ZX2 : Sp := fun vs H Q _ => ∃ p : Addr, vs = [.ref p] ∧ Pot H p ∧ ∀ (x : Int) (H' : Hp), -(10 ^ 59) < x → x < 10 ^ 59 → Pot H' p → Kp p H H' → Q (.int x) H'
section
variable {P : Program} {w : World} {K : W.Frag} {mg : Str → Option Value} {base : Heap} {a : Ad}
theorem ZNw {H : Hp} {Q : VK} {l : Addr} {ns : List Int} {d : Int} (h : H l = some (.lst (ns.map V.int))) (h0 : 0 ≤ d) (h1 : d < (ns.length : Int)) (q : ∀ n ∈ ns, Q (.int n) H) : ZPB K (.ref l) (.int d) H Q := by
 obtain ⟨n, rfl⟩ : ∃ n : Nat, d = (n : Int) := ⟨d.toNat, by omega⟩
 have hn : n < ns.length := by omega
 refine ZGH (v := .int ns[n]) (SqL.of h) (ZIY ?_) (q _ (List.getElem_mem hn))
 rw [List.getElem?_map, List.getElem?_eq_getElem hn]
 rfl
theorem ZTd {m : PL} {t h : Int} (R : Int × Int → Prop) (hm : ∀ q ∈ m, R q) (hn : R (t, h)) : ∀ q ∈ ZFJ m t h, R q := by
 intro q hq
 unfold ZFJ at hq
 split at hq
 ·obtain ⟨kv, h1, rfl⟩ := List.mem_map.mp hq
  split
  ·rename_i e
   rw [e]
   exact hn
  ·exact hm _ h1
 ·rcases List.mem_append.mp hq with h1 | h1
  ·exact hm _ h1
  ·simp only [List.mem_cons, List.not_mem_nil, or_false] at h1
   rw [h1]
   exact hn
theorem ZRS : ZEJ ["_law_script", "_law_k"] ["_law_script", "_law_k"] (ZEE ZKi) := ZEe
theorem ZL6 (T : Txt K mg a) : ZEM P w K mg base CX0 1 a.ZBJ a.ZBH ["_law_script", "_law_k"] (ZXV K) := by
 refine T.ZBM.ok ZRS (by walk_at "l") (fun cdv A outer s H vs Q E hr h => ?_)
 ·obtain ⟨p, ns, k, rfl, hS, hk, q⟩ := h
  refine ⟨_, QB.h (ZEC (ZEg (ZEQ (ZJw) (qv 1) (ZEk (ZIf K rfl) rfl T.YT ZHQ (ZD9 (qv 0) ZEA)) (ZEW _)) (ZED (ZES (ZEO (ZEi K rfl) (qv 0) (qv 1)))) ZEd) (ZED (ZES ZEB))), ?_⟩
  walk_at "s"
  walk_at "w"
  rw [List.length_map]
  refine ZEp (fun h => ?_) (fun h => ?_)
  ·walk_at "w"
   obtain ⟨n, rfl⟩ : ∃ n : Nat, k = (n : Int) := ⟨k.toNat, by omega⟩
   have hk2 : n < ns.length := by omega
   refine ZGH (v := .int (ns.getD n 0)) hS (ZIY ?_) q
   rw [List.getElem?_map, List.getElem?_eq_getElem hk2]
   simp [List.getD, hk2]
  ·walk_at "w"
   have e : ns.getD k.toNat 0 = 0 := by
    rw [List.getD, List.getElem?_eq_none (by omega)]
    rfl
   rw [e] at q
   exact q
theorem ZTe : ZEJ ["_law_cell_here"] ["_law_cell_here"] (ZEE ZLi) := ZEe
theorem ZNx (T : Txt K mg a) : ZEM P w K mg base CX0 1 a.ZBk a.ZBj ["_law_cell_here"] ZX1 := by
 refine T.ZBl.ok ZTe (by walk_at "l") (fun cdv A outer s H vs Q E hr h => ?_)
 ·obtain ⟨c, rfl, k⟩ := h
  refine ⟨_, QB.h (ZED (ZES (ZFX (ZD9 (ZEk (ZQT rfl) rfl T.ZAv ZK7 (ZD9 ZEB (ZD9 (ZEG ZFb (ZEk ZQS rfl T.ZB5 ZQQ (ZD9 (qv 0) ZEA)) (ZEG ZFs ZEB ZEB)) ZEA))) (ZD9 (ZEG ZE3 (ZEG ZHP (ZEk ZQS rfl T.ZB5 ZQQ (ZD9 (qv 0) ZEA)) ZEB) ZEB) ZEA))))), ?_⟩
  walk_at "s"
  walk_at "w"
  refine ZEK (by show 2 ≤ sizeLine; decide) fun p H2 hp f2 S2 => ?_
  refine k p H2 hp ⟨_, _, f2, ?_, Int.add_nonneg (Int.emod_nonneg _ (by decide)) (by decide), Int.lt_of_lt_of_le (Int.add_lt_add_right (Int.emod_lt_of_pos _ (by decide)) 1) (by decide)⟩ S2
  split <;> omega
theorem ZL7 : ZEJ ["_law_pot_here", "_law_many", "_law_digit"] ["_law_pot_here", "_law_many"] (ZEE ZKj) := ZEe
theorem ZEo (T : Txt K mg a) : ZEM P w K mg base CX0 1 a.ZBI a.ZBQ ["_law_pot_here", "_law_many"] ZXW := by
 refine T.ZI.ok ZL7 (by walk_at "l") (fun cdv A outer s H vs Q E hr h => ?_)
 ·obtain ⟨p, n, rfl, ⟨x, y, hp, hx, hy, hy2⟩, hn, hn2, k⟩ := h
  have hdiv : ∀ i : Int, ZH7 i n := fun i => ZH7.of (k := 250) hn hn2 (by decide)
  refine ⟨_, QB.h (ZEC (ZEg (ZEQ (ZKv) (ZEO (ZEi K rfl) (qv 0) ZEB) ZEB (ZEW _)) (ZEC (ZFT (ZEk ZNK rfl T.ZBP ZQe (ZD9 (ZEO (ZEi K rfl) (qv 0) ZEB) (ZD9 (qv 1) ZEA))) (ZFN (n := 2) K rfl rfl (ZEL (ZIe (qv 0) ZEB ZGm) (ZEL (qgN (i := 2) ZL7.nd) ZE7)))) (ZED (ZES (qv 2)))) ZEd) (ZEC (ZFT (ZEG ZHP (ZEG ZE3 (ZEG ZEr (ZEO (ZEi K rfl) (qv 0) ZEB) ZEB) ZEB) ZEB) (ZIe (qv 0) ZEB ZGm)) (ZED (ZES (ZEG ZHP (ZEG ZGS (ZEG ZHP (ZEG ZEr (ZEO (ZEi K rfl) (qv 0) ZEB) (ZEO (ZEi K rfl) (qv 0) ZEB)) ZEB) ZEB) (qv 1)))))), ?_⟩
  walk_at "s"
  walk_at "w"
  refine ZEp (fun h => ?_) (fun h => ?_)
  ·walk_at "w"
   refine ZQn (hdiv _) fun c H2 n2 f2 S2 => ?_
   have hp2 := S2 _ _ hp
   walk_at "w"
   refine ZG8 hp2 (by rfl) fun H3 f3 K3 => ?_
   walk_at "w"
   exact k _ _ (Int.emod_nonneg _ (by omega)) (Int.emod_lt_of_pos _ hn) ⟨_, _, f3, Int.ediv_nonneg hx (by omega), hy, hy2⟩ (fun q o e nq => K3 q o (S2 q o e) nq)
  ·walk_at "w"
   refine ZG8 hp (by rfl) fun H2 f2 K2 => ?_
   generalize hz : (y * 48271 + 11) % 2147483647 = z at f2
   have h0 : 0 ≤ z := by rw [← hz]; exact Int.emod_nonneg _ (by decide)
   have h1 : z < 2147483647 := by rw [← hz]; exact Int.emod_lt_of_pos _ (by decide)
   have f2 : H2 p = some (.lst [V.int x, V.int z]) := f2
   walk_at "w"
   exact k _ _ (Int.emod_nonneg _ (by omega)) (Int.emod_lt_of_pos _ hn) ⟨_, _, f2, hx, h0, by omega⟩ (fun q o e nq => K2 q o e nq)
end
def ZYK : Sp := fun vs H Q _ => ∃ t : Int, vs = [.int t] ∧ ∀ x : Int, Tm x → Q (.int x) H
def ZTf : Sp := fun vs H Q _ => ∃ (q : Addr) (b y m : Int), vs = [.ref q] ∧ H q = some (.tup [.int b, .int y, .int m]) ∧ IntMulOk y m ∧ Q (.bl (decide (-1099511627776 ≤ b) && decide (b + y * m ≤ 1099511627776))) H
def ZTg : Sp := fun vs H Q _ => ∃ p : Addr, vs = [.ref p] ∧ Pot H p ∧ ∀ (q : Addr) (b y m : Int) (H' : Hp), ZFd H' q b y m → m ≤ 9 → Pot H' p → Kp p H H' → Q (.ref q) H'
def ZXX : Sp := fun vs H Q _ => ∃ (p q : Addr) (b y m : Int), vs = [.ref p, .ref q] ∧ Pot H p ∧ ZFd H q b y m ∧ ∀ (x : Int) (H' : Hp), Tm x → Pot H' p → Kp p H H' → Q (.int x) H'
def ZTh : Sp := fun vs H Q _ => ∃ (p q : Addr) (b y m : Int), vs = [.ref p, .ref q] ∧ Pot H p ∧ ZFd H q b y m ∧
 ∀ (d : Addr) (ps : PL) (H' : Hp), H d = none → H' d = some (.dK (ZEf ps)) → (ps.map (·.1)).Nodup → ps.length ≤ 24 → (∀ r ∈ ps, Tm r.1 ∧ -(10 ^ 59) < r.2 ∧ r.2 < 10 ^ 59) → Pot H' p → Kp p H H' → Q (.ref d) H'
def ZRT (n : Str) (c b y m b' y' m' : Int) : Prop :=
 (n = "wide" ∧ b' = b ∧ y' = 2 * y ∧ m' = m) ∨ (n = "narrow" ∧ y % 2 = 0 ∧ b' = b ∧ y' = y / 2 ∧ m' = m) ∨ (n = "columns" ∧ 1 ≤ c ∧ c ≤ 12 ∧ b' = b ∧ y' = y ∧ m' = c) ∨ (n = "on" ∧ -1099511627776 ≤ c ∧ c < 1099511627776 ∧ b' = b + c * y ∧ y' = y ∧ m' = m)
def ZLR (H : Hp) (u : Addr) (b y m b' y' m' : Int) : Prop := ∃ (n : Str) (c : Int) (q : Addr), H u = some (.tup [.str n, .int c, .ref q]) ∧ H q = some (.tup [.int b', .int y', .int m']) ∧ ZRT n c b y m b' y' m'
def ZXY : Sp := fun vs H Q _ => ∃ (p q : Addr) (b y m : Int), vs = [.ref p, .ref q] ∧ Pot H p ∧ ZFd H q b y m ∧
 ∀ (u : Addr) (b' y' m' : Int) (H' : Hp), ZLR H' u b y m b' y' m' → Pot H' p → Kp p H H' → Q (.ref u) H'
section
variable {P : Program} {w : World} {K : W.Frag} {mg : Str → Option Value} {base : Heap} {a : Ad}
theorem ZOJ : ZEJ ["_law_pot_here"] ["_law_pot_here"] (ZEE ZJB) := ZEe
theorem ZKK (T : Txt K mg a) : ZEM P w K mg base CX0 2 a.Jz a.ZAB ["_law_pot_here"] ZX2 := by
 refine T.ZAA.ok ZOJ (by walk_at "l") (fun cdv A outer s H vs Q E hr h => ?_)
 ·obtain ⟨p, rfl, hp, k⟩ := h
  have sm : ∀ x : Int, -2000000000 < x → x < 2000000000 → -(10 ^ 59) < x ∧ x < 10 ^ 59 := fun x h1 h2 => ⟨Int.lt_of_le_of_lt (by decide) h1, Int.lt_of_lt_of_le h2 (by decide)⟩
  refine ⟨_, QB.h (ZEC (ZEg (ZEQ (ZKv) (qcS (ZEo T) hr T.ZJ T.ZI.kp T.ZK (ZD9 (qv 0) (ZD9 ZEB ZEA))) ZEB (ZEW _)) (ZED (ZES (ZEG ZFb (qcS (ZEo T) hr T.ZJ T.ZI.kp T.ZK (ZD9 (qv 0) (ZD9 ZEB ZEA))) ZEB))) ZEd) (ZED (ZES (ZEG ZE3 (ZEG ZFb (ZEG ZHP (ZEG ZEr (qcS (ZEo T) hr T.ZJ T.ZI.kp T.ZK (ZD9 (qv 0) (ZD9 (ZEG ZFb (ZEG ZEr ZEB (ZEG ZFs ZEB ZEB)) ZEB) ZEA))) (ZEG ZFs ZEB ZEB)) (ZEG ZFb (ZEG ZEr ZEB (ZEG ZFs ZEB ZEB)) ZEB)) (ZEG ZFs ZEB ZEB)) ZEB)))), ?_⟩
  walk_at "s"
  walk_at "w"
  refine ⟨p, _, rfl, hp, by decide, by decide, fun d1 H1 h1 h1' P1 K1 => ?_⟩
  walk_at "w"
  refine ZEp (fun _ => ?_) (fun _ => ?_)
  ·walk_at "w"
   refine ⟨p, _, rfl, P1, by decide, by decide, fun d2 H2 h2 h2' P2 K2 => ?_⟩
   walk_at "w"
   have hb := sm (d2 - 2) (by omega) (by omega)
   exact k _ H2 hb.1 hb.2 P2 (K1.trans K2)
  walk_at "w"
  refine ⟨p, _, rfl, P1, by decide, by decide, fun d2 H2 h2 h2' P2 K2 => ?_⟩
  have hbd : Bn 200 d2 := Bn.of (Int.lt_of_lt_of_le (by decide) h2) (Int.lt_trans h2' (by decide))
  walk_at "w"
  refine ZMt (ZJZ hbd (show Bn 190 _ by unfold Bn; decide) (by decide)) ?_
  walk_at "w"
  generalize hz : _ % (2 * 100000000000000000000000000000000000000000000000000000000000 - 1 : Int) = z
  have g0 : 0 ≤ z := by rw [← hz]; exact Int.emod_nonneg _ (by decide)
  have g1 : z < 2 * 100000000000000000000000000000000000000000000000000000000000 - 1 := by rw [← hz]; exact Int.emod_lt_of_pos _ (by decide)
  exact k _ H2 (by omega) (by omega) P2 (K1.trans K2)
theorem ZVq : ZEJ ["_law_t"] ["_law_t"] (ZEE ZNg) := ZEe
theorem ZVr (T : Txt K mg a) : ZEM P w K mg base CX0 1 a.ZCV a.ZCM ["_law_t"] ZYK := by
 refine T.ZDA.ok ZVq (by walk_at "l") (fun cdv A outer s H vs Q E hr h => ?_)
 ·obtain ⟨t, rfl, k⟩ := h
  refine ⟨_, QB.h (ZED (ZES (ZEk (ZQT rfl) rfl T.ZAv ZK7 (ZD9 (ZIs ZHo (ZEG ZFs ZEB ZEB)) (ZD9 (ZEk (ZWi rfl) rfl T.ZBS ZMq (ZD9 (ZEG ZFb (ZEG ZFs ZEB ZEB) ZEB) (ZD9 (qv 0) ZEA))) ZEA))))), ?_⟩
  walk_at "s"
  walk_at "w"
  refine k _ ?_
  unfold Tm
  repeat' split
  all_goals omega
theorem ZOK : ZEJ ["_law_window_here"] ["_law_window_here"] (ZEE ZJA) := ZEe
theorem ZIX (T : Txt K mg a) : ZEM P w K mg base CX0 1 a.J8 a.Jf ["_law_window_here"] ZTf := by
 refine T.Yr.ok ZOK (by walk_at "l") (fun cdv A outer s H vs Q E hr h => ?_)
 ·obtain ⟨q, b, y, m, rfl, hq, hm, k⟩ := h
  refine ⟨_, QB.h (ZED (ZES (ZJX (ZG9 (ZTp) (ZEO (ZEY K rfl) (qv 0) ZEB) (ZIs ZHo (ZEG ZFs ZEB ZEB)) (ZEW _)) (ZJW (ZG9 (ZHc) (ZEG ZE3 (ZEO (ZEY K rfl) (qv 0) ZEB) (ZEG ZEr (ZEO (ZEY K rfl) (qv 0) ZEB) (ZEO (ZEY K rfl) (qv 0) ZEB))) (ZEG ZFs ZEB ZEB) (ZEW _)))))), ?_⟩
  walk_at "s"
  walk_at "w"
  refine ZEp (fun h => ?_) (fun h => ?_)
  ·walk_at "w"
   refine ZMt hm ?_
   walk_at "w"
   rw [decide_eq_true h, Bool.true_and] at k
   exact k
  ·rw [decide_eq_false h, Bool.false_and] at k
   exact k
theorem ZFv : ZEJ ["_law_pot_here", "_law_wide", "_law_many", "_law_place", "_law_begin"] ["_law_pot_here"] (ZEE ZJC) := ZEe
theorem ZOL (T : Txt K mg a) : ZEM P w K mg base CX0 2 a.ZAD a.J6 ["_law_pot_here"] ZTg := by
 refine T.ZBU.ok ZFv (by walk_at "l") (fun cdv A outer s H vs Q E hr h => ?_)
 ·obtain ⟨p, rfl, hp, k⟩ := h
  refine ⟨_, QB.h (ZEC (qsS (i := 1) ZFv.nd (ZEG ZE3 ZEB (qcS (ZEo T) hr T.ZJ T.ZI.kp T.ZK (ZD9 (qv 0) (ZD9 (ZEO (ZEi K rfl) (ZFX (ZD9 ZEB (ZD9 ZEB (ZD9 (ZEG ZFs ZEB ZEB) ZEA)))) (qcS (ZEo T) hr T.ZJ T.ZI.kp T.ZK (ZD9 (qv 0) (ZD9 ZEB ZEA)))) ZEA))))) (ZEC (qsS (i := 2) ZFv.nd (ZEG ZE3 ZEB (qcS (ZEo T) hr T.ZJ T.ZI.kp T.ZK (ZD9 (qv 0) (ZD9 ZEB ZEA))))) (ZEC (qsS (i := 3) ZFv.nd (qcS (ZEo T) hr T.ZJ T.ZI.kp T.ZK (ZD9 (qv 0) (ZD9 ZEB ZEA)))) (ZEC (qsS (i := 4) ZFv.nd (ZEG ZFb (qcS (ZEo T) hr T.ZJ T.ZI.kp T.ZK (ZD9 (qv 0) (ZD9 ZEB ZEA))) ZEB)) (ZEC (ZEg (ZEQ (ZE9) (qv 3) ZEB (ZEW _)) (ZED (qsS (i := 4) ZFv.nd (ZEG ZE3 (ZIs ZHo (ZEG ZFs ZEB ZEB)) (ZEG ZEr (qcS (ZEo T) hr T.ZJ T.ZI.kp T.ZK (ZD9 (qv 0) (ZD9 ZEB ZEA))) (qv 1))))) ZEd) (ZEC (ZEg (ZEQ (ZE9) (qv 3) ZEB (ZEW _)) (ZED (qsS (i := 4) ZFv.nd (ZEG ZFb (ZEG ZFb (ZEG ZFs ZEB ZEB) (ZEG ZEr (qv 1) (qv 2))) (qcS (ZEo T) hr T.ZJ T.ZI.kp T.ZK (ZD9 (qv 0) (ZD9 ZEB ZEA)))))) ZEd) (ZED (ZES (ZEb (ZD9 (qv 4) (ZD9 (qv 1) (ZD9 (qv 2) ZEA)))))))))))), ?_⟩
  walk_at "s"
  walk_at "w"
  refine ZEK (by show 3 ≤ sizeLine; decide) fun l H1 n1 f1 S1 => ?_
  have hne1 := hp.neN n1
  walk_at "w"
  refine ⟨p, _, rfl, hp.same S1, by decide, by decide, fun d2 H2 h2 h2' P2 K2 => ?_⟩
  walk_at "w"
  refine ZNw (ns := [_, _, _]) (K2 _ _ f1 hne1) h2 (by simpa using h2') fun n hn => ?_
  have hn2 : 0 < n ∧ n ≤ 17179869184 := by
   simp only [List.mem_cons, List.not_mem_nil, or_false] at hn
   rcases hn with rfl | rfl | rfl <;> decide
  walk_at "w"
  refine ⟨p, _, rfl, P2, hn2.1, Int.lt_of_le_of_lt hn2.2 (by decide), fun d3 H3 h3 h3' P3 K3 => ?_⟩
  walk_at "w"
  refine ⟨p, _, rfl, P3, by decide, by decide, fun d4 H4 h4 h4' P4 K4 => ?_⟩
  walk_at "w"
  refine ⟨p, _, rfl, P4, by decide, by decide, fun d5 H5 h5 h5' P5 K5 => ?_⟩
  walk_at "w"
  refine ⟨p, _, rfl, P5, by decide, by decide, fun d6 H6 h6 h6' P6 K6 => ?_⟩
  have K16 : Kp p H H6 := (((((Kp.same S1).trans K2).trans K3).trans K4).trans K5).trans K6
  have hy : 0 < 1 + d3 ∧ 1 + d3 ≤ 17179869184 := by omega
  have hm : 0 < 1 + d4 ∧ 1 + d4 ≤ 9 := by omega
  have hym : (1 + d4) * (1 + d3) ≤ 9 * 17179869184 := Int.mul_le_mul hm.2 hy.2 (by omega) (by decide)
  have hym0 : 0 ≤ (1 + d4) * (1 + d3) := Int.mul_nonneg (by omega) (by omega)
  have fin : ∀ (b : Int) (H' : Hp) (q : Addr), H' q = some (.tup [.int b, .int (1 + d3), .int (1 + d4)]) → -1099511627776 ≤ b → b + (1 + d4) * (1 + d3) ≤ 1099511627776 → ZFd H' q b (1 + d3) (1 + d4) := fun b H' q hq hb hb2 =>
   ⟨hq, by omega, by omega, by omega, ⟨by omega, by omega⟩, ⟨by omega, by omega⟩⟩
  walk_at "w"
  rw [ZFm]
  refine ZEp (fun e0 => ?_) (fun e0 => ?_)
  ·walk_at "w"
   refine ⟨p, _, rfl, P6, by decide, by decide, fun d7 H7 h7 h7' P7 K7 => ?_⟩
   have hd7 : d7 = 0 ∨ d7 = 1 ∨ d7 = 2 := by omega
   walk_at "w"
   rw [ZFm]
   refine ZEp (fun h => absurd (e0.symm.trans h) (by decide)) (fun _ => ?_)
   walk_at "w"
   refine ZEK (by show 3 ≤ sizeLine; decide) fun q H8 n8 f8 S8 => ?_
   refine k q _ _ _ H8 (fin _ _ _ f8 ?_ ?_) (by omega) (P7.same S8) ((K16.trans K7).then S8)
   ·rcases hd7 with rfl | rfl | rfl <;> omega
   ·rcases hd7 with rfl | rfl | rfl <;> omega
  ·walk_at "w"
   rw [ZFm]
   refine ZEp (fun e1 => ?_) (fun e1 => ?_)
   ·walk_at "w"
    refine ⟨p, _, rfl, P6, by decide, by decide, fun d7 H7 h7 h7' P7 K7 => ?_⟩
    walk_at "w"
    refine ZEK (by show 3 ≤ sizeLine; decide) fun q H8 n8 f8 S8 => ?_
    rw [Int.mul_comm] at f8
    exact k q _ _ _ H8 (fin _ _ _ f8 (by omega) (by omega)) (by omega) (P7.same S8) ((K16.trans K7).then S8)
   ·walk_at "w"
    refine ZEK (by show 3 ≤ sizeLine; decide) fun q H8 n8 f8 S8 => ?_
    exact k q _ _ _ H8 (fin _ _ _ f8 (by omega) (by omega)) (by omega) (P6.same S8) (K16.then S8)
theorem ZIJ : ZEJ ["_law_pot_here", "_law_window_here", "_law_begin", "_law_wide", "_law_many"] ["_law_pot_here", "_law_window_here"] (ZEE ZKk) := ZEe
theorem ZL8 (T : Txt K mg a) : ZEM P w K mg base CX0 2 a.ZBD a.ZA6 ["_law_pot_here", "_law_window_here"] ZXX := by
 refine T.ZBF.ok ZIJ (by walk_at "l") (fun cdv A outer s H vs Q E hr h => ?_)
 ·obtain ⟨p, q, b, y, m, rfl, hp, hW, k⟩ := h
  have hy2 := ZGE hW
  obtain ⟨hq, hy, hm1, hm2, hb, he⟩ := id hW
  have g0 : 0 < y * (m + 4) := Int.mul_pos hy (by omega)
  have g1 : y * (m + 4) ≤ 2199023255552 * 104 := Int.mul_le_mul hy2 (by omega) (by omega) (by decide)
  refine ⟨_, QB.h (ZEC (ZFT (qv 1) (ZFN (n := 3) K rfl rfl (ZEL (qgN (i := 2) ZIJ.nd) (ZEL (qgN (i := 3) ZIJ.nd) (ZEL (qgN (i := 4) ZIJ.nd) ZE7))))) (ZED (ZES (qcS (ZVr T) hr T.ZDp T.ZDA.kp T.ZDm (ZD9 (ZEG ZE3 (ZEG ZFb (qv 2) (ZEG ZEr ZEB (qv 3))) (qcS (ZEo T) hr T.ZJ T.ZI.kp T.ZK (ZD9 (qv 0) (ZD9 (ZEG ZEr (qv 3) (ZEG ZE3 (qv 4) ZEB)) ZEA)))) ZEA))))), ?_⟩
  walk_at "s"
  walk_at "w"
  refine ⟨p, _, rfl, hp, g0, Int.lt_of_le_of_lt g1 (by decide), fun d1 H1 h1 h1' P1 K1 => ?_⟩
  walk_at "w"
  refine ⟨_, rfl, fun x hx => ?_⟩
  walk_at "w"
  exact k x H1 hx P1 K1
theorem ZHj : ZEJ ["_law_pot_here", "_law_window_here", "_law_made", "_law_k", "_law_t"] ["_law_pot_here", "_law_window_here"] (ZEE ZJk) := ZEe
theorem ZPp (T : Txt K mg a) : ZEM P w K mg base CX0 3 a.ZAW a.ZAP ["_law_pot_here", "_law_window_here"] ZTh := by
 refine T.ZBq.ok ZHj (by walk_at "l") (fun cdv A outer s H vs Q E hr h => ?_)
 ·obtain ⟨p, q, b, y, m, rfl, hp, hW, k⟩ := h
  have hu := ZF9 hr
  have nqp : q ≠ p := fun z => by
   obtain ⟨u, v, e, _⟩ := hp
   have := hW.1
   rw [z, e] at this; cases this
  refine ⟨_, QB.h (ZEC (qsS (i := 2) ZHj.nd ZM9) (ZEC (ZGK PassesOwn.never rfl (ZGs rfl T.Zp (ZD9 (qcS (ZEo T) hr.m T.ZJ T.ZI.kp T.ZK (ZD9 (qv 0) (ZD9 ZEB ZEA))) ZEA)) (qgN (i := 3) ZHj.nd) (ZEC (qsS (i := 4) ZHj.nd (qcS (ZL8 T) hr T.ZCJ T.ZBF.kp T.ZCN (ZD9 (qv 0) (ZD9 (qv 1) ZEA)))) (ZED (ZGt hu (qcS (ZKK T) hr T.ZBX T.ZAA.kp T.ZBZ (ZD9 (qv 0) ZEA)) (qv 2) (qv 4))))) (ZED (ZES (qv 2))))), ?_⟩
  walk_at "s"
  walk_at "w"
  refine ZNC fun d H1 n1 f1 S1 => ?_
  have P1 := hp.same S1
  have hned := hp.neN n1
  walk_at "w"
  refine ⟨p, _, rfl, P1, by decide, by decide, fun d2 H2 h2 h2' P2 K2 => ?_⟩
  have f2 := K2 _ _ f1 hned
  have KA : Kp p H H2 := (Kp.same S1).trans K2
  walk_at "w"
  refine ZIb (by omega) (by omega) (ZJy (fun i σ H' => (∃ v3 v4, σ = [some (.ref p), some (.ref q), some (.ref d), v3, v4]) ∧ Pot H' p ∧ Kp p H H' ∧ ∃ ps : PL, H' d = some (.dK (ZEf ps)) ∧ (ps.map (·.1)).Nodup ∧ ps.length ≤ i ∧ ∀ r ∈ ps, Tm r.1 ∧ -(10 ^ 59) < r.2 ∧ r.2 < 10 ^ 59) ?_ ?_ ?_)
  ·exact ⟨⟨_, _, rfl⟩, P2, KA, [], f2, List.nodup_nil, Nat.zero_le _, fun q hq => by simp at hq⟩
  ·rintro i σ H3 hi ⟨⟨v3, v4, rfl⟩, P3, K3, ps, f3, hnd, hl, hbp⟩
   have hlt : ps.length < sizeLine := by show _ < 2 ^ 24; omega
   walk_at "w"
   refine ⟨p, q, b, y, m, rfl, P3, ⟨K3 _ _ hW.1 nqp, hW.2⟩, fun t H4 ht P4 K4 => ?_⟩
   walk_at "w"
   refine ⟨p, rfl, P4, fun x H5 hx1 hx2 P5 K5 => ?_⟩
   have f5 := K5 _ _ (K4 _ _ f3 hned) hned
   walk_at "w"
   refine ZKV f5 hlt fun H6 f6 K6 => ?_
   walk_at "w"
   exact ⟨⟨_, _, rfl⟩, P5.kp K6 hned.symm, fun c o e nc => K6 c o (K5 c o (K4 c o (K3 c o e nc) nc) nc) (ZET e n1), _, f6, ZGB hnd, Nat.le_trans (ZKW _ _ _) (by omega), ZTd _ hbp ⟨ht, hx1, hx2⟩⟩
  ·rintro σ H3 ⟨⟨v3, v4, rfl⟩, P3, K3, ps, f3, hnd, hl, hbp⟩
   walk_at "w"
   exact k d ps H3 n1 f3 hnd (by omega) hbp P3 K3
theorem ZF8 : ZEJ ["_law_pot_here", "_law_window_here", "_law_begin", "_law_wide", "_law_many", "_law_way", "_law_n", "_law_c"] ["_law_pot_here", "_law_window_here"] (ZEE ZKl) := ZEe
theorem ZL9 (T : Txt K mg a) : ZEM P w K mg base CX0 2 a.ZA8 a.ZA5 ["_law_pot_here", "_law_window_here"] ZXY := by
 refine T.ZBO.ok ZF8 (by walk_at "l") (fun cdv A outer s H vs Q E hr h => ?_)
 ·obtain ⟨p, q, b, y, m, rfl, hp, hW, k⟩ := h
  have hy2 := ZGE hW
  obtain ⟨hq, hy, hm1, hm2, hb, he⟩ := id hW
  have g3 : (3 : Nat) ≤ sizeLine := by decide
  refine ⟨_, QB.h (ZEC (ZFT (qv 1) (ZFN (n := 3) K rfl rfl (ZEL (qgN (i := 2) ZF8.nd) (ZEL (qgN (i := 3) ZF8.nd) (ZEL (qgN (i := 4) ZF8.nd) ZE7))))) (ZEC (qsS (i := 5) ZF8.nd (qcS (ZEo T) hr T.ZJ T.ZI.kp T.ZK (ZD9 (qv 0) (ZD9 ZEB ZEA)))) (ZEC (ZEg (ZEQ (ZE9) (qv 5) ZEB (ZEW _)) (ZED (ZES (ZEb (ZD9 ZGI (ZD9 ZEB (ZD9 (ZEb (ZD9 (qv 2) (ZD9 (ZEG ZEr ZEB (qv 3)) (ZD9 (qv 4) ZEA)))) ZEA)))))) ZEd) (ZEC (ZEg (QW.pt (ZGg (ZEQ (ZE9) (qv 5) ZEB (ZEW _)) (ZGN (ZEQ (ZE9) (ZEG ZHP (qv 3) ZEB) ZEB (ZEW _))))) (ZED (ZES (ZEb (ZD9 ZGI (ZD9 ZEB (ZD9 (ZEb (ZD9 (qv 2) (ZD9 (ZEG ZGS (qv 3) ZEB) (ZD9 (qv 4) ZEA)))) ZEA)))))) ZEd) (ZEC (ZEg (ZEQ (ZE9) (qv 5) ZEB (ZEW _)) (ZEC (qsS (i := 6) ZF8.nd (ZEG ZE3 ZEB (qcS (ZEo T) hr T.ZJ T.ZI.kp T.ZK (ZD9 (qv 0) (ZD9 ZEB ZEA))))) (ZED (ZES (ZEb (ZD9 ZGI (ZD9 (qv 6) (ZD9 (ZEb (ZD9 (qv 2) (ZD9 (qv 3) (ZD9 (qv 6) ZEA)))) ZEA))))))) ZEd) (ZEC (qsS (i := 7) ZF8.nd (ZEG ZFb (qcS (ZEo T) hr T.ZJ T.ZI.kp T.ZK (ZD9 (qv 0) (ZD9 ZEB ZEA))) ZEB)) (ZEC (ZEg (ZEQ (ZE9) (qv 5) ZEB (ZEW _)) (ZED (qsS (i := 7) ZF8.nd (ZEG ZFb (qcS (ZEo T) hr T.ZJ T.ZI.kp T.ZK (ZD9 (qv 0) (ZD9 (ZEG ZFs ZEB ZEB) ZEA))) (ZEG ZFs ZEB ZEB)))) ZEd) (ZED (ZES (ZEb (ZD9 ZGI (ZD9 (qv 7) (ZD9 (ZEb (ZD9 (ZEG ZE3 (qv 2) (ZEG ZEr (qv 7) (qv 3))) (ZD9 (qv 3) (ZD9 (qv 4) ZEA)))) ZEA))))))))))))), ?_⟩
  walk_at "s"
  walk_at "w"
  refine ⟨p, _, rfl, hp, by decide, by decide, fun d1 H1 h1 h1' P1 K1 => ?_⟩
  walk_at "w"
  rw [ZFm]
  refine ZEp (fun e0 => ?_) (fun e0 => ?_)
  ·walk_at "w"
   refine ZEK g3 fun w2 H2 n2 f2 S2 => ?_
   walk_at "w"
   refine ZEK g3 fun u3 H3 n3 f3 S3 => ?_
   exact k u3 _ _ _ H3 ⟨_, _, w2, f3, S3 _ _ f2, .inl ⟨rfl, rfl, rfl, rfl⟩⟩ ((P1.same S2).same S3) ((K1.then S2).then S3)
  repeat walk_at "ri"
  refine ZGv (fun σ' H' => σ' = [some (.ref p), some (.ref q), some (.int b), some (.int y), some (.int m), some (.int d1), none, none] ∧ H' = H1) ?_ ?_
  ·rintro σ' H' ⟨rfl, rfl⟩
   walk_at "w"
   rw [ZFm]
   refine ZEp (fun e2 => ?_) (fun e2 => ?_)
   ·walk_at "w"
    refine ⟨p, _, rfl, P1, by decide, by decide, fun d2 H2 h2 h2' P2 K2 => ?_⟩
    walk_at "w"
    refine ZEK g3 fun w3 H3 n3 f3 S3 => ?_
    walk_at "w"
    refine ZEK g3 fun u4 H4 n4 f4 S4 => ?_
    exact k u4 _ _ _ H4 ⟨_, _, w3, f4, S4 _ _ f3, .inr (.inr (.inl ⟨rfl, by omega, by omega, rfl, rfl, rfl⟩))⟩ ((P2.same S3).same S4) (((K1.trans K2).then S3).then S4)
   walk_at "w"
   refine ⟨p, _, rfl, P1, by decide, by decide, fun d2 H2 h2 h2' P2 K2 => ?_⟩
   walk_at "w"
   rw [ZFm]
   refine ZEp (fun e3 => ?_) (fun e3 => ?_)
   ·walk_at "w"
    refine ⟨p, _, rfl, P2, by decide, by decide, fun d3 H3 h3 h3' P3 K3 => ?_⟩
    walk_at "w"
    refine ZEK g3 fun w4 H4 n4 f4 S4 => ?_
    walk_at "w"
    refine ZEK g3 fun u5 H5 n5 f5 S5 => ?_
    exact k u5 _ _ _ H5 ⟨_, _, w4, f5, S5 _ _ f4, .inr (.inr (.inr ⟨rfl, by omega, by omega, rfl, rfl, rfl⟩))⟩ ((P3.same S4).same S5) ((((K1.trans K2).trans K3).then S4).then S5)
   ·walk_at "w"
    refine ZEK g3 fun w4 H4 n4 f4 S4 => ?_
    walk_at "w"
    refine ZEK g3 fun u5 H5 n5 f5 S5 => ?_
    exact k u5 _ _ _ H5 ⟨_, _, w4, f5, S5 _ _ f4, .inr (.inr (.inr ⟨rfl, by omega, by omega, rfl, rfl, rfl⟩))⟩ ((P2.same S4).same S5) (((K1.trans K2).then S4).then S5)
  ·intro D' hrt hD'
   walk_at "w"
   rw [ZFm]
   refine ZEp (fun e1 => ?_) (fun e1 => ?_)
   ·walk_at "w"
    rw [ZFm]
    refine ZEp (fun e2 => ?_) (fun e2 => ?_)
    ·walk_at "w"
     refine ZEK g3 fun w2 H2 n2 f2 S2 => ?_
     walk_at "w"
     refine ZEK g3 fun u3 H3 n3 f3 S3 => ?_
     rw [hrt]
     exact k u3 _ _ _ H3 ⟨_, _, w2, f3, S3 _ _ f2, .inr (.inl ⟨rfl, e2, rfl, rfl, rfl⟩)⟩ ((P1.same S2).same S3) ((K1.then S2).then S3)
    ·walk_at "w"
     exact hD' _ _ ⟨rfl, rfl⟩
   ·walk_at "w"
    exact hD' _ _ ⟨rfl, rfl⟩
def ZXZ (a : Ad) : Sp := fun vs H Q _ => ∃ (S : SA) (v d u : Addr) (b y m k n b' y' m' : Int) (kvs : List (List Key × V)) (e : Nat) (sm : PL) (c : Nat) (ds : List (Int × Option Int)) (ts : List Int) (ws : List V), vs = [.ref v, .ref u] ∧ ZEF a H S n sm c ds ts ws ∧ ZE0 a H S v d b y m k kvs e sm ts ∧ ts.length ≤ 10000 ∧ ZLR H u b y m b' y' m' ∧ ZIW b' y' m' ∧
 ZHi a H S v d k n kvs e sm c ds ts ws b' y' m' (fun _ H' => Q (.bl true) H')
theorem ZFr : ZEJ ["_law_view", "_law_step_here", "_law_told"] ["_law_view", "_law_step_here"] (ZEE ZNh) := ZEe
theorem ZVs (T : Txt K mg a) : ZEM P w K mg base CX0 7 a.ZAs a.ZAY ["_law_view", "_law_step_here"] (ZXZ a) := by
 refine T.ZCO.ok ZFr (by walk_at "l") (fun cdv A outer s H vs Q E hr h => ?_)
 ·obtain ⟨S, v, d, u, b, y, m, k, n, b', y', m', kvs, e, sm, c, ds, ts, ws, rfl, hS, hV, hlen, ⟨nm, j, q, hu1, hq, hst⟩, hw, kk⟩ := h
  obtain ⟨dx, q0, hv, hW, hd, hk, av, ad⟩ := id hV
  have hy2 := ZGE hW
  refine ⟨_, QB.h (ZEC (qsS (i := 2) ZFr.nd ZFH) (ZEC (ZEg (ZEQ (ZE9) (ZEO (ZEY K rfl) (qv 1) ZEB) ZGI (ZEW _)) (ZED (qsS (i := 2) ZFr.nd (ZGC (qv 0) T.ZG T.ZAy (ZNv T) hr T.ZA2 .nil ZEz))) (ZED (ZEg (ZEQ (ZE9) (ZEO (ZEY K rfl) (qv 1) ZEB) ZGI (ZEW _)) (ZED (qsS (i := 2) ZFr.nd (ZGC (qv 0) T.ZG T.ZAL (ZIm T) hr T.ZAM .nil ZEz))) (ZED (ZEg (ZEQ (ZE9) (ZEO (ZEY K rfl) (qv 1) ZEB) ZGI (ZEW _)) (ZED (qsS (i := 2) ZFr.nd (ZEs (qv 0) T.ZG T.JX (ZLQ T) hr T.Ja .nil ZEz (ZD9 (ZEO (ZEY K rfl) (qv 1) ZEB) ZEA)))) (ZED (qsS (i := 2) ZFr.nd (ZEs (qv 0) T.ZG T.ZBy (ZPo T) hr T.ZBs .nil ZEz (ZD9 (ZEO (ZEY K rfl) (qv 1) ZEB) ZEA))))))))) (ZED (ZES (ZG9 (ZIa) (qv 2) ZFH (ZEW _)))))), ?_⟩
  walk_at "s"
  walk_at "w"
  have ne1 : (("narrow" : Str) = "wide") = False := eq_false (by decide +kernel)
  have ne2 : (("columns" : Str) = "wide") = False := eq_false (by decide +kernel)
  have ne3 : (("on" : Str) = "wide") = False := eq_false (by decide +kernel)
  have ne4 : (("columns" : Str) = "narrow") = False := eq_false (by decide +kernel)
  have ne5 : (("on" : Str) = "narrow") = False := eq_false (by decide +kernel)
  have ne6 : (("on" : Str) = "columns") = False := eq_false (by decide +kernel)
  rcases hst with ⟨rfl, rfl, rfl, rfl⟩ | ⟨rfl, h2, rfl, rfl, rfl⟩ | ⟨rfl, h1, h2, rfl, rfl, rfl⟩ | ⟨rfl, h1, h2, rfl, rfl, rfl⟩
  ·refine ZFY ?_
   rw [decide_eq_true rfl]
   walk_at "w"
   refine ZFD ?_
   walk_at "w"
   refine ZEa hv ZFe ?_
   rw [Int.mul_comm] at hw kk
   refine ⟨S, v, d, b', y, m', k, n, kvs, e, sm, c, ds, ts, ws, rfl, hS, hV, hlen, hw, fun d' kvs1 kvs' H' n' g1 g2 g3 g4 g5 F => ?_⟩
   walk_at "w"
   exact kk d' kvs1 kvs' H' n' g1 g2 g3 g4 g5 F
  ·refine ZFY ?_
   rw [decide_eq_false (by rw [ne1]; exact id)]
   walk_at "w"
   refine ZEw ?_
   walk_at "w"
   refine ZFY ?_
   rw [decide_eq_true rfl]
   walk_at "w"
   refine ZFD ?_
   walk_at "w"
   refine ZEa hv ZFe ?_
   refine ⟨S, v, d, b', y, m', k, n, kvs, e, sm, c, ds, ts, ws, rfl, hS, hV, hlen, h2, hw, fun d' kvs1 kvs' H' n' g1 g2 g3 g4 g5 F => ?_⟩
   walk_at "w"
   exact kk d' kvs1 kvs' H' n' g1 g2 g3 g4 g5 F
  ·refine ZFY ?_
   rw [decide_eq_false (by rw [ne2]; exact id)]
   walk_at "w"
   refine ZEw ?_
   walk_at "w"
   refine ZFY ?_
   rw [decide_eq_false (by rw [ne4]; exact id)]
   walk_at "w"
   refine ZEw ?_
   walk_at "w"
   refine ZFY ?_
   rw [decide_eq_true rfl]
   walk_at "w"
   refine ZFD ?_
   walk_at "w"
   refine ZEa hv ZFe ?_
   walk_at "w"
   refine ⟨S, v, d, b', y', m, k, n, m', kvs, e, sm, c, ds, ts, ws, rfl, hS, hV, hlen, hw, fun d' kvs1 kvs' H' n' g1 g2 g3 g4 g5 F => ?_⟩
   walk_at "w"
   exact kk d' kvs1 kvs' H' n' g1 g2 g3 g4 g5 F
  ·refine ZFY ?_
   rw [decide_eq_false (by rw [ne3]; exact id)]
   walk_at "w"
   refine ZEw ?_
   walk_at "w"
   refine ZFY ?_
   rw [decide_eq_false (by rw [ne5]; exact id)]
   walk_at "w"
   refine ZEw ?_
   walk_at "w"
   refine ZFY ?_
   rw [decide_eq_false (by rw [ne6]; exact id)]
   walk_at "w"
   refine ZEw ?_
   walk_at "w"
   refine ZEa hv ZFe ?_
   walk_at "w"
   refine ⟨S, v, d, b, y', m', k, n, j, kvs, e, sm, c, ds, ts, ws, rfl, hS, hV, hlen, ZJZ (m := 42) (n := 43) (by unfold Bn; omega) (by have := hw.1; unfold Bn; omega) (by decide), hw, fun d' kvs1 kvs' H' n' g1 g2 g3 g4 g5 F => ?_⟩
   walk_at "w"
   exact kk d' kvs1 kvs' H' n' g1 g2 g3 g4 g5 F
end
theorem ZKL {cv : PL} (h : (cv.map (·.1)).Nodup) (f : Int × Int → Int) : (cv.map fun p => (f p, p.1)).Nodup := by
 unfold List.Nodup at *
 rw [List.pairwise_map] at *
 exact h.imp fun h z => h (congrArg (·.2) z)
theorem ZXa {cv lo hi : PL} {q0 q1 l0 h0 : Int × Int} (m0 : q0 ∈ cv) (b0 : ∀ r ∈ cv, ltP r q0 = false) (m1 : q1 ∈ cv) (b1 : ∀ r ∈ cv, ltP q1 r = false)
  (hl : lo.Perm (cv.map fun p => (p.2, p.1))) (hh : hi.Perm (cv.map fun p => (-p.2, p.1))) (sl : lo.Pairwise fun p q => ltP p q = true) (sh : hi.Pairwise fun p q => ltP p q = true) (f0 : lo[0]? = some l0) (g0 : hi[0]? = some h0) :
  Is4 cv (some [q0, q1, (l0.2, l0.1), (h0.2, -h0.1)]) := by
 have fst : ∀ {xs : PL} {x : Int × Int}, xs.Pairwise (fun p q => ltP p q = true) → xs[0]? = some x → x ∈ xs ∧ ∀ y ∈ xs, y = x ∨ ltP x y = true := by
  intro xs x hs hx
  cases xs with
  | nil => cases hx
  | cons z zs =>
   have : z = x := by simpa using hx
   subst this
   refine ⟨List.mem_cons_self .., fun y hy => ?_⟩
   rcases List.mem_cons.mp hy with rfl | hy
   ·exact .inl rfl
   ·exact .inr ((List.pairwise_cons.mp hs).1 y hy)
 obtain ⟨ml, bl⟩ := fst sl f0
 obtain ⟨mh, bh⟩ := fst sh g0
 obtain ⟨r2, hr2, er2⟩ := List.mem_map.mp (hl.mem_iff.mp ml)
 obtain ⟨r3, hr3, er3⟩ := List.mem_map.mp (hh.mem_iff.mp mh)
 have x2 : (l0.2, l0.1) = r2 := by rw [← er2]
 have x3 : (h0.2, -h0.1) = r3 := by rw [← er3]; simp
 rw [x2, x3]
 refine .inr ⟨q0, q1, r2, r3, rfl, m0, m1, hr2, hr3, fun p hp => ?_⟩
 have c0 := ZFW.mp (b0 p hp)
 have c1 := ZFW.mp (b1 p hp)
 have c2 := bl (p.2, p.1) (hl.mem_iff.mpr (List.mem_map.mpr ⟨_, hp, rfl⟩))
 have c3 := bh (-p.2, p.1) (hh.mem_iff.mpr (List.mem_map.mpr ⟨_, hp, rfl⟩))
 rw [← er2, ZFg, Prod.mk.injEq] at c2
 rw [← er3, ZFg, Prod.mk.injEq] at c3
 refine ⟨by omega, by omega, ?_, ?_⟩ <;> omega
section
variable {P : Program} {w : World} {K : W.Frag} {mg : Str → Option Value} {base : Heap} {a : Ad}
def ZTi : Sp := fun vs H Q _ => ∃ (l : Addr) (m : PL), vs = [.ref l] ∧ PrL H l m ∧ (m.map (·.1)).Nodup ∧ m.length < 64 ∧
 ∀ (v : V) (o : Option (PL)) (H' : Hp), ZEq H' v o → Is4 m o → ZEI H H' → Q v H'
theorem ZJu : ZEJ ["_law_some", "_law_low", "_law_high"] ["_law_some"] (ZEE ZHx) := ZEe
theorem ZRU (T : Txt K mg a) : ZEM P w K mg base CX0 1 a.ZA9 a.ZBK ["_law_some"] ZTi := by
 refine T.ZB6.ok ZJu (by walk_at "l") (fun cdv A outer s H vs Q E hr h => ?_)
 ·obtain ⟨t, cv, rfl, hT, hnd, hlen, k⟩ := h
  have hu := ZF9 hr
  have hu64 := hr.units
  refine ⟨_, QB.h (ZEC (ZEg (ZEQ (ZNX K rfl hu) (qv 0) (ZFX ZEA) (ZEW _)) (ZED (ZES ZFH)) ZEd) (ZEC (qsS (i := 1) ZJu.nd (ZEO (ZEi K rfl) (ZEk (ZLE K rfl) rfl T.YS ZH8 (ZD9 (ZGb (N := ["_law_some", "_law_low", "_law_high"]) (sc := ZEE ZHx) (own := ["_law_t", "_law_h"]) (caps := []) (ks := []) rfl rfl rfl ⟨rfl, by decide +kernel, by decide +kernel, by decide +kernel, by decide +kernel, rfl, by decide +kernel⟩ (ZFz K rfl (qv 0)) (fun _ _ _ _ _ => ZFN (n := 2) K rfl rfl (ZEL (ZFo (i := 0) (show List.Nodup (α := Str) ["_law_t", "_law_h"] from by decide +kernel) rfl (by walk_at "o") (.inr rfl)) (ZEL (ZFo (i := 1) (show List.Nodup (α := Str) ["_law_t", "_law_h"] from by decide +kernel) rfl (by walk_at "o") (.inr rfl)) ZE7))) (fun _ _ _ _ _ => ZHA) (fun _ _ _ _ _ => ZEb (ZD9 (qv 1) (ZD9 (qv 0) ZEA)))) ZEA)) ZEB)) (ZEC (qsS (i := 2) ZJu.nd (ZEO (ZEi K rfl) (ZEk (ZLE K rfl) rfl T.YS ZH8 (ZD9 (ZGb (N := ["_law_some", "_law_low", "_law_high"]) (sc := ZEE ZHx) (own := ["_law_t", "_law_h"]) (caps := []) (ks := []) rfl rfl rfl ⟨rfl, by decide +kernel, by decide +kernel, by decide +kernel, by decide +kernel, rfl, by decide +kernel⟩ (ZFz K rfl (qv 0)) (fun _ _ _ _ _ => ZFN (n := 2) K rfl rfl (ZEL (ZFo (i := 0) (show List.Nodup (α := Str) ["_law_t", "_law_h"] from by decide +kernel) rfl (by walk_at "o") (.inr rfl)) (ZEL (ZFo (i := 1) (show List.Nodup (α := Str) ["_law_t", "_law_h"] from by decide +kernel) rfl (by walk_at "o") (.inr rfl)) ZE7))) (fun _ _ _ _ _ => ZHA) (fun _ _ _ _ _ => ZEb (ZD9 (ZIs ZHo (qv 1)) (ZD9 (qv 0) ZEA)))) ZEA)) ZEB)) (ZED (ZES (ZEb (ZD9 (ZEk (ZVL K rfl rfl hu) rfl T.ZBS ZMq (ZD9 (qv 0) ZEA)) (ZD9 (ZEk (ZVN K rfl rfl hu) rfl T.ZAv ZK7 (ZD9 (qv 0) ZEA)) (ZD9 (ZEb (ZD9 (ZEO (ZEY K rfl) (qv 1) ZEB) (ZD9 (ZEO (ZEY K rfl) (qv 1) ZEB) ZEA))) (ZD9 (ZEb (ZD9 (ZEO (ZEY K rfl) (qv 2) ZEB) (ZD9 (ZIs ZHo (ZEO (ZEY K rfl) (qv 2) ZEB)) ZEA))) ZEA)))))))))), ?_⟩
  walk_at "s"
  walk_at "w"
  refine ZEK (by show 0 ≤ sizeLine; decide) fun e0 H0 n0 f0 S0 => ?_
  obtain ⟨us, gT0, pT0⟩ := hT
  have gT := S0 _ _ gT0
  have pT := pT0.same S0
  have hul : us.length = cv.length := pT.length
  refine ZKf (SqL.of gT) (SqL.of f0) ?_
  by_cases hne : cv = []
  ·have : us = [] := List.length_eq_zero_iff.mp (by rw [hul, hne]; rfl)
   rw [this]
   walk_at "w"
   refine ZFD ?_
   walk_at "w"
   exact k _ none H0 .non (.inl ⟨rfl, hne⟩) S0
  have hpos : 0 < cv.length := List.length_pos_iff.mpr hne
  rw [show us.isEmpty = false by cases us with | nil => simp at hul; omega | cons _ _ => rfl]
  walk_at "w"
  refine ZEw ?_
  walk_at "w"
  intro l n1
  refine ZGZ cv.length (fun i' σ' H' => (∃ o1 o2, σ' = [o1, o2]) ∧ ZEI H0 H' ∧ ∃ vs, H' l = some (.lst vs) ∧ ZEP H' vs ((cv.take i').map fun p => (p.2, p.1))) ?_ ?_ ?_
  ·exact ⟨⟨none, none, rfl⟩, ZEI.new n1, [], ZEN, .nil⟩
  ·rintro σ' H1 ⟨_, S1, vs1, f1, hP1⟩
   refine ⟨⟨_, SqL.of (S1 _ _ gT), by rw [hul]; exact Nat.le_refl _⟩, ?_⟩
   rw [List.take_length] at hP1
   walk_at "w"
   refine ZLF (SqL.of f1) hP1 (ZKL hnd fun p => p.2) (by rw [List.length_map]; exact hlen) fun l2 us2 lo H2 n2 f2 hP2 perm2 pw2 S2 => ?_
   have hlo : lo.length = cv.length := by rw [perm2.length_eq, List.length_map]
   obtain ⟨c2, p2, ec2, hp2, hc2⟩ := hP2.at (List.getElem?_eq_getElem (show 0 < us2.length by rw [hP2.length, hlo]; exact hpos))
   have hx2 : us2[0]? = some (.ref c2) := by rw [List.getElem?_eq_getElem (show 0 < us2.length by rw [hP2.length, hlo]; exact hpos), ec2]
   walk_at "w"
   refine ZGH (SqL.of f2) (ZIY (j := 0) hx2) ?_
   have S02 := S1.trans S2
   have gT2 := S02 _ _ gT
   walk_at "w"
   intro l3 n3
   refine ZGZ cv.length (fun i' σ' H' => (∃ o1 o2, σ' = [o1, o2]) ∧ ZEI H2 H' ∧ ∃ vs, H' l3 = some (.lst vs) ∧ ZEP H' vs ((cv.take i').map fun p => (-p.2, p.1))) ?_ ?_ ?_
   ·exact ⟨⟨none, none, rfl⟩, ZEI.new n3, [], ZEN, .nil⟩
   ·rintro σ'' H3 ⟨_, S3, vs3, f3, hP3⟩
    have S03 := S02.trans S3
    refine ⟨⟨_, SqL.of (S03 _ _ gT), by rw [hul]; exact Nat.le_refl _⟩, ?_⟩
    rw [List.take_length] at hP3
    walk_at "w"
    refine ZLF (SqL.of f3) hP3 (ZKL hnd fun p => -p.2) (by rw [List.length_map]; exact hlen) fun l4 us4 hi H4 n4 f4 hP4 perm4 pw4 S4 => ?_
    have hhi : hi.length = cv.length := by rw [perm4.length_eq, List.length_map]
    obtain ⟨c4, p4, ec4, hp4, hc4⟩ := hP4.at (List.getElem?_eq_getElem (show 0 < us4.length by rw [hP4.length, hhi]; exact hpos))
    have hx4 : us4[0]? = some (.ref c4) := by rw [List.getElem?_eq_getElem (show 0 < us4.length by rw [hP4.length, hhi]; exact hpos), ec4]
    walk_at "w"
    refine ZGH (SqL.of f4) (ZIY (j := 0) hx4) ?_
    have S04 := S03.trans S4
    have hT4 : PrL H4 t cv := ⟨us, S04 _ _ gT, pT.same S04⟩
    have hc2' := S4 _ _ (S3 _ _ hc2)
    walk_at "w"
    refine ZVM hT4 hne fun c0 q0 m0 hc0 b0 => ?_
    walk_at "w"
    refine ZVO hT4 hne fun c1 q1 m1 hc1 b1 => ?_
    walk_at "w"
    refine ZEK (by show 2 ≤ sizeLine; decide) fun c5 H5 n5 f5 S5 => ?_
    have hc4' := S5 _ _ hc4
    walk_at "w"
    refine ZEK (by show 2 ≤ sizeLine; decide) fun c6 H6 n6 f6 S6 => ?_
    walk_at "w"
    refine ZEK (by show 4 ≤ sizeLine; decide) fun c7 H7 n7 f7 S7 => ?_
    have S47 := S5.trans (S6.trans S7)
    have hP7 : ZEP H7 [.ref c0, .ref c1, .ref c5, .ref c6] [q0, q1, (p2.2, p2.1), (p4.2, -p4.1)] := .cons ⟨c0, rfl, S47 _ _ hc0⟩ (.cons ⟨c1, rfl, S47 _ _ hc1⟩ (.cons ⟨c5, rfl, S7 _ _ (S6 _ _ f5)⟩ (.cons ⟨c6, rfl, S7 _ _ f6⟩ .nil)))
    exact k _ (some [q0, q1, (p2.2, p2.1), (p4.2, -p4.1)]) H7 (.pr ⟨_, f7, hP7⟩ rfl) (ZXa m0 b0 m1 b1 perm2 perm4 pw2 pw4 hp2 hp4) (S0.trans (S04.trans S47))
   ·rintro i' σ'' H3 hi' ⟨⟨o1, o2, rfl⟩, S3, vs, f, hPc⟩
    have S03 := S02.trans S3
    have hi2 : i' < us.length := by rw [hul]; exact hi'
    refine ⟨⟨_, _, SqL.of (S03 _ _ gT), List.getElem?_eq_getElem hi2⟩, ?_⟩
    rintro v H'' ⟨rfl, hv⟩
    have hv := hv _ (SqL.of (S03 _ _ gT))
    obtain ⟨c, q, rfl, hq, hc⟩ := (pT.same S03).at hv
    have e3 : (cv.take (i' + 1)).map (fun p => (-p.2, p.1)) = (cv.take i').map (fun p => (-p.2, p.1)) ++ [(-q.2, q.1)] := by rw [List.take_succ, hq, List.map_append]; rfl
    walk_at "w"
    refine ZFD ?_
    walk_at "w"
    refine ZEK (by show 2 ≤ sizeLine; decide) fun t4 H4 n4 f4 S4 => ?_
    refine ⟨vs, S4 _ _ f, ?_, ⟨_, _, rfl⟩, (S3.trans S4).kpN n3 Kp.upd, _, ZEN, ?_⟩
    ·rw [hPc.length, List.length_map, List.length_take]
     exact Nat.lt_of_le_of_lt (Nat.min_le_left _ _) (Nat.lt_of_lt_of_le (show i' < 64 by omega) (by decide))
    ·rw [e3]
     exact ZEP.kpL Kp.upd (S4 _ _ f) ((hPc.same S4).snoc (p := (-q.2, q.1)) f4)
  ·rintro i' σ' H1 hi' ⟨⟨o1, o2, rfl⟩, S1, vs, f, hPc⟩
   have hi2 : i' < us.length := by rw [hul]; exact hi'
   refine ⟨⟨_, _, SqL.of (S1 _ _ gT), List.getElem?_eq_getElem hi2⟩, ?_⟩
   rintro v H'' ⟨rfl, hv⟩
   have hv := hv _ (SqL.of (S1 _ _ gT))
   obtain ⟨c, q, rfl, hq, hc⟩ := (pT.same S1).at hv
   have e3 : (cv.take (i' + 1)).map (fun p => (p.2, p.1)) = (cv.take i').map (fun p => (p.2, p.1)) ++ [(q.2, q.1)] := by rw [List.take_succ, hq, List.map_append]; rfl
   walk_at "w"
   refine ZFD ?_
   walk_at "w"
   refine ZEK (by show 2 ≤ sizeLine; decide) fun t4 H4 n4 f4 S4 => ?_
   refine ⟨vs, S4 _ _ f, ?_, ⟨_, _, rfl⟩, (S1.trans S4).kpN n1 Kp.upd, _, ZEN, ?_⟩
   ·rw [hPc.length, List.length_map, List.length_take]
    exact Nat.lt_of_le_of_lt (Nat.min_le_left _ _) (Nat.lt_of_lt_of_le (show i' < 64 by omega) (by decide))
   ·rw [e3]
    exact ZEP.kpL Kp.upd (S4 _ _ f) ((hPc.same S4).snoc (p := (q.2, q.1)) f4)
def ZTj : Sp := fun vs H Q _ => ∃ (d q : Addr) (m : PL) (b y k : Int), vs = [.ref d, .ref q] ∧ H d = some (.dK (ZEf m)) ∧ (m.map (·.1)).Nodup ∧ m.length < 64 ∧ ZFd H q b y k ∧
 ∀ (u : Addr) (us : List V) (fs : List (Option (PL))) (H' : Hp), H' u = some (.tup us) → ZFA H' us fs → ZHS m b y k.toNat fs → ZEI H H' → Q (.ref u) H'
theorem ZGF : ZEJ ["_law_made", "_law_window_here", "_law_begin", "_law_wide", "_law_many", "_law_columns", "_law_k", "_law_first"] ["_law_made", "_law_window_here"] (ZEE ZIC) := ZEe
theorem ZPq (T : Txt K mg a) : ZEM P w K mg base CX0 2 a.ZAe a.ZAb ["_law_made", "_law_window_here"] ZTj := by
 refine T.ZBu.ok ZGF (by walk_at "l") (fun cdv A outer s H vs Q E hr h => ?_)
 ·obtain ⟨d, q, m, b, y, kk, rfl, hd, hnd, hlen, ⟨hq, hy, hk1, hk2, _⟩, k⟩ := h
  have hu := ZF9 hr
  have hu64 := hr.units
  refine ⟨_, QB.h (ZEC (ZFT (qv 1) (ZFN (n := 3) K rfl rfl (ZEL (qgN (i := 2) ZGF.nd) (ZEL (qgN (i := 3) ZGF.nd) (ZEL (qgN (i := 4) ZGF.nd) ZE7))))) (ZEC (qsS (i := 5) ZGF.nd (ZFX ZEA)) (ZEC (ZGK PassesOwn.never rfl (ZGs rfl T.Zp (ZD9 (qv 4) ZEA)) (qgN (i := 6) ZGF.nd) (ZEC (qsS (i := 7) ZGF.nd (ZEG ZE3 (qv 2) (ZEG ZEr (qv 6) (qv 3)))) (ZED (ZEX (ZIv PySem.F.plainAttrs_list PySem.F.slot_list_append PySem.F.type_list_append ZF5 (qv 5) (ZD9 (qcS (ZRU T) hr T.ZDR T.ZB6.kp T.ZDP (ZD9 (ZVJ (ZGb (N := ["_law_made", "_law_window_here", "_law_begin", "_law_wide", "_law_many", "_law_columns", "_law_k", "_law_first"]) (sc := ZEE ZIC) (own := ["_law_t"]) (caps := ["_law_made", "_law_first", "_law_wide"]) (ks := [0, 7, 3]) rfl rfl rfl ⟨rfl, by decide +kernel, by decide +kernel, by decide +kernel, by decide +kernel, rfl, by decide +kernel⟩ (ZVI (qv 0)) (fun _ _ _ _ _ => ZFo (i := 0) (show List.Nodup (α := Str) ["_law_t", "_law_made", "_law_first", "_law_wide"] from by decide +kernel) rfl (by walk_at "o") (.inr rfl)) (fun _ _ _ _ _ => ZKU (ZIu ZHc ZJw (qv 2) (qv 0) (ZEG ZE3 (qv 2) (qv 3)))) (fun _ _ _ _ _ => ZEb (ZD9 (qv 0) (ZD9 (ZHD hu (qv 1) (qv 0)) ZEA))))) ZEA)) ZEA)))))) (ZED (ZES (ZGa (ZHB K rfl) rfl T.Z2 ZG6 (ZD9 (qv 5) ZEA))))))), ?_⟩
  walk_at "s"
  walk_at "w"
  refine ZEK (by show 0 ≤ sizeLine; decide) fun l H1 n1 f1 S1 => ?_
  walk_at "w"
  refine ZIb (by omega) (by omega) (ZJy (fun i σ H' => (∃ v6 v7, σ = [some (.ref d), some (.ref q), some (.int b), some (.int y), some (.int kk), some (.ref l), v6, v7]) ∧ ZEI H H' ∧ ∃ vs fs, H' l = some (.lst vs) ∧ ZFA H' vs fs ∧ fs.length = i ∧ ∀ (k : Nat) o, fs[k]? = some o → Is4 (ZFB m (b + (k : Int) * y) (b + (k : Int) * y + y)) o) ?_ ?_ ?_)
  ·exact ⟨⟨_, _, rfl⟩, S1, [], [], f1, .nil, rfl, fun k o h => by simp at h⟩
  ·rintro i σ H2 hi ⟨⟨v6, v7, rfl⟩, S2, vs, fs, f2, hF2, hfl, hO2⟩
   have e0 : (0 + (i : Int)) = (i : Int) := by omega
   have hi2 : (i : Int) < 100 := by omega
   rw [e0]
   walk_at "w"
   generalize hx : b + (i : Int) * y = x
   refine ⟨tyL f2, ?_⟩
   walk_at "w"
   have hd2 := S2 _ _ hd
   refine ZXN hd2 fun o H3 nf f3 K3 => ?_
   intro l4 n4
   have nl4 : l4 ≠ d := fun z => by rw [z, f3] at n4; cases n4
   refine ZGZ m.length (fun i' σ' H' => (∃ o, σ' = [o, some (.ref d), some (.int x), some (.int y)]) ∧ ZEI H3 H' ∧ ∃ vs, H' l4 = some (.lst vs) ∧ ZEP H' vs (ZFB (m.take i') x (x + y))) ?_ ?_ ?_
   ·exact ⟨⟨none, rfl⟩, ZEI.new n4, [], ZEN, .nil⟩
   ·rintro σ' H4 ⟨_, S4, vs4, f4, hP4⟩
    refine ⟨⟨S4 _ _ f3, by simp [ZEf]⟩, ?_⟩
    rw [List.take_length] at hP4
    refine ZVK nf (S4 _ _ f3) fun H5 f5 K5 => ?_
    have S25 : ZEI H2 H5 := fun b o e => by
     by_cases z : b = d
     ·subst z; rw [hd2] at e; cases e; exact f5
     ·exact K5 _ _ (S4 _ _ (K3 _ _ e z)) z
    have hP5 : ZEP H5 vs4 (ZFB m x (x + y)) := Paired.mapP hP4 fun _ _ ⟨b, e, z⟩ => ⟨b, e, K5 _ _ z (fun c => by rw [c, S4 _ _ f3] at z; cases z)⟩
    have f45 := K5 _ _ f4 nl4
    walk_at "w"
    refine ⟨l4, ZFB m x (x + y), rfl, ⟨vs4, f45, hP5⟩, hnd.sublist ((List.filter_sublist).map _), Nat.lt_of_le_of_lt (List.length_filter_le _ _) hlen, fun fv o7 H7 hf7 ho7 S7 => ?_⟩
    have f27 := S7 _ _ (S25 _ _ f2)
    walk_at "w"
    refine ZF7 f27 (by rw [hF2.len, hfl]; exact Nat.lt_of_lt_of_le (show i < 1000 by omega) (by decide)) fun H8 f8 K8 => ?_
    walk_at "w"
    refine ⟨⟨_, _, rfl⟩, ?_, vs ++ [fv], fs ++ [o7], f8, (((hF2.same S25).same S7).snoc hf7).mapP fun _ _ d => d.kpL K8 f27, by simp [hfl], ?_⟩
    ·exact fun b o e => K8 _ _ (S7 _ _ (S25 _ _ (S2 _ _ e))) (ZET e n1)
    ·intro k' o' h'
     rw [List.getElem?_append] at h'
     split at h'
     ·exact hO2 k' o' h'
     ·have : k' = i := by
       have := (List.getElem?_eq_some_iff.mp h').1
       simp at this
       omega
      subst this
      rw [hfl, Nat.sub_self] at h'
      have : o7 = o' := by simpa using h'
      subst this
      rw [hx]
      exact ho7
   ·rintro i' σ' H4 hi' ⟨⟨o4, rfl⟩, S4, vs4, f4, hPc⟩
    refine ⟨⟨S4 _ _ f3, by simpa [ZEf] using hi'⟩, ?_⟩
    rintro v H'' ⟨rfl, p', hp', rfl⟩
    have hq1 : m[i']? = some m[i'] := List.getElem?_eq_getElem hi'
    rw [ZXx hi'] at hp'
    cases hp'
    have hg : ZEZ m m[i'].1 = some m[i'].2 := (ZE1 hnd).mpr (List.getElem_mem hi')
    have e4 := ZPX (x := x) (z := x + y) hq1
    show ZHa 0 (.int m[i'].1) _ _ _
    walk_at "w"
    refine ZEp (fun h1 => ?_) (fun h1 => ?_)
    ·walk_at "w"
     refine ZEp (fun h2 => ?_) (fun h2 => ?_)
     ·walk_at "w"
      refine ZS4 (S4 _ _ f3) hg ?_
      walk_at "w"
      refine ZEK (by show 2 ≤ sizeLine; decide) fun c5 H5 n5 hc5 S5 => ?_
      have f45 := S5 _ _ f4
      refine ⟨vs4, f45, ?_, ⟨_, rfl⟩, (S4.trans S5).kpN n4 Kp.upd, _, ZEN, ?_⟩
      ·rw [hPc.length]
       refine Nat.lt_of_le_of_lt (List.length_filter_le _ _) ?_
       rw [List.length_take]
       exact Nat.lt_of_le_of_lt (Nat.min_le_left _ _) (Nat.lt_of_lt_of_le (show i' < 64 by omega) (by decide))
      ·rw [e4, decide_eq_true h1, decide_eq_true h2, Bool.and_self, if_pos rfl]
       exact ZEP.kpL Kp.upd f45 ((hPc.same S5).snoc hc5)
     ·refine ⟨⟨_, rfl⟩, S4, vs4, f4, ?_⟩
      rw [e4, decide_eq_false h2, Bool.and_false, if_neg (by decide), List.append_nil]
      exact hPc
    ·walk_at "w"
     refine ZEw ?_
     refine ⟨⟨_, rfl⟩, S4, vs4, f4, ?_⟩
     rw [e4, decide_eq_false h1, Bool.false_and, if_neg (by decide), List.append_nil]
     exact hPc
  ·rintro σ H2 ⟨⟨v6, v7, rfl⟩, S2, vs, fs, f2, hF2, hfl, hO2⟩
   walk_at "w"
   refine ZHm (SqL.of f2) fun u H3 n3 f3 S3 => ?_
   exact k u vs fs H3 f3 (hF2.same S3) ⟨hfl, hO2⟩ (S2.trans S3)
end
def cols (kvs : List (List Key × V)) (b y : Int) (N : Nat) : List Nat := (List.range N).filter fun (j : Nat) => has kvs (b + (j : Int) * y) (b + (j : Int) * y + y)
theorem ZRV (kvs : List (List Key × V)) (b y : Int) (N : Nat) : ZG4 kvs b y N + (cols kvs b y N).length = N := by
 induction N with
 | zero => rfl
 | succ n ih =>
  rw [ZL5]
  unfold cols at ih ⊢
  rw [List.range_succ, List.filter_append, List.length_append]
  cases hh : has kvs (b + (n : Int) * y) (b + (n : Int) * y + y) with
  | true => rw [List.filter_cons_of_pos (by simp [hh]), if_pos rfl]; simp only [List.filter_nil, List.length_cons, List.length_nil]; omega
  | false => rw [List.filter_cons_of_neg (by simp [hh]), if_neg (by decide)]; simp only [List.filter_nil, List.length_nil]; omega
def ZVt : Sp := fun vs H Q _ => ∃ (u q l : Addr) (b y m b' y' m' : Int) (ks : List Nat), vs = [.ref u, .ref q, .ref l] ∧ ZLR H u b y m b' y' m' ∧ ZFd H q b y m ∧ ZIW b' y' m' ∧ H l = some (.lst (ZFK ks)) ∧ ks.Nodup ∧ ks.length ≤ 1000 ∧ (∀ j ∈ ks, (j : Int) < m) ∧
 ∀ (l' : Addr) (H' : Hp), H l' = none → H' l' = some (.lst (ZFK ((List.range m'.toNat).filter fun (k : Nat) => (decide (y' = 2 * y) && (decide (2 * k ∈ ks) && decide (2 * k + 1 ∈ ks))) || ks.any fun (j : Nat) => decide (y' = y ∧ b' + (k : Int) * y' = b + (j : Int) * y')))) → ZEI H H' → Q (.ref l') H'
theorem ZRW {b y m : Int} (h : ZIW b y m) : y ≤ 2199023255552 := by
 obtain ⟨hy, h1, h2, hb, he⟩ := h
 have : 0 ≤ (m - 1) * y := Int.mul_nonneg (by omega) (by omega)
 rw [Int.sub_mul, Int.one_mul] at this
 unfold InT at hb he
 omega
theorem ZJv (f : Nat → Bool) (i : Nat) : (List.range (i + 1)).filter f = (List.range i).filter f ++ (if f i = true then [i] else []) := by
 rw [List.range_succ, List.filter_append]
 congr 1
 by_cases h : f i = true
 ·rw [if_pos h, List.filter_cons_of_pos h]; rfl
 ·rw [if_neg h, List.filter_cons_of_neg h]; rfl
theorem ZKt (l r : List Nat) : ZFK (l ++ r) = ZFK l ++ ZFK r := List.map_append
section
variable {P : Program} {w : World} {K : W.Frag} {mg : Str → Option Value} {base : Heap} {a : Ad}
theorem ZGG : ZEJ ["_law_step_here", "_law_window_here", "_law_known_here", "_law_begin", "_law_wide", "_law_many", "_law_found", "_law_k", "_law_j"] ["_law_step_here", "_law_window_here", "_law_known_here"] (ZEE ZID) := ZEe
theorem ZPr (T : Txt K mg a) : ZEM P w K mg base CX0 1 a.ZAf a.ZAu ["_law_step_here", "_law_window_here", "_law_known_here"] ZVt := by
 refine T.ZBp.ok ZGG (by walk_at "l") (fun cdv A outer s H vs Q E hr h => ?_)
 ·obtain ⟨u, q, l, b, y, m, b', y', m', ks, rfl, ⟨nm, j, q2, hu1, hq2, hst⟩, hW, hw, hl, hnd, hkl, hks, kk⟩ := h
  have hy2 := ZGE hW
  obtain ⟨hq, hy, hm1, hm2, hb, he⟩ := id hW
  obtain ⟨hy', hm1', hm2', hb', he'⟩ := id hw
  refine ⟨_, QB.h (ZEC (ZFT (ZEO (ZEY K rfl) (qv 0) ZEB) (ZFN (n := 3) K rfl rfl (ZEL (qgN (i := 3) ZGG.nd) (ZEL (qgN (i := 4) ZGG.nd) (ZEL (qgN (i := 5) ZGG.nd) ZE7))))) (ZEC (ZEg (ZEQ (ZE9) (ZEO (ZEY K rfl) (qv 0) ZEB) ZGI (ZEW _)) (ZED (ZES (ZGb (N := ["_law_step_here", "_law_window_here", "_law_known_here", "_law_begin", "_law_wide", "_law_many", "_law_found", "_law_k", "_law_j"]) (sc := ZEE ZID) (own := ["_law_k"]) (caps := ["_law_known_here"]) (ks := [2]) rfl rfl rfl ⟨rfl, by decide +kernel, by decide +kernel, by decide +kernel, by decide +kernel, rfl, by decide +kernel⟩ (ZGs rfl T.Zp (ZD9 (qv 5) ZEA)) (fun _ _ _ _ _ => ZFo (i := 0) (show List.Nodup (α := Str) ["_law_k", "_law_known_here"] from by decide +kernel) rfl (by walk_at "o") (.inr rfl)) (fun _ _ _ _ _ => ZKU (QW.pt (ZGg (ZEQ (ZRC K rfl) (ZEG ZEr ZEB (qv 0)) (qv 1) (by with_unfolding_all rfl)) (ZGN (ZEQ (ZRC K rfl) (ZEG ZE3 (ZEG ZEr ZEB (qv 0)) ZEB) (qv 1) (by with_unfolding_all rfl)))))) (fun _ _ _ _ _ => qv 0)))) ZEd) (ZEC (qsS (i := 6) ZGG.nd (ZFX ZEA)) (ZEC (ZGK PassesOwn.never rfl (ZGs rfl T.Zp (ZD9 (qv 5) ZEA)) (qgN (i := 7) ZGG.nd) (ZED (ZGK PassesOwn.never rfl (ZFz K rfl (qv 2)) (qgN (i := 8) ZGG.nd) (ZED (ZEg (QW.pt (ZGg (ZEQ (ZE9) (qv 4) (ZEO (ZEY K rfl) (qv 1) ZEB) (ZEW _)) (ZGN (ZEQ (ZE9) (ZEG ZE3 (qv 3) (ZEG ZEr (qv 7) (qv 4))) (ZEG ZE3 (ZEO (ZEY K rfl) (qv 1) ZEB) (ZEG ZEr (qv 8) (qv 4))) (ZEW _))))) (ZED (ZEX (ZIv PySem.F.plainAttrs_list PySem.F.slot_list_append PySem.F.type_list_append ZF5 (qv 6) (ZD9 (qv 7) ZEA)))) ZEd))))) (ZED (ZES (qv 6))))))), ?_⟩
  walk_at "s"
  walk_at "w"
  refine ZFY ?_
  by_cases hwd : nm = "wide"
  ·rw [decide_eq_true hwd]
   walk_at "w"
   refine ZFD ?_
   walk_at "w"
   have hy3 : y' = 2 * y := by
    rcases hst with ⟨_, _, h, _⟩ | ⟨h, _⟩ | ⟨h, _⟩ | ⟨h, _⟩
    ·exact h
    all_goals (rw [hwd] at h; exact absurd h (by decide +kernel))
   have hP : ∀ k : Nat, ((decide (y' = 2 * y) && (decide (2 * k ∈ ks) && decide (2 * k + 1 ∈ ks))) || ks.any fun (j : Nat) => decide (y' = y ∧ b' + (k : Int) * y' = b + (j : Int) * y')) = (decide (2 * k ∈ ks) && decide (2 * k + 1 ∈ ks)) := fun k => by
    rw [decide_eq_true hy3, Bool.true_and]
    have : (ks.any fun (j : Nat) => decide (y' = y ∧ b' + (k : Int) * y' = b + (j : Int) * y')) = false := by
     rw [List.any_eq_false]
     intro j _
     rw [decide_eq_true_iff]
     rintro ⟨h, _⟩
     omega
    rw [this, Bool.or_false]
   refine ZIb (by omega) (by omega) ?_
   intro l2 n2
   refine ZGZ m'.toNat (fun i σ' H' => (∃ o, σ' = [o, some (.ref l)]) ∧ ZEI H H' ∧ H' l2 = some (.lst (ZFK ((List.range i).filter fun (k : Nat) => decide (2 * k ∈ ks) && decide (2 * k + 1 ∈ ks))))) ?_ ?_ ?_
   ·exact ⟨⟨none, rfl⟩, ZEI.new n2, ZEN⟩
   ·rintro σ' H2 ⟨_, S2, f2⟩
    refine ⟨Nat.le_refl _, ?_⟩
    walk_at "w"
    refine kk l2 H2 n2 ?_ S2
    rw [f2]
    congr 4
    funext k
    exact (hP k).symm
   ·rintro i σ' H2 hi ⟨⟨o, rfl⟩, S2, f2⟩
    refine ⟨hi, ?_⟩
    rintro x H'' ⟨rfl, rfl⟩
    have hl2 := S2 _ _ hl
    have hle := List.length_filter_le (fun (k : Nat) => decide (2 * k ∈ ks) && decide (2 * k + 1 ∈ ks)) (List.range i)
    rw [List.length_range] at hle
    have skip : (decide (2 * i ∈ ks) && decide (2 * i + 1 ∈ ks)) = false → (List.range (i + 1)).filter (fun (k : Nat) => decide (2 * k ∈ ks) && decide (2 * k + 1 ∈ ks)) = (List.range i).filter fun (k : Nat) => decide (2 * k ∈ ks) && decide (2 * k + 1 ∈ ks) := fun h => by
     rw [ZJv, if_neg (by rw [h]; decide), List.append_nil]
    walk_at "w"
    refine ZRE (k := 2 * i) (by omega) hl2 ?_
    by_cases c1 : 2 * i ∈ ks
    ·rw [decide_eq_true c1]
     walk_at "w"
     refine ZFD ?_
     walk_at "w"
     refine ZRE (k := 2 * i + 1) (by omega) hl2 ?_
     by_cases c2 : 2 * i + 1 ∈ ks
     ·rw [decide_eq_true c2]
      walk_at "w"
      refine ZFD ?_
      walk_at "w"
      refine ⟨_, f2, ?_, ⟨_, rfl⟩, S2.kpN n2 Kp.upd, ?_⟩
      ·unfold ZFK
       rw [List.length_map]
       show _ < 2 ^ 24
       omega
      ·rw [ZJv, if_pos (by rw [decide_eq_true c1, decide_eq_true c2]; rfl), ZKt]
       have e0 : (0 + (i : Int)) = (i : Int) := by omega
       rw [e0]
       exact ZEN
     ·rw [decide_eq_false c2]
      walk_at "w"
      refine ZEw ?_
      refine ⟨⟨_, rfl⟩, S2, ?_⟩
      rw [skip (by rw [decide_eq_false c2, Bool.and_false])]
      exact f2
    ·rw [decide_eq_false c1]
     walk_at "w"
     refine ZEw ?_
     walk_at "w"
     refine ⟨⟨_, rfl⟩, S2, ?_⟩
     rw [skip (by rw [decide_eq_false c1, Bool.false_and])]
     exact f2
  ·rw [decide_eq_false hwd]
   walk_at "w"
   refine ZEw ?_
   have hy3 : ¬ y' = 2 * y := fun z => by
    rcases hst with ⟨h, _⟩ | ⟨_, _, _, h, _⟩ | ⟨_, _, _, _, h, _⟩ | ⟨_, _, _, _, h, _⟩
    ·exact hwd h
    all_goals omega
   have hP : ∀ k : Nat, ((decide (y' = 2 * y) && (decide (2 * k ∈ ks) && decide (2 * k + 1 ∈ ks))) || ks.any fun (j : Nat) => decide (y' = y ∧ b' + (k : Int) * y' = b + (j : Int) * y')) = ks.any fun (j : Nat) => decide (y' = y ∧ b' + (k : Int) * y' = b + (j : Int) * y') := fun k => by
    rw [decide_eq_false hy3, Bool.false_and, Bool.false_or]
   have hy4 := ZRW hw
   walk_at "w"
   refine ZEK (by show 0 ≤ sizeLine; decide) fun lf H1 n1 f1 S1 => ?_
   have nl : l ≠ lf := ZET hl n1
   have ntp : ∀ {e : Addr} {xs : List V}, H e = some (.tup xs) → e ≠ lf := fun g => ZET g n1
   walk_at "w"
   refine ZIb (by omega) (by omega) (ZJy (fun i σ H' => (∃ v7 v8, σ = [some (.ref u), some (.ref q), some (.ref l), some (.int b'), some (.int y'), some (.int m'), some (.ref lf), v7, v8]) ∧ Kp lf H1 H' ∧ H' lf = some (.lst (ZFK ((List.range i).filter fun (k : Nat) => ks.any fun (j : Nat) => decide (y' = y ∧ b' + (k : Int) * y' = b + (j : Int) * y'))))) ?_ ?_ ?_)
   ·exact ⟨⟨_, _, rfl⟩, fun _ _ e _ => e, f1⟩
   ·rintro i σ H2 hi ⟨⟨v7, v8, rfl⟩, K2, f2⟩
    have e0 : (0 + (i : Int)) = (i : Int) := by omega
    rw [e0]
    generalize hpv : ((List.range i).filter fun (k : Nat) => ks.any fun (j : Nat) => decide (y' = y ∧ b' + (k : Int) * y' = b + (j : Int) * y')) = prev at f2
    have hle : prev.length ≤ i := by
     rw [← hpv]
     have := List.length_filter_le (fun (k : Nat) => ks.any fun (j : Nat) => decide (y' = y ∧ b' + (k : Int) * y' = b + (j : Int) * y')) (List.range i)
     rwa [List.length_range] at this
    have k02 : ∀ {e : Addr} {o : HO}, H e = some o → H2 e = some o := fun h => K2 _ _ (S1 _ _ h) (ZET h n1)
    have hl2 := k02 hl
    walk_at "w"
    refine ZIc (xs := ZFK ks) (fun i2 σ H' => (∃ v8, σ = [some (.ref u), some (.ref q), some (.ref l), some (.int b'), some (.int y'), some (.int m'), some (.ref lf), some (.int (i : Int)), v8]) ∧ Kp lf H1 H' ∧ H' lf = some (.lst (ZFK (prev ++ if ((ks.take i2).any fun (j : Nat) => decide (y' = y ∧ b' + (i : Int) * y' = b + (j : Int) * y')) = true then [i] else [])))) ?_ ?_ ?_ ?_
    ·exact ⟨⟨_, rfl⟩, K2, by rw [List.take_zero, List.any_nil, if_neg (by decide), List.append_nil]; exact f2⟩
    ·rintro i2 σ H3 _ ⟨_, K3, _⟩
     exact SqL.of (K3 _ _ (S1 _ _ hl) nl)
    ·rintro i2 x σ H3 hx ⟨⟨v8, rfl⟩, K3, f3⟩
     unfold ZFK at hx
     rw [List.getElem?_map] at hx
     obtain ⟨j0, hj, rfl⟩ := Option.map_eq_some_iff.mp hx
     have hjm := hks j0 (List.mem_of_getElem? hj)
     have hq3 := K3 _ _ (S1 _ _ hq) (ntp hq)
     have tk : (ks.take (i2 + 1)).any (fun (j : Nat) => decide (y' = y ∧ b' + (i : Int) * y' = b + (j : Int) * y')) = ((ks.take i2).any (fun (j : Nat) => decide (y' = y ∧ b' + (i : Int) * y' = b + (j : Int) * y')) || decide (y' = y ∧ b' + (i : Int) * y' = b + (j0 : Int) * y')) := by
      rw [List.take_succ, hj, List.any_append]
      simp
     have hfirst : (y' = y ∧ b' + (i : Int) * y' = b + (j0 : Int) * y') → ((ks.take i2).any fun (j : Nat) => decide (y' = y ∧ b' + (i : Int) * y' = b + (j : Int) * y')) = false := fun h => by
      rw [List.any_eq_false]
      intro j1 hj1
      rw [decide_eq_true_iff]
      rintro ⟨_, h1⟩
      have e1 : (j1 : Int) * y' = (j0 : Int) * y' := by omega
      have e2 := Int.eq_of_mul_eq_mul_right (by omega) e1
      have e3 : j1 = j0 := by omega
      obtain ⟨z, hz, hz2⟩ := List.getElem_of_mem hj1
      rw [List.length_take] at hz
      rw [List.getElem_take] at hz2
      obtain ⟨w1, w2⟩ := List.getElem?_eq_some_iff.mp hj
      have := (List.getElem_inj hnd).mp ((hz2.trans e3).trans w2.symm)
      omega
     have skip : ¬ (y' = y ∧ b' + (i : Int) * y' = b + (j0 : Int) * y') → H3 lf = some (.lst (ZFK (prev ++ if ((ks.take (i2 + 1)).any fun (j : Nat) => decide (y' = y ∧ b' + (i : Int) * y' = b + (j : Int) * y')) = true then [i] else []))) := fun h => by
      rw [tk, decide_eq_false h, Bool.or_false]
      exact f3
     walk_at "w"
     rw [ZFm]
     refine ZEp (fun c1 => ?_) (fun c1 => ?_)
     ·walk_at "w"
      rw [ZFm]
      refine ZEp (fun c2 => ?_) (fun c2 => ?_)
      ·rw [hfirst ⟨c1, c2⟩, if_neg (by decide), List.append_nil] at f3
       walk_at "w"
       refine ⟨tyL f3, ?_⟩
       walk_at "w"
       refine ZF7 f3 (by unfold ZFK; rw [List.length_map]; show _ < 2 ^ 24; omega) fun H4 f4 K4 => ?_
       walk_at "w"
       refine ⟨⟨_, rfl⟩, K3.trans K4, ?_⟩
       rw [tk, decide_eq_true ⟨c1, c2⟩, Bool.or_true, if_pos rfl, ZKt]
       exact f4
      ·walk_at "w"
       exact ⟨⟨_, rfl⟩, K3, skip fun h => c2 h.2⟩
     ·walk_at "w"
      exact ⟨⟨_, rfl⟩, K3, skip fun h => c1 h.1⟩
    ·rintro σ H3 ⟨⟨v8, rfl⟩, K3, f3⟩
     rw [show (ZFK ks).length = ks.length from List.length_map _, List.take_length] at f3
     refine ⟨⟨_, _, rfl⟩, K3, ?_⟩
     rw [ZJv, hpv]
     exact f3
   ·rintro σ H2 ⟨⟨v7, v8, rfl⟩, K2, f2⟩
    walk_at "w"
    refine kk lf H2 n1 ?_ fun b o e => K2 _ _ (S1 _ _ e) (ZET e n1)
    rw [f2]
    congr 4
    funext k
    exact (hP k).symm
end
theorem ZRX {n : Str} {c b y m b' y' m' : Int} {kvs kvs' : List (List Key × V)} (hst : ZRT n c b y m b' y' m') (hy : 0 < y) (hw : ZIW b' y' m') (hk : ∀ x z, has kvs x z = true → Col b y m x z) (hi : ∀ x z, Col b' y' m' x z → (has kvs' x z = true ↔ Kin kvs x z)) :
  cols kvs' b' y' m'.toNat = (List.range m'.toNat).filter fun (k : Nat) => (decide (y' = 2 * y) && (decide (2 * k ∈ cols kvs b y m.toNat) && decide (2 * k + 1 ∈ cols kvs b y m.toNat))) || (cols kvs b y m.toNat).any fun (j : Nat) => decide (y' = y ∧ b' + (k : Int) * y' = b + (j : Int) * y') := by
 unfold cols
 apply List.filter_congr
 intro k hk0
 rw [List.mem_range] at hk0
 obtain ⟨hy', hm1, hm2, _⟩ := hw
 rw [Bool.eq_iff_iff, hi _ _ ⟨(k : Int), by omega, by omega, rfl, rfl⟩, Bool.or_eq_true, Bool.and_eq_true, Bool.and_eq_true, decide_eq_true_iff, decide_eq_true_iff, decide_eq_true_iff, List.any_eq_true]
 have hcol : ∀ {x z : Int}, has kvs x z = true → ∃ j : Nat, j < m.toNat ∧ x = b + (j : Int) * y ∧ z = b + (j : Int) * y + y ∧ has kvs (b + (j : Int) * y) (b + (j : Int) * y + y) = true := fun {x z} h => by
  obtain ⟨j, j0, j1, e1, e2⟩ := hk _ _ h
  refine ⟨j.toNat, by omega, by rw [Int.toNat_of_nonneg j0]; exact e1, by rw [Int.toNat_of_nonneg j0]; exact e2, ?_⟩
  rw [Int.toNat_of_nonneg j0, ← e1, show x + y = z by omega]
  exact h
 have mc : ∀ j : Nat, j ∈ (List.range m.toNat).filter (fun (j : Nat) => has kvs (b + (j : Int) * y) (b + (j : Int) * y + y)) ↔ j < m.toNat ∧ has kvs (b + (j : Int) * y) (b + (j : Int) * y + y) = true := fun j => by rw [List.mem_filter, List.mem_range]
 rw [mc, mc]
 generalize hX : b' + (k : Int) * y' = X
 constructor
 ·rintro (h | ⟨h1, h2⟩)
  ·obtain ⟨j, hj, e1, e2, e3⟩ := hcol h
   have ey : y' = y := by omega
   exact .inr ⟨j, (mc j).mpr ⟨hj, e3⟩, by rw [decide_eq_true_iff]; exact ⟨ey, by rw [ey]; exact e1⟩⟩
  ·obtain ⟨j1, hj1, e1, e2, e3⟩ := hcol h1
   obtain ⟨j2, hj2, g1, g2, g3⟩ := hcol h2
   have ey : y' = 2 * y := by omega
   have eb : b' = b := by
    rcases hst with ⟨_, h, _⟩ | ⟨_, _, h, h', _⟩ | ⟨_, _, _, h, h', _⟩ | ⟨_, _, _, h, h', _⟩
    ·exact h
    ·exact h
    all_goals omega
   have ek : (k : Int) * y' = (2 * (k : Int)) * y := by rw [ey, ← Int.mul_assoc, Int.mul_comm (k : Int) 2]
   have e4 : (j1 : Int) * y = (2 * (k : Int)) * y := by omega
   have e5 := Int.eq_of_mul_eq_mul_right (by omega) e4
   have g4 : (j2 : Int) * y = (2 * (k : Int) + 1) * y := by rw [Int.add_mul, Int.one_mul]; omega
   have g5 := Int.eq_of_mul_eq_mul_right (by omega) g4
   have f1 : j1 = 2 * k := by omega
   have f2 : j2 = 2 * k + 1 := by omega
   subst f1 f2
   exact .inl ⟨ey, ⟨hj1, e3⟩, hj2, g3⟩
 ·rintro (⟨ey, ⟨h1, h2⟩, h3, h4⟩ | ⟨j, hj, h⟩)
  ·have eb : b' = b := by
    rcases hst with ⟨_, h, _⟩ | ⟨_, _, h, h', _⟩ | ⟨_, _, _, h, h', _⟩ | ⟨_, _, _, h, h', _⟩
    ·exact h
    ·exact h
    all_goals omega
   have ek : (k : Int) * y' = ((2 * k : Nat) : Int) * y := by rw [ey, ← Int.mul_assoc, Int.mul_comm (k : Int) 2]; rfl
   have ek2 : ((2 * k + 1 : Nat) : Int) * y = ((2 * k : Nat) : Int) * y + y := by
    rw [show ((2 * k + 1 : Nat) : Int) = ((2 * k : Nat) : Int) + 1 from by omega, Int.add_mul, Int.one_mul]
   have em : (X + (X + y')) / 2 = X + y := by omega
   refine .inr ⟨?_, ?_⟩
   ·rw [em, show X = b + ((2 * k : Nat) : Int) * y by omega]
    exact h2
   ·rw [em, show X + y = b + ((2 * k + 1 : Nat) : Int) * y by omega, show X + y' = b + ((2 * k + 1 : Nat) : Int) * y + y by omega]
    exact h4
  ·rw [decide_eq_true_iff] at h
   obtain ⟨ey, e1⟩ := h
   have := ((mc j).mp hj).2
   rw [ey] at e1
   rw [← e1] at this
   refine .inl ?_
   rw [ey]
   exact this
theorem Eqv.bring {m m' : PL} (h : Eqv m m') (n : (m.map (·.1)).Nodup) (n' : (m'.map (·.1)).Nodup) (t : Int) (o : Option Int) : Eqv (ZE5 m t o) (ZE5 m' t o) := by
 cases o with
 | none => exact h.drop t
 | some v => exact h.put n n' t v
theorem ZF3 {m : PL} (n : (m.map (·.1)).Nodup) (t : Int) (o : Option Int) : ((ZE5 m t o).map (·.1)).Nodup := by
 cases o with
 | none => exact ZFu n
 | some v => exact ZGB n
theorem ZPs {m : PL} (n : (m.map (·.1)).Nodup) (t : Int) (o : Option Int) (ho : o = none → (ZEZ m t).isSome = true) : Eqv (ZE5 (ZE5 m t o) t (ZEZ m t)) m := by
 cases o with
 | none =>
  obtain ⟨v, hv⟩ := Option.isSome_iff_exists.mp (ho rfl)
  rw [hv]
  exact ZQz n hv
 | some v =>
  cases hg : ZEZ m t with
  | none => exact ZQ0 n hg
  | some u => exact ZSv n hg
def Hb (m : PL) : Prop := ∀ q ∈ m, Tm q.1 ∧ -(10 ^ 59) < q.2 ∧ q.2 < 10 ^ 59
inductive Und : PL → List (Int × Option Int) → Prop where
 | nil {m : PL} : Und m []
 | snoc {m : PL} {ds : List (Int × Option Int)} {t : Int} {o : Option Int} (h : Und (ZE5 m t o) ds) (ht : Tm t) (ho : o = none → (ZEZ m t).isSome = true) (hb : ∀ v, o = some v → -(10 ^ 59) < v ∧ v < 10 ^ 59) : Und m (ds ++ [(t, o)])
theorem Und.eqv {m : PL} {ds : List (Int × Option Int)} (h : Und m ds) : ∀ {m' : PL}, Eqv m m' → (m.map (·.1)).Nodup → (m'.map (·.1)).Nodup → Und m' ds := by
 induction h with
 | nil => intro m' _ _ _; exact .nil
 | snoc h ht ho hb ih =>
  intro m' e n n'
  exact .snoc (ih (Eqv.bring e n n' _ _) (ZF3 n _ _) (ZF3 n' _ _)) ht (fun z => by rw [← e.get n n']; exact ho z) hb
theorem Und.open {m : PL} {ds : List (Int × Option Int)} (h : Und m ds) (e : ds ≠ []) : ∃ ds' t o, ds = ds' ++ [(t, o)] ∧ Und (ZE5 m t o) ds' ∧ Tm t ∧ (o = none → (ZEZ m t).isSome = true) ∧ ∀ v, o = some v → -(10 ^ 59) < v ∧ v < 10 ^ 59 := by
 cases h with
 | nil => exact absurd rfl e
 | snoc h ht ho hb => exact ⟨_, _, _, rfl, h, ht, ho, hb⟩
def ZF4 (m : PL) (t : Int) : Option Int → PL
 | none => ZFP m t
 | some h => ZFJ (ZFP m t) t h
theorem ZJI {m : PL} (n : (m.map (·.1)).Nodup) (t : Int) (o : Option Int) : Eqv (ZF4 m t o) (ZE5 m t o) := by
 cases o with
 | none => exact Eqv.refl _
 | some v =>
  intro q
  show q ∈ ZFJ (ZFP m t) t v ↔ q ∈ ZFJ m t v
  rw [ZFV (ZFu n), ZFV n, ZFn]
  constructor
  ·rintro (⟨h1, h2⟩ | h)
   ·exact .inl ⟨h1, h2.2⟩
   ·exact .inr h
  ·rintro (⟨h1, h2⟩ | h)
   ·exact .inl ⟨h1, h1, h2⟩
   ·exact .inr h
theorem ZH6 {m : PL} (n : (m.map (·.1)).Nodup) (t : Int) (o : Option Int) : ((ZF4 m t o).map (·.1)).Nodup := by
 cases o with
 | none => exact ZFu n
 | some v => exact ZGB (ZFu n)
theorem ZPt (m : PL) (t : Int) (o : Option Int) : (ZF4 m t o).length ≤ m.length + 1 := by
 cases o with
 | none => exact Nat.le_succ_of_le (ZJd m t)
 | some h => exact Nat.le_trans (ZKW _ _ _) (Nat.succ_le_succ (ZJd m t))
theorem ZRY {m : PL} {t : Int} {o : Option Int} (h : Hb m) (n : (m.map (·.1)).Nodup) (ht : Tm t) (hb : ∀ v, o = some v → -(10 ^ 59) < v ∧ v < 10 ^ 59) : Hb (ZF4 m t o) := by
 intro q hq
 cases o with
 | none => exact h q (ZFn.mp hq).2
 | some v =>
  rcases (ZFV (ZFu n)).mp hq with h1 | h1
  ·exact h q (ZFn.mp h1.2).2
  ·rw [h1]; exact ⟨ht, hb v rfl⟩
theorem Und.deed {m : PL} {ds : List (Int × Option Int)} (h : Und m ds) (n : (m.map (·.1)).Nodup) (hm : Hb m) {t : Int} {o : Option Int} (ht : Tm t) (ho : o = none → (ZEZ m t).isSome = true) : Und (ZF4 m t o) (ds ++ [(t, ZEZ m t)]) := by
 have e1 := ZJI n t o
 have n2 := ZH6 n t o
 refine .snoc (h.eqv (m' := ZE5 (ZF4 m t o) t (ZEZ m t)) ?_ n (ZF3 n2 _ _)) ht (fun z => ?_) (fun v hv => (hm (t, v) ((ZE1 n).mp hv)).2)
 ·exact ((Eqv.bring e1 n2 (ZF3 n _ _) _ _).trans (ZPs n t o ho)).symm
 ·rw [e1.get n2 (ZF3 n _ _)]
  cases o with
  | none => have := ho rfl; rw [z] at this; cases this
  | some v => rw [show ZE5 m t (some v) = ZFJ m t v from rfl, (ZE1 (ZGB n)).mpr ((ZFV n).mpr (.inr rfl))]; rfl
structure LM (sm m : PL) (c : Nat) (ds : List (Int × Option Int)) (ts : List Int) (N : Nat) : Prop where
 eqv : Eqv sm m
 nd : (m.map (·.1)).Nodup
 hb : Hb m
 un : Und m ds
 c : c ≤ N
 t : ts.length ≤ N
 m : m.length ≤ N
 d : ds.length ≤ N
theorem LM.deed {sm m : PL} {c : Nat} {ds : List (Int × Option Int)} {ts : List Int} {N : Nat} (h : LM sm m c ds ts N) (ns : (sm.map (·.1)).Nodup) {t : Int} {o : Option Int} {ds' : List (Int × Option Int)} (ht : Tm t) (hu : Und (ZF4 m t o) ds') (hb : ∀ v, o = some v → -(10 ^ 59) < v ∧ v < 10 ^ 59) (hd : ds'.length ≤ N + 1) : LM (ZE5 sm t o) (ZF4 m t o) (c + 1) ds' (ts ++ [t]) (N + 1) :=
 ⟨(Eqv.bring h.eqv ns h.nd t o).trans (Eqv.symm (ZJI h.nd t o)), ZH6 h.nd t o, ZRY h.hb h.nd ht hb, hu, Nat.succ_le_succ h.c, by rw [List.length_append]; exact Nat.succ_le_succ h.t, Nat.le_trans (ZPt m t o) (Nat.succ_le_succ h.m), hd⟩
def LS (a : Ad) (H : Hp) (S : SA) (md dl : Addr) (sm m : PL) (ds : List (Int × Option Int)) (ts : List Int) (N : Nat) : Prop :=
 ∃ n c dvs, ZEF a H S n sm c ds ts [] ∧ H md = some (.dK (ZEf m)) ∧ H dl = some (.lst dvs) ∧ ZEt H dvs ds ∧ LM sm m c ds ts N
theorem LS.pot {a : Ad} {H H' : Hp} {S : SA} {md dl p : Addr} {sm m : PL} {ds : List (Int × Option Int)} {ts : List Int} {N : Nat} (h : LS a H S md dl sm m ds ts N) (hp : Pot H p) (k : Kp p H H') (n1 : p ∉ S.ls) (n2 : p ≠ dl) : LS a H' S md dl sm m ds ts N := by
 obtain ⟨n, c, dvs, h1, h2, h3, h4, h5⟩ := h
 have hs := h1.pot hp k n1
 obtain ⟨x1, x2, e, _⟩ := hp
 exact ⟨n, c, dvs, hs, k _ _ h2 (fun z => by rw [z, e] at h2; cases h2), k _ _ h3 (Ne.symm n2), h4.tups fun b xs g => k _ _ g (fun z => by rw [z, e] at g; cases g), h5⟩
theorem LS.same {a : Ad} {H H' : Hp} {S : SA} {md dl : Addr} {sm m : PL} {ds : List (Int × Option Int)} {ts : List Int} {N : Nat} (h : LS a H S md dl sm m ds ts N) (s : ZEI H H') : LS a H' S md dl sm m ds ts N := by
 obtain ⟨n, c, dvs, h1, h2, h3, h4, h5⟩ := h
 exact ⟨n, c, dvs, h1.same s, s _ _ h2, s _ _ h3, h4.tups fun b xs g => s _ _ g, h5⟩
def ZRZ (a : Ad) : Sp := fun vs H Q _ => ∃ (p md dl q : Addr) (S : SA) (b y mm : Int) (sm m : PL) (ds : List (Int × Option Int)) (ts : List Int) (N : Nat), vs = [.ref p, .ref S.p, .ref md, .ref dl, .ref q] ∧ Pot H p ∧ p ∉ S.ls ∧ p ≠ dl ∧ md ≠ S.d1 ∧ dl ∉ S.ls ∧ ZFd H q b y mm ∧ LS a H S md dl sm m ds ts N ∧ N ≤ 60 ∧
 (∀ H', Pot H' p → LS a H' S md dl sm m ds ts N → Kp p H H' → Q .non H') ∧ ∀ (t : Int) (o : Option Int) (m' : PL) (ds' : List (Int × Option Int)) (H' : Hp), LS a H' S md dl (ZE5 sm t o) m' ds' (ts ++ [t]) (N + 1) → Pot H' p → FrL (p :: md :: dl :: S.own) H H' → Q (.int t) H'
section
variable {P : Program} {w : World} {K : W.Frag} {mg : Str → Option Value} {base : Heap} {a : Ad}
theorem ZFt : ZEJ ["_law_pot_here", "_law_store", "_law_made", "_law_done", "_law_window_here", "_law_way", "_law_t", "_law_h"] ["_law_pot_here", "_law_store", "_law_made", "_law_done", "_law_window_here"] (ZEE ZKm) := ZEe
theorem ZRa (T : Txt K mg a) : ZEM P w K mg base CX0 8 a.ZBA a.ZBB ["_law_pot_here", "_law_store", "_law_made", "_law_done", "_law_window_here"] (ZRZ a) := by
 refine T.ZCL.ok ZFt (by walk_at "l") (fun cdv A outer s H vs Q E hr h => ?_)
 ·obtain ⟨p, md, dl, q, S, b, y, mm, sm, m, ds, ts, N, rfl, hp, pS, pdl, mdS, dlS, hW, hL, hN, k1, k2⟩ := h
  have hu := ZF9 hr
  have hu64 := hr.units
  refine ⟨_, QB.h (ZEC (qsS (i := 5) ZFt.nd (qcS (ZEo T) hr.m T.ZJ T.ZI.kp T.ZK (ZD9 (qv 0) (ZD9 ZEB ZEA)))) (ZEC (qsS (i := 6) ZFt.nd (qcS (ZL8 T) hr.m T.ZCJ T.ZBF.kp T.ZCN (ZD9 (qv 0) (ZD9 (qv 4) ZEA)))) (ZEC (ZEg (QW.pt (ZGg (ZEQ (ZKv) (qv 5) ZEB (ZEW _)) (ZGN (ZEQ (ZKv) (ZEk ZOl rfl T.YT ZHQ (ZD9 (qv 2) ZEA)) ZEB (ZEW _))))) (ZED (qsS (i := 6) ZFt.nd (ZEO (ZEi K rfl) (ZEk (ZK9 rfl) rfl T.YS ZH8 (ZD9 (qv 2) ZEA)) (qcS (ZEo T) hr.m T.ZJ T.ZI.kp T.ZK (ZD9 (qv 0) (ZD9 (ZEk ZOl rfl T.YT ZHQ (ZD9 (qv 2) ZEA)) ZEA)))))) ZEd) (ZEC (qsS (i := 7) ZFt.nd (qcS (ZKK T) hr.m T.ZBX T.ZAA.kp T.ZBZ (ZD9 (qv 0) ZEA))) (ZEC (ZEg (ZEQ (ZE9) (qv 5) ZEB (ZEW _)) (ZED (qsS (i := 7) ZFt.nd (ZTB hu (qv 2) (qv 6) (qv 7)))) ZEd) (ZEC (ZEg (ZEQ (ZE9) (qv 5) ZEB (ZEW _)) (ZEC (ZEX (ZGC (qv 1) T.ZL T.ZCP (ZMR T) hr.m T.ZCH .nil ZEz)) (ZEC (ZEg (ZEQ (ZNX K rfl hu) (qv 3) (ZFX ZEA) (ZEW _)) (ZED (ZES ZFH)) ZEd) (ZED (ZFT (ZQg PySem.F.plainAttrs_list PySem.F.slot_list_pop PySem.F.type_list_pop ZQK (qv 3)) (ZFN (n := 2) K rfl rfl (ZEL (qgN (i := 6) ZFt.nd) (ZEL (qgN (i := 7) ZFt.nd) ZE7))))))) (ZED (ZEg (QW.pt (ZGg (ZEQ (ZE9) (qv 5) ZEB (ZEW _)) (ZGN (ZEQ (ZJ5 hu) (qv 6) (qv 2) (by with_unfolding_all rfl))))) (ZEC (ZEX (ZEs (qv 1) T.ZL T.ZCD (ZMQ T) hr T.ZB7 .nil ZEz (ZD9 (qv 6) ZEA))) (ZEC (ZEX (ZIv PySem.F.plainAttrs_list PySem.F.slot_list_append PySem.F.type_list_append ZF5 (qv 3) (ZD9 (ZEb (ZD9 (qv 6) (ZD9 (ZHD hu (qv 2) (qv 6)) ZEA))) ZEA))) (ZED (qsS (i := 7) ZFt.nd ZFH)))) (ZEC (ZEX (ZEs (qv 1) T.ZL T.ZCj (ZNq T) hr T.ZCZ .nil ZEz (ZD9 (qv 6) (ZD9 (qv 7) ZEA)))) (ZED (ZEX (ZIv PySem.F.plainAttrs_list PySem.F.slot_list_append PySem.F.type_list_append ZF5 (qv 3) (ZD9 (ZEb (ZD9 (qv 6) (ZD9 (ZHr hu (qv 2) (qv 6)) ZEA))) ZEA)))))))) (ZEC (ZEX (ZTC (qv 2) (qv 6) ZFH)) (ZEC (ZEg (ZEQ (ZLV) (qv 7) ZFH (ZEW _)) (ZED (ZGt hu (qv 7) (qv 2) (qv 6))) ZEd) (ZED (ZES (qv 6))))))))))), ?_⟩
  walk_at "s"
  walk_at "w"
  refine ⟨p, _, rfl, hp, by decide, by decide, fun way H1 hw0 hw1 P1 K1 => ?_⟩
  have W1 : ZFd H1 q b y mm := ⟨K1 _ _ hW.1 (hp.ne_tup hW.1), hW.2⟩
  walk_at "w"
  refine ⟨p, q, b, y, mm, rfl, P1, W1, fun t0 H2 ht0 P2 K2 => ?_⟩
  have K02 := K1.trans K2
  have hL2 := hL.pot hp K02 pS pdl
  repeat walk_at "ri"
  refine ZGv (fun σ' H' => (∃ t, Tm t ∧ σ' = [some (.ref p), some (.ref S.p), some (.ref md), some (.ref dl), some (.ref q), some (.int way), some (.int t), none]) ∧ Pot H' p ∧ Kp p H H') ?_ ?_
  rotate_left
  ·intro D' _ hD'
   obtain ⟨n0, c0, dvs0, hS0, hm0, hl0, hdv0, hLM0⟩ := id hL2
   walk_at "w"
   refine ZEp (fun hway => ?_) (fun hway => ?_)
   ·walk_at "w"
    refine ZOo hm0 ?_
    walk_at "w"
    refine ZEp (fun hlen => ?_) (fun hlen => ?_)
    ·walk_at "w"
     refine ZLA hm0 (by have := hLM0.m; omega) fun l3 H3 is n3 f3 hperm hsrt S3 => ?_
     have hnl : is.length = m.length := by have := hperm.length_eq; simpa using this
     walk_at "w"
     refine ZOo (S3 _ _ hm0) ?_
     walk_at "w"
     refine ⟨p, _, rfl, P2.same S3, by omega, by have := hLM0.m; omega, fun d4 H4 h4 h4' P4 K4 => ?_⟩
     have f4 := K4 _ _ f3 (P2.neN n3)
     walk_at "w"
     refine ZNw f4 h4 (by omega) fun t ht => ?_
     have htm : Tm t := by
      obtain ⟨r, hr, rfl⟩ := List.mem_map.mp (hperm.mem_iff.mp ht)
      exact (hLM0.hb r hr).1
     walk_at "w"
     exact hD' _ _ ⟨⟨t, htm, rfl⟩, P4, (K02.then S3).trans K4⟩
    ·walk_at "w"
     exact hD' _ _ ⟨⟨t0, ht0, rfl⟩, P2, K02⟩
   ·walk_at "w"
    exact hD' _ _ ⟨⟨t0, ht0, rfl⟩, P2, K02⟩
  rintro σ' H3 ⟨⟨t, ht, rfl⟩, P3, K3⟩
  walk_at "w"
  refine ⟨p, rfl, P3, fun h0 H4 hh1 hh2 P4 K4 => ?_⟩
  have K04 := K3.trans K4
  have hL4 := hL.pot hp K04 pS pdl
  obtain ⟨n0, c0, dvs0, hS0, hm0, hl0, hdv0, hLM0⟩ := id hL4
  have hnd0 := hLM0.nd
  have hnds := hS0.nd
  have hNs : sm.length ≤ 900 := by have := hLM0.eqv.len hnds hnd0; have := hLM0.m; omega
  have hNc := hLM0.c
  have hNt := hLM0.t
  have hNd := hLM0.d
  have mdp : md ≠ p := fun z => by
   obtain ⟨x1, x2, e, _⟩ := P4
   rw [z, e] at hm0; cases hm0
  repeat walk_at "ri"
  refine ZGv (fun σ' H' => (∃ h : Int, -(10 ^ 59) < h ∧ h < 10 ^ 59 ∧ σ' = [some (.ref p), some (.ref S.p), some (.ref md), some (.ref dl), some (.ref q), some (.int way), some (.int t), some (.int h)]) ∧ H4 = H') ?_ ?_
  rotate_left
  ·intro D' _ hD'
   walk_at "w"
   rw [ZFm]
   refine ZEp (fun hway => ?_) (fun hway => ?_)
   ·walk_at "w"
    refine ZRH hm0 ?_
    walk_at "w"
    refine ZTF hm0 ?_
    cases hg : ZEZ m t with
    | none =>
     walk_at "w"
     exact hD' _ _ ⟨⟨h0, hh1, hh2, rfl⟩, rfl⟩
    | some v =>
     have hv := (hLM0.hb (t, v) ((ZE1 hnd0).mp hg)).2
     walk_at "w"
     exact hD' _ _ ⟨⟨v, hv.1, hv.2, rfl⟩, rfl⟩
   ·walk_at "w"
    exact hD' _ _ ⟨⟨h0, hh1, hh2, rfl⟩, rfl⟩
  rintro σ' H' ⟨⟨h, hb1, hb2, rfl⟩, rfl⟩
  -- what is left: the law's own samples
  have fin : ∀ (H5 : Hp) (t : Int) (o : Option Int) (D : ZFI) (n : Int) (c : Nat) (ds' : List (Int × Option Int)) (dvs : List V), D.rt = Q → Tm t → (∀ v, o = some v → -(10 ^ 59) < v ∧ v < 10 ^ 59) → ZEF a H5 S n (ZE5 sm t o) (c0 + 1) ds' (ts ++ [t]) [] → H5 md = some (.dK (ZEf m)) → H5 dl = some (.lst dvs) → ZEt H5 dvs ds' → Und (ZF4 m t o) ds' → ds'.length ≤ N + 1 → Pot H5 p → FrL (p :: md :: dl :: S.own) H H5 →
    ∀ H6, H6 md = some (.dK (ZEf (ZF4 m t o))) → Kp md H5 H6 → Q (.int t) H6 := by
   intro H5 t o D n c ds' dvs _ ht hbo hS5 hm5 hl5 hdv5 hun hdl P5 F5 H6 f6 K6
   refine k2 t o _ ds' H6 ⟨n, c0 + 1, dvs, hS5.kpD K6 hm5 mdS, f6, K6 _ _ hl5 (fun z => by rw [z, hm5] at hl5; cases hl5), hdv5.tups (fun b xs g => K6 _ _ g fun z => by rw [z, hm5] at g; cases g), hLM0.deed hnds ht hun hbo hdl⟩ (P5.kp K6 (Ne.symm mdp)) (F5.trans (FrL.kp K6 (by simp)))
  repeat walk_at "ri"
  refine ZGv (fun σ' H5 => ∃ (t : Int) (o : Option Int) (n : Int) (ds' : List (Int × Option Int)) (dvs : List V), σ' = [some (.ref p), some (.ref S.p), some (.ref md), some (.ref dl), some (.ref q), some (.int way), some (.int t), some (ZHI o)] ∧ Tm t ∧ (∀ v, o = some v → -(10 ^ 59) < v ∧ v < 10 ^ 59) ∧ ZEF a H5 S n (ZE5 sm t o) (c0 + 1) ds' (ts ++ [t]) [] ∧ H5 md = some (.dK (ZEf m)) ∧ H5 dl = some (.lst dvs) ∧ ZEt H5 dvs ds' ∧ Und (ZF4 m t o) ds' ∧ ds'.length ≤ N + 1 ∧ Pot H5 p ∧ FrL (p :: md :: dl :: S.own) H H5) ?_ ?_
  ·rintro σ' H5 ⟨t, o, n, ds', dvs, rfl, ht, hbo, hS5, hm5, hl5, hdv5, hun, hdl, P5, F5⟩
   have fin := fin H5 t o ⟨fun _ _ => True, Q, fun _ _ => True, fun _ _ => True⟩ n c0 ds' dvs rfl ht hbo hS5 hm5 hl5 hdv5 hun hdl P5 F5
   walk_at "w"
   refine ZRJ hm5 ?_
   walk_at "w"
   refine ZTG hm5 fun _ H6 f6 K6 => ?_
   walk_at "w"
   cases o with
   | none =>
    walk_at "w"
    refine ZEw ?_
    walk_at "w"
    exact fin H6 f6 K6
   | some v =>
    walk_at "w"
    refine ZFD ?_
    walk_at "w"
    refine ZKV f6 (Nat.lt_of_le_of_lt (Nat.le_trans (ZJd m t) hLM0.m) (Nat.lt_of_le_of_lt hN (by decide))) fun H7 f7 K7 => ?_
    walk_at "w"
    exact fin H7 f7 (K6.trans K7)
  ·intro D' hrt hD'
   have F04 : FrL (p :: md :: dl :: S.own) H H4 := FrL.kp K04 (by simp)
   have FS : ∀ {H5 : Hp}, FrS S H4 H5 → FrL (p :: md :: dl :: S.own) H H5 := fun f => F04.trans (FrL.ofS f fun b hb => by simp [hb])
   obtain ⟨dx0, _, hst0, _⟩ := id hS0
   walk_at "w"
   rw [ZFm]
   refine ZEp (fun hway => ?_) (fun hway => ?_)
   ·walk_at "w"
    refine ZEa hst0 ZGj ?_
    by_cases hds : ds = []
    ·refine ⟨S, n0, sm, c0, ds, ts, [], rfl, hS0, .inl ⟨hds, ?_⟩⟩
     have hdn : dvs0 = [] := ZEt.nil_of (hds ▸ hdv0)
     walk_at "w"
     refine ZEK (by show 0 ≤ sizeLine; decide) fun l5 H5 n5 f5 S5 => ?_
     refine ZKf (SqL.of (S5 _ _ hl0)) (SqL.of f5) ?_
     rw [hdn]
     walk_at "w"
     refine ZFD ?_
     walk_at "w"
     rw [hrt]
     exact k1 H5 (P4.same S5) (hL4.same S5) (K04.then S5)
    ·obtain ⟨ds', t', o', e1, hun, ht', ho', hb'⟩ := hLM0.un.open hds
     subst e1
     have ho2 : o' = none → (ZEZ sm t').isSome = true := fun z => by rw [hLM0.eqv.get hnds hnd0]; exact ho' z
     refine ⟨S, n0, sm, c0, _, ts, [], rfl, hS0, .inr ⟨ds', t', o', rfl, ht', ho2, by omega, hNs, by omega, fun H5 hS5 F5 => ?_⟩⟩
     obtain ⟨us, bq, eus, hdv', hbq⟩ := ZEt.unsnoc hdv0
     subst eus
     have hl5 : H5 dl = _ := hS0.keepL F5 hl0 dlS
     have hm5 : H5 md = _ := hS0.keepD F5 hm0 mdS
     have hbq5 : H5 bq = _ := hS0.keepT F5 hbq
     have P5 := hS0.keepPot F5 P4 pS
     walk_at "w"
     refine ZEK (by show 0 ≤ sizeLine; decide) fun l6 H6 n6 f6 S6 => ?_
     refine ZKf (SqL.of (S6 _ _ hl5)) (SqL.of f6) ?_
     rw [show (us ++ [V.ref bq]).isEmpty = false by cases us <;> rfl]
     walk_at "w"
     refine ZEw ?_
     walk_at "w"
     refine ⟨tyL (S6 _ _ hl5), ?_⟩
     walk_at "w"
     refine ZQ2 (S6 _ _ hl5) fun H7 f7 K7 => ?_
     have hbq7 : H7 bq = some (.tup [.int t', ZHI o']) := K7 _ _ (S6 _ _ hbq5) (fun z => by rw [z, hl5] at hbq5; cases hbq5)
     walk_at "w"
     have hun2 : Und (ZF4 m t' o') ds' := hun.eqv (Eqv.symm (ZJI hnd0 t' o')) (ZF3 hnd0 _ _) (ZH6 hnd0 _ _)
     have hdl5 : ds'.length ≤ N + 1 := by rw [List.length_append] at hNd; omega
     refine hD' _ _ ⟨t', o', n0, ds', us, rfl, ht', hb', ((hS5.same S6).kpL K7 (S6 _ _ hl5) dlS), K7 _ _ (S6 _ _ hm5) (fun z => by rw [z, hl5] at hm5; cases hm5), f7, ?_, hun2, hdl5, ?_, ?_⟩
     ·exact (((hdv'.tups fun b xs g => hS0.keepT F5 g).tups fun b xs g => S6 _ _ g).tups fun b xs g => K7 _ _ g (fun z => by rw [z, S6 _ _ hl5] at g; cases g))
     ·exact (P5.same S6).kp K7 pdl
     ·exact ((FS F5).trans (FrL.same S6)).trans (FrL.kp K7 (by simp))
   ·repeat walk_at "ri"
    have putG : ∀ {H5 : Hp}, ZEF a H5 S n0 (ZFJ sm t h) (c0 + 1) (ds ++ [(t, ZEZ sm t)]) (ts ++ [t]) [] → FrS S H4 H5 → ∀ (dq : Addr) (H6 H7 : Hp), H6 dq = some (.tup [.int t, ZHI (ZEZ sm t)]) → ZEI H5 H6 → H7 dl = some (.lst (dvs0 ++ [.ref dq])) → Kp dl H6 H7 →
      ∃ (t' : Int) (o : Option Int) (n : Int) (ds' : List (Int × Option Int)) (dvs : List V), [some (V.ref p), some (.ref S.p), some (.ref md), some (.ref dl), some (.ref q), some (.int way), some (.int t), some (.int h)] = [some (.ref p), some (.ref S.p), some (.ref md), some (.ref dl), some (.ref q), some (.int way), some (.int t'), some (ZHI o)] ∧ Tm t' ∧ (∀ v, o = some v → -(10 ^ 59) < v ∧ v < 10 ^ 59) ∧ ZEF a H7 S n (ZE5 sm t' o) (c0 + 1) ds' (ts ++ [t']) [] ∧ H7 md = some (.dK (ZEf m)) ∧ H7 dl = some (.lst dvs) ∧ ZEt H7 dvs ds' ∧ Und (ZF4 m t' o) ds' ∧ ds'.length ≤ N + 1 ∧ Pot H7 p ∧ FrL (p :: md :: dl :: S.own) H H7 := by
     intro H5 hS5 F5 dq H6 H7 f6 S6 f7 K7
     have hl5 : H5 dl = _ := hS0.keepL F5 hl0 dlS
     have hm5 : H5 md = _ := hS0.keepD F5 hm0 mdS
     have eg : ZEZ sm t = ZEZ m t := hLM0.eqv.get hnds hnd0 t
     refine ⟨t, some h, n0, _, _, rfl, ht, fun v hv => by cases hv; exact ⟨hb1, hb2⟩, (hS5.same S6).kpL K7 (S6 _ _ hl5) dlS, K7 _ _ (S6 _ _ hm5) (fun z => by rw [z, hl5] at hm5; cases hm5), f7, ?_, ?_, ?_, ?_, ?_⟩
     ·refine ZEt.snoc ?_ (K7 _ _ f6 fun z => by rw [z, S6 _ _ hl5] at f6; cases f6)
      exact (((hdv0.tups fun b xs g => hS0.keepT F5 g).tups fun b xs g => S6 _ _ g).tups fun b xs g => K7 _ _ g (fun z => by rw [z, S6 _ _ hl5] at g; cases g))
     ·rw [eg]; exact hLM0.un.deed hnd0 hLM0.hb ht (fun z => by cases z)
     ·rw [List.length_append]; exact Nat.succ_le_succ hNd
     ·exact ((hS0.keepPot F5 P4 pS).same S6).kp K7 pdl
     ·exact ((FS F5).trans (FrL.same S6)).trans (FrL.kp K7 (by simp))
    have q1 : c0 ≤ 900 := by omega
    have q2 := hNs
    have q3 : ts.length ≤ 900 := by omega
    have q4 : ds.length ≤ 900 := by omega
    refine ZVH (fun σ' H' => σ' = [some (.ref p), some (.ref S.p), some (.ref md), some (.ref dl), some (.ref q), some (.int way), some (.int t), some (.int h)] ∧ H4 = H') ?_ ?_
    ·rintro σ' H' ⟨rfl, rfl⟩
     walk_at "w"
     refine ZEa hst0 ZGj ?_
     walk_at "w"
     refine ⟨S, n0, t, h, sm, c0, ds, ts, [], rfl, hS0, ht, q1, q2, q3, q4, fun H5 hS5 F5 => ?_⟩
     have hl5 : H5 dl = _ := hS0.keepL F5 hl0 dlS
     have hm5 : H5 md = _ := hS0.keepD F5 hm0 mdS
     have eg : ZEZ sm t = ZEZ m t := hLM0.eqv.get hnds hnd0 t
     walk_at "w"
     refine ⟨tyL hl5, ?_⟩
     walk_at "w"
     refine ZL0 hm5 ?_
     walk_at "w"
     refine ZNP hm5 ?_
     rw [ZNm, ← eg]
     walk_at "w"
     refine ZEK (by show 2 ≤ sizeLine; decide) fun dq H6 n6 f6 S6 => ?_
     walk_at "w"
     refine ZF7 (S6 _ _ hl5) (by rw [hdv0.len]; exact Nat.lt_of_le_of_lt (Nat.le_trans hNd hN) (by decide)) fun H7 f7 K7 => ?_
     walk_at "w"
     exact hD' _ _ (putG hS5 F5 dq H6 H7 f6 S6 f7 K7)
    ·intro u' hu'
     walk_at "w"
     rw [ZFm]
     refine ZEp (fun hway3 => ?_) (fun hway3 => ?_)
     ·walk_at "w"
      refine ZVF hm0 ?_
      cases hg : ZEZ m t with
      | none =>
       walk_at "w"
       refine ZEw ?_
       exact hu' _ _ ⟨rfl, rfl⟩
      | some v =>
       walk_at "w"
       refine ZFD ?_
       have eg : ZEZ sm t = some v := (hLM0.eqv.get hnds hnd0 t).trans hg
       walk_at "w"
       refine ZEa hst0 ZGj ?_
       walk_at "w"
       refine ⟨S, n0, t, v, sm, c0, ds, ts, [], rfl, hS0, ht, eg, q1, q2, q3, q4, fun H5 hS5 F5 => ?_⟩
       have hl5 : H5 dl = _ := hS0.keepL F5 hl0 dlS
       have hm5 : H5 md = _ := hS0.keepD F5 hm0 mdS
       walk_at "w"
       refine ⟨tyL hl5, ?_⟩
       walk_at "w"
       refine ZNB hm5 hg ?_
       walk_at "w"
       refine ZEK (by show 2 ≤ sizeLine; decide) fun dq H6 n6 f6 S6 => ?_
       walk_at "w"
       refine ZF7 (S6 _ _ hl5) (by rw [hdv0.len]; exact Nat.lt_of_le_of_lt (Nat.le_trans hNd hN) (by decide)) fun H7 f7 K7 => ?_
       walk_at "w"
       refine hD' _ _ ⟨t, none, n0, _, _, rfl, ht, (fun v hv => by cases hv), (hS5.same S6).kpL K7 (S6 _ _ hl5) dlS, K7 _ _ (S6 _ _ hm5) (fun z => by rw [z, hl5] at hm5; cases hm5), f7, ?_, ?_, ?_, ?_, ?_⟩
       ·refine ZEt.snoc ?_ (K7 _ _ f6 fun z => by rw [z, S6 _ _ hl5] at f6; cases f6)
        exact (((hdv0.tups fun b xs g => hS0.keepT F5 g).tups fun b xs g => S6 _ _ g).tups fun b xs g => K7 _ _ g (fun z => by rw [z, S6 _ _ hl5] at g; cases g))
       ·rw [← hg]; exact hLM0.un.deed hnd0 hLM0.hb ht (fun _ => by rw [hg]; rfl)
       ·rw [List.length_append]; exact Nat.succ_le_succ hNd
       ·exact ((hS0.keepPot F5 P4 pS).same S6).kp K7 pdl
       ·exact ((FS F5).trans (FrL.same S6)).trans (FrL.kp K7 (by simp))
     ·walk_at "w"
      exact hu' _ _ ⟨rfl, rfl⟩
end
def ZNy (bad : List Int) (x z : Int) : Bool := bad.any fun t => decide (x ≤ t) && decide (t < z)
theorem ZTk {bad : List Int} {x z : Int} : ZNy bad x z = true ↔ hit bad x z := by
 unfold ZNy hit
 rw [List.any_eq_true]
 constructor
 ·rintro ⟨t, h1, h2⟩
  rw [Bool.and_eq_true, decide_eq_true_iff, decide_eq_true_iff] at h2
  exact ⟨t, h1, h2⟩
 ·rintro ⟨t, h1, h2⟩
  exact ⟨t, h1, by rw [Bool.and_eq_true, decide_eq_true_iff, decide_eq_true_iff]; exact h2⟩
def ZFh (kvs : List (List Key × V)) (bad : List Int) (b y : Int) (N : Nat) : List Nat := (List.range N).filter fun (j : Nat) => has kvs (b + (j : Int) * y) (b + (j : Int) * y + y) && !ZNy bad (b + (j : Int) * y) (b + (j : Int) * y + y)
theorem ZKu {kvs kvs1 : List (List Key × V)} {bad : List Int} (h : ∀ x z, has kvs1 x z = true ↔ has kvs x z = true ∧ ¬ hit bad x z) (b y : Int) (N : Nat) : ZFh kvs bad b y N = cols kvs1 b y N := by
 unfold ZFh cols
 apply List.filter_congr
 intro j _
 rw [Bool.eq_iff_iff, h, Bool.and_eq_true, Bool.not_eq_true', ← ZTk]
 simp
theorem ZMA (kvs : List (List Key × V)) (b y : Int) (N : Nat) : ZFh kvs [] b y N = cols kvs b y N := ZKu (fun x z => ⟨fun h => ⟨h, fun ⟨t, ht, _⟩ => by cases ht⟩, fun h => h.1⟩) b y N
theorem ZOM (kvs : List (List Key × V)) (bad : List Int) (b y : Int) (N : Nat) : (ZFh kvs bad b y N).Nodup := List.Nodup.sublist List.filter_sublist List.nodup_range
theorem ZMB (kvs : List (List Key × V)) (bad : List Int) (b y : Int) (N : Nat) : (ZFh kvs bad b y N).length ≤ N := by
 have := List.length_filter_le (fun (j : Nat) => has kvs (b + (j : Int) * y) (b + (j : Int) * y + y) && !ZNy bad (b + (j : Int) * y) (b + (j : Int) * y + y)) (List.range N)
 rw [List.length_range] at this
 exact this
theorem ZNz {kvs : List (List Key × V)} {bad : List Int} {b y : Int} {N j : Nat} (h : j ∈ ZFh kvs bad b y N) : j < N := by
 unfold ZFh at h
 rw [List.mem_filter, List.mem_range] at h
 exact h.1
theorem ZPu (kvs : List (List Key × V)) (bad : List Int) (t b y : Int) (N : Nat) : ZFh kvs (bad ++ [t]) b y N = (ZFh kvs bad b y N).filter fun (j : Nat) => !(decide (b + (j : Int) * y ≤ t) && decide (t < b + (j : Int) * y + y)) := by
 unfold ZFh
 rw [List.filter_filter]
 apply List.filter_congr
 intro j _
 unfold ZNy
 rw [List.any_append, List.any_cons, List.any_nil, Bool.or_false]
 generalize has kvs (b + (j : Int) * y) (b + (j : Int) * y + y) = p1
 generalize bad.any (fun t => decide (b + (j : Int) * y ≤ t) && decide (t < b + (j : Int) * y + y)) = p2
 generalize (decide (b + (j : Int) * y ≤ t) && decide (t < b + (j : Int) * y + y)) = p3
 cases p1 <;> cases p2 <;> cases p3 <;> rfl
theorem ZE0.cols {a : Ad} {H : Hp} {S : SA} {v d : Addr} {b y m n : Int} {kvs : List (List Key × V)} {e : Nat} {sm : PL} {ts : List Int} (h : ZE0 a H S v d b y m n kvs e sm ts) : ∀ x z, has kvs x z = true → Col b y m x z := fun x z hh => by
 obtain ⟨dx, q, h1, h2, h3, h4, _⟩ := h
 obtain ⟨w, hw⟩ := Option.isSome_iff_exists.mp hh
 exact (h4 x z w hw).1
def VS (a : Ad) (H : Hp) (S : SA) (v ow d l : Addr) (sm : PL) (ts tl : List Int) (i : Nat) : Prop :=
 ∃ (b y m k : Int) (kvs : List (List Key × V)) (e : Nat) (q : Addr), ZE0 a H S v d b y m k kvs e sm ts ∧ H ow = some (.lst [.ref q, .ref l, .int k]) ∧ ZFd H q b y m ∧ m ≤ 12 ∧ H l = some (.lst (ZFK (ZFh kvs (tl.drop e) b y m.toNat))) ∧ e ≤ tl.length ∧ kvs.length ≤ i
theorem VS.frL {a : Ad} {H H' : Hp} {S : SA} {v ow d l : Addr} {sm : PL} {ts tl : List Int} {i : Nat} (h : VS a H S v ow d l sm ts tl i) {L : List Addr} (f : FrL L H H') (nv : v ∉ L) (nd : d ∉ L) (no : ow ∉ L) (nl : l ∉ L) (nt : ∀ b ∈ L, ∀ xs, H b ≠ some (.tup xs)) : VS a H' S v ow d l sm ts tl i := by
 obtain ⟨b, y, m, k, kvs, e, q, h1, h2, h3, h4, h5, h6, h7⟩ := h
 exact ⟨b, y, m, k, kvs, e, q, h1.frL f nv nd nt, f _ _ h2 no, ⟨f _ _ h3.1 fun z => nt q z _ h3.1, h3.2⟩, h4, f _ _ h5 nl, h6, h7⟩
theorem VS.same {a : Ad} {H H' : Hp} {S : SA} {v ow d l : Addr} {sm : PL} {ts tl : List Int} {i : Nat} (h : VS a H S v ow d l sm ts tl i) (s : ZEI H H') : VS a H' S v ow d l sm ts tl i := h.frL (L := []) (FrL.same s) (by simp) (by simp) (by simp) (by simp) (by simp)
theorem VS.mono {a : Ad} {H : Hp} {S : SA} {v ow d l : Addr} {sm : PL} {ts tl : List Int} {i j : Nat} (h : VS a H S v ow d l sm ts tl i) (le : i ≤ j) : VS a H S v ow d l sm ts tl j := by
 obtain ⟨b, y, m, k, kvs, e, q, h1, h2, h3, h4, h5, h6, h7⟩ := h
 exact ⟨b, y, m, k, kvs, e, q, h1, h2, h3, h4, h5, h6, Nat.le_trans h7 le⟩
theorem ZKp.deed {H : Hp} {kvs : List (List Key × V)} {sm : PL} {b y m : Int} {bad : List Int} (h : ZKp H kvs sm b y m bad) (n : (sm.map (·.1)).Nodup) (t : Int) (o : Option Int) : ZKp H kvs (ZE5 sm t o) b y m (bad ++ [t]) := fun x z u e => by
 obtain ⟨h1, h2⟩ := h x z u e
 refine ⟨h1, ?_⟩
 rcases h2 with ⟨t', m1, m2⟩ | ⟨o', f, g⟩
 ·exact .inl ⟨t', List.mem_append_left _ m1, m2⟩
 ·by_cases hin : x ≤ t ∧ t < z
  ·exact .inl ⟨t, by simp, hin⟩
  ·refine .inr ⟨o', f, g.congr fun r => ?_⟩
   rw [ZE8, ZE8]
   have key : x ≤ r.1 ∧ r.1 < z → (r ∈ sm ↔ r ∈ ZE5 sm t o) := fun hr => by
    have hne : r.1 ≠ t := fun z => hin (z ▸ hr)
    cases o with
    | none => show r ∈ sm ↔ r ∈ ZFP sm t; rw [ZFn]; exact ⟨fun h => ⟨hne, h⟩, fun h => h.2⟩
    | some v =>
     show r ∈ sm ↔ r ∈ ZFJ sm t v
     rw [ZFV n]
     exact ⟨fun h => .inl ⟨hne, h⟩, fun h => h.elim (fun h => h.2) fun h => absurd (by rw [h]) hne⟩
   exact ⟨fun h => ⟨(key h.2).mp h.1, h.2⟩, fun h => ⟨(key h.2).mpr h.1, h.2⟩⟩
theorem VS.deed {a : Ad} {H : Hp} {S : SA} {v ow d l : Addr} {sm : PL} {ts : List Int} {i : Nat} (h : VS a H S v ow d l sm ts ts i) (n : (sm.map (·.1)).Nodup) (t : Int) (o : Option Int) : VS a H S v ow d l (ZE5 sm t o) (ts ++ [t]) ts i := by
 obtain ⟨b, y, m, k, kvs, e, q, ⟨dx, q0, g1, g2, g3, g4, g5, g6⟩, h2, h3, h4, h5, h6, h7⟩ := h
 exact ⟨b, y, m, k, kvs, e, q, ⟨dx, q0, g1, g2, g3, by rw [List.drop_append_of_le_length h6]; exact g4.deed n t o, g5, g6⟩, h2, h3, h4, h5, h6, h7⟩
theorem ZVu {x : Int} (h1 : -(10 ^ 59) < x) (h2 : x < 10 ^ 59) : Bn 200 x := Bn.of (Int.lt_trans (by decide) h1) (Int.lt_trans h2 (by decide))
theorem ZX3 {x : Int} (h : Tm x) : Bn 200 x := Bn.of (Int.lt_of_lt_of_le (by decide) h.1) (Int.lt_trans h.2 (by decide))
theorem ZXb {sm m : PL} (hE : Eqv sm m) (hb : Hb m) {b y : Int} {N : Nat} {fs : List (Option (PL))} (h : ZHS sm b y N fs) : ∀ qs, some qs ∈ fs → qs.length ≤ 4 ∧ ∀ q ∈ qs, Bn 200 q.1 ∧ Bn 200 q.2 := fun qs hq => ⟨(h.mem hq).1, fun q hq' => by
 have := hb q ((hE q).mp ((h.mem hq).2 q hq'))
 exact ⟨ZX3 this.1, ZVu this.2.1 this.2.2⟩⟩
theorem ZTl {kvs : List (List Key × V)} {b y m : Int} (h : ∀ x z, Col b y m x z → has kvs x z = true) : cols kvs b y m.toNat = List.range m.toNat := by
 unfold cols
 rw [List.filter_eq_self]
 intro j hj
 rw [List.mem_range] at hj
 exact h _ _ ⟨(j : Int), by omega, by omega, rfl, rfl⟩
def ZLn (a : Ad) : Sp := fun vs H Q _ => ∃ (S : SA) (v ow md d l : Addr) (n : Int) (sm m : PL) (c : Nat) (ds : List (Int × Option Int)) (ts : List Int) (i : Nat), vs = [.ref v, .ref ow, .ref md] ∧ ZEF a H S n sm c ds ts [] ∧ VS a H S v ow d l sm ts ts i ∧ i ≤ 10000 ∧ ts.length ≤ 1000 ∧ l ≠ ow ∧ ow ∉ S.ls ∧ H md = some (.dK (ZEf m)) ∧ Eqv sm m ∧ (m.map (·.1)).Nodup ∧ m.length < 64 ∧ Hb m ∧
 ∀ (n' : Int) (l' : Addr) (H' : Hp), H l' = none → ZEF a H' S n' sm c ds ts [] → VS a H' S v ow d l' sm ts ts (i + 12) → FrL [v, d, S.tr, ow] H H' → Q (.bl true) H'
section
variable {P : Program} {w : World} {K : W.Frag} {mg : Str → Option Value} {base : Heap} {a : Ad}
local macro_rules | `(tactic| walk_at "rd") => `(tactic| first
 | with_reducible refine ZEx (by assumption) (‹Txt _ _ _›).ZG (‹Txt _ _ _›).Ze ZIG ?_)
theorem ZPv : ZEJ ["_law_view", "_law_own", "_law_made"] ["_law_view", "_law_own", "_law_made"] (ZEE ZJl) := ZEe
theorem ZHk (T : Txt K mg a) : ZEM P w K mg base CX0 8 a.ZAR a.ZAt ["_law_view", "_law_own", "_law_made"] (ZLn a) := by
 refine T.Ye.ok ZPv (by walk_at "l") (fun cdv A outer s H vs Q E hr h => ?_)
 ·obtain ⟨S, v, ow, md, d, l, n, sm, m, c, ds, ts, i, rfl, hS, hVS, hi, hts, nlo, noS, hmd, hE, hnd, hml, hHb, kk⟩ := h
  have hu := ZF9 hr
  have hu64 := hr.units
  have hgd := hr.gd
  have hnsm := hS.nd
  obtain ⟨b, y, mm, k, kvs, e, q, hV, how, hW, hm12, hl, hel, hkl⟩ := id hVS
  have hq := hW.1
  have hmp := hW.2.2.1
  refine ⟨_, QB.h (ZEC (ZVP K rfl (qv 1) ZEB (ZEG ZFb (ZEO (ZEY K rfl) (ZEO (ZEi K rfl) (qv 1) ZEB) ZEB) (ZEk (ZIf K rfl) rfl T.YT ZHQ (ZD9 (ZEO (ZEi K rfl) (qv 1) ZEB) ZEA)))) (ZEC (ZFT (ZPd rfl rfl T.ZB9 rfl T.Zp (ZD9 (ZEO (ZEY K rfl) (ZEO (ZEi K rfl) (qv 1) ZEB) ZEB) ZEA)) (ZIe (qv 1) ZEB ZGm)) (ZED (ZES (ZJX (ZG9 (ZE9) (ZEk (ZNG K rfl hgd hu64) rfl T.ZBf ZOc (ZD9 (ZGC (qv 0) T.ZG T.ZCR (ZMU T) hr T.ZCB .nil ZEz) ZEA)) (ZEk (ZNG K rfl hgd hu64) rfl T.ZBf ZOc (ZD9 (qcS (ZPq T) hr.m T.ZDH T.ZBu.kp T.ZC8 (ZD9 (qv 2) (ZD9 (ZEO (ZEi K rfl) (qv 1) ZEB) ZEA))) ZEA)) (ZEW _)) (ZJW (ZG9 (ZE9) (ZEh K rfl (qv 0)) (ZEO (ZEi K rfl) (qv 1) ZEB) (ZEW _)))))))), ?_⟩
  walk_at "s"
  walk_at "w"
  refine ZXP (SqL.of how) (j := 2) rfl rfl ?_
  walk_at "w"
  refine ZG8 how (j := 2) rfl fun H1 f1 K1 => ?_
  have K1' : Kp ow H H1 := K1
  simp only [List.set_cons_succ, List.set_cons_zero] at f1
  have hq1 := K1 _ _ hq (fun z => by rw [z, how] at hq; cases hq)
  walk_at "w"
  refine ZPe (by omega) (by omega) fun l2 H2 n2 f2 S2 => ?_
  have n02 : H l2 = none := by
   cases hh : H l2 with
   | none => rfl
   | some o =>
    by_cases z : l2 = ow
    ·rw [z, f1] at n2; cases n2
    ·rw [K1 _ _ hh z] at n2; cases n2
  have how2 := S2 _ _ f1
  walk_at "w"
  refine ZG8 how2 (j := 1) rfl fun H3 f3 K3 => ?_
  have K3' : Kp ow H2 H3 := K3
  simp only [List.set_cons_succ, List.set_cons_zero] at f3
  have nl2 : l2 ≠ ow := fun z => by rw [z, f1] at n2; cases n2
  have F3 : FrL [ow] H H3 := ((FrL.kp K1' (by simp)).trans (FrL.same S2)).trans (FrL.kp K3' (by simp))
  have nt : ∀ b ∈ [ow], ∀ xs, H b ≠ some (.tup xs) := fun b hb xs z => by
   obtain rfl : b = ow := (by simpa using hb)
   rw [how] at z; cases z
  obtain ⟨dx, q0, hv, hW0, hd, hk0, av, ad⟩ := id hV
  have nvo : v ≠ ow := fun z => by rw [z, how] at hv; cases hv
  have ndo : d ≠ ow := fun z => by rw [z, how] at hd; cases hd
  have noO : ow ∉ S.p :: S.own := fun z => by
   rcases List.mem_cons.mp z with z | z
   ·obtain ⟨_, _, g, _⟩ := id hS
    rw [← z, how] at g; cases g
   ·exact hS.nown how (fun _ _ _ z => by cases z) (fun ⟨_, z⟩ => by cases z) (fun _ z => by cases z) (fun _ => noS) z
  have hV3 := hV.frL F3 (by simpa using nvo) (by simpa using ndo) nt
  have hS3 := hS.frL F3 (fun b hb => by obtain rfl : b = ow := (by simpa using hb); exact noO) nt
  obtain ⟨dx3, q3, hv3, _⟩ := id hV3
  have hq3 := F3 _ _ hq (fun z => nt q z _ hq)
  walk_at "w"
  refine ZEa hv3 ZFe ?_
  refine ⟨S, v, d, b, y, mm, k, n, kvs, e, sm, c, ds, ts, [], rfl, hS3, hV3, by omega, by omega, fun uu us fs kv1 kv4 n4 H4 f4 hF4 h44 hh4 hV4 hS4 hall4 hl4 F4 => ?_⟩
  have keep : ∀ {e : Addr} {o : HO}, H3 e = some o → ((∃ xs, o = .tup xs) ∨ (∃ xs, o = .lst xs) ∨ ∃ m, o = .dK m) → H4 e = some o := fun {e o} g h1 => F4 _ _ g fun z => by
   obtain ⟨dx, q0, e1, _, e2, _⟩ := id hV3
   obtain ⟨_, _, _, ⟨_, _, t1, _⟩, _⟩ := id hS3
   simp only [List.mem_cons, List.not_mem_nil, or_false] at z
   rcases h1 with ⟨_, rfl⟩ | ⟨_, rfl⟩ | ⟨_, rfl⟩ <;> rcases z with z | z | z
   all_goals first | (rw [z, e1] at g; cases g) | (rw [z, e2] at g; cases g) | (rw [z, t1] at g; cases g)
  have how4 := keep f3 (.inr (.inl ⟨_, rfl⟩))
  have hq4 := keep hq3 (.inl ⟨_, rfl⟩)
  have hmd3 := F3 _ _ hmd (fun z => by obtain rfl : md = ow := (by simpa using z); rw [how] at hmd; cases hmd)
  have hmd4 := keep hmd3 (.inr (.inr ⟨_, rfl⟩))
  obtain ⟨dx4, q4, hv4, hW4, hd4, hk4, _⟩ := id hV4
  walk_at "w"
  refine ZNH (ZLI f4 hF4 (ZXb hE hHb h44) (by rw [h44.1]; omega)) ?_
  walk_at "w"
  refine ⟨md, q, m, b, y, mm, rfl, hmd4, hnd, hml, ⟨hq4, hW.2⟩, fun u5 us5 fs5 H5 f5 hF5 h45 S5 => ?_⟩
  obtain rfl : fs = fs5 := ZN9 hE hnsm h44 h45
  walk_at "w"
  refine ZNH (ZLI f5 hF5 (ZXb hE hHb h44) (by rw [h44.1]; omega)) ?_
  walk_at "w"
  refine ZFY ?_
  walk_at "w"
  refine ZEp (fun _ => ?_) (fun z => absurd rfl z)
  have hv5 := S5 _ _ hv4
  have how5 := S5 _ _ how4
  walk_at "w"
  have hms := ZRV kv1 b y mm.toNat
  have hce := ZKu hh4 b y mm.toNat
  have hnlen : (ZFK (ZFh kvs (ts.drop e) b y mm.toNat)).length = (ZFh kvs (ts.drop e) b y mm.toNat).length := List.length_map _
  have ek : k + (ZG4 kv1 b y mm.toNat : Int) = k + (mm - ((ZFK (ZFh kvs (ts.drop e) b y mm.toNat)).length : Int)) := by
   rw [hnlen, hce]
   omega
  rw [ek, decide_eq_true rfl]
  refine kk n4 l2 H5 n02 (hS4.same S5) ⟨b, y, mm, _, kv4, ts.length, q, by rw [← ek]; exact hV4.same S5, how5, ⟨S5 _ _ hq4, hW.2⟩, hm12, ?_, Nat.le_refl _, by omega⟩ ?_
  ·rw [List.drop_length, ZMA, ZTl hall4]
   exact S5 _ _ (keep (K3 _ _ f2 nl2) (.inr (.inl ⟨_, rfl⟩)))
  ·exact ((F3.mono (by simp +contextual)).trans (F4.mono (by simp +contextual))).trans (FrL.same S5)
def ZT5 (a : Ad) : Sp := fun vs H _ E => ∃ (v u : Addr) (b y m b' y' m' : Int), vs = [.ref v, .ref u] ∧ ZMe a H v b y m ∧ ZLR H u b y m b' y' m' ∧ ¬ (-1099511627776 ≤ b' ∧ b' + y' * m' ≤ 1099511627776) ∧ ∀ H', ZEI H H' → E (.ref a.ZA) none H'
theorem ZTm (T : Txt K mg a) : ZEM P w K mg base (CX1 P w) 7 a.ZAs a.ZAY ["_law_view", "_law_step_here"] (ZT5 a) := by
 refine T.ZCO.okx ZFr (by walk_at "l") (fun cdv A outer s H vs Q E hr h => ?_)
 ·obtain ⟨v, u, b, y, m, b', y', m', rfl, hVW, ⟨nm, j, q, hu1, hq, hst⟩, hout, k⟩ := h
  obtain ⟨dx, s0, q0, d, n, e, hv, hW⟩ := id hVW
  have hy2 := ZGE hW
  obtain ⟨_, hy, hm1, hm2, hb, he⟩ := id hW
  unfold InT at hb he
  have hmy : 0 ≤ m * y := Int.mul_nonneg (by omega) (by omega)
  refine ⟨_, QB.h (ZEC (qsS (i := 2) ZFr.nd ZFH) (ZEC (ZEg (ZEQ (ZE9) (ZEO (ZEY K rfl) (qv 1) ZEB) ZGI (ZEW _)) (ZED (qsS (i := 2) ZFr.nd (ZGC (qv 0) T.ZG T.ZAy (ZMV T) hr T.ZA2 .nil ZIB))) (ZED (ZEg (ZEQ (ZE9) (ZEO (ZEY K rfl) (qv 1) ZEB) ZGI (ZEW _)) (ZED (qsS (i := 2) ZFr.nd (ZGC (qv 0) T.ZG T.ZAL (ZIm T) hr T.ZAM .nil ZEz))) (ZED (ZEg (ZEQ (ZE9) (ZEO (ZEY K rfl) (qv 1) ZEB) ZGI (ZEW _)) (ZED (qsS (i := 2) ZFr.nd (ZEs (qv 0) T.ZG T.JX (ZKs T) hr T.Ja .nil ZIB (ZD9 (ZEO (ZEY K rfl) (qv 1) ZEB) ZEA)))) (ZED (qsS (i := 2) ZFr.nd (ZEs (qv 0) T.ZG T.ZBy (ZOI T) hr T.ZBs .nil ZIB (ZD9 (ZEO (ZEY K rfl) (qv 1) ZEB) ZEA))))))))) (ZED (ZES (ZG9 (ZIa) (qv 2) ZFH (ZEW _)))))), ?_⟩
  walk_at "s"
  walk_at "w"
  have ne1 : (("narrow" : Str) = "wide") = False := eq_false (by decide +kernel)
  have ne2 : (("columns" : Str) = "wide") = False := eq_false (by decide +kernel)
  have ne3 : (("on" : Str) = "wide") = False := eq_false (by decide +kernel)
  have ne4 : (("columns" : Str) = "narrow") = False := eq_false (by decide +kernel)
  have ne5 : (("on" : Str) = "narrow") = False := eq_false (by decide +kernel)
  have ne6 : (("on" : Str) = "columns") = False := eq_false (by decide +kernel)
  rcases hst with ⟨rfl, rfl, rfl, rfl⟩ | ⟨rfl, h2, rfl, rfl, rfl⟩ | ⟨rfl, h1, h2, rfl, rfl, rfl⟩ | ⟨rfl, h1, h2, rfl, rfl, rfl⟩
  ·refine ZFY ?_
   rw [decide_eq_true rfl]
   walk_at "w"
   refine ZFD ?_
   walk_at "w"
   refine ZEa hv ZFe ?_
   refine ⟨v, b', y, m', rfl, hVW, fun z => hout ⟨z.1.1, ?_⟩, k⟩
   have e : m' * (y * 2) = 2 * y * m' := by rw [Int.mul_comm m', Int.mul_comm y]
   have := z.2.2
   omega
  ·exfalso
   apply hout
   have e : 2 * (y / 2 * m') = m' * y := by rw [← Int.mul_assoc, show 2 * (y / 2) = y by omega, Int.mul_comm]
   exact ⟨hb.1, by omega⟩
  ·refine ZFY ?_
   rw [decide_eq_false (by rw [ne2]; exact id)]
   walk_at "w"
   refine ZEw ?_
   walk_at "w"
   refine ZFY ?_
   rw [decide_eq_false (by rw [ne4]; exact id)]
   walk_at "w"
   refine ZEw ?_
   walk_at "w"
   refine ZFY ?_
   rw [decide_eq_true rfl]
   walk_at "w"
   refine ZFD ?_
   walk_at "w"
   refine ZEa hv ZFe ?_
   walk_at "w"
   refine ⟨v, b', y', m, m', rfl, hVW, by omega, by omega, fun z => hout ⟨z.1.1, ?_⟩, k⟩
   have := z.2.2
   rw [Int.mul_comm y']
   omega
  ·refine ZFY ?_
   rw [decide_eq_false (by rw [ne3]; exact id)]
   walk_at "w"
   refine ZEw ?_
   walk_at "w"
   refine ZFY ?_
   rw [decide_eq_false (by rw [ne5]; exact id)]
   walk_at "w"
   refine ZEw ?_
   walk_at "w"
   refine ZFY ?_
   rw [decide_eq_false (by rw [ne6]; exact id)]
   walk_at "w"
   refine ZEw ?_
   walk_at "w"
   refine ZEa hv ZFe ?_
   walk_at "w"
   refine ⟨v, b, y', m', j, rfl, hVW, ZJZ (m := 42) (n := 43) (by unfold Bn; omega) (by unfold Bn; omega) (by decide), fun z => hout ⟨z.1.1, ?_⟩, k⟩
   have := z.2.2
   rw [Int.mul_comm y']
   omega
theorem ZTn (T : Txt K mg a) : ZEM P w K mg base (CX1 P w) 7 a.ZAs a.ZAY ["_law_view", "_law_step_here"] (fun vs H Q E => ZXZ a vs H Q E ∨ ZT5 a vs H Q E) := (ZVs T).lift.or (ZTm T)
def ZN0 (a : Ad) : Sp := fun vs H Q _ => ∃ (S : SA) (p v ow d l : Addr) (n : Int) (sm : PL) (c : Nat) (ds : List (Int × Option Int)) (ts : List Int) (i : Nat), vs = [.ref p, .ref v, .ref ow] ∧ Pot H p ∧ ZEF a H S n sm c ds ts [] ∧ VS a H S v ow d l sm ts ts i ∧ ts.length ≤ 1000 ∧ l ≠ ow ∧ p ≠ ow ∧ p ≠ l ∧ p ∉ S.ls ∧ ow ∉ S.ls ∧
 ∀ (d' l' : Addr) (H' : Hp), (d' = d ∨ H d' = none) → (l' = l ∨ ∀ xs, H l' ≠ some (.lst xs)) → Pot H' p → ZEF a H' S n sm c ds ts [] → VS a H' S v ow d' l' sm ts ts (i + 12) → FrL [p, v, d, ow] H H' → Q (.bl true) H'
theorem ZHl : ZEJ ["_law_pot_here", "_law_view", "_law_own", "_law_step_here", "_law_is_let"] ["_law_pot_here", "_law_view", "_law_own"] (ZEE ZJm) := ZEe
theorem ZPw (T : Txt K mg a) : ZEM P w K mg base CX0 8 a.ZAp a.ZAc ["_law_pot_here", "_law_view", "_law_own"] (ZN0 a) := by
 refine T.ZBo.ok ZHl (by walk_at "l") (fun cdv A outer s H vs Q E hr h => ?_)
 ·obtain ⟨S, p, v, ow, d, l, n, sm, c, ds, ts, i, rfl, hp, hS, hVS, hts, nlo, npo, npl, npS, noS, kk⟩ := h
  have hu := ZF9 hr
  obtain ⟨b, y, mm, k, kvs, e, q, hV, how, hW, hm12, hl, hel, hkl⟩ := id hVS
  obtain ⟨dx, q0, hv, hW0, hd, hk0, av, ad⟩ := id hV
  refine ⟨_, QB.h (ZEC (qsS (i := 3) ZHl.nd (qcS (ZL9 T) hr.m T.ZCG T.ZBO.kp T.ZCW (ZD9 (qv 0) (ZD9 (ZEO (ZEi K rfl) (qv 2) ZEB) ZEA)))) (ZEC (qsS (i := 4) ZHl.nd ZIr) (ZEC (ZXK rfl rfl (ZSo (ZVB (ZTn T) hr.m rfl T.ZDh T.ZCO.kp T.ZDf .nil (ZD9 (qv 1) (ZD9 (qv 3) ZEA)))) (ZSp K rfl rfl rfl rfl rfl T.ZAr T.ZAd (fun _ => ZED (qsS (i := 4) ZHl.nd ZIr)) ZXI)) (ZEC (ZEg (QW.pt (ZGg (ZFy (qv 4)) (ZGN (ZFy (qcS (ZIX T) hr.m T.Jk T.Yr.kp T.Jp (ZD9 (ZEO (ZEY K rfl) (qv 3) ZEB) ZEA)))))) (ZEC (ZFT (qcS (ZPr T) hr.m T.ZDI T.ZBp.kp T.ZDC (ZD9 (qv 3) (ZD9 (ZEO (ZEi K rfl) (qv 2) ZEB) (ZD9 (ZEO (ZEi K rfl) (qv 2) ZEB) ZEA)))) (ZIe (qv 2) ZEB ZGm)) (ZED (ZFT (ZEO (ZEY K rfl) (qv 3) ZEB) (ZIe (qv 2) ZEB ZGm)))) ZEd) (ZED (ZES (ZG9 (ZE9) (qv 4) (qcS (ZIX T) hr.m T.Jk T.Yr.kp T.Jp (ZD9 (ZEO (ZEY K rfl) (qv 3) ZEB) ZEA)) (ZEW _)))))))), ?_⟩
  walk_at "s"
  walk_at "w"
  refine ⟨p, q, b, y, mm, rfl, hp, hW, fun u b1 y1 m1 H1 hst P1 K1 => ?_⟩
  have tup1 : ∀ {e : Addr} {o : HO}, H e = some o → e ≠ p → H1 e = some o := fun g n => K1 _ _ g n
  have nvp : v ≠ p := fun z => by
   obtain ⟨x1, x2, g, _⟩ := hp
   rw [z, g] at hv; cases hv
  have ndp : d ≠ p := fun z => by
   obtain ⟨x1, x2, g, _⟩ := hp
   rw [z, g] at hd; cases hd
  have ntp : ∀ b ∈ [p], ∀ ys, H b ≠ some (.tup ys) := fun b hb ys z => by
   obtain rfl : b = p := (by simpa using hb)
   exact hp.noTup _ z
  have hS1 := hS.pot hp K1 npS
  have hVS1 : VS a H1 S v ow d l sm ts ts i := hVS.frL (FrL.kp K1 (l := [p]) (by simp)) (by simpa using nvp) (by simpa using ndp) (by simpa using Ne.symm npo) (by simpa using Ne.symm npl) ntp
  have hV1 := hV.frL (FrL.kp K1 (l := [p]) (by simp)) (by simpa using nvp) (by simpa using ndp) ntp
  have how1 := tup1 how (Ne.symm npo)
  have hl1 := tup1 hl (Ne.symm npl)
  have hq1 := tup1 hW.1 (fun z => ntp q (by simp [z]) _ hW.1)
  obtain ⟨nm, cc, qq, hu1, hqq, hstp⟩ := id hst
  have hy2 := ZGE hW
  have hb1 : 0 < y1 ∧ y1 ≤ 4398046511104 ∧ 1 ≤ m1 ∧ m1 ≤ 12 := by
   have h1 := hW.2.1
   have h2 := hW.2.2.1
   rcases hstp with ⟨_, _, h, h'⟩ | ⟨_, g, _, h, h'⟩ | ⟨_, g1, g2, _, h, h'⟩ | ⟨_, _, _, _, h, h'⟩ <;> omega
  have hmul : IntMulOk y1 m1 := ZJZ (m := 50) (n := 50) (by unfold Bn; omega) (by unfold Bn; omega) (by decide)
  walk_at "w"
  by_cases hin : -1099511627776 ≤ b1 ∧ b1 + y1 * m1 ≤ 1099511627776
  ·have hz : 0 ≤ y1 * m1 := Int.mul_nonneg (by omega) (by omega)
   have hWV : ZIW b1 y1 m1 := ⟨by omega, by omega, by omega, ⟨by omega, by omega⟩, by rw [Int.mul_comm]; exact ⟨by omega, by omega⟩⟩
   refine .inl ⟨S, v, d, u, b, y, mm, k, n, b1, y1, m1, kvs, e, sm, c, ds, ts, [], rfl, hS1, hV1, by omega, hst, hWV, fun d4 kv1 kv4 H4 n4 g1 g2 g3 g4 g5 F4 => ?_⟩
   have keep : ∀ {e : Addr} {o : HO}, H1 e = some o → ((∃ xs, o = .tup xs) ∨ (∃ xs, o = .lst xs)) → H4 e = some o := fun {e o} g h1 => F4 _ _ g fun z => by
    obtain ⟨dx, q0, e1, _, e2, _⟩ := id hV1
    simp only [List.mem_cons, List.not_mem_nil, or_false] at z
    rcases h1 with ⟨_, rfl⟩ | ⟨_, rfl⟩ <;> rcases z with z | z
    all_goals first | (rw [z, e1] at g; cases g) | (rw [z, e2] at g; cases g)
   have hu4 := keep hu1 (.inl ⟨_, rfl⟩)
   have hqq4 := keep hqq (.inl ⟨_, rfl⟩)
   have how4 := keep how1 (.inr ⟨_, rfl⟩)
   have hl4 := keep hl1 (.inr ⟨_, rfl⟩)
   have hq4 := keep hq1 (.inl ⟨_, rfl⟩)
   walk_at "w"
   refine ZFD ?_
   walk_at "w"
   refine ⟨qq, b1, y1, m1, rfl, hqq4, hmul, ?_⟩
   rw [decide_eq_true hin.1, decide_eq_true hin.2]
   walk_at "w"
   refine ZFD ?_
   walk_at "w"
   refine ⟨u, q, l, b, y, mm, b1, y1, m1, ZFh kvs (ts.drop e) b y mm.toNat, rfl, ⟨nm, cc, qq, hu4, hqq4, hstp⟩, ⟨hq4, hW.2⟩, hWV, hl4, ZOM _ _ _ _ _, Nat.le_trans (ZMB _ _ _ _ _) (by omega), fun j hj => by have := ZNz hj; omega, fun l5 H5 n5 f5 S5 => ?_⟩
   have how5 := S5 _ _ how4
   walk_at "w"
   refine ZG8 how5 (j := 1) rfl fun H6 f6 K6 => ?_
   have K6' : Kp ow H5 H6 := K6
   simp only [List.set_cons_succ, List.set_cons_zero] at f6
   have hu6 := K6 _ _ (S5 _ _ hu4) (fun z => by rw [z, how4] at hu4; cases hu4)
   walk_at "w"
   refine ZG8 f6 (j := 0) rfl fun H7 f7 K7 => ?_
   have K7' : Kp ow H6 H7 := K7
   simp only [List.set_cons_succ, List.set_cons_zero] at f7
   have hu7 := K7 _ _ hu6 (fun z => by rw [z, f6] at hu6; cases hu6)
   have K57 : Kp ow H5 H7 := K6'.trans K7'
   have hqq7 := K57 _ _ (S5 _ _ hqq4) (fun z => by rw [z, how4] at hqq4; cases hqq4)
   walk_at "w"
   refine ⟨qq, b1, y1, m1, rfl, hqq7, hmul, ?_⟩
   rw [decide_eq_true hin.1, decide_eq_true hin.2]
   walk_at "w"
   refine ⟨rfl, ?_⟩
   rw [Bool.and_self, decide_eq_true rfl]
   have nto : ∀ b ∈ [ow], ∀ xs, H5 b ≠ some (.tup xs) := fun b hb xs z => by
    obtain rfl : b = ow := (by simpa using hb)
    rw [how5] at z; cases z
   have F57 : FrL [ow] H5 H7 := FrL.kp K57 (by simp)
   obtain ⟨dx4, q4, hv4, hW4, hd4, _⟩ := id g4
   have noO : ow ∉ S.p :: S.own := fun z => by
    rcases List.mem_cons.mp z with z | z
    ·obtain ⟨_, _, g, _⟩ := id hS
     rw [← z, how] at g; cases g
    ·exact hS.nown how (fun _ _ _ z => by cases z) (fun ⟨_, z⟩ => by cases z) (fun _ z => by cases z) (fun _ => noS) z
   have n0d : H d4 = none := by
    cases hh : H d4 with
    | none => rfl
    | some o =>
     by_cases z : d4 = p
     ·obtain ⟨x1, x2, g, _⟩ := P1
      rw [z, g] at n4; cases n4
     ·rw [K1 _ _ hh z] at n4; cases n4
   have n0l : ∀ xs, H l5 ≠ some (.lst xs) := fun xs hh => by
    by_cases z : l5 = p
    ·obtain ⟨x1, x2, g, _⟩ := P1
     rw [z, keep g (.inr ⟨_, rfl⟩)] at n5; cases n5
    ·rw [keep (K1 _ _ hh z) (.inr ⟨_, rfl⟩)] at n5; cases n5
   refine kk d4 l5 H7 (.inr n0d) (.inr n0l) ?_ ?_ ⟨b1, y1, m1, k, kv4, ts.length, qq, ?_, f7, ⟨hqq7, hWV⟩, hb1.2.2.2, ?_, Nat.le_refl _, by omega⟩ ?_
   ·obtain ⟨x1, x2, g, hr⟩ := P1
    exact ⟨x1, x2, K57 _ _ (S5 _ _ (keep g (.inr ⟨_, rfl⟩))) npo, hr⟩
   ·exact (g5.same S5).frL F57 (fun b hb => by obtain rfl : b = ow := (by simpa using hb); exact noO) nto
   ·exact (g4.same S5).frL F57 (fun z => by obtain rfl : v = ow := (by simpa using z); rw [how] at hv; cases hv) (fun z => by obtain rfl : d4 = ow := (by simpa using z); rw [how4] at hd4; cases hd4) nto
   ·have ec : cols kv4 b1 y1 m1.toNat = _ := ZRX hstp hW.2.1 hWV (fun x z hc => hV.cols x z ((g1 x z).mp hc).1) g2
    rw [List.drop_length, ZMA, ec, ← ZKu g1]
    exact K57 _ _ f5 (fun z => by rw [z, how4] at n5; cases n5)
   ·refine ((((FrL.kp K1 (by simp)).trans (F4.mono ?_)).trans (FrL.same S5)).trans (F57.mono (by simp)))
    simp +contextual
  ·refine .inr ⟨v, u, b, y, mm, b1, y1, m1, rfl, ?_, hst, hin, fun H4 S4 => ?_⟩
   ·obtain ⟨dx, q0, g1, g2, _⟩ := hV1
    exact ⟨dx, _, q0, _, _, _, g1, g2⟩
   walk_at "w"
   refine ZQx T.ZR (ZFD ?_)
   refine ZSs fun ee H5 n5 f5 S5 => ?_
   have S15 := S4.trans S5
   have hu5 := S15 _ _ hu1
   have hqq5 := S15 _ _ hqq
   have hf : (decide (-1099511627776 ≤ b1) && decide (b1 + y1 * m1 ≤ 1099511627776)) = false := by
    rw [Bool.eq_false_iff]
    intro z
    rw [Bool.and_eq_true, decide_eq_true_iff, decide_eq_true_iff] at z
    exact hin z
   walk_at "w"
   refine ZEw ?_
   walk_at "w"
   refine ZEw ?_
   walk_at "w"
   refine ⟨qq, b1, y1, m1, rfl, hqq5, hmul, ?_⟩
   rw [hf]
   walk_at "w"
   refine ⟨rfl, ?_⟩
   rw [decide_eq_true rfl]
   exact kk d l H5 (.inl rfl) (.inl rfl) (P1.same S15) (hS1.same S15) ((hVS1.same S15).mono (by omega)) ((FrL.kp K1 (by simp)).trans (FrL.same S15))
end
def NB (S : SA) (x y z p l : Addr) : Prop := l ≠ x ∧ l ≠ y ∧ l ≠ z ∧ l ≠ p ∧ l ∉ S.ls
def JV (a : Ad) (H : Hp) (S : SA) (md dl p v0 o0 v1 o1 : Addr) (R : List (Addr × List V)) (sm m : PL) (ds : List (Int × Option Int)) (ts t0 t1 : List Int) (N i : Nat) : Prop :=
 LS a H S md dl sm m ds ts N ∧ (∃ d0 l0 d1 l1, VS a H S v0 o0 d0 l0 sm ts t0 i ∧ VS a H S v1 o1 d1 l1 sm ts t1 i ∧ d0 ≠ d1 ∧ NB S o0 o1 dl p l0 ∧ NB S o0 o1 dl p l1) ∧ ∀ r ∈ R, H r.1 = some (.lst r.2) ∧ NB S o0 o1 dl p r.1
structure Ar (S : SA) (md dl v0 o0 v1 o1 : Addr) : Prop where
 vv : v0 ≠ v1
 oo : o0 ≠ o1
 d0 : o0 ≠ dl
 d1 : o1 ≠ dl
 s0 : o0 ∉ S.ls
 s1 : o1 ∉ S.ls
 ds : dl ∉ S.ls
 ms : md ≠ S.d1
structure Ap (S : SA) (dl p o0 o1 : Addr) : Prop where
 s : p ∉ S.ls
 d : p ≠ dl
 o0 : p ≠ o0
 o1 : p ≠ o1
theorem Ar.swap {S : SA} {md dl v0 o0 v1 o1 : Addr} (h : Ar S md dl v0 o0 v1 o1) : Ar S md dl v1 o1 v0 o0 := ⟨h.vv.symm, h.oo.symm, h.d1, h.d0, h.s1, h.s0, h.ds, h.ms⟩
theorem Ap.swap {S : SA} {dl p o0 o1 : Addr} (h : Ap S dl p o0 o1) : Ap S dl p o1 o0 := ⟨h.s, h.d, h.o1, h.o0⟩
theorem NB.swap {S : SA} {x y z p l : Addr} (h : NB S x y z p l) : NB S y x z p l := ⟨h.2.1, h.1, h.2.2⟩
theorem VS.what {a : Ad} {H : Hp} {S : SA} {v o d l : Addr} {sm : PL} {ts tl : List Int} {i : Nat} (h : VS a H S v o d l sm ts tl i) : (∃ C dx fs, H v = some (.ins C dx fs)) ∧ (∃ kv, H d = some (.dT kv)) ∧ (∃ xs, H o = some (.lst xs)) ∧ (∃ xs, H l = some (.lst xs)) ∧ v ∉ S.p :: S.own ∧ d ∉ S.p :: S.own := by
 obtain ⟨b, y, m, k, kvs, e, q, ⟨dx, q0, g1, g2, g3, g4, g5, g6⟩, h2, h3, h4, h5, h6, h7⟩ := h
 exact ⟨⟨_, _, _, g1⟩, ⟨_, g3⟩, ⟨_, h2⟩, ⟨_, h5⟩, g5, g6⟩
section
variable {a : Ad} {H H' : Hp} {S : SA} {md dl v0 o0 v1 o1 p : Addr} {R : List (Addr × List V)} {sm m : PL} {ds : List (Int × Option Int)} {ts t0 t1 : List Int} {N i : Nat}
theorem JV.swap (h : JV a H S md dl p v0 o0 v1 o1 R sm m ds ts t0 t1 N i) : JV a H S md dl p v1 o1 v0 o0 R sm m ds ts t1 t0 N i := by
 obtain ⟨h1, ⟨d0, l0, d1, l1, g0, g1, g2, g3, g4⟩, h3⟩ := h
 exact ⟨h1, ⟨d1, l1, d0, l0, g1, g0, g2.symm, g4.swap, g3.swap⟩, fun r hr => ⟨(h3 r hr).1, (h3 r hr).2.swap⟩⟩
theorem JV.mono {M j : Nat} (h : JV a H S md dl p v0 o0 v1 o1 R sm m ds ts t0 t1 N i) (l1 : N ≤ M) (l2 : i ≤ j) : JV a H S md dl p v0 o0 v1 o1 R sm m ds ts t0 t1 M j := by
 obtain ⟨⟨n, c, dvs, q1, q2, q3, q4, q5⟩, ⟨d0, l0, d1, lx1, g0, g1, g2⟩, h3⟩ := h
 exact ⟨⟨n, c, dvs, q1, q2, q3, q4, ⟨q5.eqv, q5.nd, q5.hb, q5.un, Nat.le_trans q5.c l1, Nat.le_trans q5.t l1, Nat.le_trans q5.m l1, Nat.le_trans q5.d l1⟩⟩, ⟨d0, l0, d1, lx1, g0.mono l2, g1.mono l2, g2⟩, h3⟩
theorem JV.same (h : JV a H S md dl p v0 o0 v1 o1 R sm m ds ts t0 t1 N i) (s : ZEI H H') : JV a H' S md dl p v0 o0 v1 o1 R sm m ds ts t0 t1 N i := by
 obtain ⟨h1, ⟨d0, l0, d1, l1, g0, g1, g2⟩, h3⟩ := h
 exact ⟨h1.same s, ⟨d0, l0, d1, l1, g0.same s, g1.same s, g2⟩, fun r hr => ⟨s _ _ (h3 r hr).1, (h3 r hr).2⟩⟩
theorem JV.newp' {q : Addr} (h : JV a H S md dl p v0 o0 v1 o1 R sm m ds ts t0 t1 N i) (n : ∀ xs, H q ≠ some (.lst xs)) : JV a H S md dl q v0 o0 v1 o1 R sm m ds ts t0 t1 N i ∧ Ap S dl q o0 o1 := by
 obtain ⟨h1, ⟨d0, l0, d1, l1, g0, g1, g2, g3, g4⟩, h3⟩ := h
 obtain ⟨_, _, ⟨_, a3⟩, ⟨_, a4⟩, _⟩ := g0.what
 obtain ⟨_, _, ⟨_, b3⟩, ⟨_, b4⟩, _⟩ := g1.what
 obtain ⟨nn, c, dvs, q1, q2, q3, q4, q5⟩ := id h1
 obtain ⟨_, _, _, _, s3, _, s5, s6, _⟩ := id q1
 have ne : ∀ {e : Addr} {xs : List V}, H e = some (.lst xs) → e ≠ q := fun g z => n _ (z ▸ g)
 refine ⟨⟨h1, ⟨d0, l0, d1, l1, g0, g1, g2, ⟨g3.1, g3.2.1, g3.2.2.1, ne a4, g3.2.2.2.2⟩, ⟨g4.1, g4.2.1, g4.2.2.1, ne b4, g4.2.2.2.2⟩⟩, fun r hr => ⟨(h3 r hr).1, (h3 r hr).2.1, (h3 r hr).2.2.1, (h3 r hr).2.2.2.1, ne (h3 r hr).1, (h3 r hr).2.2.2.2.2⟩⟩, fun z => ?_, (ne q3).symm, (ne a3).symm, (ne b3).symm⟩
 simp only [SA.ls, List.mem_cons, List.not_mem_nil, or_false] at z
 rcases z with z | z | z
 ·exact ne s3 z.symm
 ·exact ne s5 z.symm
 ·exact ne s6 z.symm
theorem JV.newp {q : Addr} (h : JV a H S md dl p v0 o0 v1 o1 R sm m ds ts t0 t1 N i) (n : H q = none) : JV a H S md dl q v0 o0 v1 o1 R sm m ds ts t0 t1 N i ∧ Ap S dl q o0 o1 := h.newp' fun xs z => by rw [n] at z; cases z
theorem JV.pot (h : JV a H S md dl p v0 o0 v1 o1 R sm m ds ts t0 t1 N i) (A : Ap S dl p o0 o1) (hp : Pot H p) (k : Kp p H H') : JV a H' S md dl p v0 o0 v1 o1 R sm m ds ts t0 t1 N i := by
 obtain ⟨h1, ⟨d0, l0, d1, l1, g0, g1, g2, g3, g4⟩, h3⟩ := h
 have nt : ∀ b ∈ [p], ∀ ys, H b ≠ some (.tup ys) := fun b hb ys z => by
  obtain rfl : b = p := (by simpa using hb)
  exact hp.noTup _ z
 have f : FrL [p] H H' := FrL.kp k (by simp)
 obtain ⟨⟨_, _, _, a1⟩, ⟨_, a2⟩, ⟨_, a3⟩, ⟨_, a4⟩, _⟩ := g0.what
 obtain ⟨⟨_, _, _, b1⟩, ⟨_, b2⟩, ⟨_, b3⟩, ⟨_, b4⟩, _⟩ := g1.what
 refine ⟨h1.pot hp k A.s A.d, ⟨d0, l0, d1, l1, g0.frL f ?_ ?_ (by simpa using A.o0.symm) (by simpa using g3.2.2.2.1) nt, g1.frL f ?_ ?_ (by simpa using A.o1.symm) (by simpa using g4.2.2.2.1) nt, g2, g3, g4⟩, fun r hr => ⟨k _ _ (h3 r hr).1 (h3 r hr).2.2.2.2.1, (h3 r hr).2⟩⟩
 all_goals
  obtain ⟨x1, x2, e, _⟩ := hp
  intro z
  rw [List.mem_singleton] at z
 ·rw [z, e] at a1; cases a1
 ·rw [z, e] at a2; cases a2
 ·rw [z, e] at b1; cases b1
 ·rw [z, e] at b2; cases b2
theorem JV.view {n n' : Int} {c : Nat} {dvs : List V} {d0 l0 d1 l1 d' l' : Addr} {L : List Addr} (A : Ar S md dl v0 o0 v1 o1) (hS : ZEF a H S n sm c ds ts []) (hm : H md = some (.dK (ZEf m))) (hd : H dl = some (.lst dvs)) (hD : ZEt H dvs ds) (hL : LM sm m c ds ts N) (g0 : VS a H S v0 o0 d0 l0 sm ts t0 i) (g1 : VS a H S v1 o1 d1 l1 sm ts t1 i) (hdd : d0 ≠ d1) (nb0 : NB S o0 o1 dl p l0) (nb : NB S o0 o1 dl p l1) (h3 : ∀ r ∈ R, H r.1 = some (.lst r.2) ∧ NB S o0 o1 dl p r.1)
  (Ap : Ap S dl p o0 o1) (nd : d' = d0 ∨ H d' = none) (nl : l' = l0 ∨ ((∀ xs, H l' ≠ some (.lst xs)) ∧ l' ≠ p)) (hS' : ZEF a H' S n' sm c ds ts []) {t0' : List Int} (g' : VS a H' S v0 o0 d' l' sm ts t0' (i + 12)) (F : FrL L H H') (hLL : ∀ b ∈ L, (b = p ∧ Pot H p) ∨ b = v0 ∨ b = d0 ∨ b = S.tr ∨ b = o0) : JV a H' S md dl p v0 o0 v1 o1 R sm m ds ts t0' t1 N (i + 12) := by
 obtain ⟨⟨_, _, _, a1⟩, ⟨_, a2⟩, ⟨_, a3⟩, ⟨_, a4⟩, a5, a6⟩ := g0.what
 obtain ⟨⟨_, _, _, b1⟩, ⟨_, b2⟩, ⟨_, b3⟩, ⟨_, b4⟩, b5, b6⟩ := g1.what
 obtain ⟨_, _, s0, ⟨_, _, s1, _⟩, s3, _, s5, s6, _⟩ := id hS
 have nt : ∀ b ∈ L, ∀ xs, H b ≠ some (.tup xs) := fun b z xs g => by
  rcases hLL b z with ⟨z, _, _, pe, _⟩ | z | z | z | z
  ·rw [z, pe] at g; cases g
  ·rw [z, a1] at g; cases g
  ·rw [z, a2] at g; cases g
  ·rw [z, s1] at g; cases g
  ·rw [z, a3] at g; cases g
 have kt : ∀ b xs, H b = some (.tup xs) → H' b = some (.tup xs) := fun b xs g => F _ _ g fun z => nt b z xs g
 have kl : ∀ {e : Addr} {xs : List V}, H e = some (.lst xs) → e ≠ o0 → e ≠ p → H' e = some (.lst xs) := fun {e xs} g ne np => F _ _ g fun z => by
  rcases hLL _ z with ⟨z, _, _, pe, _⟩ | z | z | z | z
  ·exact np z
  ·rw [z, a1] at g; cases g
  ·rw [z, a2] at g; cases g
  ·rw [z, s1] at g; cases g
  ·exact ne z
 have hdd' : d' ≠ d1 := fun z => by
  rcases nd with h | h
  ·exact hdd (h.symm.trans z)
  ·rw [z, b2] at h; cases h
 have nb' : NB S o0 o1 dl p l' := by
  rcases nl with h | ⟨h, hlp⟩
  ·rw [h]; exact nb0
  ·refine ⟨fun z => ?_, fun z => ?_, fun z => ?_, fun z => ?_, fun z => ?_⟩
   ·rw [z] at h; exact h _ a3
   ·rw [z] at h; exact h _ b3
   ·rw [z] at h; exact h _ hd
   ·exact hlp z
   ·simp only [SA.ls, List.mem_cons, List.not_mem_nil, or_false] at z
    rcases z with z | z | z
    ·rw [z] at h; exact h _ s3
    ·rw [z] at h; exact h _ s5
    ·rw [z] at h; exact h _ s6
 refine ⟨⟨n', c, dvs, hS', F _ _ hm fun z => ?_, kl hd A.d0.symm Ap.d.symm, hD.tups kt, hL⟩, ⟨d', l', d1, l1, g', (g1.frL F (fun z => ?_) (fun z => ?_) (fun z => ?_) (fun z => ?_) nt).mono (by omega), hdd', nb', nb⟩, fun r hr => ⟨kl (h3 r hr).1 (h3 r hr).2.1 (h3 r hr).2.2.2.2.1, (h3 r hr).2⟩⟩
 ·rcases hLL _ z with ⟨z, _, _, pe, _⟩ | z | z | z | z
  ·rw [z, pe] at hm; cases hm
  ·rw [z, a1] at hm; cases hm
  ·rw [z, a2] at hm; cases hm
  ·rw [z, s1] at hm; cases hm
  ·rw [z, a3] at hm; cases hm
 ·rcases hLL _ z with ⟨z, _, _, pe, _⟩ | z | z | z | z
  ·rw [z, pe] at b1; cases b1
  ·exact A.vv z.symm
  ·rw [z, a2] at b1; cases b1
  ·exact b5 (by simp [SA.own, z])
  ·rw [z, a3] at b1; cases b1
 ·rcases hLL _ z with ⟨z, _, _, pe, _⟩ | z | z | z | z
  ·rw [z, pe] at b2; cases b2
  ·rw [z, a1] at b2; cases b2
  ·exact hdd z.symm
  ·exact b6 (by simp [SA.own, z])
  ·rw [z, a3] at b2; cases b2
 ·rcases hLL _ z with ⟨z, _, _, pe, _⟩ | z | z | z | z
  ·exact Ap.o1 z.symm
  ·rw [z, a1] at b3; cases b3
  ·rw [z, a2] at b3; cases b3
  ·rw [z, s1] at b3; cases b3
  ·exact A.oo z.symm
 ·rcases hLL _ z with ⟨z, _, _, pe, _⟩ | z | z | z | z
  ·exact nb.2.2.2.1 z
  ·rw [z, a1] at b4; cases b4
  ·rw [z, a2] at b4; cases b4
  ·rw [z, s1] at b4; cases b4
  ·exact nb.1 z
theorem JV.asks {Q : VK} {E : XK} (h : JV a H S md dl p v0 o0 v1 o1 R sm m ds ts ts ts N i) (A : Ar S md dl v0 o0 v1 o1) (Ap : Ap S dl p o0 o1) (hp : Pot H p) (hN : N ≤ 60) (hi : i ≤ 9000)
  (k : ∀ H', JV a H' S md dl p v0 o0 v1 o1 R sm m ds ts ts ts N (i + 12) → Pot H' p → Q (.bl true) H') : ZLn a [.ref v0, .ref o0, .ref md] H Q E := by
 obtain ⟨⟨n, c, dvs, hS, hm, hd, hD, hL⟩, ⟨d0, l0, d1, l1, g0, g1, hdd, nb0, nb1⟩, h3⟩ := h
 refine ⟨S, v0, o0, md, d0, l0, n, sm, m, c, ds, ts, i, rfl, hS, g0, by omega, by have := hL.t; omega, nb0.1, A.s0, hm, hL.eqv, hL.nd, by have := hL.m; omega, hL.hb, fun n' l' H' nl hS' g' F => ?_⟩
 refine k H' (JV.view A hS hm hd hD hL g0 g1 hdd nb0 nb1 h3 Ap (.inl rfl) (.inr ⟨(fun xs z => by rw [nl] at z; cases z), fun z => by obtain ⟨_, _, e, _⟩ := hp; rw [z, e] at nl; cases nl⟩) hS' g' F fun b hb => by simp only [List.mem_cons, List.not_mem_nil, or_false] at hb; rcases hb with z | z | z | z <;> simp [z]) ?_
 obtain ⟨x1, x2, e, r⟩ := hp
 refine ⟨x1, x2, F _ _ e fun z => ?_, r⟩
 obtain ⟨⟨_, _, _, a1⟩, ⟨_, a2⟩, _⟩ := g0.what
 obtain ⟨_, _, _, ⟨_, _, s1, _⟩, _⟩ := id hS
 simp only [List.mem_cons, List.not_mem_nil, or_false] at z
 rcases z with z | z | z | z
 ·rw [z, a1] at e; cases e
 ·rw [z, a2] at e; cases e
 ·rw [z, s1] at e; cases e
 ·exact Ap.o0 z
theorem JV.moves {Q : VK} {E : XK} (h : JV a H S md dl p v0 o0 v1 o1 R sm m ds ts ts ts N i) (A : Ar S md dl v0 o0 v1 o1) (Ap : Ap S dl p o0 o1) (hp : Pot H p) (hN : N ≤ 60)
  (k : ∀ H', JV a H' S md dl p v0 o0 v1 o1 R sm m ds ts ts ts N (i + 12) → Pot H' p → Q (.bl true) H') : ZN0 a [.ref p, .ref v0, .ref o0] H Q E := by
 obtain ⟨⟨n, c, dvs, hS, hm, hd, hD, hL⟩, ⟨d0, l0, d1, l1, g0, g1, hdd, nb0, nb1⟩, h3⟩ := h
 refine ⟨S, p, v0, o0, d0, l0, n, sm, c, ds, ts, i, rfl, hp, hS, g0, by have := hL.t; omega, nb0.1, Ap.o0, nb0.2.2.2.1.symm, Ap.s, A.s0, fun d' l' H' nd nl P' hS' g' F => ?_⟩
 exact k H' (JV.view A hS hm hd hD hL g0 g1 hdd nb0 nb1 h3 Ap nd (nl.imp id fun h => ⟨h, fun z => by obtain ⟨_, _, e, _⟩ := hp; rw [z] at h; exact h _ e⟩) hS' g' F fun b hb => by simp only [List.mem_cons, List.not_mem_nil, or_false] at hb; rcases hb with z | z | z | z <;> simp [z, hp]) P'
theorem VS.done {v o d l : Addr} (g : VS a H S v o d l sm ts ts i) {n : Int} {c : Nat} (hS : ZEF a H S n sm c ds ts []) (hp : Pot H p) (hm : H md = some (.dK (ZEf m))) (n1 : p ≠ o) (n2 : p ≠ l) (h1 : o ≠ dl) (h2 : l ≠ dl) (h3 : o ∉ S.ls) (h4 : l ∉ S.ls) {dvs : List V} (hd : H dl = some (.lst dvs)) (F : FrL (p :: md :: dl :: S.own) H H') (t : Int) (w : Option Int) : VS a H' S v o d l (ZE5 sm t w) (ts ++ [t]) ts i := by
 obtain ⟨⟨_, _, _, a1⟩, ⟨_, a2⟩, ⟨_, a3⟩, ⟨_, a4⟩, a5, a6⟩ := g.what
 obtain ⟨x1, x2, pe, _⟩ := id hp
 refine (g.deed hS.nd t w).frL F ?_ ?_ ?_ ?_ ?_
 ·intro z
  simp only [List.mem_cons] at z
  rcases z with z | z | z | z
  ·rw [z, pe] at a1; cases a1
  ·rw [z, hm] at a1; cases a1
  ·rw [z, hd] at a1; cases a1
  ·exact a5 (List.mem_cons_of_mem _ z)
 ·intro z
  simp only [List.mem_cons] at z
  rcases z with z | z | z | z
  ·rw [z, pe] at a2; cases a2
  ·rw [z, hm] at a2; cases a2
  ·rw [z, hd] at a2; cases a2
  ·exact a6 (List.mem_cons_of_mem _ z)
 ·intro z
  simp only [List.mem_cons] at z
  rcases z with z | z | z | z
  ·exact n1 z.symm
  ·rw [z, hm] at a3; cases a3
  ·exact h1 z
  ·exact hS.nown a3 (fun _ _ _ z => by cases z) (fun ⟨_, z⟩ => by cases z) (fun _ z => by cases z) (fun _ => h3) z
 ·intro z
  simp only [List.mem_cons] at z
  rcases z with z | z | z | z
  ·exact n2 z.symm
  ·rw [z, hm] at a4; cases a4
  ·exact h2 z
  ·exact hS.nown a4 (fun _ _ _ z => by cases z) (fun ⟨_, z⟩ => by cases z) (fun _ z => by cases z) (fun _ => h4) z
 ·intro b z xs e
  simp only [List.mem_cons] at z
  rcases z with z | z | z | z
  ·rw [z, pe] at e; cases e
  ·rw [z, hm] at e; cases e
  ·rw [z, hd] at e; cases e
  ·exact hS.noTup b z xs e
theorem JV.deeds {Q : VK} {E : XK} {q : Addr} (h : JV a H S md dl p v0 o0 v1 o1 R sm m ds ts ts ts N i) (A : Ar S md dl v0 o0 v1 o1) (Ap : Ap S dl p o0 o1) (hp : Pot H p) (hN : N ≤ 60) {b y mm : Int} (hW : ZFd H q b y mm)
  (k1 : ∀ H', JV a H' S md dl p v0 o0 v1 o1 R sm m ds ts ts ts N i → Pot H' p → Q .non H') (k2 : ∀ t o m' ds' H', JV a H' S md dl p v0 o0 v1 o1 R (ZE5 sm t o) m' ds' (ts ++ [t]) ts ts (N + 1) i → Pot H' p → Q (.int t) H') : ZRZ a [.ref p, .ref S.p, .ref md, .ref dl, .ref q] H Q E := by
 obtain ⟨hLS, ⟨d0, l0, d1, l1, g0, g1, hdd, nb0, nb1⟩, h3⟩ := id h
 obtain ⟨n, c, dvs, hS, hm, hd, hD, hL⟩ := id hLS
 refine ⟨p, md, dl, q, S, b, y, mm, sm, m, ds, ts, N, rfl, hp, Ap.s, Ap.d, A.ms, A.ds, hW, hLS, hN, fun H' P' hL' K' => k1 H' (h.pot Ap hp K') P', fun t o m' ds' H' hL' P' F => ?_⟩
 refine k2 t o m' ds' H' ⟨hL', ⟨d0, l0, d1, l1, g0.done hS hp hm Ap.o0 nb0.2.2.2.1.symm A.d0 nb0.2.2.1 A.s0 nb0.2.2.2.2 hd F t o, g1.done hS hp hm Ap.o1 nb1.2.2.2.1.symm A.d1 nb1.2.2.1 A.s1 nb1.2.2.2.2 hd F t o, hdd, nb0, nb1⟩, fun r hr => ⟨F _ _ (h3 r hr).1 fun z => ?_, (h3 r hr).2⟩⟩ P'
 obtain ⟨e, r1, r2, r3, r4, r5⟩ := h3 r hr
 simp only [List.mem_cons] at z
 rcases z with z | z | z | z
 ·exact r4 z
 ·rw [z, hm] at e; cases e
 ·exact r3 z
 ·exact hS.nown e (fun _ _ _ z => by cases z) (fun ⟨_, z⟩ => by cases z) (fun _ z => by cases z) (fun _ => r5) z
end
def ZJJ (b y m t : Int) : V := if 0 ≤ (t - b) / y ∧ (t - b) / y < m then .int ((t - b) / y) else .non
def ZXc : Sp := fun vs H Q _ => ∃ (p : Addr) (b y m t : Int), vs = [.ref p, .int t] ∧ H p = some (.tup [.int b, .int y, .int m]) ∧ 0 < y ∧ y < 2 ^ 250 ∧ Q (ZJJ b y m t) H
theorem ZVv {b y m t : Int} {j : Nat} (hy : 0 < y) (hj : (j : Int) < m) : decide (V.int (j : Int) = ZJJ b y m t) = (decide (b + (j : Int) * y ≤ t) && decide (t < b + (j : Int) * y + y)) := by
 rw [Bool.eq_iff_iff, Bool.and_eq_true, decide_eq_true_iff, decide_eq_true_iff, decide_eq_true_iff]
 unfold ZJJ
 constructor
 ·intro h
  split at h
  ·injection h with h
   have := ZRQ (b := b) (t := t) hy
   rw [← h] at this
   exact this
  ·cases h
 ·rintro ⟨h1, h2⟩
  have := col_of (b := b) (m := m) (x := b + (j : Int) * y) (z := b + (j : Int) * y + y) hy ⟨(j : Int), by omega, hj, rfl, rfl⟩ h1 h2
  rw [if_pos ⟨this.1, this.2.1⟩]
  congr 1
  have e := this.2.2.1
  have : (j : Int) * y = (t - b) / y * y := by omega
  exact Int.eq_of_mul_eq_mul_right (by omega) this
section
variable {P : Program} {w : World} {K : W.Frag} {mg : Str → Option Value} {base : Heap} {a : Ad}
theorem ZKM : ZEJ ["_law_window_here", "_law_t", "_law_k"] ["_law_window_here", "_law_t"] (ZEE ZJD) := ZEe
theorem ZON (T : Txt K mg a) : ZEM P w K mg base CX0 1 a.Jt a.Jm ["_law_window_here", "_law_t"] ZXc := by
 refine T.ZBb.ok ZKM (by walk_at "l") (fun cdv A outer s H vs Q E hr h => ?_)
 ·obtain ⟨p, b, y, m, t, rfl, hT, hy, hy2, q⟩ := h
  refine ⟨_, QB.h (ZEC (qsS (i := 2) ZKM.nd (ZEG ZGS (ZEG ZFb (qv 1) (ZEO (ZEY K rfl) (qv 0) ZEB)) (ZEO (ZEY K rfl) (qv 0) ZEB))) (ZED (ZES (ZIt (ZIu ZHc ZJw ZEB (qv 2) (ZEO (ZEY K rfl) (qv 0) ZEB)) (qv 2) ZFH)))), ?_⟩
  walk_at "s"
  walk_at "w"
  refine ZEp (fun h1 => ?_) (fun h1 => ?_)
  ·walk_at "w"
   refine ZEp (fun h2 => ?_) (fun h2 => ?_)
   ·walk_at "w"
    unfold ZJJ at q
    rw [if_pos ⟨h1, h2⟩] at q
    exact q
   ·walk_at "w"
    unfold ZJJ at q
    rw [if_neg (fun z => h2 z.2)] at q
    exact q
  ·walk_at "w"
   refine ZEw ?_
   walk_at "w"
   unfold ZJJ at q
   rw [if_neg (fun z => h1 z.1)] at q
   exact q
end
theorem ZPx (f : Nat → Bool) {ks : List Nat} {i : Nat} (h : i < ks.length) : (ks.take (i + 1)).filter f = (ks.take i).filter f ++ (if f ks[i] = true then [ks[i]] else []) := by
 rw [List.take_succ, List.getElem?_eq_getElem h, List.filter_append]
 congr 1
 simp only [Option.toList]
 cases hf : f ks[i] <;> simp [List.filter, hf]
theorem VS.look {a : Ad} {H H' : Hp} {S : SA} {v o d l q l' : Addr} {sm : PL} {ts tl tl' : List Int} {i : Nat} {b y m k : Int} {kvs : List (List Key × V)} {e : Nat} (hV : ZE0 a H S v d b y m k kvs e sm ts) (hW : ZFd H q b y m) (hm : m ≤ 12) (hk : kvs.length ≤ i) (he : e ≤ tl'.length) (h1 : H' o = some (.lst [.ref q, .ref l', .int k])) (h2 : H' l' = some (.lst (ZFK (ZFh kvs (tl'.drop e) b y m.toNat)))) (F : FrL [o] H H') (nv : v ≠ o) (nd : d ≠ o) (nt : ∀ xs, H o ≠ some (.tup xs)) : VS a H' S v o d l' sm ts tl' i :=
 ⟨b, y, m, k, kvs, e, q, hV.frL F (by simpa using nv) (by simpa using nd) (fun b hb xs => by obtain rfl : b = o := (by simpa using hb); exact nt xs), h1, ⟨F _ _ hW.1 fun z => by obtain rfl : q = o := (by simpa using z); exact nt _ hW.1, hW.2⟩, hm, h2, he, hk⟩
theorem JV.ends {a : Ad} {H : Hp} {S : SA} {md dl p v0 o0 v1 o1 : Addr} {R : List (Addr × List V)} {sm m : PL} {ds : List (Int × Option Int)} {ts : List Int} {N i : Nat} {Q : VK} {E : XK} (h : JV a H S md dl p v0 o0 v1 o1 R sm m ds ts ts ts N i) (A : Ar S md dl v0 o0 v1 o1) (hN : N ≤ 60) (hi : i ≤ 9000)
  (k : ∀ p' H', JV a H' S md dl p' v0 o0 v1 o1 R sm m ds ts ts ts N (i + 12) → Q (.bl true) H') : ZLn a [.ref v0, .ref o0, .ref md] H Q E := by
 obtain ⟨⟨_, _, _, hS0, _⟩, _⟩ := id h
 obtain ⟨_, _, hsp, _⟩ := id hS0
 obtain ⟨h, Ap⟩ := h.newp' (q := S.p) fun xs z => by rw [hsp] at z; cases z
 obtain ⟨⟨n, c, dvs, hS, hm, hd, hD, hL⟩, ⟨d0, l0, d1, l1, g0, g1, hdd, nb0, nb1⟩, h3⟩ := h
 refine ⟨S, v0, o0, md, d0, l0, n, sm, m, c, ds, ts, i, rfl, hS, g0, by omega, by have := hL.t; omega, nb0.1, A.s0, hm, hL.eqv, hL.nd, by have := hL.m; omega, hL.hb, fun n' l' H' nl hS' g' F => ?_⟩
 exact k S.p H' (JV.view A hS hm hd hD hL g0 g1 hdd nb0 nb1 h3 Ap (.inl rfl) (.inr ⟨(fun xs z => by rw [nl] at z; cases z), fun z => by rw [z, hsp] at nl; cases nl⟩) hS' g' F fun b hb => by simp only [List.mem_cons, List.not_mem_nil, or_false] at hb; rcases hb with z | z | z | z <;> simp [z])
def ZMf (K : W.Frag) : Sp := fun vs H Q _ => ∃ (s : Addr) (ns : List Int), vs = [.ref s] ∧ SqL K H s (ns.map V.int) ∧ ns.length ≤ 63 ∧ ∀ H', Q (.bl true) H'
section
variable {P : Program} {w : World} {K : W.Frag} {mg : Str → Option Value} {base : Heap} {a : Ad}
theorem ZFk : ZEJ ["_law_script", "_law_pot_here", "_law_window_here", "_law_made", "_law_other", "_law_store", "_law_views", "_law_own", "_law_done", "_law_number", "_law_at", "_law_t", "_law_one", "_law_way"] ["_law_script"] (ZEE ZGQ) := ZEe
theorem ZXd (T : Txt K mg a) : ZEM P w K mg base CX0 9 a.ZC2 a.ZCy ["_law_script"] (ZMf K) := by
 refine T.ZDu.ok ZFk (by walk_at "l") (fun cdv A outer s H vs Q E hr h => ?_)
 ·obtain ⟨s, ns, rfl, hS, hn, k⟩ := h
  have hu := ZF9 hr
  have hu64 := hr.units
  refine ⟨_, QB.h (ZEC (qsS (i := 1) ZFk.nd (qcS (ZNx T) hr.m T.ZCr T.ZBl.kp T.ZCo (ZD9 (qcS (ZL6 T) hr.m T.ZCK T.ZBM.kp T.ZCI (ZD9 (qv 0) (ZD9 ZEB ZEA))) ZEA))) (ZEC (qsS (i := 2) ZFk.nd (qcS (ZOL T) hr.m T.ZC4 T.ZBU.kp T.ZCs (ZD9 (qv 1) ZEA))) (ZEC (qsS (i := 3) ZFk.nd (qcS (ZPp T) hr.m T.ZC7 T.ZBq.kp T.ZC6 (ZD9 (qv 1) (ZD9 (qv 2) ZEA)))) (ZEC (qsS (i := 4) ZFk.nd (ZEO (ZEY K rfl) (qcS (ZL9 T) hr.m T.ZCG T.ZBO.kp T.ZCW (ZD9 (qv 1) (ZD9 (qv 2) ZEA))) ZEB)) (ZEC (ZEg (ZGJ (ZFy (qcS (ZIX T) hr.m T.Jk T.Yr.kp T.Jp (ZD9 (qv 4) ZEA)))) (ZED (qsS (i := 4) ZFk.nd (qv 2))) ZEd) (ZEC (qsS (i := 5) ZFk.nd (ZJ2 T.ZDO (ZJ9 T) hr rfl T.ZDV T.ZBG .nil ZEz (ZD9 (ZGa (ZHB K rfl) rfl T.Z2 ZG6 (ZD9 (ZGb (N := ["_law_script", "_law_pot_here", "_law_window_here", "_law_made", "_law_other", "_law_store", "_law_views", "_law_own", "_law_done", "_law_number", "_law_at", "_law_t", "_law_one", "_law_way"]) (sc := ZEE ZGQ) (own := ["_law_t"]) (caps := ["_law_made"]) (ks := [3]) rfl rfl rfl ⟨rfl, by decide +kernel, by decide +kernel, by decide +kernel, by decide +kernel, rfl, by decide +kernel⟩ (ZFz K rfl (ZEk (ZK9 rfl) rfl T.YS ZH8 (ZD9 (qv 3) ZEA))) (fun _ _ _ _ _ => ZFo (i := 0) (show List.Nodup (α := Str) ["_law_t", "_law_made"] from by decide +kernel) rfl (by walk_at "o") (.inr rfl)) (fun _ _ _ _ _ => ZHA) (fun _ _ _ _ _ => ZEb (ZD9 (qv 0) (ZD9 (ZHD hu (qv 1) (qv 0)) ZEA)))) ZEA)) ZEA))) (ZEC (qsS (i := 6) ZFk.nd (ZFX (ZD9 (ZJ2 T.ZCp (ZH5 T) hr.m rfl T.ZDD T.JB .nil ZEz (ZD9 (qv 5) (ZD9 (qv 2) ZEA))) (ZD9 (ZJ2 T.ZCp (ZH5 T) hr.m rfl T.ZDD T.JB .nil ZEz (ZD9 (qv 5) (ZD9 (qv 4) ZEA))) ZEA)))) (ZEC (qsS (i := 7) ZFk.nd (ZFX (ZD9 (ZFX (ZD9 (qv 2) (ZD9 (ZFX ZEA) (ZD9 ZEB ZEA)))) (ZD9 (ZFX (ZD9 (qv 4) (ZD9 (ZFX ZEA) (ZD9 ZEB ZEA)))) ZEA)))) (ZEC (qsS (i := 8) ZFk.nd (ZFX ZEA)) (ZEC (ZGK PassesOwn.never rfl (ZFz K rfl (ZEG ZWb (ZFX (ZD9 (qcS (ZL6 T) hr.m T.ZCK T.ZBM.kp T.ZCI (ZD9 (qv 0) (ZD9 ZEB ZEA))) ZEA)) (ZMw (ZUz K rfl) (qv 0) (ZLX ZEB) (ZLX ZEB)))) (qgN (i := 9) ZFk.nd) (ZEC (qsS (i := 1) ZFk.nd (qcS (ZNx T) hr.m T.ZCr T.ZBl.kp T.ZCo (ZD9 (qv 9) ZEA))) (ZEC (qsS (i := 10) ZFk.nd (qcS (ZEo T) hr.m T.ZJ T.ZI.kp T.ZK (ZD9 (qv 1) (ZD9 ZEB ZEA)))) (ZEC (ZEg (ZEQ (ZE9) (qcS (ZEo T) hr.m T.ZJ T.ZI.kp T.ZK (ZD9 (qv 1) (ZD9 ZEB ZEA))) ZEB (ZEW _)) (ZED (ZEg (ZGJ (ZFy (qcS (ZPw T) hr T.ZDE T.ZBo.kp T.ZDF (ZD9 (qv 1) (ZD9 (ZEO (ZEi K rfl) (qv 6) (qv 10)) (ZD9 (ZEO (ZEi K rfl) (qv 7) (qv 10)) ZEA)))))) (ZED (ZES ZIr)) ZEd)) (ZEC (qsS (i := 11) ZFk.nd (qcS (ZRa T) hr T.ZDL T.ZCL.kp T.ZDN (ZD9 (qv 1) (ZD9 (qv 5) (ZD9 (qv 3) (ZD9 (qv 8) (ZD9 (ZEO (ZEi K rfl) (ZEO (ZEi K rfl) (qv 7) (qv 10)) ZEB) ZEA))))))) (ZED (ZGK PassesOwn.never rfl (ZFz K rfl (qv 7)) (qgN (i := 12) ZFk.nd) (ZED (ZVQ (ZGb (N := ["_law_script", "_law_pot_here", "_law_window_here", "_law_made", "_law_other", "_law_store", "_law_views", "_law_own", "_law_done", "_law_number", "_law_at", "_law_t", "_law_one", "_law_way"]) (sc := ZEE ZGQ) (own := ["_law_k"]) (caps := ["_law_t", "_law_one"]) (ks := [11, 12]) rfl rfl rfl ⟨rfl, by decide +kernel, by decide +kernel, by decide +kernel, by decide +kernel, rfl, by decide +kernel⟩ (ZFz K rfl (ZEO (ZEi K rfl) (qv 12) ZEB)) (fun _ _ _ _ _ => ZFo (i := 0) (show List.Nodup (α := Str) ["_law_k", "_law_t", "_law_one"] from by decide +kernel) rfl (by walk_at "o") (.inr rfl)) (fun _ _ _ _ _ => ZKU (QW.pt (ZJ0 (ZEQ (ZIa) (qv 1) ZFH (ZEW _)) (ZId (ZEQ (ZXj) (qv 0) (qcS (ZON T) hr.m T.ZCz T.ZBb.kp T.ZC3 (ZD9 (ZEO (ZEi K rfl) (qv 2) ZEB) (ZD9 (qv 1) ZEA))) (ZEW _)))))) (fun _ _ _ _ _ => qv 0)) (ZIe (qv 12) ZEB ZGm))))))) (ZEC (qsS (i := 13) ZFk.nd (qcS (ZEo T) hr.m T.ZJ T.ZI.kp T.ZK (ZD9 (qv 1) (ZD9 ZEB ZEA)))) (ZEC (ZEg (QW.pt (ZGg (ZEQ (ZKv) (qv 13) ZEB (ZEW _)) (ZGN (ZGJ (ZFy (qcS (ZHk T) hr T.JD T.Ye.kp T.JG (ZD9 (ZEO (ZEi K rfl) (qv 6) (qv 10)) (ZD9 (ZEO (ZEi K rfl) (qv 7) (qv 10)) (ZD9 (qv 3) ZEA))))))))) (ZED (ZES ZIr)) ZEd) (ZED (ZEg (QW.pt (ZGg (ZEQ (ZE9) (qv 13) ZEB (ZEW _)) (ZGN (ZGJ (ZFy (qcS (ZHk T) hr T.JD T.Ye.kp T.JG (ZD9 (ZEO (ZEi K rfl) (qv 6) (ZEG ZFb ZEB (qv 10))) (ZD9 (ZEO (ZEi K rfl) (qv 7) (ZEG ZFb ZEB (qv 10))) (ZD9 (qv 3) ZEA))))))))) (ZED (ZES ZIr)) ZEd)))))))) (ZED (ZES (ZJX (qcS (ZHk T) hr T.JD T.Ye.kp T.JG (ZD9 (ZEO (ZEi K rfl) (qv 6) ZEB) (ZD9 (ZEO (ZEi K rfl) (qv 7) ZEB) (ZD9 (qv 3) ZEA)))) (ZJW (qcS (ZHk T) hr T.JD T.Ye.kp T.JG (ZD9 (ZEO (ZEi K rfl) (qv 6) ZEB) (ZD9 (ZEO (ZEi K rfl) (qv 7) ZEB) (ZD9 (qv 3) ZEA)))))))))))))))))), ?_⟩
  walk_at "s"
  walk_at "w"
  refine ⟨s, ns, 0, rfl, hS, by decide, ?_⟩
  walk_at "w"
  refine ⟨_, rfl, fun p H1 n1 P1 S1 => ?_⟩
  walk_at "w"
  refine ⟨p, rfl, P1, fun q b y m H2 hW hm P2 K2 => ?_⟩
  walk_at "w"
  refine ⟨p, q, b, y, m, rfl, P2, hW, fun d ps H3 n3 f3 hnd hpl hps P3 K3 => ?_⟩
  have np : ∀ {e : Addr} {o : HO}, H e = some o → e ≠ p := fun g => ZET g n1
  have ntp2 : ∀ {H : Hp} {e : Addr} {xs : List V}, Pot H p → H e = some (.tup xs) → e ≠ p := fun hp g z => by
   obtain ⟨x1, x2, e, _⟩ := hp
   rw [z, e] at g; cases g
  have hW3 : ZFd H3 q b y m := ⟨K3 _ _ hW.1 (ntp2 P2 hW.1), hW.2⟩
  have ndp : d ≠ p := fun z => by
   obtain ⟨x1, x2, e, _⟩ := P3
   rw [z, e] at f3; cases f3
  walk_at "w"
  refine ⟨p, q, b, y, m, rfl, P3, hW3, fun u b1 y1 m1 H3b hst P3b K3b => ?_⟩
  have K13 : Kp p H1 H3b := (K2.trans K3).trans K3b
  have S03 : ZEI H H3b := fun e o g => K13 _ _ (S1 _ _ g) (np g)
  have hW3b : ZFd H3b q b y m := ⟨K3b _ _ hW3.1 (ntp2 P3 hW3.1), hW.2⟩
  have f3b := K3b _ _ f3 ndp
  obtain ⟨nm, cc, qq, hu1, hqq, hstp⟩ := id hst
  have hy2 := ZGE hW
  have hb1 : 0 < y1 ∧ y1 ≤ 4398046511104 ∧ 1 ≤ m1 ∧ m1 ≤ 12 := by
   have h1 := hW.2.1
   have h2 := hW.2.2.1
   rcases hstp with ⟨_, _, h, h'⟩ | ⟨_, g, _, h, h'⟩ | ⟨_, g1, g2, _, h, h'⟩ | ⟨_, _, _, _, h, h'⟩ <;> omega
  have hmul : IntMulOk y1 m1 := ZJZ (m := 50) (n := 50) (by unfold Bn; omega) (by unfold Bn; omega) (by decide)
  repeat walk_at "ri"
  refine ZGv (fun σ' H' => (∃ q2 b2 y2 m2, σ' = [some (.ref s), some (.ref p), some (.ref q), some (.ref d), some (.ref q2), none, none, none, none, none, none, none, none, none] ∧ ZFd H3b q2 b2 y2 m2 ∧ m2 ≤ 12) ∧ H3b = H') ?_ ?_
  rotate_left
  ·intro D' _ hD'
   walk_at "w"
   refine ⟨qq, b1, y1, m1, rfl, hqq, hmul, ?_⟩
   by_cases hin : -1099511627776 ≤ b1 ∧ b1 + y1 * m1 ≤ 1099511627776
   ·rw [decide_eq_true hin.1, decide_eq_true hin.2]
    have hz : 0 ≤ y1 * m1 := Int.mul_nonneg (by omega) (by omega)
    have hWV : ZIW b1 y1 m1 := ⟨by omega, by omega, by omega, ⟨by omega, by omega⟩, by rw [Int.mul_comm]; exact ⟨by omega, by omega⟩⟩
    walk_at "w"
    refine ZEw ?_
    walk_at "w"
    exact hD' _ _ ⟨⟨qq, b1, y1, m1, rfl, ⟨hqq, hWV⟩, hb1.2.2.2⟩, rfl⟩
   ·have hf : (decide (-1099511627776 ≤ b1) && decide (b1 + y1 * m1 ≤ 1099511627776)) = false := by
     rw [Bool.eq_false_iff]
     intro z
     rw [Bool.and_eq_true, decide_eq_true_iff, decide_eq_true_iff] at z
     exact hin z
    rw [hf]
    walk_at "w"
    refine ZFD ?_
    walk_at "w"
    exact hD' _ _ ⟨⟨q, b, y, m, rfl, hW3b, by omega⟩, rfl⟩
  rintro σ' H' ⟨⟨q2, b2, y2, m2, rfl, hW2, hm2⟩, rfl⟩
  walk_at "w"
  refine ZLA f3b (by omega) fun l4 H4 is n4 f4 hp hs S4 => ?_
  have hnl : is.length = ps.length := by have := hp.length_eq; simpa using this
  walk_at "w"
  intro l5 n5
  refine ZGZ is.length (fun i σ' H' => (∃ o, σ' = [o, some (.ref d)]) ∧ ZEI H4 H' ∧ ∃ vs, H' l5 = some (.lst vs) ∧ ZEP H' vs ((ZFZ ps is).take i)) ?_ ?_ ?_
  ·exact ⟨⟨none, rfl⟩, ZEI.new n5, [], ZEN, .nil⟩
  ·rintro σ H' ⟨_, s5, vs, f5, hPc⟩
   refine ⟨⟨_, SqL.of (s5 _ _ f4), by simp⟩, ?_⟩
   walk_at "w"
   refine ZHm (SqL.of f5) fun t H6 n6 f6 S6 => ?_
   have ecv : (ZFZ ps is).take is.length = ZFZ ps is := List.take_of_length_le (by simp [ZFZ])
   rw [ecv] at hPc
   have hT6 : PrT H6 t (ZFZ ps is) := ⟨vs, f6, hPc.same S6⟩
   have S36 := (S4.trans s5).trans S6
   have hcv := ZPP hnd hp hs
   walk_at "w"
   refine ZJ3 fun x7 dx7 H7 n7 f7 S7 => ?_
   have hcl : (ZFZ ps is).length ≤ 24 := by unfold ZFZ; rw [List.length_map, hnl]; exact hpl
   have htm : ∀ r ∈ ZFZ ps is, Tm r.1 := fun r hr => (hps r ((ZE1 hnd).mp ((hcv.2 r.1 r.2).mp hr))).1
   refine ⟨x7, dx7, .ref t, _, rfl, f7, .inr ⟨t, rfl, hT6.same S7⟩, ZQ4 hcv.1, htm, by omega, fun S sm H8 hSp hfr8 hS8 hm8 hl8 K8 => ⟨rfl, ?_⟩⟩
   subst hSp
   have hE : Eqv sm ps := fun r => (hm8 r).trans ((hcv.2 r.1 r.2).trans (ZE1 hnd))
   have S68 : ZEI H6 H8 := fun e o g => K8 _ _ (S7 _ _ g) (ZET g n7)
   have S38 : ZEI H3b H8 := S36.trans S68
   walk_at "w"
   refine ZJ3 fun v0 dv0 H9 n9 f9 S9 => ?_
   have av0 : v0 ∉ S.p :: S.own := hS8.apart (l := [v0]) (fun b hb => by obtain rfl : b = v0 := (by simpa using hb); exact n9) v0 (by simp)
   refine ⟨S, v0, dv0, q, b, y, m, 0, sm, _, [], [], [], rfl, f9, hS8.same S9, ⟨S9 _ _ (S38 _ _ hW3b.1), hW.2⟩, av0, fun d0 H10 n10 hV10 hS10 K10 => ⟨rfl, ?_⟩⟩
   have S810 : ZEI H8 H10 := fun e o g => K10 _ _ (S9 _ _ g) (ZET g n9)
   have S310 := S38.trans S810
   walk_at "w"
   refine ZJ3 fun v1 dv1 H11 n11 f11 S11 => ?_
   have av1 : v1 ∉ S.p :: S.own := hS10.apart (l := [v1]) (fun b hb => by obtain rfl : b = v1 := (by simpa using hb); exact n11) v1 (by simp)
   refine ⟨S, v1, dv1, q2, b2, y2, m2, 0, sm, _, [], [], [], rfl, f11, hS10.same S11, ⟨S11 _ _ (S310 _ _ hW2.1), hW2.2⟩, av1, fun d1 H12 n12 hV12 hS12 K12 => ⟨rfl, ?_⟩⟩
   have S1012 : ZEI H10 H12 := fun e o g => K12 _ _ (S11 _ _ g) (ZET g n11)
   have hV0 := hV10.same S1012
   obtain ⟨dxa, qa, va, _, da, _⟩ := id hV10
   have nvv : v0 ≠ v1 := ZET va n11
   have ndd : d0 ≠ d1 := fun z => by rw [← z, S11 _ _ da] at n12; cases n12
   have S312 := S310.trans S1012
   walk_at "w"
   refine ZEK (by show 2 ≤ sizeLine; decide) fun lv H13 n13 f13 S13 => ?_
   walk_at "w"
   refine ZEK (by show 0 ≤ sizeLine; decide) fun l0 H14 n14 f14 S14 => ?_
   walk_at "w"
   refine ZEK (by show 3 ≤ sizeLine; decide) fun o0 H15 n15 f15 S15 => ?_
   walk_at "w"
   refine ZEK (by show 0 ≤ sizeLine; decide) fun l1 H16 n16 f16 S16 => ?_
   walk_at "w"
   refine ZEK (by show 3 ≤ sizeLine; decide) fun o1 H17 n17 f17 S17 => ?_
   walk_at "w"
   refine ZEK (by show 2 ≤ sizeLine; decide) fun lo H18 n18 f18 S18 => ?_
   walk_at "w"
   refine ZEK (by show 0 ≤ sizeLine; decide) fun dl H19 n19 f19 S19 => ?_
   have hsS : SqL K H12 s (ns.map V.int) := (S03.trans S312).seq hS
   have S1219 := S13.trans (S14.trans (S15.trans (S16.trans (S17.trans (S18.trans S19)))))
   walk_at "w"
   refine ⟨s, ns, _, rfl, S1219.seq hsS, by decide, ?_⟩
   walk_at "w"
   refine ZEK (by show 1 ≤ sizeLine; decide) fun l20 H20 n20 f20 S20 => ?_
   walk_at "w"
   refine ZWz (S20.seq (S1219.seq hsS)) fun l21 H21 n21 f21 S21 => ?_
   have hcl2 := ZIL (ns.map V.int) (some 2) (some 30)
   have hcl3 : (ZGe (ns.map V.int) (some 2) (some 30)).length ≤ 28 := by
    unfold ZGe
    rw [List.length_take]
    have e1 : HT.sIx (ns.map V.int).length (ns.map V.int).length (some (30 : Int)) ≤ 30 := by
     rw [show (30 : Int) = ((30 : Nat) : Int) from rfl, HT.sIx_nat]; exact Nat.min_le_left _ _
    have e2 : min 2 (ns.map V.int).length = HT.sIx (ns.map V.int).length 0 (some (2 : Int)) := by
     rw [show (2 : Int) = ((2 : Nat) : Int) from rfl, HT.sIx_nat]
    by_cases h2 : 2 ≤ (ns.map V.int).length
    ·rw [Nat.min_eq_left h2] at e2
     omega
    ·refine Nat.le_trans (Nat.min_le_right _ _) ?_
     rw [List.length_drop]
     omega
   rw [List.length_map] at hcl2
   refine ZW0 (S21 _ _ f20) f21 (by show 1 + _ ≤ _; exact Nat.le_trans (show _ ≤ 100 by omega) (by decide)) fun ln H22 n22 f22 S22 => ?_
   generalize hxs : [V.int (ns.getD (Int.toNat 1) 0)] ++ ZGe (ns.map V.int) (some 2) (some 30) = xs at f22
   have hxl : xs.length ≤ 29 := by rw [← hxs, List.length_append]; simp only [List.length_cons, List.length_nil]; omega
   have hint : ∀ x ∈ xs, ∃ c : Int, x = .int c := by
    intro x hx
    rw [← hxs] at hx
    rcases List.mem_append.mp hx with hx | hx
    ·exact ⟨_, List.mem_singleton.mp hx⟩
    ·have : x ∈ ns.map V.int := List.mem_of_mem_drop (List.mem_of_mem_take hx)
     obtain ⟨c, _, rfl⟩ := List.mem_map.mp this
     exact ⟨c, rfl⟩
   have S1922 := S20.trans (S21.trans S22)
   have S1222 := S1219.trans S1922
   have S1522 : ZEI H15 H22 := S16.trans (S17.trans (S18.trans (S19.trans S1922)))
   have S1722 : ZEI H17 H22 := S18.trans (S19.trans S1922)
   have S1822 : ZEI H18 H22 := S19.trans S1922
   -- the places
   have lsn : ∀ {H' : Hp} {e : Addr}, ZEI H12 H' → H' e = none → e ∉ S.ls := fun s g => (hS12.same s |>.fresh g).1
   have sa : ZEI H12 H13 := S13
   have sb := sa.trans S14
   have sc := sb.trans S15
   have sd := sc.trans S16
   have se := sd.trans S17
   have sf := se.trans S18
   have ne : ∀ {H' : Hp} {e f : Addr} {o : HO}, H' e = some o → H' f = none → e ≠ f := fun g g' => ZET g g'
   have o0o1 : o0 ≠ o1 := ne (S16 _ _ f15) n17
   have o0dl : o0 ≠ dl := ne (S18 _ _ (S17 _ _ (S16 _ _ f15))) n19
   have o1dl : o1 ≠ dl := ne (S18 _ _ f17) n19
   have A : Ar S d dl v0 o0 v1 o1 := ⟨nvv, o0o1, o0dl, o1dl, lsn sb n15, lsn sd n17, lsn sf n19, fun z => by
    have := hfr8 S.d1 (by simp [SA.own])
    rw [← z, S7 _ _ (S36 _ _ f3b)] at this; cases this⟩
   have hp22 : ∀ {e : Addr} {xs : List V}, H22 e = some (.lst xs) → e ≠ S.p := fun g z => by
    obtain ⟨_, _, g', _⟩ := hS12.same S1222
    rw [z, g'] at g; cases g
   have nb0 : NB S o0 o1 dl S.p l0 := ⟨ne f14 n15, ne (S16 _ _ (S15 _ _ f14)) n17, ne (S18 _ _ (S17 _ _ (S16 _ _ (S15 _ _ f14)))) n19, hp22 (S1522 _ _ (S15 _ _ f14)), lsn sa n14⟩
   have nb1 : NB S o0 o1 dl S.p l1 := ⟨(ne f15 n16).symm, ne f16 n17, ne (S18 _ _ (S17 _ _ f16)) n19, hp22 (S1722 _ _ (S17 _ _ f16)), lsn sc n16⟩
   have flv : H22 lv = _ := (S14.trans (S15.trans (S16.trans (S17.trans (S18.trans (S19.trans S1922)))))) _ _ f13
   have flo : H22 lo = _ := S1822 _ _ f18
   have hR : ∀ r ∈ [(lv, [V.ref v0, .ref v1]), (lo, [V.ref o0, .ref o1]), (ln, xs)], H22 r.1 = some (.lst r.2) ∧ NB S o0 o1 dl S.p r.1 := by
    intro e he
    simp only [List.mem_cons, List.not_mem_nil, or_false] at he
    rcases he with rfl | rfl | rfl
    ·exact ⟨flv, ne (S14 _ _ f13) n15, ne (S16 _ _ (S15 _ _ (S14 _ _ f13))) n17, ne (S18 _ _ (S17 _ _ (S16 _ _ (S15 _ _ (S14 _ _ f13))))) n19, hp22 flv, lsn (ZEI.refl _) n13⟩
    ·exact ⟨flo, (ne (S17 _ _ (S16 _ _ f15)) n18).symm, (ne f17 n18).symm, ne f18 n19, hp22 flo, lsn se n18⟩
    ·have g0 := S21 _ _ (S20 _ _ (S19 _ _ (S18 _ _ (S17 _ _ (S16 _ _ f15)))))
     have g1 := S21 _ _ (S20 _ _ (S19 _ _ (S18 _ _ f17)))
     have g2 := S21 _ _ (S20 _ _ f19)
     exact ⟨f22, (ne g0 n22).symm, (ne g1 n22).symm, (ne g2 n22).symm, hp22 f22, lsn (S1219.trans (S20.trans S21)) n22⟩
   have ecol : ∀ b y (N : Nat), ZFh [] (([] : List Int).drop 0) b y N = [] := fun b y N => by
    unfold ZFh
    rw [List.filter_eq_nil_iff]
    intro j _
    simp [has, ZST]
   have hLM : LM sm ps (ZFZ ps is).length [] [] 24 := ⟨hE, hnd, hps, .nil, hcl, Nat.zero_le _, hpl, Nat.zero_le _⟩
   have hJ22 : JV a H22 S d dl S.p v0 o0 v1 o1 [(lv, [V.ref v0, .ref v1]), (lo, [V.ref o0, .ref o1]), (ln, xs)] sm ps [] [] [] [] 24 12 := by
    refine ⟨⟨0, _, [], hS12.same S1222, S1222 _ _ (S312 _ _ f3b), S1922 _ _ f19, .nil, hLM⟩, ⟨d0, l0, d1, l1, ⟨b, y, m, 0, [], 0, q, hV0.same S1222, S1522 _ _ f15, ⟨S1222 _ _ (S312 _ _ hW3b.1), hW.2⟩, by omega, ?_, Nat.le_refl _, Nat.zero_le _⟩, ⟨b2, y2, m2, 0, [], 0, q2, hV12.same S1222, S1722 _ _ f17, ⟨S1222 _ _ (S312 _ _ hW2.1), hW2.2⟩, hm2, ?_, Nat.le_refl _, Nat.zero_le _⟩, ndd, nb0, nb1⟩, hR⟩
    ·rw [ecol]; exact S1522 _ _ (S15 _ _ f14)
    ·rw [ecol]; exact S1722 _ _ (S17 _ _ f16)
   clear f13 f14 f15 f16 f17 f18 f19 flv flo f20 f21 hV10 hV12 hV0 hS8 hS10 hS12 f11 f9 f7 f6 f5 f4
   generalize hRR : [(lv, [V.ref v0, .ref v1]), (lo, [V.ref o0, .ref o1]), (ln, xs)] = R at hJ22
   have mlv : (lv, [V.ref v0, .ref v1]) ∈ R := by rw [← hRR]; simp
   have mlo : (lo, [V.ref o0, .ref o1]) ∈ R := by rw [← hRR]; simp
   have mln : (ln, xs) ∈ R := by rw [← hRR]; simp
   refine ZQX (SqL.of f22) ?_
   refine ZIc (xs := xs) (fun i σ H' => ∃ w1 w2 w4 w9 w10 w11 w12 w13, σ = [some (.ref s), w1, w2, some (.ref d), w4, some (.ref S.p), some (.ref lv), some (.ref lo), some (.ref dl), w9, w10, w11, w12, w13] ∧ ∃ p sm m ds ts, JV a H' S d dl p v0 o0 v1 o1 R sm m ds ts ts ts (24 + i) (72 * i + 12)) ⟨_, _, _, _, _, _, _, _, rfl, _, _, _, _, _, hJ22⟩ ?_ ?_ ?_
   ·rintro i σ H' _ ⟨_, _, _, _, _, _, _, _, _, _, _, _, _, _, _, _, hr⟩
    exact SqL.of (hr _ mln).1
   ·rintro i x σ H23 hx ⟨w1, w2, w4, w9, w10, w11, w12, w13, rfl, p0, sm, m, ds, ts, hJ⟩
    obtain ⟨num, rfl⟩ := hint x (List.mem_of_getElem? hx)
    have hil : i < 29 := Nat.lt_of_lt_of_le (List.getElem?_eq_some_iff.mp hx).1 hxl
    walk_at "w"
    refine ⟨_, rfl, fun p H24 n24 P24 S24 => ?_⟩
    obtain ⟨hJn, hAp⟩ := hJ.newp n24
    have hJ24 := hJn.same S24
    clear hJ hJn
    walk_at "w"
    refine ⟨p, _, rfl, P24, by decide, by decide, fun at_ H25 h25 h25' P25 K25 => ?_⟩
    have hJ25 := hJ24.pot hAp P24 K25
    obtain ⟨va, oa, vb, ob, eva, eoa, evb, eob, Aa, Apa, hback, hto⟩ : ∃ va oa vb ob, atI [V.ref v0, .ref v1] at_ = some (.ref va) ∧ atI [V.ref o0, .ref o1] at_ = some (.ref oa) ∧ atI [V.ref v0, .ref v1] (1 - at_) = some (.ref vb) ∧ atI [V.ref o0, .ref o1] (1 - at_) = some (.ref ob) ∧ Ar S d dl va oa vb ob ∧ Ap S dl p oa ob ∧ (∀ {H' sm m ds tx ts N j}, JV a H' S d dl p va oa vb ob R sm m ds tx ts ts N j → JV a H' S d dl p v0 o0 v1 o1 R sm m ds tx ts ts N j) ∧ (∀ {H' sm m ds tx ts N j}, JV a H' S d dl p v0 o0 v1 o1 R sm m ds tx ts ts N j → JV a H' S d dl p va oa vb ob R sm m ds tx ts ts N j) := by
     have : at_ = 0 ∨ at_ = 1 := by omega
     rcases this with rfl | rfl
     ·exact ⟨v0, o0, v1, o1, rfl, rfl, rfl, rfl, A, hAp, fun h => h, fun h => h⟩
     ·exact ⟨v1, o1, v0, o0, rfl, rfl, rfl, rfl, A.swap, hAp.swap, fun h => h.swap, fun h => h.swap⟩
    repeat walk_at "ri"
    refine ZGv (fun σ' H' => (∃ w11 w12, σ' = [some (.ref s), some (.ref p), w2, some (.ref d), w4, some (.ref S.p), some (.ref lv), some (.ref lo), some (.ref dl), some (.int num), some (.int at_), w11, w12, w13]) ∧ Pot H' p ∧ ∃ sm m ds ts, JV a H' S d dl p v0 o0 v1 o1 R sm m ds ts ts ts (24 + (i + 1)) (72 * i + 36)) ?_ ?_
    ·rintro σ' H27 ⟨⟨w11, w12, rfl⟩, P27, sm, m, ds, ts, hJ27⟩
     walk_at "w"
     refine ⟨p, _, rfl, P27, by decide, by decide, fun way H28 h28 h28' P28 K28 => ?_⟩
     have hJ28 := hto (hJ27.pot hAp P27 K28)
     have hlv8 := (hJ28.2.2 _ mlv).1
     have hlo8 := (hJ28.2.2 _ mlo).1
     clear hJ27
     repeat walk_at "ri"
     refine ZGv (fun σ' H' => σ' = [some (.ref s), some (.ref p), w2, some (.ref d), w4, some (.ref S.p), some (.ref lv), some (.ref lo), some (.ref dl), some (.int num), some (.int at_), w11, w12, some (.int way)] ∧ Pot H' p ∧ JV a H' S d dl p va oa vb ob R sm m ds ts ts ts (24 + (i + 1)) (72 * i + 48)) ?_ ?_
     ·rintro σ' H29 ⟨rfl, P29, hJ29⟩
      have hlv9 := (hJ29.2.2 _ mlv).1
      have hlo9 := (hJ29.2.2 _ mlo).1
      walk_at "w"
      rw [ZFm]
      refine ZEp (fun c1 => ?_) (fun c1 => ?_)
      ·walk_at "w"
       refine ZGH (SqL.of hlv9) evb ?_
       walk_at "w"
       refine ZGH (SqL.of hlo9) eob ?_
       walk_at "w"
       refine JV.asks hJ29.swap Aa.swap Apa.swap P29 (by omega) (by omega) fun H30 hJ30 P30 => ?_
       walk_at "w"
       refine ZEw ?_
       walk_at "w"
       exact ⟨_, _, _, _, _, _, _, _, rfl, p, _, _, _, _, (hback hJ30.swap).mono (by omega) (by omega)⟩
      ·walk_at "w"
       exact ⟨_, _, _, _, _, _, _, _, rfl, p, _, _, _, _, (hback hJ29).mono (by omega) (by omega)⟩
     ·intro D' _ hD'
      walk_at "w"
      refine ZEp (fun c1 => ?_) (fun c1 => ?_)
      ·walk_at "w"
       refine ZGH (SqL.of hlv8) eva ?_
       walk_at "w"
       refine ZGH (SqL.of hlo8) eoa ?_
       walk_at "w"
       refine JV.asks hJ28 Aa Apa P28 (by omega) (by omega) fun H30 hJ30 P30 => ?_
       walk_at "w"
       refine ZEw ?_
       walk_at "w"
       exact hD' _ _ ⟨rfl, P30, hJ30⟩
      ·walk_at "w"
       exact hD' _ _ ⟨rfl, P28, hJ28.mono (Nat.le_refl _) (by omega)⟩
    ·intro D' _ hD'
     walk_at "w"
     refine ⟨p, _, rfl, P25, by decide, by decide, fun w H26 h26 h26' P26 K26 => ?_⟩
     have hJ26 := hJ25.pot hAp P25 K26
     clear hJ24 hJ25
     have hlv := (hJ26.2.2 _ mlv).1
     have hlo := (hJ26.2.2 _ mlo).1
     walk_at "w"
     rw [ZFm]
     refine ZEp (fun c1 => ?_) (fun c1 => ?_)
     ·walk_at "w"
      refine ZGH (SqL.of hlv) eva ?_
      walk_at "w"
      refine ZGH (SqL.of hlo) eoa ?_
      walk_at "w"
      refine JV.moves (hto hJ26) Aa Apa P26 (by omega) fun H30 hJ30 P30 => ?_
      walk_at "w"
      refine ZEw ?_
      walk_at "w"
      exact hD' _ _ ⟨⟨_, _, rfl⟩, P30, _, _, _, _, (hback hJ30).mono (by omega) (by omega)⟩
     ·have hJa := hto hJ26
      obtain ⟨_, ⟨d0', l0', d1', l1', ⟨bw, yw, mw, kw, kvw, ew, qw, hVw, how, hWw, _⟩, _⟩, _⟩ := id hJa
      refine ZQU ?_
      refine ZGv (fun σ' H' => ∃ (tv : V) (sm m : PL) (ds : List (Int × Option Int)) (ts ts' : List Int), σ' = [some (.ref s), some (.ref p), w2, some (.ref d), w4, some (.ref S.p), some (.ref lv), some (.ref lo), some (.ref dl), some (.int num), some (.int at_), some tv, w12, w13] ∧ ((tv = .non ∧ ts' = ts) ∨ ∃ t, tv = .int t ∧ ts' = ts ++ [t]) ∧ JV a H' S d dl p v0 o0 v1 o1 R sm m ds ts' ts ts (24 + (i + 1)) (72 * i + 12) ∧ Pot H' p) ?_ ?_
      rotate_left
      ·intro D2 _ hD2
       walk_at "w"
       refine ZGH (SqL.of hlo) eoa ?_
       walk_at "w"
       refine JV.deeds hJa Aa Apa P26 (by omega) hWw (fun H30 hJ30 P30 => ?_) (fun t o m' ds' H30 hJ30 P30 => ?_)
       ·walk_at "w"
        exact hD2 _ _ ⟨_, _, _, _, _, _, rfl, .inl ⟨rfl, rfl⟩, (hback hJ30).mono (by omega) (Nat.le_refl _), P30⟩
       ·walk_at "w"
        exact hD2 _ _ ⟨_, _, _, _, _, _, rfl, .inr ⟨t, rfl, rfl⟩, hback hJ30, P30⟩
      clear hJa hVw how hWw hlv hlo hJ26
      rintro σ' H30 ⟨tv, sm, m, ds, ts, ts', rfl, htv, hJ30, P30⟩
      have hlo3 := (hJ30.2.2 _ mlo).1
      walk_at "w"
      refine ZIc (xs := [V.ref o0, .ref o1]) (fun j σ H' => (∃ w12, σ = [some (.ref s), some (.ref p), w2, some (.ref d), w4, some (.ref S.p), some (.ref lv), some (.ref lo), some (.ref dl), some (.int num), some (.int at_), some tv, w12, w13]) ∧ JV a H' S d dl p v0 o0 v1 o1 R sm m ds ts' (if 1 ≤ j then ts' else ts) (if 2 ≤ j then ts' else ts) (24 + (i + 1)) (72 * i + 12 + 12 * j) ∧ Pot H' p) ⟨⟨_, rfl⟩, hJ30, P30⟩ ?_ ?_ ?_
      ·rintro j σ H' _ ⟨_, hJ, _⟩
       exact SqL.of (hJ.2.2 _ mlo).1
      ·rintro j x σ H31 hx ⟨⟨w12, rfl⟩, hJ31, P31⟩
       obtain ⟨va, oa, vb, ob, tb, rfl, Aa, Apa, hJa, hnext⟩ : ∃ va oa vb ob tb, x = V.ref oa ∧ Ar S d dl va oa vb ob ∧ Ap S dl p oa ob ∧ JV a H31 S d dl p va oa vb ob R sm m ds ts' ts tb (24 + (i + 1)) (72 * i + 12 + 12 * j) ∧ ∀ H', JV a H' S d dl p va oa vb ob R sm m ds ts' ts' tb (24 + (i + 1)) (72 * i + 12 + 12 * (j + 1)) → JV a H' S d dl p v0 o0 v1 o1 R sm m ds ts' (if 1 ≤ j + 1 then ts' else ts) (if 2 ≤ j + 1 then ts' else ts) (24 + (i + 1)) (72 * i + 12 + 12 * (j + 1)) := by
        match j, hx with
        | 0, hx => exact ⟨v0, o0, v1, o1, ts, by simpa using hx.symm, A, hAp, hJ31, fun H' h => h⟩
        | 1, hx => exact ⟨v1, o1, v0, o0, ts', by simpa using hx.symm, A.swap, hAp.swap, hJ31.swap, fun H' h => h.swap⟩
        | (j + 2), hx => simp at hx
       obtain ⟨hLS, ⟨da, la, db, lb, ga, gb, hdd, nba, nbb⟩, h3⟩ := id hJa
       obtain ⟨nS, cS, dvs, hSS, hmd, hdl, hD, hLM'⟩ := id hLS
       obtain ⟨bw, yw, mw, kw, kvw, ew, qw, hVw, how, hWw, hm12, hlw, hew, hkw⟩ := id ga
       have hy2w := ZGE hWw
       have hqw := hWw.1
       generalize hks : ZFh kvw (ts.drop ew) bw yw mw.toNat = ks at hlw
       have hkm : ∀ j ∈ ks, (j : Int) < mw := fun j hj => by rw [← hks] at hj; have := ZNz hj; have := hWw.2.2.1; omega
       have hkl : ks.length ≤ 12 := by rw [← hks]; exact Nat.le_trans (ZMB _ _ _ _ _) (by have := hWw.2.2.1; omega)
       obtain ⟨f, hf1, hf2⟩ : ∃ f : Nat → Bool, (∀ j, (tv = .non → f j = true) ∧ ∀ t, tv = .int t → f j = !decide (V.int (j : Int) = ZJJ bw yw mw t)) ∧ ks.filter f = ZFh kvw (ts'.drop ew) bw yw mw.toNat := by
        rcases htv with ⟨rfl, rfl⟩ | ⟨t, rfl, rfl⟩
        ·refine ⟨fun _ => true, fun j => ⟨fun _ => rfl, fun t z => by cases z⟩, ?_⟩
         rw [hks, List.filter_eq_self]
         intro _ _; rfl
        ·refine ⟨fun j => !decide (V.int (j : Int) = ZJJ bw yw mw t), fun j => ⟨fun z => (by cases z), fun t' z => by cases z; rfl⟩, ?_⟩
         rw [List.drop_append_of_le_length hew, ZPu, hks]
         apply List.filter_congr
         intro j hj
         rw [ZVv hWw.2.1 (hkm j hj)]
       have nlk : (ZFK ks).length = ks.length := List.length_map _
       walk_at "w"
       intro l5 n5
       refine ZGZ ks.length (fun i' σ' H' => (∃ o, σ' = [o, some tv, some (.ref oa)]) ∧ ZEI H31 H' ∧ H' l5 = some (.lst (ZFK ((ks.take i').filter f)))) ?_ ?_ ?_
       ·exact ⟨⟨none, rfl⟩, ZEI.new n5, ZEN⟩
       ·rintro σ' H32 ⟨_, S32, f32⟩
        refine ⟨⟨_, SqL.of (S32 _ _ hlw), by rw [nlk]; exact Nat.le_refl _⟩, ?_⟩
        rw [List.take_length, hf2] at f32
        have how32 := S32 _ _ how
        walk_at "w"
        refine ZG8 how32 (j := 1) rfl fun H33 f33 K33 => ?_
        have K33' : Kp oa H32 H33 := K33
        simp only [List.set_cons_succ, List.set_cons_zero] at f33
        have n5o : l5 ≠ oa := fun z => by rw [z, how] at n5; cases n5
        have F33 : FrL [oa] H31 H33 := (FrL.same S32).trans (FrL.kp K33' (by simp))
        obtain ⟨dxw, q0w, vw, _, dw, _⟩ := id hVw
        have nvo : va ≠ oa := fun z => by rw [z, how] at vw; cases vw
        have ndo : da ≠ oa := fun z => by rw [z, how] at dw; cases dw
        have noO : oa ∉ S.p :: S.own := fun z => by
         rcases List.mem_cons.mp z with z | z
         ·obtain ⟨_, _, g, _⟩ := id hSS
          rw [← z, how] at g; cases g
         ·exact hSS.nown how (fun _ _ _ z => by cases z) (fun ⟨_, z⟩ => by cases z) (fun _ z => by cases z) (fun _ => Aa.s0) z
        have nt : ∀ b ∈ [oa], ∀ xs, H31 b ≠ some (.tup xs) := fun b hb xs z => by
         obtain rfl : b = oa := (by simpa using hb)
         rw [how] at z; cases z
        have hew' : ew ≤ ts'.length := by
         rcases htv with ⟨_, rfl⟩ | ⟨t, _, rfl⟩
         ·exact hew
         ·rw [List.length_append]; omega
        have g' : VS a H33 S va oa da l5 sm ts' ts' (72 * i + 12 + 12 * j + 12) := (VS.look (l := la) (tl := ts) hVw hWw hm12 hkw hew' f33 (K33 _ _ f32 n5o) F33 nvo ndo (fun xs z => by rw [how] at z; cases z)).mono (by omega)
        have hSS3 := hSS.frL F33 (fun b hb => by obtain rfl : b = oa := (by simpa using hb); exact noO) nt
        have hJ33 := JV.view Aa hSS hmd hdl hD hLM' ga gb hdd nba nbb h3 Apa (.inl rfl) (.inr ⟨(fun xs z => by rw [n5] at z; cases z), fun z => by obtain ⟨_, _, e, _⟩ := P31; rw [z, e] at n5; cases n5⟩) hSS3 g' F33 (fun b hb => by obtain rfl : b = oa := (by simpa using hb); simp)
        walk_at "w"
        refine ⟨⟨_, rfl⟩, hnext H33 ?_, ?_⟩
        ·exact hJ33.mono (Nat.le_refl _) (by omega)
        ·obtain ⟨x1, x2, e, r⟩ := P31
         exact ⟨x1, x2, F33 _ _ e (by simpa using Apa.o0), r⟩
       ·rintro i' σ' H32 hi' ⟨⟨o, rfl⟩, S32, f32⟩
        have hi2 : i' < (ZFK ks).length := by rw [nlk]; exact hi'
        refine ⟨⟨_, _, SqL.of (S32 _ _ hlw), List.getElem?_eq_getElem hi2⟩, ?_⟩
        rintro v H'' ⟨rfl, hv⟩
        have hv := hv _ (SqL.of (S32 _ _ hlw))
        have ev : v = .int (ks[i'] : Int) := by
         unfold ZFK at hv
         rw [List.getElem?_map, List.getElem?_eq_getElem hi'] at hv
         simpa using hv.symm
        subst ev
        have e3 := ZPx f hi'
        have hfl : (ZFK ((ks.take i').filter f)).length < sizeLine := by
         rw [show (ZFK ((ks.take i').filter f)).length = ((ks.take i').filter f).length from List.length_map _]
         refine Nat.lt_of_le_of_lt (List.length_filter_le _ _) ?_
         rw [List.length_take]
         exact Nat.lt_of_le_of_lt (Nat.min_le_left _ _) (Nat.lt_of_lt_of_le (show i' < 64 by omega) (by decide))
        have keepIt : f ks[i'] = true → ZFK ((ks.take (i' + 1)).filter f) = ZFK ((ks.take i').filter f) ++ [.int (ks[i'] : Int)] := fun z => by
         rw [e3, if_pos z, ZKt]; rfl
        have dropIt : f ks[i'] = false → ZFK ((ks.take (i' + 1)).filter f) = ZFK ((ks.take i').filter f) := fun z => by
         rw [e3, if_neg (by rw [z]; decide), List.append_nil]
        rcases htv with ⟨rfl, rfl⟩ | ⟨t, rfl, rfl⟩
        ·have hft := (hf1 ks[i']).1 rfl
         walk_at "w"
         refine ZFD ?_
         refine ZFD ?_
         walk_at "w"
         refine ⟨_, f32, hfl, ⟨_, rfl⟩, S32.kpN n5 Kp.upd, ?_⟩
         rw [keepIt hft]; exact ZEN
        ·have hft := (hf1 ks[i']).2 t rfl
         have how32 := S32 _ _ how
         walk_at "w"
         refine ZEw ?_
         walk_at "w"
         refine ⟨qw, bw, yw, mw, t, rfl, S32 _ _ hqw, hWw.2.1, Int.lt_of_le_of_lt hy2w (by decide), ?_⟩
         walk_at "w"
         refine ⟨by unfold ZJJ; split <;> rfl, ?_⟩
         rw [← hft]
         cases hff : f ks[i'] with
         | true =>
          walk_at "w"
          refine ZFD ?_
          walk_at "w"
          refine ⟨_, f32, hfl, ⟨_, rfl⟩, S32.kpN n5 Kp.upd, ?_⟩
          rw [keepIt hff]; exact ZEN
         | false =>
          walk_at "w"
          refine ZEw ?_
          refine ⟨⟨_, rfl⟩, S32, ?_⟩
          rw [dropIt hff]; exact f32
      ·rintro σ H32 ⟨⟨w12, rfl⟩, hJ32, P32⟩
       walk_at "w"
       exact hD' _ _ ⟨⟨_, _, rfl⟩, P32, sm, m, ds, ts', hJ32.mono (Nat.le_refl _) (by show _ ≤ 72 * i + 36; simp)⟩
   ·rintro σ H23 ⟨w1, w2, w4, w9, w10, w11, w12, w13, rfl, p0, sm, m, ds, ts, hJ⟩
    have hlv := (hJ.2.2 _ mlv).1
    have hlo := (hJ.2.2 _ mlo).1
    walk_at "w"
    refine JV.ends hJ A (by omega) (by omega) fun p4 H24 hJ24 => ?_
    have hlv4 := (hJ24.2.2 _ mlv).1
    have hlo4 := (hJ24.2.2 _ mlo).1
    walk_at "w"
    refine ZFD ?_
    walk_at "w"
    refine JV.ends hJ24.swap A.swap (by omega) (by omega) fun p5 H25 hJ25 => ?_
    walk_at "w"
    exact k _
  ·rintro i σ H' hi ⟨⟨o, rfl⟩, s5, vs, f5, hPc⟩
   have hi2 : i < (is.map V.int).length := by simpa using hi
   refine ⟨⟨_, _, SqL.of (s5 _ _ f4), List.getElem?_eq_getElem hi2⟩, ?_⟩
   rintro u H'' ⟨rfl, hu'⟩
   have hu' := hu' _ (SqL.of (s5 _ _ f4))
   have eu : u = .int is[i] := by
    rw [List.getElem?_map, List.getElem?_eq_getElem hi] at hu'
    simpa using hu'.symm
   subst eu
   walk_at "w"
   refine ZFD ?_
   walk_at "w"
   have hmem : is[i] ∈ ps.map (·.1) := hp.mem_iff.mp (List.getElem_mem hi)
   obtain ⟨x, hx⟩ : ∃ x, ZEZ ps is[i] = some x := by
    cases hg : ZEZ ps is[i] with
    | none => exact absurd hmem (ZGu.mp hg)
    | some x => exact ⟨x, rfl⟩
   refine ZNB (s5 _ _ (S4 _ _ f3b)) hx ?_
   walk_at "w"
   refine ZEK (by show 2 ≤ sizeLine; decide) fun t H4 n4 f4 S4 => ?_
   have f34 := S4 _ _ f5
   refine ⟨vs, f34, ?_, ⟨_, rfl⟩, ?_, ?_⟩
   ·rw [hPc.length, List.length_take]
    exact Nat.lt_of_le_of_lt (Nat.min_le_left _ _) (by show _ < 2 ^ 24; omega)
   ·exact (s5.trans S4).kpN (l := l5) n5 Kp.upd
   ·refine ⟨_, ZEN, ?_⟩
    have e3 : (ZFZ ps is).take (i + 1) = (ZFZ ps is).take i ++ [(is[i], x)] := by
     rw [List.take_succ]
     congr 1
     simp [ZFZ, List.getElem?_eq_getElem hi, hx]
    rw [e3]
    exact ZEP.kpL Kp.upd f34 ((hPc.same S4).snoc f4)
end
structure FnH (K : W.Frag) (x : Str) (st : Stmt) (f : Addr) (d : FuncData) : Prop where
 a : W.nsIn K mainGlobals x = some (some (.ref f))
 F : Fun K x x st f d
structure MtH (K : W.Frag) (C : Addr) (x q : Str) (st : Stmt) (f : Addr) (d : FuncData) : Prop where
 a : W.findIn K (.ref C) x = some (some (.ref f))
 i : W.isFn K (.ref f) = true
 F : Fun K x q st f d
open PySem.W in
theorem all_mk {l : OpenLaw} {w : World} {K : Frag} {h : Heap} {mg : Str → Option Value} {fa : Addr} (X : K.In h) (G : h.Ns mainGlobals mg) (hfa : mg "law" = some (.ref fa))
 {ZF ZH ZE ZC ZD ZA ZB : Addr}
 {f0 f1 f2 f3 f4 f5 f6 f7 f8 f9 f10 f11 f12 f13 f14 f15 f16 f17 f18 f19 f20 f21 f22 f23 f24 f25 f26 f27 f28 f29 f30 f31 f32 f33 f34 f35 f36 f37 f38 f39 f40 f41 f42 f43 f44 f45 f46 f47 f48 f49 f50 f51 f52 f53 f54 f55 f56 f57 f58 f59 f60 f61 f62 f63 f64 f65 f66 : Addr} {d0 d1 d2 d3 d4 d5 d6 d7 d8 d9 d10 d11 d12 d13 d14 d15 d16 d17 d19 d20 d21 d22 d23 d24 d25 d26 d27 d28 d29 d30 d31 d32 d33 d35 d36 d37 d38 d39 d40 d41 d42 d43 d44 d45 d46 d47 d48 d49 d50 d51 d52 d53 d54 d55 d56 d57 d58 d59 d60 d61 d62 d63 d64 d65 : FuncData}
 {od18 an18 : Option Addr} {sl18 : Array (Option Value)} {oc18 kV18 dc18 pm18 cd18 ct18 : Value}
 {dt18 : Addr} {dod18 : Option Addr} {dsl18 : Array (Option Value)} {doc18 : Value} {dn18 : Nat}
 {od34 an34 : Option Addr} {sl34 : Array (Option Value)} {oc34 kV34 dc34 pm34 cd34 ct34 : Value}
 {dt34 : Addr} {dod34 : Option Addr} {dsl34 : Array (Option Value)} {doc34 : Value} {dn34 : Nat}
 {od66 an66 : Option Addr} {sl66 : Array (Option Value)} {oc66 kV66 dc66 pm66 cd66 ct66 : Value}
 {tk_TOP_LEVEL : Tok}
 {tk_TIMES_END : Tok}
 (e_NoColumn : ZPh K "NoColumn" ZC)
 (e_NotHalf : ZPh K "NotHalf" ZD)
 (e_OutOfTimes : ZPh K "OutOfTimes" ZA)
 (e_NoSample : ZPh K "NoSample" ZB)
 (YJ : subIn K (.ref ZC) (.ref ZC) = some true) (YL : kitOne K (.ref ZC) (.ref ZC) = some true)
 (Ya : subIn K (.ref ZC) (.ref ZD) = some false) (YZ : kitOne K (.ref ZC) (.ref ZD) = some false)
 (Z0 : subIn K (.ref ZC) (.ref ZA) = some false) (Zx : kitOne K (.ref ZC) (.ref ZA) = some false)
 (YI : subIn K (.ref ZC) (.ref ZB) = some false) (YH : kitOne K (.ref ZC) (.ref ZB) = some false)
 (Yc : subIn K (.ref ZD) (.ref ZC) = some false) (Yf : kitOne K (.ref ZD) (.ref ZC) = some false)
 (Yo : subIn K (.ref ZD) (.ref ZD) = some true) (Yp : kitOne K (.ref ZD) (.ref ZD) = some true)
 (YC : subIn K (.ref ZD) (.ref ZA) = some false) (Z7 : kitOne K (.ref ZD) (.ref ZA) = some false)
 (Yd : subIn K (.ref ZD) (.ref ZB) = some false) (YX : kitOne K (.ref ZD) (.ref ZB) = some false)
 (Zz : subIn K (.ref ZA) (.ref ZC) = some false) (Zw : kitOne K (.ref ZA) (.ref ZC) = some false)
 (YD : subIn K (.ref ZA) (.ref ZD) = some false) (Z8 : kitOne K (.ref ZA) (.ref ZD) = some false)
 (ZR : subIn K (.ref ZA) (.ref ZA) = some true) (Zq : kitOne K (.ref ZA) (.ref ZA) = some true)
 (Zy : subIn K (.ref ZA) (.ref ZB) = some false) (Z1 : kitOne K (.ref ZA) (.ref ZB) = some false)
 (YN : subIn K (.ref ZB) (.ref ZC) = some false) (YM : kitOne K (.ref ZB) (.ref ZC) = some false)
 (YY : subIn K (.ref ZB) (.ref ZD) = some false) (Yb : kitOne K (.ref ZB) (.ref ZD) = some false)
 (Z3 : subIn K (.ref ZB) (.ref ZA) = some false) (Z4 : kitOne K (.ref ZB) (.ref ZA) = some false)
 (YK : subIn K (.ref ZB) (.ref ZB) = some true) (YG : kitOne K (.ref ZB) (.ref ZB) = some true)
 (e_Tree : ZTA K "Tree" ZF)
 (na_Tree_looks : findIn K (.ref ZF) "looks" = some none)
 (na_Tree_samples : findIn K (.ref ZF) "samples" = some none)
 (na_Tree_kept_fours : findIn K (.ref ZF) "kept_fours" = some none)
 (e_View : ZTA K "View" ZH)
 (na_View_source : findIn K (.ref ZH) "source" = some none)
 (na_View_window : findIn K (.ref ZH) "window" = some none)
 (na_View_asked : findIn K (.ref ZH) "asked" = some none)
 (na_View_known : findIn K (.ref ZH) "known" = some none)
 (na_View_seen : findIn K (.ref ZH) "seen" = some none)
 (e_Store : ZTA K "Store" ZE)
 (na_Store_tree : findIn K (.ref ZE) "tree" = some none)
 (na_Store_deeds : findIn K (.ref ZE) "deeds" = some none)
 (na_Store_done : findIn K (.ref ZE) "done" = some none)
 (na_Store_watches : findIn K (.ref ZE) "watches" = some none)
 (F0 : FnH K "_wall" ZOp f0 d0)
 (F1 : FnH K "is_whole" ZI4 f1 d1)
 (F2 : FnH K "column_of" ZIN f2 d2)
 (F3 : FnH K "times_of" ZI5 f3 d3)
 (F4 : FnH K "columns_of" ZGx f4 d4)
 (F5 : FnH K "moved" ZLh f5 d5)
 (F6 : FnH K "widened" ZJe f6 d6)
 (F7 : FnH K "narrowed" ZI6 f7 d7)
 (F8 : FnH K "with_columns" ZHE f8 d8)
 (F9 : FnH K "height_of" ZIO f9 d9)
 (F10 : FnH K "four_of" ZJf f10 d10)
 (F11 : FnH K "joined" ZKh f11 d11)
 (F12 : FnH K "is_border" ZIP f12 d12)
 (F13 : FnH K "check_borders" ZGy f13 d13)
 (F14 : FnH K "check_time" ZHs f14 d14)
 (F15 : FnH K "check_window" ZHF f15 d15)
 (F16 : FnH K "stretches" ZIQ f16 d16)
 (F17 : FnH K "longest" ZJg f17 d17)
 (a18 : findIn K (.ref ZF) "__init__" = some (some (.ref f18))) (i18 : isFn K (.ref f18) = true)
 (l18 : K.lookup f18 = some ⟨oc18, od18, .func (fnOf "__init__" "Tree.__init__" (ZFM ZFC) (ZE6 ZFC) (ZEE ZFC) (.ref dt18) kV18 dc18 pm18 an18 cd18 ct18), sl18⟩) (c18 : codeIn K cd18 "Tree.__init__" = true) (k18 : keepIn K (.ref f18) = true)
 (dl18 : K.lookup dt18 = some ⟨doc18, dod18, .seq #[.none] dn18, dsl18⟩)
 (F19 : MtH K ZF "put" "Tree.put" ZI7 f19 d19)
 (F20 : MtH K ZF "take" "Tree.take" ZIR f20 d20)
 (F21 : MtH K ZF "renew" "Tree.renew" ZHt f21 d21)
 (F22 : MtH K ZF "four" "Tree.four" ZIS f22 d22)
 (F23 : MtH K ZF "fours" "Tree.fours" ZGz f23 d23)
 (F24 : MtH K ZF "told" "Tree.told" ZKF f24 d24)
 (F25 : FnH K "known_in" ZI8 f25 d25)
 (F26 : MtH K ZH "__init__" "View.__init__" ZG0 f26 d26)
 (F27 : MtH K ZH "fours" "View.fours" ZG1 f27 d27)
 (F28 : MtH K ZH "forget" "View.forget" ZHU f28 d28)
 (F29 : MtH K ZH "on" "View.on" ZJh f29 d29)
 (F30 : MtH K ZH "wide" "View.wide" ZIT f30 d30)
 (F31 : MtH K ZH "narrow" "View.narrow" ZHV f31 d31)
 (F32 : MtH K ZH "columns" "View.columns" ZHG f32 d32)
 (F33 : MtH K ZH "step_to" "View.step_to" ZHH f33 d33)
 (a34 : findIn K (.ref ZE) "__init__" = some (some (.ref f34))) (i34 : isFn K (.ref f34) = true)
 (l34 : K.lookup f34 = some ⟨oc34, od34, .func (fnOf "__init__" "Store.__init__" (ZFM ZE2) (ZE6 ZE2) (ZEE ZE2) (.ref dt34) kV34 dc34 pm34 an34 cd34 ct34), sl34⟩) (c34 : codeIn K cd34 "Store.__init__" = true) (k34 : keepIn K (.ref f34) = true)
 (dl34 : K.lookup dt34 = some ⟨doc34, dod34, .seq #[.none] dn34, dsl34⟩)
 (F35 : MtH K ZE "put" "Store.put" ZIU f35 d35)
 (F36 : MtH K ZE "take" "Store.take" ZHu f36 d36)
 (F37 : MtH K ZE "height" "Store.height" ZIh f37 d37)
 (F38 : MtH K ZE "check_sample" "Store.check_sample" ZGD f38 d38)
 (F39 : MtH K ZE "do" "Store.do" ZI9 f39 d39)
 (F40 : MtH K ZE "bring" "Store.bring" ZHW f40 d40)
 (F41 : MtH K ZE "undo" "Store.undo" ZHv f41 d41)
 (F42 : MtH K ZE "times" "Store.times" ZHX f42 d42)
 (F43 : MtH K ZE "four" "Store.four" ZHw f43 d43)
 (F44 : MtH K ZE "fours" "Store.fours" ZJM f44 d44)
 (F45 : MtH K ZE "told" "Store.told" ZJi f45 d45)
 (F46 : MtH K ZE "watch" "Store.watch" ZJN f46 d46)
 (F47 : MtH K ZE "news" "Store.news" ZJj f47 d47)
 (F48 : FnH K "_law_cell" ZKi f48 d48)
 (F49 : FnH K "_law_pot" ZLi f49 d49)
 (F50 : FnH K "_law_draw" ZKj f50 d50)
 (F51 : FnH K "_law_in" ZNg f51 d51)
 (F52 : FnH K "_law_within" ZJA f52 d52)
 (F53 : FnH K "_law_height" ZJB f53 d53)
 (F54 : FnH K "_law_window" ZJC f54 d54)
 (F55 : FnH K "_law_time" ZKk f55 d55)
 (F56 : FnH K "_law_curve" ZJk f56 d56)
 (F57 : FnH K "_law_four" ZHx f57 d57)
 (F58 : FnH K "_law_fours" ZIC f58 d58)
 (F59 : FnH K "_law_step" ZKl f59 d59)
 (F60 : FnH K "_law_go" ZNh f60 d60)
 (F61 : FnH K "_law_known" ZID f61 d61)
 (F62 : FnH K "_law_column" ZJD f62 d62)
 (F63 : FnH K "_law_deed" ZKm f63 d63)
 (F64 : FnH K "_law_asked" ZJl f64 d64)
 (F65 : FnH K "_law_moved" ZJm f65 d65)
 (a66 : nsIn K mainGlobals "law" = some (some (.ref f66)))
 (l66 : K.lookup f66 = some ⟨oc66, od66, .func (fnOf "law" "law" (ZFM ZGQ) (ZE6 ZGQ) (ZEE ZGQ) .none kV66 dc66 pm66 an66 cd66 ct66), sl66⟩) (c66 : codeIn K cd66 "law" = true) (k66 : keepIn K (.ref f66) = true)
 (ac_TOP_LEVEL : nsIn K mainGlobals "TOP_LEVEL" = some (some (.int 40 tk_TOP_LEVEL)))
 (ac_TIMES_END : nsIn K mainGlobals "TIMES_END" = some (some (.int 1099511627776 tk_TIMES_END)))
 (ZAU : nsIn K mainGlobals "ValueError" = some none)
 (ZB5 : nsIn K mainGlobals "abs" = some none)
 (ZB8 : nsIn K mainGlobals "bool" = some none)
 (ZBP : nsIn K mainGlobals "divmod" = some none)
 (ZCt : nsIn K mainGlobals "int" = some none)
 (Z6 : nsIn K mainGlobals "isinstance" = some none)
 (YT : nsIn K mainGlobals "len" = some none)
 (ZB9 : nsIn K mainGlobals "list" = some none)
 (ZAv : nsIn K mainGlobals "max" = some none)
 (ZBS : nsIn K mainGlobals "min" = some none)
 (Zp : nsIn K mainGlobals "range" = some none)
 (ZBf : nsIn K mainGlobals "repr" = some none)
 (YS : nsIn K mainGlobals "sorted" = some none)
 (Z2 : nsIn K mainGlobals "tuple" = some none)
   : ∃ fd : FuncData, (∀ (s : Shared) (v : Value), BindsTo s fd ⟨[v], []⟩ [("_law_script", v)]) ∧ ∀ base : Heap, K.In base → base.Ns mainGlobals mg → ZEM l.prog w K mg base CX0 9 fa fd ["_law_script"] (ZMf K) := by
  have e := hfa.symm.trans (mg_of X G a66)
  cases e
  have F18 := ZOh (st := ZFC) l18 c18 k18
  have F34 := ZOh (st := ZE2) l34 c34 k34
  have F66 := fun_mk (st := ZGQ) l66 c66 k66
  have T : Txt K mg ⟨f0, d0, f1, d1, f2, d2, f3, d3, f4, d4, f5, d5, f6, d6, f7, d7, f8, d8, f9, d9, f10, d10, f11, d11, f12, d12, f13, d13, f14, d14, f15, d15, f16, d16, f17, d17, f18, fnOf "__init__" "Tree.__init__" (ZFM ZFC) (ZE6 ZFC) (ZEE ZFC) (.ref dt18) kV18 dc18 pm18 an18 cd18 ct18, f19, d19, f20, d20, f21, d21, f22, d22, f23, d23, f24, d24, f25, d25, f26, d26, f27, d27, f28, d28, f29, d29, f30, d30, f31, d31, f32, d32, f33, d33, f34, fnOf "__init__" "Store.__init__" (ZFM ZE2) (ZE6 ZE2) (ZEE ZE2) (.ref dt34) kV34 dc34 pm34 an34 cd34 ct34, f35, d35, f36, d36, f37, d37, f38, d38, f39, d39, f40, d40, f41, d41, f42, d42, f43, d43, f44, d44, f45, d45, f46, d46, f47, d47, f48, d48, f49, d49, f50, d50, f51, d51, f52, d52, f53, d53, f54, d54, f55, d55, f56, d56, f57, d57, f58, d58, f59, d59, f60, d60, f61, d61, f62, d62, f63, d63, f64, d64, f65, d65, fa, fnOf "law" "law" (ZFM ZGQ) (ZE6 ZGQ) (ZEE ZGQ) .none kV66 dc66 pm66 an66 cd66 ct66, ZF, ZH, ZE, ZC, ZD, ZA, ZB, tk_TOP_LEVEL, tk_TIMES_END⟩ := ⟨F0.F, (F0.F.b1 fun _ _ _ _ _ _ _ => rfl), (mg_of X G F0.a), F1.F, (F1.F.b1 fun _ _ _ _ _ _ _ => rfl), (mg_of X G F1.a), F2.F, (F2.F.b2 fun _ _ _ _ _ _ _ _ => rfl), (mg_of X G F2.a), F3.F, (F3.F.b2 fun _ _ _ _ _ _ _ _ => rfl), (mg_of X G F3.a), F4.F, (F4.F.b1 fun _ _ _ _ _ _ _ => rfl), (mg_of X G F4.a), F5.F, (F5.F.b2 fun _ _ _ _ _ _ _ _ => rfl), (mg_of X G F5.a), F6.F, (F6.F.b1 fun _ _ _ _ _ _ _ => rfl), (mg_of X G F6.a), F7.F, (F7.F.b1 fun _ _ _ _ _ _ _ => rfl), (mg_of X G F7.a), F8.F, (F8.F.b2 fun _ _ _ _ _ _ _ _ => rfl), (mg_of X G F8.a), F9.F, (F9.F.b1 fun _ _ _ _ _ _ _ => rfl), (mg_of X G F9.a), F10.F, (F10.F.b1 fun _ _ _ _ _ _ _ => rfl), (mg_of X G F10.a), F11.F, (F11.F.b2 fun _ _ _ _ _ _ _ _ => rfl), (mg_of X G F11.a), F12.F, (F12.F.b1 fun _ _ _ _ _ _ _ => rfl), (mg_of X G F12.a), F13.F, (F13.F.b2 fun _ _ _ _ _ _ _ _ => rfl), (mg_of X G F13.a), F14.F, (F14.F.b1 fun _ _ _ _ _ _ _ => rfl), (mg_of X G F14.a), F15.F, (F15.F.b1 fun _ _ _ _ _ _ _ => rfl), (mg_of X G F15.a), F16.F, (F16.F.b2 fun _ _ _ _ _ _ _ _ => rfl), (mg_of X G F16.a), F17.F, (F17.F.b2 fun _ _ _ _ _ _ _ _ => rfl), (mg_of X G F17.a), F18, (fun s us hI hl => by match us, hl with | [_, _], _ => exact binds_K hI rfl dl18 rfl rfl rfl), (fun s us hI hl => have hl2 : us.length = 1 := (by simpa using hl); match us, hl2 with | [_], _ => binds_K hI rfl dl18 rfl rfl rfl), (fun s u v hI => binds_K hI rfl dl18 rfl rfl rfl), F19.F, (F19.F.b3 fun _ _ _ _ _ _ _ _ _ => rfl), ⟨F19.a, F19.i, F19.F.kp⟩, F20.F, (F20.F.b2 fun _ _ _ _ _ _ _ _ => rfl), ⟨F20.a, F20.i, F20.F.kp⟩, F21.F, (F21.F.b3 fun _ _ _ _ _ _ _ _ _ => rfl), ⟨F21.a, F21.i, F21.F.kp⟩, F22.F, (F22.F.b3 fun _ _ _ _ _ _ _ _ _ => rfl), ⟨F22.a, F22.i, F22.F.kp⟩, F23.F, (F23.F.b2 fun _ _ _ _ _ _ _ _ => rfl), ⟨F23.a, F23.i, F23.F.kp⟩, F24.F, (F24.F.b1 fun _ _ _ _ _ _ _ => rfl), ⟨F24.a, F24.i, F24.F.kp⟩, F25.F, (F25.F.b2 fun _ _ _ _ _ _ _ _ => rfl), (mg_of X G F25.a), F26.F, (F26.F.b3 fun _ _ _ _ _ _ _ _ _ => rfl), F27.F, (F27.F.b1 fun _ _ _ _ _ _ _ => rfl), ⟨F27.a, F27.i, F27.F.kp⟩, F28.F, (F28.F.b1 fun _ _ _ _ _ _ _ => rfl), ⟨F28.a, F28.i, F28.F.kp⟩, F29.F, (F29.F.b2 fun _ _ _ _ _ _ _ _ => rfl), ⟨F29.a, F29.i, F29.F.kp⟩, F30.F, (F30.F.b1 fun _ _ _ _ _ _ _ => rfl), ⟨F30.a, F30.i, F30.F.kp⟩, F31.F, (F31.F.b1 fun _ _ _ _ _ _ _ => rfl), ⟨F31.a, F31.i, F31.F.kp⟩, F32.F, (F32.F.b2 fun _ _ _ _ _ _ _ _ => rfl), ⟨F32.a, F32.i, F32.F.kp⟩, F33.F, (F33.F.b2 fun _ _ _ _ _ _ _ _ => rfl), ⟨F33.a, F33.i, F33.F.kp⟩, F34, (fun s us hI hl => by match us, hl with | [_, _], _ => exact binds_K hI rfl dl34 rfl rfl rfl), (fun s us hI hl => have hl2 : us.length = 1 := (by simpa using hl); match us, hl2 with | [_], _ => binds_K hI rfl dl34 rfl rfl rfl), (fun s u v hI => binds_K hI rfl dl34 rfl rfl rfl), F35.F, (F35.F.b3 fun _ _ _ _ _ _ _ _ _ => rfl), ⟨F35.a, F35.i, F35.F.kp⟩, F36.F, (F36.F.b2 fun _ _ _ _ _ _ _ _ => rfl), ⟨F36.a, F36.i, F36.F.kp⟩, F37.F, (F37.F.b2 fun _ _ _ _ _ _ _ _ => rfl), ⟨F37.a, F37.i, F37.F.kp⟩, F38.F, (F38.F.b2 fun _ _ _ _ _ _ _ _ => rfl), ⟨F38.a, F38.i, F38.F.kp⟩, F39.F, (F39.F.b3 fun _ _ _ _ _ _ _ _ _ => rfl), ⟨F39.a, F39.i, F39.F.kp⟩, F40.F, (F40.F.b3 fun _ _ _ _ _ _ _ _ _ => rfl), ⟨F40.a, F40.i, F40.F.kp⟩, F41.F, (F41.F.b1 fun _ _ _ _ _ _ _ => rfl), ⟨F41.a, F41.i, F41.F.kp⟩, F42.F, (F42.F.b1 fun _ _ _ _ _ _ _ => rfl), ⟨F42.a, F42.i, F42.F.kp⟩, F43.F, (F43.F.b3 fun _ _ _ _ _ _ _ _ _ => rfl), ⟨F43.a, F43.i, F43.F.kp⟩, F44.F, (F44.F.b2 fun _ _ _ _ _ _ _ _ => rfl), ⟨F44.a, F44.i, F44.F.kp⟩, F45.F, (F45.F.b1 fun _ _ _ _ _ _ _ => rfl), ⟨F45.a, F45.i, F45.F.kp⟩, F46.F, (F46.F.b2 fun _ _ _ _ _ _ _ _ => rfl), ⟨F46.a, F46.i, F46.F.kp⟩, F47.F, (F47.F.b2 fun _ _ _ _ _ _ _ _ => rfl), ⟨F47.a, F47.i, F47.F.kp⟩, F48.F, (F48.F.b2 fun _ _ _ _ _ _ _ _ => rfl), (mg_of X G F48.a), F49.F, (F49.F.b1 fun _ _ _ _ _ _ _ => rfl), (mg_of X G F49.a), F50.F, (F50.F.b2 fun _ _ _ _ _ _ _ _ => rfl), (mg_of X G F50.a), F51.F, (F51.F.b1 fun _ _ _ _ _ _ _ => rfl), (mg_of X G F51.a), F52.F, (F52.F.b1 fun _ _ _ _ _ _ _ => rfl), (mg_of X G F52.a), F53.F, (F53.F.b1 fun _ _ _ _ _ _ _ => rfl), (mg_of X G F53.a), F54.F, (F54.F.b1 fun _ _ _ _ _ _ _ => rfl), (mg_of X G F54.a), F55.F, (F55.F.b2 fun _ _ _ _ _ _ _ _ => rfl), (mg_of X G F55.a), F56.F, (F56.F.b2 fun _ _ _ _ _ _ _ _ => rfl), (mg_of X G F56.a), F57.F, (F57.F.b1 fun _ _ _ _ _ _ _ => rfl), (mg_of X G F57.a), F58.F, (F58.F.b2 fun _ _ _ _ _ _ _ _ => rfl), (mg_of X G F58.a), F59.F, (F59.F.b2 fun _ _ _ _ _ _ _ _ => rfl), (mg_of X G F59.a), F60.F, (F60.F.b2 fun _ _ _ _ _ _ _ _ => rfl), (mg_of X G F60.a), F61.F, (F61.F.b3 fun _ _ _ _ _ _ _ _ _ => rfl), (mg_of X G F61.a), F62.F, (F62.F.b2 fun _ _ _ _ _ _ _ _ => rfl), (mg_of X G F62.a), F63.F, (F63.F.b5 fun _ _ _ _ _ _ _ _ _ _ _ => rfl), (mg_of X G F63.a), F64.F, (F64.F.b3 fun _ _ _ _ _ _ _ _ _ => rfl), (mg_of X G F64.a), F65.F, (F65.F.b3 fun _ _ _ _ _ _ _ _ _ => rfl), (mg_of X G F65.a), F66, (F66.b1 fun _ _ _ _ _ _ _ => rfl), (mg_of X G a66), ⟨e_Tree.pg, e_Tree.hd, e_Tree.po, e_Tree.sa⟩, (mg_of X G e_Tree.a), ⟨e_Tree.mi, a18, i18, e_Tree.kc⟩, na_Tree_looks, na_Tree_samples, na_Tree_kept_fours, ⟨e_View.pg, e_View.hd, e_View.po, e_View.sa⟩, (mg_of X G e_View.a), ⟨e_View.mi, F26.a, F26.i, e_View.kc⟩, na_View_source, na_View_window, na_View_asked, na_View_known, na_View_seen, ⟨e_Store.pg, e_Store.hd, e_Store.po, e_Store.sa⟩, (mg_of X G e_Store.a), ⟨e_Store.mi, a34, i34, e_Store.kc⟩, na_Store_tree, na_Store_deeds, na_Store_done, na_Store_watches, e_NoColumn.ex, ⟨e_NoColumn.ga, e_NoColumn.gt, e_NoColumn.cl, e_NoColumn.ob, e_NoColumn.be⟩, (mg_of X G e_NoColumn.a), e_NotHalf.ex, ⟨e_NotHalf.ga, e_NotHalf.gt, e_NotHalf.cl, e_NotHalf.ob, e_NotHalf.be⟩, (mg_of X G e_NotHalf.a), e_OutOfTimes.ex, ⟨e_OutOfTimes.ga, e_OutOfTimes.gt, e_OutOfTimes.cl, e_OutOfTimes.ob, e_OutOfTimes.be⟩, (mg_of X G e_OutOfTimes.a), e_NoSample.ex, ⟨e_NoSample.ga, e_NoSample.gt, e_NoSample.cl, e_NoSample.ob, e_NoSample.be⟩, (mg_of X G e_NoSample.a), YJ, YL, Ya, YZ, Z0, Zx, YI, YH, Yc, Yf, Yo, Yp, YC, Z7, Yd, YX, Zz, Zw, YD, Z8, ZR, Zq, Zy, Z1, YN, YM, YY, Yb, Z3, Z4, YK, YG, (mg_of X G ac_TOP_LEVEL), (mg_of X G ac_TIMES_END), (mg_none_of X G ZAU), (mg_none_of X G ZB5), (mg_none_of X G ZB8), (mg_none_of X G ZBP), (mg_none_of X G ZCt), (mg_none_of X G Z6), (mg_none_of X G YT), (mg_none_of X G ZB9), (mg_none_of X G ZAv), (mg_none_of X G ZBS), (mg_none_of X G Zp), (mg_none_of X G ZBf), (mg_none_of X G YS), (mg_none_of X G Z2)⟩
  exact ⟨fnOf "law" "law" (ZFM ZGQ) (ZE6 ZGQ) (ZEE ZGQ) .none kV66 dc66 pm66 an66 cd66 ct66, fun s v => .of_eq rfl, fun base _ _ => ZXd T⟩
theorem walk {l : W.OpenLaw} {q : Program} {loose : List Str} {XP : (Str → Option Value) → Heap → Prop} {YP : World → Heap → Prop} {d : DefRec} {K : Params → W.Frag} (hn : l.most = some 63) (hdf : d.params.defaults = [])
  (hY : ∀ (w : World) (h : Heap), YP w h → (K w.params).In h)
  (F : ∀ (w : World) (mg : Str → Option Value) (fa : Addr) (h : Heap), (K w.params).In h → h.Ns mainGlobals mg → mg d.name = some (.ref fa) →
   ∃ fd : FuncData, (∀ (s : Shared) (u : Value), BindsTo s fd ⟨[u], []⟩ [("_law_script", u)]) ∧ ∀ base : Heap, (K w.params).In base → base.Ns mainGlobals mg → ZEM l.prog w (K w.params) mg base CX0 9 fa fd ["_law_script"] (ZMf (K w.params))) :
  W.WalkO q loose XP YP l.row.toRowW d [] (fun f vs => PySem.call f vs) :=
 L2.walk_of (n := 63) (k := 9) (x := "_law_script") (CX := fun _ => CX0) (sp := fun w => ZMf (K w.params)) hn (by decide) hdf ⟨rfl, by decide, by decide, rfl⟩ hY F (fun _ _ a ns hl _ hS => ⟨a, ns, rfl, hS, hl, fun _ => rfl⟩) fun _ _ _ _ _ z => z
end My
local macro_rules | `(tactic| walk_at "e") => `(tactic| (refine' ⟨?a, ?b, ?c, ?d, ?e, ?f, ?g⟩; (case a => k_is); (case b => k_exc); (case c => k_is); (case d => k_is); (case e => k_is); (case f => k_is); (case g => k_is)))
local macro_rules | `(tactic| walk_at "c") => `(tactic| (refine' ⟨?a, ?b, ?c, ?d, ?e, ?f, ?g⟩; (case a => k_is); (case b => k_is); (case c => k_is); (case d => k_is); (case e => k_is); (case f => k_is); (case g => k_is)))
local macro_rules | `(tactic| walk_at "f") => `(tactic| (refine' ⟨?a, L2.fun_mk ?b ?c ?d⟩; (case a => k_is); (case b => k_is); (case c => k_is); (case d => k_is)))
local macro_rules | `(tactic| walk_at "m") => `(tactic| (refine' ⟨?a, ?b, L2.fun_mk ?c ?d ?e⟩; (case a => k_is); (case b => k_is); (case c => k_is); (case d => k_is); (case e => k_is)))
namespace PySem.W.Fast
def tw11067668859323426144:=()
def tw12374913378994730498:=()
def tw5134367236125378178:=()
def tw9604878517151256069:=()
def tw11264331306357889670:=()
def tw419125539388004040:=()
def tw1802482221083137354:=()
def tw6716153003217186923:=()
def tw7667441130490603051:=()
def tw3991545214109367243:=()
def tw10539149793093887469:=()
def tw12126902480384536846:=()
def tw4491235616731631891:=()
def tw2311134614334473907:=()
def tw8737649492304259541:=()
def tw55502628930345270:=()
def tw2296665539061026040:=()
def tw8173585020646330108:=()
def tw8198979957919203421:=()
def tw6987793788162540251:=()
def tw14631010545780854981:=()
def tw15831267385585031369:=()
def tw5267103187329185207:=()
def tw5413711741554589998:=()
def tw3599235255099024349:=()
def tw6882074630725621008:=()
def tw15881000850933665025:=()
def tw12589529872657908941:=()
def tw3540379625125095443:=()
def tw11917384752487905521:=()
def tw6798929867416296125:=()
def tw543027123258530740:=()
def tw12887345322214631339:=()
def tw6137143218745062428:=()
def tw3774830414860978755:=()
def tw6957679429779736000:=()
def tw11695394115814659075:=()
def tw16634805470105740604:=()
def tw17295307857976504726:=()
def tw15282846140777972057:=()
def tw7585252195393126643:=()
def tw11314776485294853545:=()
def tw9119676362152301067:=()
def tw15952928891374595513:=()
def tw8496995321021126097:=()
def tw434288159417075277:=()
def tw4039039995725115056:=()
def tw17712510158952496236:=()
def tw15391520458158125351:=()
def tw9046982319814547490:=()
def tw9503205750303727779:=()
def tw9539349205286370241:=()
def tw8391454832003671855:=()
def tw12724832153618527353:=()
def tw14501697511393044213:=()
def tw7533812678599215502:=()
def tw17586776306088760884:=()
def tw16161657079734167029:=()
def tw12121716249348358830:=()
def tw5412890008744326451:=()
def tw6468479721694869217:=()
def tw9152991058968862928:=()
def tw12344973388815578781:=()
def tw9762605004465945763:=()
def tw15816498011967000216:=()
def tw3609477730282660555:=()
def tw11547985243334822376:=()
def tw5512156273239471399:=()
def tw2577298346784911136:=()
def tw13794517118725766695:=()
def tw13954821246484290961:=()
def tw687881688813569815:=()
def tw4538090596262855829:=()
def tw15091120454083664398:=()
def tw14280874354165945713:=()
def tw13617116558033764378:=()
def tw9713251620349993016:=()
def tw9653068618503400363:=()
def tw5647827178844963505:=()
def tw7072829553298948745:=()
def tw3588058422904616901:=()
def tw4933469340377197043:=()
def tw489174191228615987:=()
def tw13338554157502020162:=()
def tw15583982321601869202:=()
def tw5102775856146860960:=()
def tw16421880799150137745:=()
def tw7081828413057551341:=()
def tw2900176652314992078:=()
def tw302756874288369670:=()
def tw1121955016376130913:=()
def tw14228773170597485572:=()
def tw13973532375009636919:=()
def tw17267273273430654398:=()
def tw16124675426905504474:=()
def tw3954227144096757277:=()
def tw18322629790906062016:=()
def tw14350027694130688733:=()
def tw4482628639893294026:=()
def tw8870293091040001648:=()
def tw11127002490838455851:=()
def tw12643717350821017781:=()
def tw11019136542301273365:=()
def tw374196015206119918:=()
def tw11412485669984698228:=()
def tw9772221429457186834:=()
def tw2189554675500277415:=()
def tw15207992837467226401:=()
def tw5453360786164607036:=()
def tw15187349353575046674:=()
def tw617330550531821439:=()
def tw14534149725647439530:=()
def tw4030711515634384717:=()
def tw8005161176739497868:=()
def tw4983607070398170891:=()
def tw16258148878098820952:=()
def tw2164021668308281633:=()
def tw15230692865619001198:=()
def tw12346891001885383476:=()
def tw9222032495056591482:=()
def tw9306893990901774192:=()
def tw6863990553320511634:=()
def tw17140657106090756204:=()
def tw17864004200840386326:=()
def tw13039811259096410950:=()
def tw11132015539679463558:=()
def tw14331789104277682920:=()
def tw6146073145773473600:=()
def tw1286846919124297738:=()
def tw8453968947015370439:=()
def tw15665249577320139878:=()
def tw6412091949289278827:=()
def tw14822495557914753167:=()
def tw261584460989423425:=()
def tw3569089602745624488:=()
def tw5247429946734045719:=()
def tw9881746663798589587:=()
def tw16466449414722668020:=()
def tw17691270097222890573:=()
def tw9380504946332707524:=()
def tw10464442890164809156:=()
def tw13484434636028564571:=()
def tw1321635512204320692:=()
def tw15158848751586634537:=()
def tw8962380922164618037:=()
def tw11594150530886441448:=()
def tw11580738480817493862:=()
def tw5957688764118270991:=()
def tw14588064797023403724:=()
def tw14556855063285951722:=()
def tw6077190903114098056:=()
def tw7370629687470289345:=()
def tw5343039833995688341:=()
def tw6731285253733535271:=()
def tw5267950330788771070:=()
def tw18360860211067143251:=()
def tw4198550557721527970:=()
def tw4412499778684908487:=()
def tw549983794797904650:=()
def tw17290042973542387095:=()
def tw9095338644700351531:=()
def tw14915231128607886388:=()
def tw8591120364367983404:=()
def tw16396842440218348926:=()
def tw15093153725178761149:=()
def tw5623250774705307058:=()
def tw10531124589867088950:=()
def tw440651744999341032:=()
def tw11957252147090193656:=()
def tw16778867465034377367:=()
def tw6981620460673466340:=()
def tw3946695446222656976:=()
def tw11558028991571486880:=()
def tw1057625589006180538:=()
def tw16912872364506835356:=()
def tw8004201546211744134:=()
def tw3615976280379346368:=()
def tw1822585040691718123:=()
def tw2490480560264463302:=()
def tw2806481931732931557:=()
def tw18399967435623824577:=()
def tw11363770548412920137:=()
def tw1238686748928935275:=()
def tw13530465132622891472:=()
def tw6479146034656528217:=()
def tw9356482950032736829:=()
def tw5799854575612236930:=()
def tw16934137716224269907:=()
def tw14103339606146769646:=()
def tw18375222916767726223:=()
def tw4031500811588183846:=()
def tw9396431754035781061:=()
def tw12018517174578106709:=()
def tw4844570638875254316:=()
def tw1272964838773679141:=()
def tw17504871586463419137:=()
def tw17757594608714586886:=()
def tw13813389603166518103:=()
def tw18339694093647792758:=()
def tw2661015728493793344:=()
def tw15127983439525632434:=()
def tw1077025635157588507:=()
def tw15895900824134128503:=()
def tw9492461943943077486:=()
def tw191933027696379769:=()
def tw14745003519141605636:=()
def tw17926114963637774158:=()
def tw15945064483639568875:=()
def tw2020885202883922645:=()
def tw12328750580761501520:=()
def tw7123999977099408217:=()
def tw5698243941804244271:=()
def tw3197136126790273759:=()
def tw16770748623705210841:=()
def tw15525173174101162401:=()
def tw3682874359117112730:=()
def tw11943670150594124062:=()
def tw17901192229847163721:=()
def tw14711847162027861514:=()
def tw16927979469977287639:=()
def tw16779672351269069936:=()
def tw489265944113792374:=()
def tw544559001766050998:=()
def tw2204843640610932438:=()
def tw13087938208971146704:=()
def tw863763703203483388:=()
def tw8228565261741044214:=()
def tw1903101032645994114:=()
def tw15004071477374938851:=()
def tw10003775304757011039:=()
def tw16696742020814168777:=()
def tw7761165641362740627:=()
def tw16199382673995797303:=()
def tw15810184574498081130:=()
def tw9627897111820763848:=()
def tw3280908092376010493:=()
def tw13747493679903963543:=()
def tw18116523803317230641:=()
def tw8349812328421326430:=()
def tw8022261663285253389:=()
def tw18321453898736334523:=()
def tw16403419004216592496:=()
def tw16341130078081794331:=()
def tw6077861545591772948:=()
def tw5835040334574444552:=()
def tw5735189117230219029:=()
def tw2604458328033614606:=()
def tw18016775431564410558:=()
def tw15262136922471125721:=()
def tw16188787864016369289:=()
def tw15389205906560515129:=()
def tw5712371331575458605:=()
def tw228297698867560192:=()
def tw14179604320761391519:=()
def tw10023397214428209996:=()
def tw8789688263857717487:=()
def tw2082106950401565968:=()
def tw10759935256621039444:=()
def tw7361729011695664388:=()
def tw12572149320036927422:=()
def tw7697754230069848066:=()
def tw13434308468427829007:=()
def tw9990927125746269431:=()
def tw672400615501754034:=()
def tw13161708466662882900:=()
def tw12752836166413691061:=()
def tw6215324115732786417:=()
def tw7041437462489267964:=()
def tw2168510238797920574:=()
def tw8726790800009496790:=()
def tw14313909520251653800:=()
def tw12842137705496126829:=()
def tw17281942209013711238:=()
def tw1199722713745386120:=()
def tw7106103553222476324:=()
def tw2533778476674701329:=()
def tw6968876243602523791:=()
def tw366177702302215182:=()
def tw8214591101884899902:=()
def tw9479742050696944693:=()
def tw17876811099611845285:=()
def tw5736879054748309145:=()
def tw5172915334113539052:=()
def tw4123746156323769137:=()
def tw8282528966675454549:=()
def tw15218536881861615927:=()
end PySem.W.Fast
open PySem PySem.W PyProof.Rows
set_option maxRecDepth 100000 in
set_option maxHeartbeats 0 in
theorem PySem.Challenge.cw_fourpoints_k73_whole_views_of_changing_s_holds : PySem.Challenge.rw_fourpoints_k73_whole_views_of_changing_s.Holds := by
 w_on; o_law; k_head; (case hw => w_witness2)
 k_fill
 refine My.walk (l := PySem.Challenge.rw_fourpoints_k73_whole_views_of_changing_s) rfl rfl (fun w h Y => PySem.W.kIn_of Y) ?F
 case F =>
  intro w mg fa h KX G hmg
  refine' My.all_mk KX G hmg ?taa ?tab ?tac ?tad ?tae ?taf ?tag ?tah ?tai ?taj ?tak ?tal ?tam ?tan ?tao ?tap ?taq ?tar ?tas ?tat ?tau ?tav ?taw ?tax ?tay ?taz ?tba ?tbb ?tbc ?tbd ?tbe ?tbf ?tbg ?tbh ?tbi ?tbj ?tbk ?tbl ?tbm ?tbn ?tbo ?tbp ?tbq ?tbr ?tbs ?tbt ?tbu ?tbv ?tbw ?tbx ?tby ?tbz ?tca ?tcb ?tcc ?tcd ?tce ?tcf ?tcg ?tch ?tci ?tcj ?tck ?tcl ?tcm ?tcn ?tco ?tcp ?tcq ?tcr ?tcs ?tct ?tcu ?tcv ?tcw ?tcx ?tcy ?tcz ?tda ?tdb ?tdc ?tdd ?tde ?tdf ?tdg ?tdh ?tdi ?tdj ?tdk ?tdl ?tdm ?tdn ?tdo ?tdp ?tdq ?tdr ?tds ?tdt ?tdu ?tdv ?tdw ?tdx ?tdy ?tdz ?tea ?teb ?tec ?ted ?tee ?tef ?teg ?teh ?tei ?tej ?tek ?tel ?tem ?ten ?teo ?tep ?teq ?ter ?tes ?tet ?teu ?tev ?tew ?tex ?tey ?tez ?tfa ?tfb ?tfc ?tfd ?tfe ?tff ?tfg ?tfh ?tfi ?tfj ?tfk ?tfl ?tfm ?tfn ?tfo ?tfp ?tfq
  (case taa | tab | tac | tad => walk_at "e")
  (case tae => k_is)
  (case taf => kit_is)
  (case tag => k_is)
  (case tah => kit_is)
  (case tai => k_is)
  (case taj => kit_is)
  (case tak => k_is)
  (case tal => kit_is)
  (case tam => k_is)
  (case tan => kit_is)
  (case tao => k_is)
  (case tap => kit_is)
  (case taq => k_is)
  (case tar => kit_is)
  (case tas => k_is)
  (case tat => kit_is)
  (case tau => k_is)
  (case tav => kit_is)
  (case taw => k_is)
  (case tax => kit_is)
  (case tay => k_is)
  (case taz => kit_is)
  (case tba => k_is)
  (case tbb => kit_is)
  (case tbc => k_is)
  (case tbd => kit_is)
  (case tbe => k_is)
  (case tbf => kit_is)
  (case tbg => k_is)
  (case tbh => kit_is)
  (case tbi => k_is)
  (case tbj => kit_is)
  (case tbk => walk_at "c")
  (case tbl | tbm | tbn => k_is)
  (case tbo => walk_at "c")
  (case tbp | tbq | tbr | tbs | tbt => k_is)
  (case tbu => walk_at "c")
  (case tbv | tbw | tbx | tby => k_is)
  (case tbz | tca | tcb | tcc | tcd | tce | tcf | tcg | tch | tci | tcj | tck | tcl | tcm | tcn | tco | tcp | tcq => walk_at "f")
  (case tcr | tcs | tct | tcu | tcv | tcw => k_is)
  (case tcx | tcy | tcz | tda | tdb | tdc => walk_at "m")
  (case tdd => walk_at "f")
  (case tde | tdf | tdg | tdh | tdi | tdj | tdk | tdl => walk_at "m")
  (case tdm | tdn | tdo | tdp | tdq | tdr => k_is)
  (case tds | tdt | tdu | tdv | tdw | tdx | tdy | tdz | tea | teb | tec | ted | tee => walk_at "m")
  (case tef | teg | teh | tei | tej | tek | tel | tem | ten | teo | tep | teq | ter | tes | tet | teu | tev | tew => walk_at "f")
  (case tex | tey | tez | tfa | tfb | tfc | tfd | tfe | tff | tfg | tfh | tfi | tfj | tfk | tfl | tfm | tfn | tfo | tfp | tfq => k_is)
