import PyProof.Rows.All
import Wide.All
import OpenK.AllK
import Wide.FinOn
import Lean
import PyProof.EqAt
import PyProof.EqKinds
import PyProof.TupleCall
import KE.KSortTup
import PyProof.CollectWalk
import PyProof.DictWalks
import PyProof.Rows.SortWalk
import KE.KItemsList
import PyProof.ReprText
import PyProof.Rows.StrIntSpec
import PyProof.RowDictHeap
import KE.KRevIter
import KE.KMinKey
import PyProof.P3In
import KE.KIntText
import PyProof.StrLawsTight
import PyProof.StrWalks
import PyProof.ListRange
import PyProof.DictValues
import PyProof.Rows.SortStr
import KE.KDictLaws
import PySem.Challenge.RW_fourpoints_k81_stores_by_names
set_option Elab.async false
set_option linter.all false
set_option maxRecDepth 100000
set_option maxHeartbeats 4000000
-- CHANGE: your row's module here, as the last of these rows
abbrev L2.PL := List (Int × Int)
namespace L2
open PySem PySem.Spec PyProof.Rows
abbrev Key := Sum Int Str
def ZFg : Key → Value → Bool
 | .inl k, v => Value.isInt k v
 | .inr x, v => Value.isStrOf x v
def ZTn (w : World) : Key → Int
 | .inl k => hashInt k
 | .inr x => hashStr w x
theorem ZDf : ∀ {k : Key} {v : Value}, ZFg k v = true → (∃ i t, k = Sum.inl i ∧ v = Value.int i t) ∨ (∃ x t, k = Sum.inr x ∧ v = Value.str x t)
 | .inl i, v, h => by
  obtain ⟨t, e⟩ := Value.isInt_shape (k := i) (v := v) h
  exact .inl ⟨i, t, rfl, e⟩
 | .inr x, v, h => by
  obtain ⟨t, e⟩ := Value.isStrOf_shape (x := x) (v := v) h
  exact .inr ⟨x, t, rfl, e⟩
theorem ZMi (i : Int) (t : Tok) : ZFg (.inl i) (.int i t) = true := by simp [ZFg, Value.isInt]
theorem ZMj (x : Str) (t : Tok) : ZFg (.inr x) (.str x t) = true := by simp [ZFg, Value.isStrOf]
theorem ZRb (a b : Int) : decide ((Sum.inl a : Key) = Sum.inl b) = (a == b) := by
 by_cases e : a = b
 ·subst e; simp
 ·have h : ¬ (Sum.inl a : Key) = Sum.inl b := fun q => e (Sum.inl.inj q)
  rw [decide_eq_false h]
  exact (beq_eq_false_iff_ne.mpr e).symm
theorem ZRc (a b : Str) : decide ((Sum.inr a : Key) = Sum.inr b) = decide (a = b) := by
 by_cases e : a = b
 ·subst e; simp
 ·have h : ¬ (Sum.inr a : Key) = Sum.inr b := fun q => e (Sum.inr.inj q)
  rw [decide_eq_false h, decide_eq_false e]
theorem ZRd (a : Int) (b : Str) : decide ((Sum.inl a : Key) = Sum.inr b) = false := decide_eq_false (fun q => nomatch q)
theorem ZRe (a : Str) (b : Int) : decide ((Sum.inr a : Key) = Sum.inl b) = false := decide_eq_false (fun q => nomatch q)
def ZDV (prog : Program) (w : World) : PySem.KeyKind prog w Key where
 is := ZFg
 hash := ZTn w
 inj := fun v a b ha hb => by
  rcases ZDf ha with ⟨i, t, rfl, rfl⟩ | ⟨x, t, rfl, rfl⟩
  ·rcases ZDf hb with ⟨j, u, rfl, e⟩ | ⟨y, u, rfl, e⟩
   ·injection e with e1 _; rw [e1]
   ·exact nomatch e
  ·rcases ZDf hb with ⟨j, u, rfl, e⟩ | ⟨y, u, rfl, e⟩
   ·exact nomatch e
   ·injection e with e1 _; rw [e1]
 byValue := fun k v h => by
  rcases ZDf h with ⟨i, t, rfl, rfl⟩ | ⟨x, t, rfl, rfl⟩ <;> rfl
 pyHash := fun hv h => by
  rcases ZDf hv with ⟨i, t, rfl, rfl⟩ | ⟨x, t, rfl, rfl⟩
  ·exact wpAny_pyHash_int h
  ·exact wpAny_pyHash_str h
 eqBool := fun hu hv h => by
  rcases ZDf hu with ⟨i, t, rfl, rfl⟩ | ⟨x, t, rfl, rfl⟩
  ·rcases ZDf hv with ⟨j, u, rfl, rfl⟩ | ⟨y, u, rfl, rfl⟩
   ·rw [ZRb] at h; exact wpAny_eqBool_int h
   ·rw [ZRd] at h; exact SeqAt.EqAt.int_str i t y u _ _ _ _ h
  ·rcases ZDf hv with ⟨j, u, rfl, rfl⟩ | ⟨y, u, rfl, rfl⟩
   ·rw [ZRe] at h; exact SeqAt.EqAt.str_int x t j u _ _ _ _ h
   ·rw [ZRc] at h; exact wpAny_eqBool_str h
 «strs» := fun k x t v h => by
  rcases ZDf h with ⟨i, u, rfl, e⟩ | ⟨y, u, rfl, e⟩
  ·exact nomatch e
  ·injection e with e1 _
   subst e1
   cases v <;> rfl
theorem ZK3 (prog : Program) (w : World) (i : Int) (t : Tok) : (ZDV prog w).is (.inl i) (.int i t) = true := ZMi i t
theorem ZK4 (prog : Program) (w : World) (x : Str) (t : Tok) : (ZDV prog w).is (.inr x) (.str x t) = true := ZMj x t
inductive V where
 | non | bl (b : Bool) | int (i : Int) | str (x : Str) | byt (b : Array UInt8) | flt (b : UInt64) | ref (a : Addr) | ty (n : String)
 deriving DecidableEq
def ZDH : V → Value → Prop
 | .non, u => u = Value.none
 | .bl b, u => u = Value.bool b
 | .int i, u => ∃ t, u = Value.int i t
 | .str x, u => ∃ t, u = Value.str x t
 | .byt b, u => ∃ t, u = Value.bytes b t
 | .flt b, u => ∃ t, u = Value.float b t
 | .ref a, u => u = Value.ref a
 | .ty n, u => u = Value.type n
abbrev ZDG : List V → List Value → Prop := Paired ZDH
theorem ZDG.length {xs : List V} {us : List Value} (r : ZDG xs us) : xs.length = us.length := Paired.length r
theorem ZDG.get : ∀ {xs : List V} {us : List Value} {i : Nat} {x : V}, ZDG xs us → xs[i]? = some x → ∃ u, us[i]? = some u ∧ ZDH x u
 | _, _, _, _, .nil, e => by simp at e
 | _, _, 0, _, .cons r _, e => by simp at e; subst e; exact ⟨_, rfl, r⟩
 | _, _, i + 1, x, .cons _ t, e => by
  obtain ⟨u, h1, h2⟩ := ZDG.get (i := i) (x := x) t (by simpa using e)
  exact ⟨u, by simpa using h1, h2⟩
theorem ZDG.set {x : V} {u : Value} (r : ZDH x u) : ∀ {xs : List V} {us : List Value} (i : Nat), ZDG xs us → ZDG (xs.set i x) (us.set i u)
 | _, _, _, .nil => .nil
 | _, _, 0, .cons _ t => .cons r t
 | _, _, i + 1, .cons q t => .cons q (ZDG.set r i t)
theorem ZDG.append : ∀ {xs ys : List V} {us ws : List Value}, ZDG xs us → ZDG ys ws → ZDG (xs ++ ys) (us ++ ws)
 | _, _, _, _, .nil, s => s
 | _, _, _, _, .cons r t, s => .cons r (ZDG.append t s)
def ZEQ : Option V → Option Value → Prop
 | some v, some u => ZDH v u
 | none, none => True
 | _, _ => False
def KV {κ : Type} : List (κ × V) → List (κ × Value) → Prop := Paired fun (p : κ × V) (q : κ × Value) => p.1 = q.1 ∧ ZDH p.2 q.2
def kV : Key → V
 | .inl i => .int i
 | .inr x => .str x
inductive HO where
 | lst (xs : List V)
 | tup (xs : List V)
 | dK (kvs : List (Key × V)) | dT (kvs : List (List Key × V))
 | set (S : Int → Bool) (n : Nat)
 | ins (C dx : Addr) (fs : List (Str × V))
 | own (x : Addr)
 | xd (fs : List (Str × V))
 | met (f x : Addr)
 | rng (lo hi : Int)
 | frz (o : Obj) (u : HO)
 | tbl (ps : Array Value)
 | ext (φ : Heap → Prop)
abbrev Hp := Addr → Option HO
def upd (H : Hp) (a : Addr) (o : HO) : Hp := fun b => if b = a then some o else H b
theorem ZDN {H : Hp} {a : Addr} {o : HO} : upd H a o a = some o := by unfold upd; rw [if_pos rfl]
theorem ZDF {H : Hp} {a b : Addr} {o : HO} (h : b ≠ a) : upd H a o b = H b := by unfold upd; rw [if_neg h]
theorem ZTO {H : Hp} {a b : Addr} {o u : HO} (h : H a = some o) (h' : H b = some u) (d : o ≠ u) : a ≠ b := by
 intro e; subst e; rw [h] at h'; exact d (Option.some.inj h')
theorem ZDR {H : Hp} {a b : Addr} {o : HO} (h : H a = some o) (h' : H b = none) : a ≠ b := by
 intro e; subst e; rw [h] at h'; cases h'
section
variable (P : Program) (w : World)
def ZDS (H : Hp) (h : Heap) (a : Addr) : HO → Prop
 | .lst xs => xs.length ≤ sizeLine ∧ ∃ (its : List Value) (n : Nat), ZDG xs its ∧ h.get? a = some { cls := .type "list", data := .seq its.toArray n }
 | .tup xs => (xs.length ≤ sizeLine ∧ ((∀ i : Int, xs.head? ≠ some (.int i)) → ∃ o, h.get? a = some o ∧ o.dict = none ∧ o.slots = #[])) ∧ ∃ its : List Value, ZDG xs its ∧ IsTup h a its.toArray
 | .dK kvs => kvs.length ≤ sizeLine ∧ (a == sysModules) = false ∧ ∃ vs, KV kvs vs ∧ h.DictOf (ZDV P w) a vs
 | .dT kvs => kvs.length ≤ sizeLine ∧ (a == sysModules) = false ∧ ∃ xs : List (List Key × Addr × Value),
  Paired (fun (p : List Key × V) (q : List Key × Addr × Value) => p.1 = q.1 ∧ H q.2.1 = some (.tup (p.1.map kV)) ∧ ZDH p.2 q.2.2) kvs xs ∧
  ∃ o es ep, h.get? a = some o ∧ o.ExactDict ∧ o.data = .dict es ep ∧ es.toList = xs.map (entryOfKey (tupleKind (ZDV P w))) ∧ (xs.map (·.1)).Nodup
 | .set S n => h.SetOf (intKind P w) a S n
 | .ins C dx fs => H dx = some (.own a) ∧ fs.length ≤ 1000 ∧ dx ≠ a ∧ h.get? a = some (PySem.W.instObj C dx) ∧
  ∃ mA, h.Ns1 dx mA ∧ (∀ f, ZEQ (fs.lookup f) (mA f)) ∧ PySem.Within mA (fs.map (·.1))
 | .own _ => ∃ o, h.get? a = some o
 | .xd fs => ∃ mA, h.Ns1 a mA ∧ ∀ f, ZEQ (fs.lookup f) (mA f)
 | .rng lo hi => ∃ t u v, h.get? a = some { cls := .type "range", data := .fields #[.int lo t, .int hi u, .int 1 v] }
 | .frz o u => h.get? a = some o ∧ ZDS H h a u
 | .tbl ps => h.get? a = some { cls := .none, data := .fields ps }
 | .met f x => h.get? a = some (PySem.W.methodObj (.ref f) (.ref x))
 | .ext φ => φ h ∧ (∃ o, h.get? a = some o) ∧ ∀ h1 h2 : Heap, φ h1 → (∀ o, h1.get? a = some o → h2.get? a = some o) → φ h2
def HOk (H : Hp) (h : Heap) : Prop := ∀ a o, H a = some o → ZDS P w H h a o
end
section
variable {P : Program} {w : World} {H H' : Hp} {h h' : Heap} {a : Addr} {o : HO}
theorem ZDS.lt (x : ZDS P w H h a o) : a < h.objs.size := by
 cases o with
 | lst xs => obtain ⟨_, _, _, _, e⟩ := x; exact Heap.lt_size e
 | tup xs => obtain ⟨_, _, _, p⟩ := x; exact p.lt
 | dK kvs => obtain ⟨_, _, _, _, o, _, _, e, _⟩ := x; exact Heap.lt_size e
 | dT kvs => obtain ⟨_, _, _, _, o, _, _, e, _⟩ := x; exact Heap.lt_size e
 | set S n => obtain ⟨o, _, _, _, e, _⟩ := x; exact Heap.lt_size e
 | ins C dx fs => obtain ⟨_, _, _, e, _⟩ := x; exact Heap.lt_size e
 | own y => obtain ⟨_, e⟩ := x; exact Heap.lt_size e
 | xd fs => obtain ⟨_, ⟨_, _, _, e, _⟩, _⟩ := x; exact Heap.lt_size e
 | rng lo hi => obtain ⟨_, _, _, e⟩ := x; exact Heap.lt_size e
 | frz ob u => obtain ⟨e, _⟩ := x; exact Heap.lt_size e
 | tbl ps => exact Heap.lt_size (show h.get? a = some _ from x)
 | met f y => exact Heap.lt_size (show h.get? a = some _ from x)
 | ext φ => obtain ⟨_, ⟨_, e⟩, _⟩ := x; exact Heap.lt_size e
theorem Paired.mapP {α β : Type} {F G : α → β → Prop} : ∀ {l₁ : List α} {l₂ : List β}, Paired F l₁ l₂ → (∀ a b, F a b → G a b) → Paired G l₁ l₂
 | _, _, .nil, _ => .nil
 | _, _, .cons r t, f => .cons (f _ _ r) (Paired.mapP t f)
theorem ZDS.stay (x : ZDS P w H h a o) (k : ∀ b u, (b = a ∨ H b = some (.own a)) → h.get? b = some u → h'.get? b = some u)
  (ho : ∀ b, H b = some (.own a) → H' b = some (.own a)) (ht : ∀ b xs, H b = some (.tup xs) → H' b = some (.tup xs)) : ZDS P w H' h' a o := by
 induction o with
 | lst xs => obtain ⟨z, its, n, r, e⟩ := x; exact ⟨z, its, n, r, k _ _ (.inl rfl) e⟩
 | tup xs =>
  obtain ⟨⟨z, pd⟩, its, r, ob, e, c⟩ := x
  exact ⟨⟨z, fun q => let ⟨od, ed, cd⟩ := pd q; ⟨od, k _ _ (.inl rfl) ed, cd⟩⟩, its, r, ob, k _ _ (.inl rfl) e, c⟩
 | dK kvs => obtain ⟨z, y, vs, r, ob, es, ep, e, c⟩ := x; exact ⟨z, y, vs, r, ob, es, ep, k _ _ (.inl rfl) e, c⟩
 | dT kvs =>
  obtain ⟨z, y, xs, r, ob, es, ep, e, c⟩ := x
  exact ⟨z, y, xs, Paired.mapP r fun p q z => ⟨z.1, ht _ _ z.2.1, z.2.2⟩, ob, es, ep, k _ _ (.inl rfl) e, c⟩
 | set S n => obtain ⟨ob, es, ep, t, e, c⟩ := x; exact ⟨ob, es, ep, t, k _ _ (.inl rfl) e, c⟩
 | ins C dx fs =>
  obtain ⟨d, z, ne, e, mA, ⟨od, es, ep, e2, c⟩, r⟩ := x
  exact ⟨ho _ d, z, ne, k _ _ (.inl rfl) e, mA, ⟨od, es, ep, k _ _ (.inr d) e2, c⟩, r⟩
 | own y => obtain ⟨ob, e⟩ := x; exact ⟨ob, k _ _ (.inl rfl) e⟩
 | xd fs => obtain ⟨mA, ⟨od, es, ep, e, c⟩, r⟩ := x; exact ⟨mA, ⟨od, es, ep, k _ _ (.inl rfl) e, c⟩, r⟩
 | rng lo hi => obtain ⟨t, u, v, e⟩ := x; exact ⟨t, u, v, k _ _ (.inl rfl) e⟩
 | frz ob u ih => obtain ⟨e, q⟩ := x; exact ⟨k _ _ (.inl rfl) e, ih q⟩
 | tbl ps =>
  have e : h.get? a = some { cls := .none, data := .fields ps } := x
  show h'.get? a = some { cls := .none, data := .fields ps }
  exact k a _ (.inl rfl) e
 | met f y =>
  have e : h.get? a = some (PySem.W.methodObj (.ref f) (.ref y)) := x
  show h'.get? a = some (PySem.W.methodObj (.ref f) (.ref y))
  exact k a _ (.inl rfl) e
 | ext φ => obtain ⟨p, ⟨o, e⟩, st⟩ := x; exact ⟨st _ _ p fun o q => k _ _ (.inl rfl) q, ⟨o, k _ _ (.inl rfl) e⟩, st⟩
theorem HOk.lt (x : HOk P w H h) (e : H a = some o) : a < h.objs.size := (x a o e).lt
theorem HOk.fresh (x : HOk P w H h) (e : h.objs.size ≤ a) : H a = none := by
 cases q : H a with
 | none => rfl
 | some u => exact absurd (Nat.lt_of_lt_of_le (x.lt q) e) (Nat.lt_irrefl _)
theorem HOk.kept (x : HOk P w H h) (k : ∀ b u, h.get? b = some u → h'.get? b = some u) : HOk P w H h' := fun a o e =>
 (x a o e).stay (fun b u _ q => k b u q) (fun _ q => q) fun _ _ q => q
theorem HOk.laid (x : HOk P w H h) (k : ∀ b u, h.get? b = some u → h'.get? b = some u) (hp : h.objs.size ≤ a) (new : ZDS P w (upd H a o) h' a o) : HOk P w (upd H a o) h' := fun b u e => by
 have hn := x.fresh hp
 by_cases hb : b = a
 ·subst hb; rw [ZDN] at e; cases e; exact new
 ·rw [ZDF hb] at e
  exact (x b u e).stay (fun c v _ q => k c v q) (fun c q => by rw [ZDF (ZDR q hn)]; exact q) fun c xs q => by rw [ZDF (ZDR q hn)]; exact q
end
def Rd (H : Hp) (a : Addr) (u : HO) : Prop := H a = some u ∨ ∃ o, H a = some (.frz o u)
theorem Rd.ok {P : Program} {w : World} {H : Hp} {h : Heap} {a : Addr} {u : HO} (r : Rd H a u) (x : HOk P w H h) : ZDS P w H h a u := by
 rcases r with r | ⟨o, r⟩
 ·exact x a u r
 ·obtain ⟨_, q⟩ := x a _ r
  exact q
def Mut : Option HO → Prop
 | some (.lst _) => True
 | some (.dK _) => True
 | some (.dT _) => True
 | some (.set _ _) => True
 | some (.ins _ _ _) => True
 | some (.ext _) => True
 | _ => False
section
variable {P : Program} {w : World} {H : Hp} {h h' : Heap} {x e : Addr} {o' : HO}
theorem HOk.write (ok : HOk P w H h) (mu : Mut (H x)) (he : e = x ∨ H e = some (.own x)) (k : ∀ b u, b ≠ e → h.get? b = some u → h'.get? b = some u) (heo : ∃ u, h'.get? e = some u)
  (new : ZDS P w (upd H x o') h' x o') : HOk P w (upd H x o') h' := fun b u q => by
 have nown : ∀ c y, H c = some (.own y) → c ≠ x := fun c y r z => by subst z; rw [r] at mu; exact mu
 have ntup : ∀ c xs, H c = some (.tup xs) → c ≠ x := fun c xs r z => by subst z; rw [r] at mu; exact mu
 by_cases hb : b = x
 ·subst hb; rw [ZDN] at q; cases q; exact new
 ·rw [ZDF hb] at q
  by_cases hbe : b = e
  ·have q' : H b = some (.own x) := by
    rcases he with z | z
    ·exact absurd (hbe.trans z) hb
    ·rw [hbe]; exact z
   rw [q] at q'; cases q'
   obtain ⟨v, hv⟩ := heo
   exact ⟨v, by rw [hbe]; exact hv⟩
  ·refine (ok b u q).stay (fun c v hc r => k c v ?_ r) (fun c r => by rw [ZDF (nown c b r)]; exact r) fun c xs r => by rw [ZDF (ntup c xs r)]; exact r
   rcases hc with rfl | hc
   ·exact hbe
   ·rintro rfl
    rcases he with z | z
    ·exact nown c b hc z
    ·rw [hc] at z; cases z; exact hb rfl
end
structure Un (fs ex : List Addr) (H H' : Hp) (h h' : Heap) : Prop where
 keep : ∀ b o, h.get? b = some o → H b = none → b ∉ fs → b ∉ ex → h'.get? b = some o
 slot : ∀ b o, h.get? b = some o → H b = none → b ∈ fs → b ∉ ex → ∃ sl, h'.get? b = some { o with slots := sl }
 free : ∀ b o, h.get? b = some o → H b = none → b ∉ ex → H' b = none
 there : ∀ b o, h.get? b = some o → b ∉ ex → ∃ o', h'.get? b = some o'
 tups : ∀ b xs, H b = some (.tup xs) → H' b = some (.tup xs)
 frzs : ∀ b o u, H b = some (.frz o u) → H' b = some (.frz o u)
 tbls : ∀ b ps, H b = some (.tbl ps) → ∃ more, H' b = some (.tbl (ps ++ more))
section
variable {fs fs' ex ex' : List Addr} {H H1 H2 : Hp} {h h1 h2 h' : Heap} {a x e : Addr} {o : HO}
theorem Un.any (u : Un fs ex H H1 h h1) {b : Addr} {ob : Obj} (q : h.get? b = some ob) (n : H b = none) (hx : b ∉ ex) : ∃ sl, h1.get? b = some { ob with slots := sl } := by
 by_cases hb : b ∈ fs
 ·exact u.slot b ob q n hb hx
 ·exact ⟨ob.slots, u.keep b ob q n hb hx⟩
theorem Un.kept (k : ∀ b u, h.get? b = some u → h'.get? b = some u) : Un fs ex H H h h' :=
 ⟨fun b ob q _ _ _ => k b ob q, fun b ob q _ _ _ => ⟨ob.slots, k b ob q⟩, fun _ _ _ n _ => n, fun b ob q _ => ⟨ob, k b ob q⟩, fun _ _ q => q, fun _ _ _ q => q, fun _ ps q => ⟨#[], by rw [q]; simp⟩⟩
theorem Un.refl : Un fs ex H H h h := Un.kept fun _ _ q => q
theorem Un.laid (k : ∀ b u, h.get? b = some u → h'.get? b = some u) (hp : h.objs.size ≤ a) (hn : H a = none) : Un fs ex H (upd H a o) h h' where
 keep := fun b u q _ _ _ => k b u q
 slot := fun b u q _ _ _ => ⟨u.slots, k b u q⟩
 free := fun b u q n _ => by rw [ZDF (Nat.ne_of_lt (Nat.lt_of_lt_of_le (Heap.lt_size q) hp))]; exact n
 there := fun b u q _ => ⟨u, k b u q⟩
 tups := fun b xs q => by rw [ZDF (ZDR q hn)]; exact q
 frzs := fun b u xs q => by rw [ZDF (ZDR q hn)]; exact q
 tbls := fun b ps q => ⟨#[], by rw [ZDF (ZDR q hn), q]; simp⟩
theorem Un.write (mu : Mut (H x)) (he : e = x ∨ H e = some (.own x)) (k : ∀ b u, b ≠ e → h.get? b = some u → h'.get? b = some u) (heo : ∃ u, h'.get? e = some u) : Un fs ex H (upd H x o) h h' := by
 have hx : ∀ b, H b = none → b ≠ x := fun b n z => by subst z; rw [n] at mu; exact mu
 have hb : ∀ b, H b = none → b ≠ e := fun b n z => by
  subst z
  rcases he with r | r
  ·exact hx b n r
  ·rw [n] at r; cases r
 have hm : ∀ b u, H b = some u → ¬ Mut (some u) → b ≠ x := fun b u q nm z => by subst z; rw [q] at mu; exact nm mu
 refine ⟨fun b u q n _ _ => k b u (hb b n) q, fun b u q n _ _ => ⟨u.slots, k b u (hb b n) q⟩, fun b u q n _ => by rw [ZDF (hx b n)]; exact n, fun b u q _ => ?_,
  fun b xs q => by rw [ZDF (hm b _ q fun z => z)]; exact q, fun b u xs q => by rw [ZDF (hm b _ q fun z => z)]; exact q, fun b ps q => ⟨#[], by rw [ZDF (hm b _ q fun z => z), q]; simp⟩⟩
 by_cases hbe : b = e
 ·subst hbe; exact heo
 ·exact ⟨u, k b u hbe q⟩
end
def trk (h : Heap) (H : Hp) : List Addr := (List.range h.objs.size).filter fun a => (H a).isSome
def ZGI (h : Heap) (H : Hp) : Heap := PySem.W.hideAll h (trk h H)
theorem ZMk (h : Heap) (H : Hp) : (ZGI h H).objs.size = h.objs.size := PySem.W.hideAll_size _ _
theorem ZN0 {h : Heap} {H : Hp} {b : Addr} {o : Obj} (e : h.get? b = some o) (n : H b = none) : (ZGI h H).get? b = some o :=
 PySem.W.hideAll_get _ e fun hm => by
  have q : (H b).isSome = true := (List.mem_filter.mp hm).2
  rw [n] at q; simp at q
theorem ZPx {h : Heap} {H : Hp} {b : Addr} {o : Obj} (e : (ZGI h H).get? b = some o) : h.get? b = some o ∧ H b = none := by
 have e' : h.get? b = some o := PySem.W.of_hideAll (trk h H) e
 refine ⟨e', ?_⟩
 cases q : H b with
 | none => rfl
 | some x =>
  have hm : b ∈ trk h H := List.mem_filter.mpr ⟨List.mem_range.mpr (Heap.lt_size e'), by simp [q]⟩
  have z : (ZGI h H).get? b = none := PySem.W.hideAll_none (trk h H) hm
  rw [z] at e; cases e
def ZPy (g h : Heap) (L : Addr) : List (Addr × Obj) := (List.range h.objs.size).filterMap fun a => if a = L ∨ (g.get? a).isSome = true then none else (h.get? a).map fun o => (a, o)
def ZEA (g h : Heap) (L d : Addr) : List (Addr × Obj) := (ZPy g h L).filter fun p => decide (p.1 ≠ d)
structure Mod (K : W.Frag) (mg : Str → Option Value) (base : Heap) : Prop where
 kin : K.In base
 glob : base.Ns mainGlobals mg
 blt : ∃ mb, base.Ns builtinsNs mb ∧ ∀ x : Str, x ≠ "__name__" → mb x = bootBuiltins x
 nolimit : base.NoLimit
structure Cx where
 prog : Program
 w : World
 K : W.Frag
 mg : Str → Option Value
 base : Heap
 A : Around
 N : List Str
 s₀ : Shared
 H₀ : Hp
 env : Env
 outer : List Env
 stack : List Env
 ex : List Addr
 fn : Str → Bool
 calm : Bool
 pn : List (Addr × Obj)
 xe : Value → Shared → Prop
def frs (l : List Env) : List Addr := l.filterMap (·.frame)
abbrev Cx.fs (X : Cx) : List Addr := frs X.outer
def Vis (sc : Scope) (x : Str) : Prop := sc.names.lookup x = some .local ∨ sc.names.lookup x = some .cell ∨ sc.names.lookup x = some .free
def Loc (sc : Scope) (x : Str) : Prop := sc.names.lookup x = some .local ∨ sc.names.lookup x = some .cell
def ZTo (env : Env) (h : Heap) (m : Str → Option Value) (x : Str) (u : Value) : Prop :=
 (env.kindOf x = some .local ∧ m x = some u) ∨ ((env.kindOf x = some .cell ∨ env.kindOf x = some .free) ∧ ∃ c, env.cells.lookup x = some c ∧ h.IsCell c (some u))
structure Cx.Ok (X : Cx) : Prop where
 mod : Mod X.K X.mg X.base
 kind : X.env.scope.kind = .function
 glob : X.env.globals = mainGlobals
 blt : X.env.builtins = builtinsNs
 above : X.s₀.heap.objs.size ≤ X.env.locals
 inj : ∀ x y c, X.env.cells.lookup x = some c → X.env.cells.lookup y = some c → x = y
 has : ∀ x, (X.env.kindOf x = some .cell ∨ X.env.kindOf x = some .free) → ∃ c, X.env.cells.lookup x = some c
 cab : ∀ x c, X.fn x = true → X.env.cells.lookup x = some c → X.s₀.heap.objs.size ≤ c
 hd : X.calm = true → X.A.handled = none
 frames : X.A.frames = some X.stack
 stk : X.stack = X.outer ∨ (X.stack = X.env :: X.outer ∧ X.env.frame = some X.env.locals)
 exf : ∀ b ∈ X.ex, b ≠ X.env.locals ∧ ∀ x c, X.env.cells.lookup x = some c → c ≠ b
 bs : ∀ b o, X.base.get? b = some o → X.s₀.heap.get? b = some o ∧ X.H₀ b = none
 bsz : X.base.objs.size ≤ X.s₀.heap.objs.size
 noex : ∀ b o, X.base.get? b = some o → b ∉ X.ex
 exfs : ∀ b ∈ X.ex, b ∉ X.fs
 funs : X.s₀.heap.FunFrames X.base X.outer
 frf : ∀ b ∈ X.fs, X.H₀ b = none
structure Inv (X : Cx) (pins : List (Addr × Obj)) (σ : List (Option V)) (H : Hp) (s : Shared) : Prop where
 ok : X.Ok
 os : s.os = X.s₀.os
 bare : AllBare s.gens
 base : Un X.fs X.ex X.H₀ H X.s₀.heap s.heap
 loc : ∃ m, s.heap.Ns X.env.locals m ∧ ∀ (i : Nat) (x : Str) (v : V), X.N[i]? = some x → σ[i]? = some (some v) → Vis X.env.scope x → ∃ u, ZDH v u ∧ ZTo X.env s.heap m x u
 cell : ∀ x c, X.env.cells.lookup x = some c → ∃ v, s.heap.IsCell c v
 free : H X.env.locals = none
 freeC : ∀ x c, X.env.cells.lookup x = some c → H c = none
 pin : ∀ p ∈ X.pn ++ pins, s.heap.get? p.1 = some p.2 ∧ H p.1 = none ∧ p.1 ≠ X.env.locals ∧ p.1 ∉ X.fs ∧ ∀ v, p.2.data ≠ .cell v
 hok : HOk X.prog X.w H s.heap
 len : σ.length = X.N.length
section
variable {X : Cx} {pins : List (Addr × Obj)} {σ : List (Option V)} {H H' : Hp} {s : Shared} {h' : Heap}
theorem Cx.Ok.nofr (ok : X.Ok) {b : Addr} {o : Obj} (e : X.base.get? b = some o) : b ∉ X.fs := fun hb => by
 have := (ok.funs.mem hb).1
 rw [e] at this; cases this
theorem Inv.bs (I : Inv X pins σ H s) : ∀ b o, X.base.get? b = some o → s.heap.get? b = some o ∧ H b = none := fun b o e =>
 ⟨I.base.keep b o (I.ok.bs b o e).1 (I.ok.bs b o e).2 (I.ok.nofr e) (I.ok.noex b o e), I.base.free b o (I.ok.bs b o e).1 (I.ok.bs b o e).2 (I.ok.noex b o e)⟩
theorem Inv.bk (I : Inv X pins σ H s) : ∀ b o, X.base.get? b = some o → s.heap.get? b = some o := fun b o e => (I.bs b o e).1
theorem Inv.mod (I : Inv X pins σ H s) : Mod X.K X.mg X.base := I.ok.mod
theorem Inv.kIn (I : Inv X pins σ H s) : X.K.In s.heap := I.ok.mod.kin.keeps I.bk
theorem Inv.lt (I : Inv X pins σ H s) : X.env.locals < s.heap.objs.size := let ⟨_, hn, _⟩ := I.loc; hn.lt
theorem Inv.sz (I : Inv X pins σ H s) : X.s₀.heap.objs.size ≤ s.heap.objs.size := Nat.le_trans I.ok.above (Nat.le_of_lt I.lt)
theorem Inv.nofs (I : Inv X pins σ H s) {a : Addr} (h : s.heap.objs.size ≤ a) : a ∉ X.fs := fun hb => by
 obtain ⟨_, o, ho, _⟩ := I.ok.funs.mem hb
 exact absurd (Nat.lt_of_lt_of_le (Heap.lt_size ho) (Nat.le_trans I.sz h)) (Nat.lt_irrefl _)
theorem Inv.cne (I : Inv X pins σ H s) : ∀ x c, X.env.cells.lookup x = some c → c ≠ X.env.locals := fun x c e z => by
 obtain ⟨v, o, ho, hd⟩ := I.cell x c e
 obtain ⟨m, ⟨o', es, ep, ho', hd', _⟩, _⟩ := I.loc
 rw [z, ho'] at ho; cases ho; rw [hd'] at hd; cases hd
theorem Inv.funs (I : Inv X pins σ H s) : s.heap.FunFrames X.base X.outer := by
 have all : ∀ (l : List Env), (∀ b ∈ frs l, b ∈ X.fs) → X.s₀.heap.FunFrames X.base l → s.heap.FunFrames X.base l := by
  intro l
  induction l with
  | nil => intro _ _; trivial
  | cons env r ih =>
   intro hs hl
   obtain ⟨hk, ⟨L, o, hf, hn, ho, hd⟩, hr⟩ := hl
   have hL : L ∈ X.fs := hs L (by unfold frs; rw [List.filterMap_cons, hf]; exact List.mem_cons_self)
   obtain ⟨sl, e⟩ := I.base.slot L o ho (I.ok.frf L hL) hL fun z => I.ok.exfs L z hL
   exact ⟨hk, ⟨L, _, hf, hn, e, hd⟩, ih (fun b hb => hs b (by unfold frs; rw [List.filterMap_cons, hf]; exact List.mem_cons_of_mem _ hb)) hr⟩
 exact all X.outer (fun _ hb => hb) I.ok.funs
theorem Inv.stack (I : Inv X pins σ H s) : s.heap.FunFrames X.base X.stack := by
 rcases I.ok.stk with e | ⟨e, hf⟩
 ·rw [e]; exact I.funs
 ·rw [e]
  obtain ⟨m, hn, _⟩ := I.loc
  refine .cons (by rw [I.ok.kind]; decide) hf hn ?_ I.funs
  exact Heap.get?_none_of_le (Nat.le_trans I.ok.bsz I.ok.above)
theorem Inv.stkSub (I : Inv X pins σ H s) : ∀ b ∈ frs X.stack, b ∈ X.env.locals :: X.fs := fun b hb => by
 rcases I.ok.stk with e | ⟨e, hf⟩
 ·rw [e] at hb; exact List.mem_cons_of_mem _ hb
 ·rw [e] at hb
  unfold frs at hb
  rw [List.filterMap_cons, hf] at hb
  exact hb
theorem Inv.stkFree (I : Inv X pins σ H s) : ∀ b ∈ frs X.stack, H b = none := fun b hb => by
 rcases List.mem_cons.mp (I.stkSub b hb) with e | hb
 ·rw [e]; exact I.free
 ·obtain ⟨_, o, ho, _⟩ := I.ok.funs.mem hb
  exact I.base.free b o ho (I.ok.frf b hb) fun z => I.ok.exfs b z hb
theorem Inv.step {g' : Array GenState} {t' : Nat} {d' : Drawn} {ch : List Addr} (I : Inv X pins σ H s)
  (hch : ∀ b ∈ ch, (b ∈ X.ex ∨ X.s₀.heap.objs.size ≤ b) ∧ b ≠ X.env.locals ∧ (∀ x c, X.env.cells.lookup x = some c → c ≠ b) ∧ ∀ p ∈ X.pn ++ pins, p.1 ≠ b)
  (keep : ∀ b o, b ≠ X.env.locals → b ∉ X.fs → b ∉ ch → s.heap.get? b = some o → H b = none → h'.get? b = some o)
  (slot : ∀ b o, b ≠ X.env.locals → b ∈ X.fs → b ∉ ch → s.heap.get? b = some o → H b = none → ∃ sl, h'.get? b = some { o with slots := sl }) (free : ∀ b o, b ∉ ch → s.heap.get? b = some o → H b = none → H' b = none)
  (there : ∀ b o, b ∉ ch → s.heap.get? b = some o → ∃ o', h'.get? b = some o')
  (tups : ∀ b xs, H b = some (.tup xs) → H' b = some (.tup xs)) (frzs : ∀ b o u, H b = some (.frz o u) → H' b = some (.frz o u)) (tbls : ∀ b ps, H b = some (.tbl ps) → ∃ more, H' b = some (.tbl (ps ++ more)))
  (ns : ∀ m, s.heap.Ns X.env.locals m → h'.Ns X.env.locals m) (hok : HOk X.prog X.w H' h') (hg : AllBare g') :
  Inv X pins σ H' { s with heap := h', gens := g', drawn := d', toks := t' } := by
 have neL : ∀ b o, X.s₀.heap.get? b = some o → b ≠ X.env.locals := fun b o e => Nat.ne_of_lt (Nat.lt_of_lt_of_le (Heap.lt_size e) I.ok.above)
 have neC : ∀ b o, X.s₀.heap.get? b = some o → b ∉ X.ex → b ∉ ch := fun b o e hx hb => by
  rcases (hch b hb).1 with z | z
  ·exact hx z
  ·exact absurd (Nat.lt_of_lt_of_le (Heap.lt_size e) z) (Nat.lt_irrefl _)
 have cellK : ∀ x c, X.env.cells.lookup x = some c → ∀ v, s.heap.IsCell c v → h'.IsCell c v := fun x c e v ⟨o, ho, hd⟩ => by
  have nch : c ∉ ch := fun z => (hch c z).2.2.1 x c e rfl
  by_cases hc : c ∈ X.fs
  ·obtain ⟨sl, q⟩ := slot c o (I.cne x c e) hc nch ho (I.freeC x c e)
   exact ⟨_, q, hd⟩
  ·exact ⟨o, keep c o (I.cne x c e) hc nch ho (I.freeC x c e), hd⟩
 refine ⟨I.ok, I.os, hg, ⟨fun b o e n hb hx => ?_, fun b o e n hb hx => ?_, fun b o e n hx => ?_, fun b o e hx => ?_, fun b xs e => tups b xs (I.base.tups b xs e), fun b o xs e => frzs b o xs (I.base.frzs b o xs e), fun b ps e => ?_⟩, ?_, fun x c e => ?_, ?_, fun x c e => ?_, fun p hp => ?_, hok, I.len⟩
 ·exact keep b o (neL b o e) hb (neC b o e hx) (I.base.keep b o e n hb hx) (I.base.free b o e n hx)
 ·obtain ⟨sl, e1⟩ := I.base.slot b o e n hb hx
  obtain ⟨sl', e2⟩ := slot b _ (neL b o e) hb (neC b o e hx) e1 (I.base.free b o e n hx)
  exact ⟨sl', e2⟩
 ·obtain ⟨o', e1⟩ := I.base.there b o e hx
  exact free b o' (neC b o e hx) e1 (I.base.free b o e n hx)
 ·obtain ⟨o', e1⟩ := I.base.there b o e hx
  exact there b o' (neC b o e hx) e1
 ·obtain ⟨m1, e1⟩ := I.base.tbls b ps e
  obtain ⟨m2, e2⟩ := tbls b _ e1
  exact ⟨m1 ++ m2, by rw [e2, Array.append_assoc]⟩
 ·obtain ⟨m, hn, hl⟩ := I.loc
  refine ⟨m, ns m hn, fun i x v e1 e2 e3 => ?_⟩
  obtain ⟨u, r, l⟩ := hl i x v e1 e2 e3
  refine ⟨u, r, ?_⟩
  rcases l with l | ⟨k, c, e, z⟩
  ·exact .inl l
  ·exact .inr ⟨k, c, e, cellK x c e _ z⟩
 ·obtain ⟨v, z⟩ := I.cell x c e
  exact ⟨v, cellK x c e v z⟩
 ·obtain ⟨m, ⟨o, _, _, ho, _⟩, _⟩ := I.loc
  exact free _ o (fun z => (hch _ z).2.1 rfl) ho I.free
 ·obtain ⟨v, o, ho, hd⟩ := I.cell x c e
  exact free c o (fun z => (hch c z).2.2.1 x c e rfl) ho (I.freeC x c e)
 ·obtain ⟨e, n, ne, nf, d⟩ := I.pin p hp
  have nch : p.1 ∉ ch := fun z => (hch p.1 z).2.2.2 p hp rfl
  exact ⟨keep p.1 p.2 ne nf nch e n, free p.1 p.2 nch e n, ne, nf, d⟩
theorem Inv.un {t' : Nat} (I : Inv X pins σ H s) (u : Un X.fs [] H H' s.heap h') (hok : HOk X.prog X.w H' h') : Inv X pins σ H' { s with heap := h', toks := t' } := by
 obtain ⟨m, ⟨o, es, ep, ho, r⟩, _⟩ := id I.loc
 obtain ⟨sl, hL⟩ := u.any ho I.free (by simp)
 exact I.step (g' := s.gens) (d' := s.drawn) (ch := []) (fun _ z => nomatch z) (fun b o _ hb _ e n => u.keep b o e n hb (by simp)) (fun b o _ hb _ e n => u.slot b o e n hb (by simp)) (fun b o _ e n => u.free b o e n (by simp)) (fun b o _ e => u.there b o e (by simp)) u.tups u.frzs u.tbls (fun m' hm => by
  obtain ⟨o', es', ep', ho', r'⟩ := hm
  rw [ho] at ho'; cases ho'
  exact ⟨_, es', ep', hL, r'⟩) hok I.bare
theorem Inv.call {g' : Array GenState} {t' : Nat} {d' : Drawn} {ch : List Addr} (I : Inv X pins σ H s) (u : Un (frs X.stack) ch H H' s.heap h') (hok : HOk X.prog X.w H' h') (hg : AllBare g')
  (hch : ∀ b ∈ ch, (b ∈ X.ex ∨ X.s₀.heap.objs.size ≤ b) ∧ b ≠ X.env.locals ∧ (∀ x c, X.env.cells.lookup x = some c → c ≠ b) ∧ ∀ p ∈ X.pn ++ pins, p.1 ≠ b) :
  Inv X pins σ H' { s with heap := h', gens := g', drawn := d', toks := t' } := by
 obtain ⟨m, ⟨o, es, ep, ho, r⟩, _⟩ := id I.loc
 obtain ⟨sl, hL⟩ := u.any ho I.free fun z => (hch _ z).2.1 rfl
 exact I.step (ch := ch) hch (fun b o hL hb hc e n => u.keep b o e n (fun z => (List.mem_cons.mp (I.stkSub b z)).elim hL hb) hc) (fun b o _ _ hc e n => u.any e n hc) (fun b o hc e n => u.free b o e n hc) (fun b o hc e => u.there b o e hc) u.tups u.frzs u.tbls (fun m' hm => by
  obtain ⟨o', es', ep', ho', r'⟩ := hm
  rw [ho] at ho'; cases ho'
  exact ⟨_, es', ep', hL, r'⟩) hok hg
theorem Inv.turned {t' : Nat} {it : Addr} (I : Inv X pins σ H s) (k : ∀ b o, b ≠ it → s.heap.get? b = some o → h'.get? b = some o) (hn : H it = none) (hL : it ≠ X.env.locals)
  (h1 : it ∈ X.ex ∨ X.s₀.heap.objs.size ≤ it) (h2 : ∀ x c, X.env.cells.lookup x = some c → c ≠ it) (h3 : ∀ p ∈ X.pn ++ pins, p.1 ≠ it) : Inv X pins σ H { s with heap := h', toks := t' } := by
 have nit : ∀ b u, H b = some u → b ≠ it := fun b u e z => by rw [z, hn] at e; cases e
 refine I.step (g' := s.gens) (d' := s.drawn) (ch := [it]) (fun b hb => ?_) (fun b o _ _ hc e _ => k b o (fun z => hc (by simp [z])) e) (fun b o _ _ hc e _ => ⟨o.slots, k b o (fun z => hc (by simp [z])) e⟩) (fun _ _ _ _ n => n)
  (fun b o hc e => ⟨o, k b o (fun z => hc (by simp [z])) e⟩) (fun _ _ e => e) (fun _ _ _ e => e) (fun b ps e => ⟨#[], by rw [e]; simp⟩) (fun m hm => ?_) (fun b u e => ?_) I.bare
 ·have e : b = it := by simpa using hb
  subst e
  exact ⟨h1, hL, h2, h3⟩
 ·obtain ⟨o, es, ep, ho, r⟩ := hm
  exact ⟨o, es, ep, k _ o (Ne.symm hL) ho, r⟩
 ·refine (I.hok b u e).stay (fun c v hc q => k c v ?_ q) (fun _ q => q) fun _ _ q => q
  rcases hc with z | z
  ·rw [z]; exact nit b u e
  ·exact nit c _ z
theorem Inv.tok (I : Inv X pins σ H s) (t : Nat) : Inv X pins σ H { s with toks := t } := I.un (h' := s.heap) (t' := t) Un.refl I.hok
theorem Inv.kept {t' : Nat} (I : Inv X pins σ H s) (k : ∀ b u, s.heap.get? b = some u → h'.get? b = some u) : Inv X pins σ H { s with heap := h', toks := t' } := I.un (Un.kept k) (I.hok.kept k)
theorem Inv.laid {a : Addr} {o : HO} {t' : Nat} (I : Inv X pins σ H s) (k : ∀ b u, s.heap.get? b = some u → h'.get? b = some u) (hp : s.heap.objs.size ≤ a) (new : ZDS X.prog X.w (upd H a o) h' a o) :
 Inv X pins σ (upd H a o) { s with heap := h', toks := t' } := I.un (Un.laid k hp (I.hok.fresh hp)) (I.hok.laid k hp new)
theorem Inv.write {x e : Addr} {o : HO} {t' : Nat} (I : Inv X pins σ H s) (mu : Mut (H x)) (he : e = x ∨ H e = some (.own x)) (k : ∀ b u, b ≠ e → s.heap.get? b = some u → h'.get? b = some u) (heo : ∃ u, h'.get? e = some u)
 (new : ZDS X.prog X.w (upd H x o) h' x o) : Inv X pins σ (upd H x o) { s with heap := h', toks := t' } := I.un (Un.write mu he k heo) (I.hok.write mu he k heo new)
theorem Inv.pins_of {pins' : List (Addr × Obj)} (I : Inv X pins σ H s) (h : ∀ p ∈ pins', s.heap.get? p.1 = some p.2 ∧ H p.1 = none ∧ p.1 ≠ X.env.locals ∧ p.1 ∉ X.fs ∧ ∀ v, p.2.data ≠ .cell v) : Inv X pins' σ H s :=
 ⟨I.ok, I.os, I.bare, I.base, I.loc, I.cell, I.free, I.freeC, fun p hp => (List.mem_append.mp hp).elim (fun z => I.pin p (List.mem_append_left _ z)) (h p), I.hok, I.len⟩
theorem ZHh {N : List Str} (hN : N.Nodup) {i j : Nat} {x : Str} (a : N[i]? = some x) (b : N[j]? = some x) : i = j := by
 obtain ⟨h1, e1⟩ := List.getElem?_eq_some_iff.mp a
 obtain ⟨h2, e2⟩ := List.getElem?_eq_some_iff.mp b
 exact (List.getElem_inj hN).mp (e1.trans e2.symm)
theorem ZMl {M : Model} {A : Around} {E : Value → Shared → Prop} {i : Nat} {x : Str} {v : V} {u : Value} {Q : Unit → Shared → Prop} (I : Inv X pins σ H s) (hN : X.N.Nodup) (hi : X.N[i]? = some x) (hx : Loc X.env.scope x) (r : ZDH v u)
  (h : ∀ s', Inv X pins (σ.set i (some v)) H s' → (∃ a, Heap.SameBut a s.heap s'.heap ∧ (a = X.env.locals ∨ X.env.cells.lookup x = some a)) → Q () s') (hf : X.fn x = true ∨ X.env.scope.names.lookup x = some .local := by first | exact .inl rfl | exact .inr rfl | assumption) : wpAny M A (storeName X.env x u) Q E s := by
 obtain ⟨m, hn, hl⟩ := id I.loc
 have hcls : (X.env.scope.kind == .class || (X.env.scope.kind == .module && X.env.locals != X.env.globals)) = false := by rw [I.ok.kind]; rfl
 have hiσ : i < σ.length := by rw [I.len]; exact (List.getElem?_eq_some_iff.mp hi).1
 have cne := I.cne
 have tracked : ∀ {a : Addr} {h' : Heap}, (∃ o, s.heap.get? a = some o ∧ H a = none) → Heap.SameBut a s.heap h' → HOk X.prog X.w H h' := fun {a h'} ha hs b ob e => by
  obtain ⟨_, _, hfree⟩ := ha
  refine (I.hok b ob e).stay (fun c w' hc q => (hs.2 c ?_).trans q) (fun _ q => q) fun _ _ q => q
  rintro rfl
  rcases hc with rfl | hc
  ·rw [hfree] at e; cases e
  ·rw [hfree] at hc; cases hc
 rcases hx with hk | hk
 ·refine wpAny_storeName_local hk hn (fun h' hn' hs => ?_) hcls
  obtain ⟨oL, _, _, hoL, _⟩ := id hn
  refine h _ ⟨I.ok, I.os, I.bare, ⟨fun b o e n hb hx => ?_, fun b o e n hb hx => ?_, I.base.free, fun b o e hx => ?_, I.base.tups, I.base.frzs, I.base.tbls⟩, ⟨_, hn', fun j y v' e1 e2 e3 => ?_⟩, fun y c e => ?_, I.free, I.freeC, fun p hp => ?_, tracked ⟨oL, hoL, I.free⟩ hs, by simpa using I.len⟩ ⟨_, hs, .inl rfl⟩
  ·exact (hs.2 b (Nat.ne_of_lt (Nat.lt_of_lt_of_le (Heap.lt_size e) I.ok.above))).trans (I.base.keep b o e n hb hx)
  ·obtain ⟨sl, e1⟩ := I.base.slot b o e n hb hx
   exact ⟨sl, (hs.2 b (Nat.ne_of_lt (Nat.lt_of_lt_of_le (Heap.lt_size e) I.ok.above))).trans e1⟩
  ·obtain ⟨o', e1⟩ := I.base.there b o e hx
   exact ⟨o', (hs.2 b (Nat.ne_of_lt (Nat.lt_of_lt_of_le (Heap.lt_size e) I.ok.above))).trans e1⟩
  ·by_cases hj : j = i
   ·subst hj
    rw [hi] at e1; cases e1
    rw [List.getElem?_set_self hiσ] at e2
    cases e2
    exact ⟨u, r, .inl ⟨hk, by simp⟩⟩
   ·rw [List.getElem?_set_ne (Ne.symm hj)] at e2
    obtain ⟨u', r', q⟩ := hl j y v' e1 e2 e3
    refine ⟨u', r', ?_⟩
    rcases q with ⟨k, e⟩ | ⟨k, c, e, z⟩
    ·refine .inl ⟨k, ?_⟩
     have : y ≠ x := fun e => hj (ZHh hN e1 (e ▸ hi))
     simp [this, e]
    ·exact .inr ⟨k, c, e, z.sameBut hs (cne y c e)⟩
  ·obtain ⟨w', z⟩ := I.cell y c e
   exact ⟨w', z.sameBut hs (cne y c e)⟩
  ·obtain ⟨e, n, ne, nf, d⟩ := I.pin p hp
   exact ⟨(hs.2 p.1 ne).trans e, n, ne, nf, d⟩
 ·have hfn : X.fn x = true := by
   rcases hf with z | z
   ·exact z
   ·rw [z] at hk; cases hk
  obtain ⟨c, hc⟩ := I.ok.has x (.inl hk)
  obtain ⟨w', z⟩ := I.cell x c hc
  refine wpAny_storeName_cell I.ok.kind hk hc z (fun h' hc' hs => ?_)
  obtain ⟨oc, hoc, hocd⟩ := id z
  refine h { s with heap := h' } ⟨I.ok, I.os, I.bare, ⟨fun b o e n hb hx => ?_, fun b o e n hb hx => ?_, I.base.free, fun b o e hx => ?_, I.base.tups, I.base.frzs, I.base.tbls⟩, ⟨m, hn.sameBut hs (Ne.symm (cne x c hc)), fun j y v' e1 e2 e3 => ?_⟩, fun y c' e => ?_, I.free, I.freeC, fun p hp => ?_, tracked ⟨oc, hoc, I.freeC x c hc⟩ hs, by simpa using I.len⟩ ⟨c, hs, .inr hc⟩
  ·exact (hs.2 b (Nat.ne_of_lt (Nat.lt_of_lt_of_le (Heap.lt_size e) (I.ok.cab x c hfn hc)))).trans (I.base.keep b o e n hb hx)
  ·obtain ⟨sl, e1⟩ := I.base.slot b o e n hb hx
   exact ⟨sl, (hs.2 b (Nat.ne_of_lt (Nat.lt_of_lt_of_le (Heap.lt_size e) (I.ok.cab x c hfn hc)))).trans e1⟩
  ·obtain ⟨o', e1⟩ := I.base.there b o e hx
   exact ⟨o', (hs.2 b (Nat.ne_of_lt (Nat.lt_of_lt_of_le (Heap.lt_size e) (I.ok.cab x c hfn hc)))).trans e1⟩
  ·by_cases hj : j = i
   ·subst hj
    rw [hi] at e1; cases e1
    rw [List.getElem?_set_self hiσ] at e2
    cases e2
    exact ⟨u, r, .inr ⟨.inl hk, c, hc, hc'⟩⟩
   ·rw [List.getElem?_set_ne (Ne.symm hj)] at e2
    obtain ⟨u', r', q⟩ := hl j y v' e1 e2 e3
    refine ⟨u', r', ?_⟩
    rcases q with q | ⟨k, c', e, z'⟩
    ·exact .inl q
    ·refine .inr ⟨k, c', e, z'.sameBut hs ?_⟩
     rintro rfl
     exact hj (ZHh hN e1 (I.ok.inj _ _ _ e hc ▸ hi))
  ·by_cases hcc : c' = c
   ·subst hcc; exact ⟨_, hc'⟩
   ·obtain ⟨w2, z2⟩ := I.cell y c' e
    exact ⟨w2, z2.sameBut hs hcc⟩
  ·obtain ⟨e, n, ne, nf, d⟩ := I.pin p hp
   refine ⟨(hs.2 p.1 ?_).trans e, n, ne, nf, d⟩
   intro q
   rw [q, hoc] at e
   have q' : oc = p.2 := Option.some.inj e
   exact d w' (by rw [← q']; exact hocd)
theorem ZHi {M : Model} {A : Around} {E : Value → Shared → Prop} {i : Nat} {x : Str} {v : V} {u : Value} {Q : Unit → Shared → Prop} (I : Inv X pins σ H s) (hN : X.N.Nodup) (hi : X.N[i]? = some x) (hx : Loc X.env.scope x) (r : ZDH v u)
  (h : ∀ s', Inv X pins (σ.set i (some v)) H s' → Q () s') (hf : X.fn x = true ∨ X.env.scope.names.lookup x = some .local := by first | exact .inl rfl | exact .inr rfl | assumption) : wpAny M A (storeName X.env x u) Q E s :=
 ZMl I hN hi hx r (fun s' I' _ => h s' I') hf
theorem Inv.call' {s' : Shared} {ch : List Addr} (I : Inv X pins σ H s) (ho : s'.os = s.os) (u : Un (frs X.stack) ch H H' s.heap s'.heap) (hok : HOk X.prog X.w H' s'.heap) (hg : AllBare s'.gens)
  (hch : ∀ b ∈ ch, (b ∈ X.ex ∨ X.s₀.heap.objs.size ≤ b) ∧ b ≠ X.env.locals ∧ (∀ x c, X.env.cells.lookup x = some c → c ≠ b) ∧ ∀ p ∈ X.pn ++ pins, p.1 ≠ b) : Inv X pins σ H' s' := by
 obtain ⟨h', g', d', t', o'⟩ := s'
 have e : o' = s.os := ho
 subst e
 exact I.call (g' := g') (t' := t') (d' := d') u hok hg hch
end
abbrev XK := Value → Option Addr → Hp → Prop
abbrev St := List (Option V)
abbrev VK := V → Hp → Prop
abbrev TE := St → Hp → VK → Prop
abbrev TT := St → Hp → (Bool → Hp → Prop) → Prop
abbrev TA := St → Hp → (List V → Hp → Prop) → Prop
structure ZDt where
 nx : St → Hp → Prop
 rt : VK
 bk : St → Hp → Prop := fun _ _ => False
 ct : St → Hp → Prop := fun _ _ => False
abbrev TS := ZDt → St → Hp → Prop
def EP (X : Cx) (pins : List (Addr × Obj)) (σ : St) (Q : VK) (u : Value) (s' : Shared) : Prop := ∃ v H', Inv X pins σ H' s' ∧ ZDH v u ∧ Q v H'
def TP (X : Cx) (pins : List (Addr × Obj)) (σ : St) (Q : Bool → Hp → Prop) (b : Bool) (s' : Shared) : Prop := ∃ H', Inv X pins σ H' s' ∧ Q b H'
def AP (X : Cx) (pins : List (Addr × Obj)) (σ : St) (Q : List V → Hp → Prop) (us : List Value) (s' : Shared) : Prop := ∃ vs H', Inv X pins σ H' s' ∧ ZDG vs us ∧ Q vs H'
def SP (X : Cx) (pins : List (Addr × Obj)) (D : ZDt) (f : Flow) (s' : Shared) : Prop :=
 match f with
 | .next => ∃ σ' H', Inv X pins σ' H' s' ∧ D.nx σ' H'
 | .brk => ∃ σ' H', Inv X pins σ' H' s' ∧ D.bk σ' H'
 | .cont => ∃ σ' H', Inv X pins σ' H' s' ∧ D.ct σ' H'
 | .ret u => ∃ v σ' H', Inv X pins σ' H' s' ∧ ZDH v u ∧ D.rt v H'
def PE (X : Cx) (e : Expr) (t : TE) : Prop :=
 ∀ (pins : List (Addr × Obj)) (s : Shared) (σ : St) (H : Hp) (Q : VK), Inv X pins σ H s → t σ H Q → wpAny (model X.prog X.w) X.A (eval e X.env) (EP X pins σ Q) X.xe s
def PT (X : Cx) (e : Expr) (t : TT) : Prop :=
 ∀ (pins : List (Addr × Obj)) (s : Shared) (σ : St) (H : Hp) (Q : Bool → Hp → Prop), Inv X pins σ H s → t σ H Q → wpAny (model X.prog X.w) X.A (isTrue e X.env (eval e X.env)) (TP X pins σ Q) X.xe s
def PW (X : Cx) (e : Expr) (t : TT) : Prop :=
 ∀ (whole : Sem Value) (pins : List (Addr × Obj)) (s : Shared) (σ : St) (H : Hp) (Q : Bool → Hp → Prop), Inv X pins σ H s → t σ H Q → wpAny (model X.prog X.w) X.A (isTrue e X.env whole) (TP X pins σ Q) X.xe s
theorem PW.pt {X : Cx} {e : Expr} {t : TT} (h : PW X e t) : PT X e t := h _
def PA (X : Cx) (es : List Expr) (t : TA) : Prop :=
 ∀ (pos : Pos) (pins : List (Addr × Obj)) (s : Shared) (σ : St) (H : Hp) (Q : List V → Hp → Prop), Inv X pins σ H s → t σ H Q → wpAny (model X.prog X.w) X.A (spliced (backTo pos (starEach es X.env))) (AP X pins σ Q) X.xe s
def PS (X : Cx) (st : Stmt) (t : TS) : Prop :=
 ∀ (pins : List (Addr × Obj)) (s : Shared) (σ : St) (H : Hp) (D : ZDt), Inv X pins σ H s → t D σ H → wpAny (model X.prog X.w) X.A (exec st X.env) (SP X pins D) X.xe s
def PSs (X : Cx) (st : List Stmt) (t : TS) : Prop :=
 ∀ (pins : List (Addr × Obj)) (s : Shared) (σ : St) (H : Hp) (D : ZDt), Inv X pins σ H s → t D σ H → wpAny (model X.prog X.w) X.A (execs st X.env) (SP X pins D) X.xe s
theorem thn {α : Type} {t : Sem α} {Q Q' : α → Shared → Prop} {M : Model} {A : Around} {E : Value → Shared → Prop} {s : Shared} (h : wpAny M A t Q E s) (hQ : ∀ a s, Q a s → Q' a s) : wpAny M A t Q' E s := wpAny_mono h hQ fun _ _ x => x
section
variable {X : Cx}
theorem bin {a b : Expr} {ta tb : TE} (ha : PE X a ta) (hb : PE X b tb) {pins : List (Addr × Obj)} {s : Shared} {σ : St} {H : Hp} {R : V → V → Hp → Prop} (I : Inv X pins σ H s) (h : ta σ H fun x H1 => tb σ H1 fun y H2 => R x y H2)
  {α : Type} {Q : α → Shared → Prop} {f : Value → Value → Sem α}
  (hf : ∀ v u s2 x y H2, Inv X pins σ H2 s2 → ZDH x v → ZDH y u → R x y H2 → wpAny (model X.prog X.w) X.A (f v u) Q X.xe s2) :
  wpAny (model X.prog X.w) X.A (eval a X.env) (fun v s₁ => wpAny (model X.prog X.w) X.A (eval b X.env) (fun u s₂ => wpAny (model X.prog X.w) X.A (f v u) Q X.xe s₂) X.xe s₁) X.xe s := by
 refine thn (ha pins s σ H _ I h) fun v s1 ⟨x, H1, I1, r1, q1⟩ => ?_
 refine thn (hb pins s1 σ H1 _ I1 q1) fun u s2 ⟨y, H2, I2, r2, q2⟩ => ?_
 exact hf v u s2 x y H2 I2 r1 r2 q2
def ZN1 (i : Nat) : TE := fun σ H Q => ∃ v, σ[i]? = some (some v) ∧ Q v H
def tC (v : V) : TE := fun _ H Q => Q v H
theorem ZRf {i : Nat} {x : Str} {pos : Pos} (hN : X.N[i]? = some x) (hv : Vis X.env.scope x) (hd : (x == ("__debug__" : Str)) = false := by decide) (hcd : (x == ("__classdict__" : Str)) = false := by decide) : PE X (.Name x pos) (ZN1 i) := by
 intro pins s σ H Q I h
 obtain ⟨v, e, h⟩ := h
 obtain ⟨m, hn, hl⟩ := I.loc
 obtain ⟨u, r, l⟩ := hl i x v hN e hv
 have fin : EP X pins σ Q u s := ⟨v, H, I, r, h⟩
 rcases l with ⟨hk, hm⟩ | ⟨hk, c, hc, hcell⟩
 ·exact wpAny_Name (wpAny_loadName_local I.ok.kind hk hn hm fin) hd
 ·rcases hk with hk | hk
  ·exact wpAny_Name (wpAny_loadName_cell I.ok.kind hk hc hcell fin) hd
  ·exact wpAny_Name (wpAny_loadName_free I.ok.kind hk hc hcell fin hcd) hd
theorem ZRg {i j pos} : PE X (.Constant (.int i) j pos) (tC (.int i)) := fun _ _ _ H _ I h => wpAny_Constant_int ⟨.int i, H, I.tok _, ⟨_, rfl⟩, h⟩
theorem ZTP {b j pos} : PE X (.Constant (.bool b) j pos) (tC (.bl b)) := fun _ _ _ H _ I h => Constant_bool ⟨.bl b, H, I, rfl, h⟩
theorem ZRh {j pos} : PE X (.Constant .none j pos) (tC .non) := fun _ _ _ H _ I h => Constant_none ⟨.non, H, I, rfl, h⟩
theorem ZRi {x j pos} : PE X (.Constant (.str x) j pos) (tC (.str x)) := fun _ _ _ H _ I h => Calls.Constant_str ⟨.str x, H, I.tok _, ⟨_, rfl⟩, h⟩
def Gl (X : Cx) (x : Str) : Prop := X.env.kindOf x = some .globalImplicit
theorem ZEh {E : Value → Shared → Prop} {pins : List (Addr × Obj)} {s : Shared} {σ : St} {H : Hp} {x : Str} {u : Value} {pos : Pos} {Q : Value → Shared → Prop} (I : Inv X pins σ H s) (hg : Gl X x) (hm : X.mg x = some u) (h : Q u s)
  (hd : (x == ("__debug__" : Str)) = false := by decide) : wpAny (model X.prog X.w) X.A (eval (.Name x pos) X.env) Q E s :=
 Calls.Name_function_global I.ok.kind hg (Calls.loadGlobal_global (by rw [I.ok.glob]; exact I.mod.glob.keeps I.bk) hm h) hd
theorem ZFE {E : Value → Shared → Prop} {pins : List (Addr × Obj)} {s : Shared} {σ : St} {H : Hp} {x : Str} {u : Value} {pos : Pos} {Q : Value → Shared → Prop} (I : Inv X pins σ H s) (hg : Gl X x) (hm : X.mg x = none) (hv : bootBuiltins x = some u) (h : Q u s)
  (hn : x ≠ "__name__" := by decide) (hd : (x == ("__debug__" : Str)) = false := by decide) : wpAny (model X.prog X.w) X.A (eval (.Name x pos) X.env) Q E s := by
 obtain ⟨mb, h1, h2⟩ := I.mod.blt
 exact Calls.Name_function_global I.ok.kind hg (Calls.loadGlobal_builtin (by rw [I.ok.glob]; exact I.mod.glob.keeps I.bk) hm (by rw [I.ok.blt]; exact h1.keeps I.bk) ((h2 x hn).trans hv) h) hd
theorem ZPz {x : Str} {v : V} {u : Value} {pos : Pos} (hg : Gl X x) (hm : X.mg x = some u) (r : ZDH v u) (hd : (x == ("__debug__" : Str)) = false := by decide) : PE X (.Name x pos) (tC v) :=
 fun _ _ _ H _ I h => ZEh I hg hm ⟨v, H, I, r, h⟩ hd
theorem ZP0 {x : Str} {v : V} {u : Value} {pos : Pos} (hg : Gl X x) (hm : X.mg x = none) (hv : bootBuiltins x = some u) (r : ZDH v u) (hn : x ≠ "__name__" := by decide) (hd : (x == ("__debug__" : Str)) = false := by decide) : PE X (.Name x pos) (tC v) :=
 fun _ _ _ H _ I h => ZFE I hg hm hv ⟨v, H, I, r, h⟩ hn hd
variable {a b : Expr} {ta tb : TE} {pos : Pos}
def tB (t : TE) : TT := fun σ H Q => t σ H fun x H1 => ∃ c, x = .bl c ∧ Q c H1
theorem ZRj {e : Expr} {t : TE} (h : PE X e t) (he : ∀ whole, isTrue e X.env whole = (do let v ← whole; standAt e.pos; holding [v] (truthy v)) := by intro _; rfl) : PT X e (tB t) := by
 intro pins s σ H Q I hw
 refine isTrue_plain (thn (h pins s σ H _ I hw) fun v s1 ⟨x, H1, I1, r1, q1⟩ => ?_) (he _)
 obtain ⟨d, rfl, q⟩ := q1
 cases r1
 exact wpAny_truthy_bool ⟨H1, I1, q⟩
variable {tA tB' : TT} {ZEA : List Expr}
def ZN2 (t u : TT) : TT := fun σ H Q => t σ H fun c H1 => if c = true then u σ H1 Q else Q false H1
def tOr (t u : TT) : TT := fun σ H Q => t σ H fun c H1 => if c = true then Q true H1 else u σ H1 Q
def ZN3 (t : TT) : TT := fun σ H Q => t σ H fun c H1 => Q (!c) H1
theorem ZP1 (ha : PT X a tA) : PW X (.BoolOp .And [a] pos) tA := by
 intro wh pins s σ H Q I h
 refine isTrue_and (thn (ha pins s σ H Q I h) fun c s1 e => ?_)
 cases c with
 | true => exact isTrue_and_nil e
 | false => exact e
theorem ZRk (ha : PT X a tA) : PW X (.BoolOp .Or [a] pos) tA := by
 intro wh pins s σ H Q I h
 refine isTrue_or (thn (ha pins s σ H Q I h) fun c s1 e => ?_)
 cases c with
 | false => exact isTrue_or_nil e
 | true => exact e
theorem ZRl (ha : PT X a tA) (hb : PW X (.BoolOp .And (b :: ZEA) pos) tB') : PW X (.BoolOp .And (a :: b :: ZEA) pos) (ZN2 tA tB') := by
 intro wh pins s σ H Q I h
 refine isTrue_and (thn (ha pins s σ H _ I h) fun c s1 ⟨H1, I1, q1⟩ => ?_)
 cases c with
 | true => exact hb wh pins s1 σ H1 Q I1 q1
 | false => exact ⟨H1, I1, q1⟩
theorem ZTQ (ha : PT X a tA) (hb : PW X (.BoolOp .Or (b :: ZEA) pos) tB') : PW X (.BoolOp .Or (a :: b :: ZEA) pos) (tOr tA tB') := by
 intro wh pins s σ H Q I h
 refine isTrue_or (thn (ha pins s σ H _ I h) fun c s1 ⟨H1, I1, q1⟩ => ?_)
 cases c with
 | true => exact ⟨H1, I1, q1⟩
 | false => exact hb wh pins s1 σ H1 Q I1 q1
theorem ZRm (ha : PT X a tA) : PT X (.UnaryOp .Not a pos) (ZN3 tA) := by
 intro pins s σ H Q I h
 exact isTrue_not (ha pins s σ H (fun c H1 => Q (!c) H1) I h)
def ZLn (ta tb : TE) : TE := fun σ H Q => ta σ H fun x H1 => ∃ c, x = .bl c ∧ if c = true then tb σ H1 Q else Q (.bl false) H1
def ZLo (ta : TE) : TE := fun σ H Q => ta σ H fun x H1 => ∃ c, x = .bl c ∧ Q (.bl (!c)) H1
theorem ZRn {op} {t : TE} (h : PE X a t) : PE X (.BoolOp op [a] pos) t := fun pins s σ H Q I hw => BoolOp_one (h pins s σ H Q I hw)
theorem ZRo (ha : PE X a ta) (hb : PE X (.BoolOp .And (b :: ZEA) pos) tb) : PE X (.BoolOp .And (a :: b :: ZEA) pos) (ZLn ta tb) := by
 intro pins s σ H Q I h
 refine BoolOp_and (thn (ha pins s σ H _ I h) fun v s1 ⟨x, H1, I1, r1, q1⟩ => ?_)
 obtain ⟨c, rfl, q1⟩ := q1
 cases r1
 refine wpAny_truthy_bool ?_
 cases c with
 | true => exact hb pins s1 σ H1 Q I1 q1
 | false => exact ⟨.bl false, H1, I1, rfl, q1⟩
theorem ZRp (ha : PE X a ta) : PE X (.UnaryOp .Not a pos) (ZLo ta) := by
 intro pins s σ H Q I h
 refine UnaryOp_ (thn (ha pins s σ H _ I h) fun v s1 ⟨x, H1, I1, r1, q1⟩ => ?_)
 obtain ⟨c, rfl, q1⟩ := q1
 cases r1
 exact not_of (wpAny_truthy_bool ⟨.bl (!c), H1, I1, rfl, q1⟩)
def tIf (t : TT) (ta tb : TE) : TE := fun σ H Q => t σ H fun c H1 => if c = true then ta σ H1 Q else tb σ H1 Q
theorem ZN4 {c : Expr} (hc : PT X c tA) (ha : PE X a ta) (hb : PE X b tb) : PE X (.IfExp c a b pos) (tIf tA ta tb) := by
 intro pins s σ H Q I h
 refine wpAny_IfExp (thn (hc pins s σ H _ I h) fun d s1 ⟨H1, I1, q1⟩ => ?_)
 cases d with
 | true => exact ha pins s1 σ H1 Q I1 q1
 | false => exact hb pins s1 σ H1 Q I1 q1
end
def SqL (K : W.Frag) (H : Hp) (a : Addr) (xs : List V) : Prop :=
 Rd H a (.lst xs) ∨
  ∃ (o : Obj) (its : Array Value) (n : Nat), K.lookup a = some o ∧ o.cls = .type "list" ∧ o.dict = none ∧ o.data = .seq its n ∧ its.size ≤ sizeLine ∧ ZDG xs its.toList
def SqT (K : W.Frag) (H : Hp) (a : Addr) (xs : List V) : Prop :=
 Rd H a (.tup xs) ∨
  ∃ (o : Obj) (its : Array Value) (n : Nat), K.lookup a = some o ∧ o.cls = .type "tuple" ∧ o.data = .seq its n ∧ its.size ≤ sizeLine ∧ ZDG xs its.toList
def ZTp : Value → Option V
 | .none => some .non
 | .bool b => some (.bl b)
 | .int i _ => some (.int i)
 | .str x _ => some (.str x)
 | .bytes b _ => some (.byt b)
 | .float b _ => some (.flt b)
 | .ref a => some (.ref a)
 | .type n => some (.ty n)
 | _ => none
theorem ZDH.abs {x : V} {u : Value} (r : ZDH x u) : ZTp u = some x := by
 cases x with
 | non => cases r; rfl
 | bl _ => cases r; rfl
 | int _ => obtain ⟨t, rfl⟩ := r; rfl
 | str _ => obtain ⟨t, rfl⟩ := r; rfl
 | byt _ => obtain ⟨t, rfl⟩ := r; rfl
 | flt _ => obtain ⟨t, rfl⟩ := r; rfl
 | ref _ => cases r; rfl
 | ty _ => cases r; rfl
theorem ZDH.inj {x y : V} {u : Value} (r : ZDH x u) (q : ZDH y u) : x = y := Option.some.inj (r.abs.symm.trans q.abs)
theorem ZDG.inj : ∀ {xs ys : List V} {us : List Value}, ZDG xs us → ZDG ys us → xs = ys
 | _, _, _, .nil, .nil => rfl
 | _, _, _, .cons r t, .cons r' t' => by rw [r.inj r', ZDG.inj t t']
section
variable {X : Cx} {pins : List (Addr × Obj)} {σ : St} {H : Hp} {s : Shared} {a : Addr} {xs ys : List V}
theorem SqL.of {K : W.Frag} (h : H a = some (.lst xs)) : SqL K H a xs := .inl (.inl h)
theorem SqT.of {K : W.Frag} (h : H a = some (.tup xs)) : SqT K H a xs := .inl (.inl h)
theorem Inv.list (I : Inv X pins σ H s) (h : SqL X.K H a xs) : ∃ its : List Value, ZDG xs its ∧ PlainL s.heap a its.toArray ∧ xs.length ≤ sizeLine := by
 rcases h with h | ⟨o, its, n, hk, hc, hd, hs, hz, r⟩
 ·obtain ⟨z, its, n, r, e⟩ := h.ok I.hok
  exact ⟨its, r, ⟨_, n, e, rfl, rfl, rfl⟩, z⟩
 ·refine ⟨its.toList, r, ⟨o, n, I.kIn a o hk, hc, hd, by simpa using hs⟩, ?_⟩
  have e := r.length
  simp only [Array.length_toList] at e
  omega
theorem Inv.tuple (I : Inv X pins σ H s) (h : SqT X.K H a xs) : ∃ its : List Value, ZDG xs its ∧ IsTup s.heap a its.toArray ∧ xs.length ≤ sizeLine := by
 rcases h with h | ⟨o, its, n, hk, hc, hs, hz, r⟩
 ·obtain ⟨z, its, r, p⟩ := h.ok I.hok
  exact ⟨its, r, p, z.1⟩
 ·refine ⟨its.toList, r, ⟨o, I.kIn a o hk, hc, n, by simpa using hs⟩, ?_⟩
  have e := r.length
  simp only [Array.length_toList] at e
  omega
theorem Inv.list_inj (I : Inv X pins σ H s) (h : SqL X.K H a xs) (h' : SqL X.K H a ys) : xs = ys := by
 obtain ⟨its, r, ⟨o, n, e, _, _, d⟩, _⟩ := I.list h
 obtain ⟨its', r', ⟨o', n', e', _, _, d'⟩, _⟩ := I.list h'
 rw [e] at e'; cases e'
 rw [d] at d'
 injection d' with d1 _
 have : its = its' := by simpa using congrArg Array.toList d1
 subst this
 exact r.inj r'
theorem Inv.tuple_inj (I : Inv X pins σ H s) (h : SqT X.K H a xs) (h' : SqT X.K H a ys) : xs = ys := by
 obtain ⟨its, r, ⟨o, e, _, n, d⟩, _⟩ := I.tuple h
 obtain ⟨its', r', ⟨o', e', _, n', d'⟩, _⟩ := I.tuple h'
 rw [e] at e'; cases e'
 rw [d] at d'
 injection d' with d1 _
 have : its = its' := by simpa using congrArg Array.toList d1
 subst this
 exact r.inj r'
end
abbrev Cx.wish (X : Cx) (E : Value → Shared → Prop) : Cx := { X with xe := E }
abbrev Cx.nox (X : Cx) : Cx := X.wish fun _ _ => False
theorem Cx.Ok.wish {X : Cx} (ok : X.Ok) (E : Value → Shared → Prop) : (X.wish E).Ok :=
 ⟨ok.mod, ok.kind, ok.glob, ok.blt, ok.above, ok.inj, ok.has, ok.cab, ok.hd, ok.frames, ok.stk, ok.exf, ok.bs, ok.bsz, ok.noex, ok.exfs, ok.funs, ok.frf⟩
theorem Cx.Ok.unwish {X : Cx} {E : Value → Shared → Prop} (ok : (X.wish E).Ok) : X.Ok :=
 ⟨ok.mod, ok.kind, ok.glob, ok.blt, ok.above, ok.inj, ok.has, ok.cab, ok.hd, ok.frames, ok.stk, ok.exf, ok.bs, ok.bsz, ok.noex, ok.exfs, ok.funs, ok.frf⟩
section
variable {X : Cx} {pins : List (Addr × Obj)} {σ : St} {H : Hp} {s : Shared} {E : Value → Shared → Prop}
theorem Inv.wish (I : Inv X pins σ H s) (E : Value → Shared → Prop) : Inv (X.wish E) pins σ H s := ⟨I.ok.wish E, I.os, I.bare, I.base, I.loc, I.cell, I.free, I.freeC, I.pin, I.hok, I.len⟩
theorem Inv.unwish (I : Inv (X.wish E) pins σ H s) : Inv X pins σ H s := ⟨I.ok.unwish, I.os, I.bare, I.base, I.loc, I.cell, I.free, I.freeC, I.pin, I.hok, I.len⟩
theorem SP.unwish {D : ZDt} {f : Flow} {s' : Shared} (h : SP (X.wish E) pins D f s') : SP X pins D f s' := by
 cases f with
 | next => obtain ⟨σ', H', I, q⟩ := h; exact ⟨σ', H', I.unwish, q⟩
 | brk => obtain ⟨σ', H', I, q⟩ := h; exact ⟨σ', H', I.unwish, q⟩
 | cont => obtain ⟨σ', H', I, q⟩ := h; exact ⟨σ', H', I.unwish, q⟩
 | ret u => obtain ⟨v, σ', H', I, r, q⟩ := h; exact ⟨v, σ', H', I.unwish, r, q⟩
theorem PSs.nox {st : List Stmt} {t : TS} (h : PSs X.nox st t) : PSs X st t := fun pins s σ H D I hw =>
 wpAny_mono (h pins s σ H D (I.wish _) hw) (fun _ _ q => q.unwish) fun _ _ z => False.elim z
end
section
variable {X : Cx} {st : Stmt} {ZEA : List Stmt} {t u : TS} {e : Expr} {te : TE} {pos : Pos}
def ZLp : TS := fun D σ H => D.nx σ H
def ZN5 (t u : TS) : TS := fun D σ H => t { D with nx := u D } σ H
theorem ZP2 : PSs X [] ZLp := fun _ _ σ H _ I h => wpAny_execs_nil ⟨σ, H, I, h⟩
theorem ZN6 (h1 : PS X st t) (h2 : PSs X ZEA u) : PSs X (st :: ZEA) (ZN5 t u) := by
 intro pins s σ H D I h
 refine wpAny_execs_cons (thn (h1 pins s σ H { D with nx := u D } I h) fun f s1 q => ?_)
 cases f with
 | next =>
  obtain ⟨σ', H', I', q⟩ := q
  exact h2 pins s1 σ' H' D I' q
 | ret v => exact q
 | brk => exact q
 | cont => exact q
theorem ZP3 (h1 : PS X st t) : PSs X [st] t := by
 intro pins s σ H D I h
 refine wpAny_execs_cons (thn (h1 pins s σ H D I h) fun f s1 q => ?_)
 cases f with
 | next => exact wpAny_execs_nil q
 | ret v => exact q
 | brk => exact q
 | cont => exact q
theorem Inv.quiet {pins : List (Addr × Obj)} {σ : St} {H : Hp} {s : Shared} (I : Inv X pins σ H s) : interactive X.env = false := by simp [interactive, I.ok.kind]
def ZJU (te : TE) : TS := fun D σ H => te σ H fun _ H1 => D.nx σ H1
theorem ZP4 (he : PE X e te) (hs : swapsWith e none pos.line X.env = pure false := by rfl) : PS X (.Expr e pos) (ZJU te) := by
 intro pins s σ H D I h
 exact wpAny_Expr_any (thn (he pins s σ H _ I h) fun v s1 ⟨x, H1, I1, r1, q1⟩ => ⟨σ, H1, I1, q1⟩) I.quiet hs
def ZN7 (te : TE) : TS := fun D σ H => te σ H D.rt
theorem ZRq (he : PE X e te) : PS X (.Return (some e) pos) (ZN7 te) := by
 intro pins s σ H D I h
 exact wpAny_Return_some (thn (he pins s σ H _ I h) fun v s1 ⟨x, H1, I1, r1, q1⟩ => ⟨x, σ, H1, I1, r1, q1⟩)
def ZJf (c : TT) (t u : TS) : TS := fun D σ H => c σ H fun b H1 => if b = true then t D σ H1 else u D σ H1
theorem ZTR {c : Expr} {a b : List Stmt} {tc : TT} (hc : PT X c tc) (ha : PSs X a t) (hb : PSs X b u) : PS X (.If c a b pos) (ZJf tc t u) := by
 intro pins s σ H D I h
 refine wpAny_If (thn (hc pins s σ H _ I h) fun d s1 ⟨H1, I1, q1⟩ => ?_)
 cases d with
 | true => exact ha pins s1 σ H1 D I1 q1
 | false => exact hb pins s1 σ H1 D I1 q1
def ZMm : TS := fun _ _ _ => False
theorem ZN8 : PS X st ZMm := fun _ _ _ _ _ _ h => h.elim
end
abbrev TG := V → St → Hp → (St → Hp → Prop) → Prop
abbrev TGs := List V → St → Hp → (St → Hp → Prop) → Prop
def PG (X : Cx) (target : Expr) (t : TG) : Prop :=
 ∀ (pins : List (Addr × Obj)) (s : Shared) (σ : St) (H : Hp) (v : V) (u : Value) (Q : St → Hp → Prop), Inv X pins σ H s → ZDH v u → t v σ H Q →
  wpAny (model X.prog X.w) X.A (assign target X.env u) (fun _ s' => ∃ σ' H', Inv X pins σ' H' s' ∧ Q σ' H') X.xe s
def PGs (X : Cx) (ts : List Expr) (t : TGs) : Prop :=
 ∀ (pins : List (Addr × Obj)) (s : Shared) (σ : St) (H : Hp) (vs : List V) (us : List Value) (Q : St → Hp → Prop), Inv X pins σ H s → ZDG vs us → t vs σ H Q →
  wpAny (model X.prog X.w) X.A (assignInOrder ((assignEach ts X.env).map (·.2)) us) (fun _ s' => ∃ σ' H', Inv X pins σ' H' s' ∧ Q σ' H') X.xe s
abbrev ZJg := V → V → V → Hp → (Hp → Prop) → Prop
def ZN9 (X : Cx) (t : ZJg) : Prop :=
 ∀ (pins : List (Addr × Obj)) (s : Shared) (σ : St) (H : Hp) (o i v : V) (ov iv u : Value) (Q : Hp → Prop), Inv X pins σ H s → ZDH o ov → ZDH i iv → ZDH v u → t o i v H Q →
  wpAny (model X.prog X.w) X.A (setItem ov iv u) (fun _ s' => ∃ H', Inv X pins σ H' s' ∧ Q H') X.xe s
section
variable {X : Cx} {pos : Pos}
def ZFh (i : Nat) : TG := fun v σ H Q => Q (σ.set i (some v)) H
theorem ZP5 {i : Nat} {x : Str} (hN : X.N.Nodup) (hi : X.N[i]? = some x) (hx : Loc X.env.scope x) (hf : X.fn x = true ∨ X.env.scope.names.lookup x = some .local := by first | exact .inl rfl | exact .inr rfl | assumption) : PG X (.Name x pos) (ZFh i) := by
 intro pins s σ H v u Q I r h
 exact wpAny_assign_Name (ZHi I hN hi hx r (fun s' I' => ⟨_, H, I', h⟩) hf)
def ZOA : TGs := fun vs σ H Q => vs = [] ∧ Q σ H
def ZLq (t : TG) (u : TGs) : TGs := fun vs σ H Q => ∃ v r, vs = v :: r ∧ t v σ H fun σ' H' => u r σ' H' Q
theorem ZP6 : PGs X [] ZOA := by
 intro pins s σ H vs us Q I r h
 obtain ⟨e, h⟩ := h
 subst e
 cases r
 exact assignInOrder_nil ⟨σ, H, I, h⟩
theorem ZOB {e : Expr} {es : List Expr} {t : TG} {u : TGs} (h1 : PG X e t) (h2 : PGs X es u)
  (hs : (assignEach (e :: es) X.env).map (·.2) = assign e X.env :: (assignEach es X.env).map (·.2) := by rfl) : PGs X (e :: es) (ZLq t u) := by
 intro pins s σ H vs us Q I r h
 obtain ⟨v, vr, e1, h⟩ := h
 subst e1
 cases r with
 | cons r rr =>
  rw [hs]
  refine assignInOrder_cons (thn (h1 pins s σ H _ _ _ I r h) fun _ s1 ⟨σ1, H1, I1, q1⟩ => ?_)
  exact h2 pins s1 σ1 H1 _ _ Q I1 rr q1
def ZLr (K : W.Frag) (n : Nat) (t : TGs) : TG := fun v σ H Q => ∃ a xs, v = .ref a ∧ SqT K H a xs ∧ xs.length = n ∧ t xs σ H Q
theorem ZRr {es : List Expr} {k : Nat} {t : TGs} {n : Nat} (hc : X.calm = true) (h : PGs X es t)
  (hn : (assignEach es X.env).length = n := by rfl) (hst : (assignEach es X.env).findIdx? (·.1) = none := by rfl) : PG X (.Tuple es k pos) (ZLr X.K n t) := by
 intro pins s σ H v u Q I r hw
 obtain ⟨a, xs, e1, hq, hl, hw⟩ := hw
 subst e1
 cases r
 obtain ⟨its, rv, ht, hz⟩ := I.tuple hq
 refine assign_Tuple_tuple (I.ok.hd hc) ht (by simp [hn, ← hl, rv.length]) hst fun h' hx => ?_
 have I1 : Inv X pins σ H { s with heap := h' } := I.kept (t' := s.toks) fun b o e => hx b o (Nat.ne_of_lt (Heap.lt_size e)) e
 exact h pins _ σ H xs _ Q I1 (by simpa using rv) hw
def ZOC (to ti : TE) (t : ZJg) : TG := fun v σ H Q => to σ H fun o H1 => ti σ H1 fun i H2 => t o i v H2 fun H3 => Q σ H3
theorem ZRs {o i : Expr} {to ti : TE} {t : ZJg} (ho : PE X o to) (hi : PE X i ti) (hs : ZN9 X t)
  (ha : ∀ v, assign (.Subscript o i pos) X.env v = (do
   let ov ← holding [v] (eval o X.env)
   let iv ← holding [v, ov] (eval i X.env)
   standAt pos
   holding [v, ov, iv] (setItem ov iv v)
   release [v, ov, iv] []) := by intro _; rfl) : PG X (.Subscript o i pos) (ZOC to ti t) := by
 intro pins s σ H v u Q I r h
 rw [ha]
 refine wpAny_bind (wpAny_holding (thn (ho pins s σ H _ I h) fun ov s1 ⟨x, H1, I1, r1, q1⟩ => ?_))
 refine wpAny_bind (wpAny_holding (thn (hi pins s1 σ H1 _ I1 q1) fun iv s2 ⟨y, H2, I2, r2, q2⟩ => ?_))
 refine wpAny_bind (wpAny_standAt (wpAny_bind (wpAny_holding (thn (hs pins s2 σ H2 x y v ov iv u _ I2 r1 r2 r q2) fun _ s3 ⟨H3, I3, q3⟩ => ?_))))
 exact wpAny_release ⟨σ, H3, I3, q3⟩
def ZHj (te : TE) (g : TG) : TS := fun D σ H => te σ H fun x H1 => g x σ H1 D.nx
theorem ZRt {tg e : Expr} {te : TE} {g : TG} (he : PE X e te) (hg : PG X tg g) (hs : swapsWithSole [tg] e pos.line X.env = pure false := by rfl) (hw : swappedStores [tg] e X.env = pure none := by rfl)
  (h1 : (assignEach [tg] X.env).map (·.2) = [assign tg X.env] := by rfl) : PS X (.Assign [tg] e pos) (ZHj te g) := by
 intro pins s σ H D I h
 refine wpAny_Assign_stores (thn (he pins s σ H _ I h) fun v s1 ⟨x, H1, I1, r1, q1⟩ => ?_) hs hw
 rw [h1]
 exact thn (hg pins s1 σ H1 x v _ I1 r1 q1) fun _ s2 q => q
theorem ZRu {i : Nat} {x : Str} {e : Expr} {te : TE} {pos' : Pos} (hN : X.N.Nodup) (hi : X.N[i]? = some x) (hx : Loc X.env.scope x) (he : PE X e te) (hs : swapsWith e (some (.Name x pos')) pos.line X.env = pure false := by rfl) (hf : X.fn x = true ∨ X.env.scope.names.lookup x = some .local := by first | exact .inl rfl | exact .inr rfl | assumption) :
  PS X (.Assign [.Name x pos'] e pos) (ZHj te (ZFh i)) := by
 intro pins s σ H D I h
 refine wpAny_Assign_Name (thn (he pins s σ H _ I h) fun v s1 ⟨y, H1, I1, r1, q1⟩ => ?_) hs
 exact ZHi I1 hN hi hx r1 (fun s2 I2 => ⟨_, H1, I2, q1⟩) hf
end
structure It where
 go : Nat → Hp → Prop
 yld : Nat → Hp → V → Hp → Prop
 stop : Nat → Hp → Prop
def ZER (X : Cx) (pins : List (Addr × Obj)) (H : Hp) (b : Addr) : Prop :=
 H b = none ∧ b ≠ X.env.locals ∧ b ∉ X.fs ∧ (b ∈ X.ex ∨ X.s₀.heap.objs.size ≤ b) ∧ (∀ x c, X.env.cells.lookup x = some c → c ≠ b) ∧ ∀ p ∈ X.pn ++ pins, p.1 ≠ b
theorem Inv.fpOk {X : Cx} {pins : List (Addr × Obj)} {σ : St} {H H' : Hp} {s : Shared} {b : Addr} (I : Inv X pins σ H s) (hb : s.heap.objs.size ≤ b) (hn : H' b = none) : ZER X pins H' b := by
 refine ⟨hn, Nat.ne_of_gt (Nat.lt_of_lt_of_le I.lt hb), I.nofs hb, .inr (Nat.le_trans I.sz hb), fun x c e z => ?_, fun p hp z => ?_⟩
 ·obtain ⟨v, q⟩ := I.cell x c e
  exact absurd (Nat.lt_of_lt_of_le q.lt (by rw [z]; exact hb)) (Nat.lt_irrefl _)
 ·exact absurd (Nat.lt_of_lt_of_le (Heap.lt_size (I.pin p hp).1) (by rw [z]; exact hb)) (Nat.lt_irrefl _)
structure ZIe (P : Program) (w : World) (K : W.Frag) (tg : Expr) (J : It) (fp : List Addr) (it : Addr) (tn : Nat → Heap → Prop) : Prop where
 mem : it ∈ fp
 obj : ∀ i h, tn i h → ∀ b ∈ fp, ∃ o, h.get? b = some o ∧ ∀ v, o.data ≠ .cell v
 keep : ∀ i h h', tn i h → (∀ b ∈ fp, ∀ o, h.get? b = some o → h'.get? b = some o) → tn i h'
 item : ∀ (X : Cx), X.prog = P → X.w = w → X.K = K → X.calm = true → ∀ (i : Nat) (pins : List (Addr × Obj)) (s : Shared) (σ : St) (H : Hp) (E : Value → Shared → Prop), Inv X pins σ H s → (∀ b ∈ fp, ZER X pins H b) → tn i s.heap → J.go i H →
  wpAny (model P w) X.A (pyNext (.ref it)) (fun r s1 => ∃ u, r = some u ∧
   wpAny (model P w) X.A (letOwnedTupleGo tg (.ref it) u) (fun _ s2 => ∃ x H', Inv X pins σ H' s2 ∧ ZDH x u ∧ J.yld i H x H' ∧ tn (i + 1) s2.heap ∧ ∀ b ∈ fp, H' b = none) E s1) E s
 done : ∀ (X : Cx), X.prog = P → X.w = w → X.K = K → X.calm = true → ∀ (i : Nat) (pins : List (Addr × Obj)) (s : Shared) (σ : St) (H : Hp) (E : Value → Shared → Prop), Inv X pins σ H s → (∀ b ∈ fp, ZER X pins H b) → tn i s.heap → J.stop i H →
  wpAny (model P w) X.A (pyNext (.ref it)) (fun r s1 => r = none ∧ Inv X pins σ H s1) E s
 self : ∀ (A : Around) (i : Nat) (s : Shared) (Q : Value → Shared → Prop) (E : Value → Shared → Prop), tn i s.heap → Q (.ref it) s → wpAny (model P w) A (pyIter (.ref it)) Q E s
abbrev TI := St → Hp → (It → Hp → Prop) → Prop
def PIE (X : Cx) (pins : List (Addr × Obj)) (σ : St) (tg : Expr) (R : It → Hp → Prop) (itv : Value) (s2 : Shared) : Prop :=
 ∃ (it : Addr) (fp : List Addr) (tn : Nat → Heap → Prop) (J : It) (H' : Hp), itv = .ref it ∧ Inv X pins σ H' s2 ∧ ZIe X.prog X.w X.K tg J fp it tn ∧ tn 0 s2.heap ∧ (∀ b ∈ fp, ZER X pins H' b) ∧ R J H'
def PI (X : Cx) (tg iter : Expr) (wi : TI) : Prop :=
 ∀ (pins : List (Addr × Obj)) (s : Shared) (σ : St) (H : Hp) (R : It → Hp → Prop), Inv X pins σ H s → wi σ H R →
  wpAny (model X.prog X.w) X.A (eval iter X.env) (fun v s1 => wpAny (model X.prog X.w) X.A (pyIter v) (PIE X pins σ tg R) X.xe s1) X.xe s
theorem ZIC {M : Model} {A : Around} {E : Value → Shared → Prop} {s : Shared} {tg : Expr} {it : Addr} {u : Value} {o : Obj} {n : String} {vs : Array Value} {Q : Unit → Shared → Prop} (ho : s.heap.get? it = some o) (hc : o.cls = .type n) (hd : o.data = .fields vs)
    (hn : ["enumerate", "zip", "dict_itemiterator", "dict_reverseitemiterator", "odict_iterator", "itertools.zip_longest", "itertools.pairwise"].contains n = false) (hQ : Q () s) : wpAny M A (letOwnedTupleGo tg (.ref it) u) Q E s := by
  unfold letOwnedTupleGo
  cases tg <;> first
    | exact wpAny_pure hQ
    | (cases u <;> first
        | exact wpAny_pure hQ
        | (refine wpAny_bind (wpAny_load ho ?_)
           rw [hc, hd]
           show wpAny M A (if (["enumerate", "zip", "dict_itemiterator", "dict_reverseitemiterator", "odict_iterator", "itertools.zip_longest", "itertools.pairwise"].contains n && vs[0]? == some (rawInt _)) = true then _ else _) Q E s
           rw [if_neg (by intro h; rw [hn, Bool.false_and] at h; cases h)]
           exact wpAny_pure hQ))
def Itl (K : W.Frag) (a : Addr) : It :=
 ⟨fun i H => ∃ xs x, SqL K H a xs ∧ xs[i]? = some x, fun i H x H' => H' = H ∧ ∀ xs, SqL K H a xs → xs[i]? = some x, fun i H => ∃ xs, SqL K H a xs ∧ xs.length ≤ i⟩
def Itt (K : W.Frag) (a : Addr) : It :=
 ⟨fun i H => ∃ xs x, SqT K H a xs ∧ xs[i]? = some x, fun i H x H' => H' = H ∧ ∀ xs, SqT K H a xs → xs[i]? = some x, fun i H => ∃ xs, SqT K H a xs ∧ xs.length ≤ i⟩
def Itr (lo : Int) (n : Nat) : It := ⟨fun i _ => i < n, fun i H x H' => H' = H ∧ x = .int (lo + i), fun i _ => n ≤ i⟩
theorem ZIx {P : Program} {w : World} {K : W.Frag} {tg : Expr} (a it : Addr) : ZIe P w K tg (Itl K a) [it] it (fun i h => h.IsListIter it a i) where
 mem := by simp
 obj := fun i h st b hb => by
  have e : b = it := by simpa using hb
  subst e
  obtain ⟨o, e, c, d⟩ := st
  exact ⟨o, e, fun v z => by rw [d] at z; cases z⟩
 keep := fun i h h' st k => st.at fun o e => k it (by simp) o e
 item := by
  intro X hP hw hK hc i pins s σ H E I hf st hg
  subst hP hw hK
  obtain ⟨xs, x, hq, hx⟩ := hg
  obtain ⟨its, rv, p, hz⟩ := I.list hq
  obtain ⟨u, hu, ru⟩ := rv.get hx
  obtain ⟨f0, f1, f2, f3, f4, f5⟩ := hf it (by simp)
  refine wpAny_pyNext_list_item st p.isList (x := u) (by simpa using hu) fun h' st' sb => ?_
  have I1 : Inv X pins σ H { s with heap := h' } := I.turned (t' := s.toks) (fun b o hb e => (sb.2 b hb).trans e) f0 f1 f3 f4 f5
  obtain ⟨o, e, c, d⟩ := id st'
  exact ⟨u, rfl, ZIC (s := { s with heap := h' }) e c d (by decide) ⟨x, H, I1, ru, ⟨rfl, fun ys hy => by rw [I.list_inj hy hq]; exact hx⟩, st', fun b hb => (hf b hb).1⟩⟩
 done := by
  intro X hP hw hK hc i pins s σ H E I hf st hg
  subst hP hw hK
  obtain ⟨xs, hq, hx⟩ := hg
  obtain ⟨its, rv, p, hz⟩ := I.list hq
  obtain ⟨f0, f1, f2, f3, f4, f5⟩ := hf it (by simp)
  have hl := rv.length
  exact wpAny_pyNext_list_end (I.ok.hd hc) st p.isList (by simp; omega) fun h' eb => ⟨rfl, I.turned (t' := s.toks) (fun b o hb e => eb b o hb e) f0 f1 f3 f4 f5⟩
 self := fun _ _ _ _ _ st h => wpAny_pyIter_listiter st h
theorem ZID {P : Program} {w : World} {K : W.Frag} {tg : Expr} (a it : Addr) : ZIe P w K tg (Itt K a) [it] it (fun i h => h.IsTupleIter it a i) where
 mem := by simp
 obj := fun i h st b hb => by
  have e : b = it := by simpa using hb
  subst e
  obtain ⟨o, e, c, d⟩ := st
  exact ⟨o, e, fun v z => by rw [d] at z; cases z⟩
 keep := fun i h h' st k => st.at fun o e => k it (by simp) o e
 item := by
  intro X hP hw hK hc i pins s σ H E I hf st hg
  subst hP hw hK
  obtain ⟨xs, x, hq, hx⟩ := hg
  obtain ⟨its, rv, p, hz⟩ := I.tuple hq
  obtain ⟨u, hu, ru⟩ := rv.get hx
  obtain ⟨f0, f1, f2, f3, f4, f5⟩ := hf it (by simp)
  refine wpAny_pyNext_tuple_item st (show s.heap.IsTuple a its.toArray from p) (x := u) (by simpa using hu) fun h' st' sb => ?_
  have I1 : Inv X pins σ H { s with heap := h' } := I.turned (t' := s.toks) (fun b o hb e => (sb.2 b hb).trans e) f0 f1 f3 f4 f5
  obtain ⟨o, e, c, d⟩ := id st'
  exact ⟨u, rfl, ZIC (s := { s with heap := h' }) e c d (by decide) ⟨x, H, I1, ru, ⟨rfl, fun ys hy => by rw [I.tuple_inj hy hq]; exact hx⟩, st', fun b hb => (hf b hb).1⟩⟩
 done := by
  intro X hP hw hK hc i pins s σ H E I hf st hg
  subst hP hw hK
  obtain ⟨xs, hq, hx⟩ := hg
  obtain ⟨its, rv, p, hz⟩ := I.tuple hq
  obtain ⟨f0, f1, f2, f3, f4, f5⟩ := hf it (by simp)
  have hl := rv.length
  exact wpAny_pyNext_tuple_end (I.ok.hd hc) st (show s.heap.IsTuple a its.toArray from p) (by simp; omega) fun h' eb => ⟨rfl, I.turned (t' := s.toks) (fun b o hb e => eb b o hb e) f0 f1 f3 f4 f5⟩
 self := fun _ _ _ _ _ st h => wpAny_pyIter_tupleiter st h
theorem ZLs {P : Program} {w : World} {K : W.Frag} {tg : Expr} (it : Addr) (lo : Int) (n : Nat) : ZIe P w K tg (Itr lo n) [it] it (fun i h => IsRangeIter h it (lo + (i : Nat) * 1) ((n : Int) - (i : Nat)) 1) where
 mem := by simp
 obj := fun i h st b hb => by
  have e : b = it := by simpa using hb
  subst e
  exact ⟨_, st, fun v z => by
   have z' : Data.fields _ = Data.cell v := z
   cases z'⟩
 keep := fun i h h' st k => k it (by simp) _ st
 item := by
  intro X hP hw hK hc i pins s σ H E I hf st hg
  subst hP hw hK
  obtain ⟨f0, f1, f2, f3, f4, f5⟩ := hf it (by simp)
  have W := Walks.range (prog := X.prog) (w := X.w) (I.ok.hd hc) it lo 1 n
  refine W.item i s _ _ hg st fun v h' tk hv st' kk => ?_
  obtain ⟨t, rfl⟩ := hv
  have I1 : Inv X pins σ H { s with heap := h', toks := tk } := I.turned (fun b o hb e => kk b o (by simpa using hb) e) f0 f1 f3 f4 f5
  refine ⟨_, rfl, ZIC (s := { s with heap := h', toks := tk }) (n := "range_iterator") st' rfl rfl (by decide) ⟨.int (lo + i), H, I1, ⟨t, ?_⟩, ⟨rfl, rfl⟩, st', fun b hb => (hf b hb).1⟩⟩
  rw [Int.mul_one]
 done := by
  intro X hP hw hK hc i pins s σ H E I hf st hg
  subst hP hw hK
  obtain ⟨f0, f1, f2, f3, f4, f5⟩ := hf it (by simp)
  exact wpAny_pyNext_range_end (I.ok.hd hc) st (by have : n ≤ i := hg; omega) fun h' eb => ⟨rfl, I.turned (t' := s.toks) (fun b o hb e => eb b o hb e) f0 f1 f3 f4 f5⟩
 self := fun _ _ _ _ _ st h => wpAny_pyIter_rangeiter st h
section
variable {X : Cx} {tg : Expr}
def ZJV (K : W.Frag) (tl : TE) : TI := fun σ H R => tl σ H fun x H1 => ∃ a, x = .ref a ∧ (∃ xs, SqL K H1 a xs) ∧ R (Itl K a) H1
def ZLt (K : W.Frag) (tl : TE) : TI := fun σ H R => tl σ H fun x H1 => ∃ a, x = .ref a ∧ (∃ xs, SqT K H1 a xs) ∧ R (Itt K a) H1
theorem ZP7 {l : Expr} {tl : TE} (hl : PE X l tl) : PI X tg l (ZJV X.K tl) := by
 intro pins s σ H R I h
 refine thn (hl pins s σ H _ I h) fun v s1 ⟨x, H1, I1, r1, q1⟩ => ?_
 obtain ⟨a, e, ⟨xs, hq⟩, q⟩ := q1
 subst e
 cases r1
 obtain ⟨its, rv, p, hz⟩ := I1.list hq
 refine wpAny_pyIter_list p.isList ?_
 refine ⟨s1.heap.objs.size, [s1.heap.objs.size], _, _, H1, rfl, I1.kept (t' := s1.toks) fun b o e => Heap.get?_push_of_some _ e, ZIx a _, ⟨_, Heap.get?_push_size _ rfl, rfl, rfl⟩, fun b hb => ?_, q⟩
 have e : b = s1.heap.objs.size := by simpa using hb
 subst e
 exact I1.fpOk (Nat.le_refl _) (I1.hok.fresh (Nat.le_refl _))
theorem ZRv {l : Expr} {tl : TE} (hl : PE X l tl) : PI X tg l (ZLt X.K tl) := by
 intro pins s σ H R I h
 refine thn (hl pins s σ H _ I h) fun v s1 ⟨x, H1, I1, r1, q1⟩ => ?_
 obtain ⟨a, e, ⟨xs, hq⟩, q⟩ := q1
 subst e
 cases r1
 obtain ⟨its, rv, p, hz⟩ := I1.tuple hq
 refine wpAny_pyIter_tuple (show s1.heap.IsTuple a its.toArray from p) ?_
 refine ⟨s1.heap.objs.size, [s1.heap.objs.size], _, _, H1, rfl, I1.kept (t' := s1.toks) fun b o e => Heap.get?_push_of_some _ e, ZID a _, ⟨_, Heap.get?_push_size _ rfl, rfl, rfl⟩, fun b hb => ?_, q⟩
 have e : b = s1.heap.objs.size := by simpa using hb
 subst e
 exact I1.fpOk (Nat.le_refl _) (I1.hok.fresh (Nat.le_refl _))
theorem ZOD {pins : List (Addr × Obj)} {σ : St} {H : Hp} {s : Shared} {R : It → Hp → Prop} {E : Value → Shared → Prop} {lo hi : Int} {t u v : Tok} {tk : Nat} (I : Inv X pins σ H s) (h1 : -(2 ^ 62) ≤ lo) (h2 : lo < 2 ^ 62) (h3 : -(2 ^ 62) ≤ hi) (h4 : hi < 2 ^ 62)
  (q : R (Itr lo (hi - lo).toNat) H) : wpAny (model X.prog X.w) X.A (pyIter (.ref s.heap.objs.size)) (PIE X pins σ tg R) E { s with heap := s.heap.push { cls := .type "range", data := .fields #[.int lo t, .int hi u, .int 1 v] }, toks := tk } := by
 refine wpAny_pyIter_range (IsRange.new ..) (small_one h1 h2 h3 h4) ?_
 have I1 : Inv X pins σ H { s with heap := s.heap.push { cls := .type "range", data := .fields #[.int lo t, .int hi u, .int 1 v] }, toks := tk } := I.kept fun b o e => Heap.get?_push_of_some _ e
 refine ⟨(s.heap.push { cls := .type "range", data := .fields #[.int lo t, .int hi u, .int 1 v] }).objs.size, [(s.heap.push { cls := .type "range", data := .fields #[.int lo t, .int hi u, .int 1 v] }).objs.size], _, _, H, rfl,
  I1.kept (t' := tk) fun b o e => Heap.get?_push_of_some _ e, ZLs _ lo (hi - lo).toNat, ?_, fun b hb => ?_, q⟩
 ·have e1 : lo + ((0 : Nat) : Int) * 1 = lo := by simp
  have e2 : (((hi - lo).toNat : Nat) : Int) - ((0 : Nat) : Int) = Builtin.Range.rangeSize lo hi 1 := by rw [rangeSize_one]; split <;> omega
  show IsRangeIter _ _ (lo + ((0 : Nat) : Int) * 1) ((((hi - lo).toNat : Nat) : Int) - ((0 : Nat) : Int)) 1
  rw [e1, e2]
  exact Heap.get?_push_size _ rfl
 ·have e : b = (s.heap.push { cls := .type "range", data := .fields #[.int lo t, .int hi u, .int 1 v] }).objs.size := by simpa using hb
  subst e
  exact I1.fpOk (Nat.le_refl _) (I1.hok.fresh (Nat.le_refl _))
def ZLu (ta : TA) : TI := fun σ H R => ta σ H fun vs H1 => ∃ j : Int, vs = [.int j] ∧ -(2 ^ 62) ≤ j ∧ j < 2 ^ 62 ∧ R (Itr 0 j.toNat) H1
theorem ZMn {a : Expr} {ta : TA} {p pos : Pos} (hg : Gl X "range") (hm : X.mg "range" = none) (ha : PA X [a] ta) (hs : starEach [a] X.env = [(false, eval a X.env)] := by rfl) : PI X tg (.Call (.Name "range" p) [a] [] pos) (ZLu ta) := by
 intro pins s σ H R I h
 refine Call_ (ZFE I hg hm boot_range (PyProof.Rows.callWith_type1 (thn (ha pos pins s σ H _ I h) fun us s1 ⟨vs, H1, I1, r1, q1⟩ => ?_) hs rfl))
 obtain ⟨j, e, q1, q2, q⟩ := q1
 subst e
 cases r1 with
 | cons r rr =>
  cases rr
  obtain ⟨t, rfl⟩ := r
  exact call_range_1 (ZOD I1 (by omega) (by omega) q1 q2 (by simpa using q))
def ZOE (wi : TI) (g : TG) (tb : TS) : TS := fun D σ H => wi σ H fun J H1 => ∃ W : Nat → Nat → St → Hp → Prop, (∃ m, W 0 m σ H1) ∧ ∀ i m σ H, W i m σ H →
 (J.stop i H ∧ D.nx σ H) ∨ (J.go i H ∧ ∃ N : St → Hp → Prop, (∀ σ' H', N σ' H' → ∃ m', m' < m ∧ W (i + 1) m' σ' H') ∧ ∀ x H', J.yld i H x H' → g x σ H' fun σ2 H2 => tb { D with nx := N, ct := N, bk := D.nx } σ2 H2)
def ZGn (fp : List Addr) (h : Heap) : List (Addr × Obj) := fp.filterMap fun b => (h.get? b).map fun o => (b, o)
theorem ZFO {fp : List Addr} {h : Heap} {b : Addr} {o : Obj} (hb : b ∈ fp) (e : h.get? b = some o) : (b, o) ∈ ZGn fp h := List.mem_filterMap.mpr ⟨b, hb, by rw [e]; rfl⟩
theorem ZMo {fp : List Addr} {h : Heap} {p : Addr × Obj} (hp : p ∈ ZGn fp h) : p.1 ∈ fp ∧ h.get? p.1 = some p.2 := by
 obtain ⟨b, hb, e⟩ := List.mem_filterMap.mp hp
 cases q : h.get? b with
 | none => rw [q] at e; cases e
 | some o =>
  rw [q] at e
  have e' : (b, o) = p := Option.some.inj e
  subst e'
  exact ⟨hb, q⟩
theorem Inv.pinned {pins : List (Addr × Obj)} {σ : St} {H : Hp} {s : Shared} {fp : List Addr} (I : Inv X pins σ H s) (hf : ∀ b ∈ fp, ZER X pins H b) (ho : ∀ b ∈ fp, ∃ o, s.heap.get? b = some o ∧ ∀ v, o.data ≠ .cell v) : Inv X (pins ++ ZGn fp s.heap) σ H s :=
 I.pins_of fun p hp => (List.mem_append.mp hp).elim (fun z => I.pin p (List.mem_append_right _ z)) fun z => by
  obtain ⟨hb, e⟩ := ZMo z
  obtain ⟨f0, f1, f2, _⟩ := hf p.1 hb
  obtain ⟨o, e', d⟩ := ho p.1 hb
  rw [e] at e'; cases e'
  exact ⟨e, f0, f1, f2, d⟩
theorem Inv.unpinned {pins pl : List (Addr × Obj)} {σ : St} {H : Hp} {s : Shared} (I : Inv X (pins ++ pl) σ H s) : Inv X pins σ H s := I.pins_of fun p hp => I.pin p (List.mem_append_right _ (List.mem_append_left _ hp))
theorem ZRw {iter : Expr} {body : List Stmt} {wi : TI} {g : TG} {tb : TS} {pos : Pos} (hp : PassesOwn (model X.prog X.w) X.A X.env X.xe) (hc : X.calm = true) (hi : PI X tg iter wi) (hg : PG X tg g) (hb : PSs X body tb)
  (hs : ∀ x, foldedSetIterable iter X.env x = pure x := by intro _; rfl) : PS X (.For tg iter body [] pos) (ZOE wi g tb) := by
 intro pins s σ H D I h
 refine wpAny_For (thn (hi pins s σ H _ I h) fun v s1 h1 => thn h1 fun itv s2 h2 => ?_) hs
 obtain ⟨it, fp, tn, J, H2, e, I2, T, st2, f2, W, ⟨m0, w0⟩, turn⟩ := h2
 subst e
 -- what stays true of the iterator's objects through the loop
 have stat : ∀ {H' : Hp}, (∀ b ∈ fp, H' b = none) → ∀ b ∈ fp, ZER X pins H' b := fun hn b hb => ⟨hn b hb, (f2 b hb).2⟩
 refine codeAny_forLoop_any (fun n s' => ∃ i σ' H', Inv X pins σ' H' s' ∧ tn i s'.heap ∧ (∀ b ∈ fp, H' b = none) ∧ W i n σ' H') ?_ m0 ⟨0, σ, H2, I2, st2, fun b hb => (f2 b hb).1, w0⟩
 rintro n s3 ⟨i, σ3, H3, I3, st3, fr3, w3⟩
 rcases turn i n σ3 H3 w3 with ⟨stop, qn⟩ | ⟨go, N, hN, step⟩
 ·refine wpAny_passesOwn hp (thn (T.done X rfl rfl rfl hc i pins s3 σ3 H3 X.xe I3 (stat fr3) st3 stop) fun r s4 ⟨hr, I4⟩ => ?_)
  subst hr
  exact wpAny_execs_nil ⟨σ3, H3, I4, qn⟩
 ·refine wpAny_passesOwn hp (thn (T.item X rfl rfl rfl hc i pins s3 σ3 H3 X.xe I3 (stat fr3) st3 go) fun r s4 ⟨u, hr, h4⟩ => ?_)
  subst hr
  refine wpAny_passesOwn hp (thn h4 fun _ s5 ⟨x, H5, I5, r5, y5, st5, fr5⟩ => ?_)
  have I5' := I5.pinned (stat fr5) (T.obj _ _ st5)
  refine wpAny_passesOwn hp (thn (hg _ s5 σ3 H5 x u _ I5' r5 (step x H5 y5)) fun _ s6 ⟨σ6, H6, I6, q6⟩ => ?_)
  refine wpAny_passesOwn hp (thn (hb _ s6 σ6 H6 _ I6 q6) fun f s7 q7 => ?_)
  have again : ∀ {σ7 : St} {H7 : Hp}, Inv X (pins ++ ZGn fp s5.heap) σ7 H7 s7 → N σ7 H7 → ∃ m, m < n ∧ ∃ i σ' H', Inv X pins σ' H' s7 ∧ tn i s7.heap ∧ (∀ b ∈ fp, H' b = none) ∧ W i m σ' H' := fun {σ7 H7} I7 n7 => by
   obtain ⟨m', hm, w7⟩ := hN σ7 H7 n7
   refine ⟨m', hm, i + 1, σ7, H7, I7.unpinned, T.keep _ _ _ st5 fun b hb o e => (I7.pin (b, o) (List.mem_append_right _ (List.mem_append_right _ (ZFO hb e)))).1, fun b hb => ?_, w7⟩
   obtain ⟨o, e, d⟩ := T.obj _ _ st5 b hb
   exact (I7.pin (b, o) (List.mem_append_right _ (List.mem_append_right _ (ZFO hb e)))).2.1
  cases f with
  | next => obtain ⟨σ7, H7, I7, n7⟩ := q7; exact again I7 n7
  | cont => obtain ⟨σ7, H7, I7, n7⟩ := q7; exact again I7 n7
  | brk => obtain ⟨σ7, H7, I7, q7⟩ := q7; exact ⟨σ7, H7, I7.unpinned, q7⟩
  | ret v => obtain ⟨x7, σ7, H7, I7, r7, q7⟩ := q7; exact ⟨x7, σ7, H7, I7.unpinned, r7, q7⟩
end
theorem ZOF {K : W.Frag} {a : Addr} {xs : List V} {g : TG} {tb : TS} {D : ZDt} {σ : St} {H : Hp} (Pv : Nat → St → Hp → Prop) (h0 : Pv 0 σ H) (hl : ∀ i σ H, i ≤ xs.length → Pv i σ H → SqL K H a xs)
  (hs : ∀ i x σ H, xs[i]? = some x → Pv i σ H → g x σ H fun σ2 H2 => tb { D with nx := Pv (i + 1), ct := Pv (i + 1), bk := D.nx } σ2 H2) (hd : ∀ σ H, Pv xs.length σ H → D.nx σ H) :
  ∃ W : Nat → Nat → St → Hp → Prop, (∃ m, W 0 m σ H) ∧ ∀ i m σ H, W i m σ H →
   ((Itl K a).stop i H ∧ D.nx σ H) ∨ ((Itl K a).go i H ∧ ∃ N : St → Hp → Prop, (∀ σ' H', N σ' H' → ∃ m', m' < m ∧ W (i + 1) m' σ' H') ∧ ∀ x H', (Itl K a).yld i H x H' → g x σ H' fun σ2 H2 => tb { D with nx := N, ct := N, bk := D.nx } σ2 H2) := by
 refine ⟨fun i m σ H => m = xs.length - i ∧ i ≤ xs.length ∧ Pv i σ H, ⟨xs.length, by simp, Nat.zero_le _, h0⟩, ?_⟩
 rintro i m σ H ⟨rfl, hi, p⟩
 have q := hl i σ H hi p
 by_cases hlt : i < xs.length
 ·refine .inr ⟨⟨xs, xs[i], q, by simp [hlt]⟩, Pv (i + 1), fun σ' H' p' => ⟨xs.length - (i + 1), by omega, rfl, hlt, p'⟩, fun x H' y => ?_⟩
  obtain ⟨e, y⟩ := y
  subst e
  exact hs i x σ _ (y xs q) p
 ·have e : i = xs.length := by omega
  subst e
  exact .inl ⟨⟨xs, q, Nat.le_refl _⟩, hd σ H p⟩
theorem ZP8 {K : W.Frag} {a : Addr} {xs : List V} {g : TG} {tb : TS} {D : ZDt} {σ : St} {H : Hp} (Pv : Nat → St → Hp → Prop) (h0 : Pv 0 σ H) (hl : ∀ i σ H, i ≤ xs.length → Pv i σ H → SqT K H a xs)
  (hs : ∀ i x σ H, xs[i]? = some x → Pv i σ H → g x σ H fun σ2 H2 => tb { D with nx := Pv (i + 1), ct := Pv (i + 1), bk := D.nx } σ2 H2) (hd : ∀ σ H, Pv xs.length σ H → D.nx σ H) :
  ∃ W : Nat → Nat → St → Hp → Prop, (∃ m, W 0 m σ H) ∧ ∀ i m σ H, W i m σ H →
   ((Itt K a).stop i H ∧ D.nx σ H) ∨ ((Itt K a).go i H ∧ ∃ N : St → Hp → Prop, (∀ σ' H', N σ' H' → ∃ m', m' < m ∧ W (i + 1) m' σ' H') ∧ ∀ x H', (Itt K a).yld i H x H' → g x σ H' fun σ2 H2 => tb { D with nx := N, ct := N, bk := D.nx } σ2 H2) := by
 refine ⟨fun i m σ H => m = xs.length - i ∧ i ≤ xs.length ∧ Pv i σ H, ⟨xs.length, by simp, Nat.zero_le _, h0⟩, ?_⟩
 rintro i m σ H ⟨rfl, hi, p⟩
 have q := hl i σ H hi p
 by_cases hlt : i < xs.length
 ·refine .inr ⟨⟨xs, xs[i], q, by simp [hlt]⟩, Pv (i + 1), fun σ' H' p' => ⟨xs.length - (i + 1), by omega, rfl, hlt, p'⟩, fun x H' y => ?_⟩
  obtain ⟨e, y⟩ := y
  subst e
  exact hs i x σ _ (y xs q) p
 ·have e : i = xs.length := by omega
  subst e
  exact .inl ⟨⟨xs, q, Nat.le_refl _⟩, hd σ H p⟩
theorem ZMp {lo : Int} {n : Nat} {g : TG} {tb : TS} {D : ZDt} {σ : St} {H : Hp} (Pv : Nat → St → Hp → Prop) (h0 : Pv 0 σ H)
  (hs : ∀ i σ H, i < n → Pv i σ H → g (.int (lo + i)) σ H fun σ2 H2 => tb { D with nx := Pv (i + 1), ct := Pv (i + 1), bk := D.nx } σ2 H2) (hd : ∀ σ H, Pv n σ H → D.nx σ H) :
  ∃ W : Nat → Nat → St → Hp → Prop, (∃ m, W 0 m σ H) ∧ ∀ i m σ H, W i m σ H →
   ((Itr lo n).stop i H ∧ D.nx σ H) ∨ ((Itr lo n).go i H ∧ ∃ N : St → Hp → Prop, (∀ σ' H', N σ' H' → ∃ m', m' < m ∧ W (i + 1) m' σ' H') ∧ ∀ x H', (Itr lo n).yld i H x H' → g x σ H' fun σ2 H2 => tb { D with nx := N, ct := N, bk := D.nx } σ2 H2) := by
 refine ⟨fun i m σ H => m = n - i ∧ i ≤ n ∧ Pv i σ H, ⟨n, by simp, Nat.zero_le _, h0⟩, ?_⟩
 rintro i m σ H ⟨rfl, hi, p⟩
 by_cases hlt : i < n
 ·refine .inr ⟨hlt, Pv (i + 1), fun σ' H' p' => ⟨n - (i + 1), by omega, rfl, hlt, p'⟩, fun x H' y => ?_⟩
  obtain ⟨e, y⟩ := y
  subst e y
  exact hs i σ _ hlt p
 ·have e : i = n := by omega
  subst e
  exact .inl ⟨Nat.le_refl _, hd σ H p⟩
abbrev R2 := V → V → Hp → VK → Prop
def OpR (X : Cx) (f : Value → Value → Sem Value) (r : R2) : Prop :=
 ∀ (pins : List (Addr × Obj)) (s : Shared) (σ : St) (H : Hp) (x y : V) (v u : Value) (Q : VK), Inv X pins σ H s → ZDH x v → ZDH y u → r x y H Q →
  wpAny (model X.prog X.w) X.A (f v u) (EP X pins σ Q) X.xe s
def UnR (X : Cx) (f : Value → Sem Value) (r : V → Hp → VK → Prop) : Prop :=
 ∀ (pins : List (Addr × Obj)) (s : Shared) (σ : St) (H : Hp) (x : V) (v : Value) (Q : VK), Inv X pins σ H s → ZDH x v → r x H Q →
  wpAny (model X.prog X.w) X.A (f v) (EP X pins σ Q) X.xe s
def ZDb (X : Cx) (f : Value) (r : List V → Hp → VK → Prop) : Prop :=
 ∀ (pins : List (Addr × Obj)) (s : Shared) (σ : St) (H : Hp) (xs : List V) (us : List Value) (Q : VK), Inv X pins σ H s → ZDG xs us → r xs H Q →
  wpAny (model X.prog X.w) X.A (call f us) (EP X pins σ Q) X.xe s
def tOp (r : R2) (ta tb : TE) : TE := fun σ H Q => ta σ H fun x H1 => tb σ H1 fun y H2 => r x y H2 Q
def tUn (r : V → Hp → VK → Prop) (ta : TE) : TE := fun σ H Q => ta σ H fun x H1 => r x H1 Q
def rI (C : Int → Int → Prop) (g : Int → Int → V) : R2 := fun x y H Q => ∃ i j, x = .int i ∧ y = .int j ∧ C i j ∧ Q (g i j) H
def rI0 (g : Int → Int → V) : R2 := fun x y H Q => ∃ i j, x = .int i ∧ y = .int j ∧ Q (g i j) H
def rU (g : Int → V) : V → Hp → VK → Prop := fun x H Q => ∃ i, x = .int i ∧ Q (g i) H
section
variable {X : Cx} {a b c : Expr} {ta tb tc : TE} {pos : Pos}
theorem ZOG (ha : PE X a ta) (hb : PE X b tb) {pins : List (Addr × Obj)} {s : Shared} {σ : St} {H : Hp} {R : V → V → Hp → Prop} (I : Inv X pins σ H s)
  (h : ta σ H fun x H1 => tb σ H1 fun y H2 => R x y H2) {Q : Value → Shared → Prop} {f : Value → Value → Sem Value}
  (hf : ∀ v u s2 x y H2, Inv X pins σ H2 s2 → ZDH x v → ZDH y u → R x y H2 → wpAny (model X.prog X.w) X.A (f v u) Q X.xe s2) :
  wpAny (model X.prog X.w) X.A (eval a X.env) (fun v s₁ => wpAny (model X.prog X.w) X.A (eval b X.env) (fun u s₂ => wpAny (model X.prog X.w) X.A (f v u) Q X.xe s₂) X.xe s₁) X.xe s := by
 refine thn (ha pins s σ H _ I h) fun v s1 ⟨x, H1, I1, r1, q1⟩ => ?_
 refine thn (hb pins s1 σ H1 _ I1 q1) fun u s2 ⟨y, H2, I2, r2, q2⟩ => ?_
 exact hf v u s2 x y H2 I2 r1 r2 q2
theorem ZTS {op : Operator} {r : R2} (ho : OpR X (binaryOp op) r) (ha : PE X a ta) (hb : PE X b tb) : PE X (.BinOp a op b pos) (tOp r ta tb) := by
 intro pins s σ H Q I h
 exact wpAny_BinOp (ZOG ha hb I h fun v u s2 x y H2 I2 rx ry q => ho pins s2 σ H2 x y v u Q I2 rx ry q)
theorem ZTT {op : UnaryOp} {r : V → Hp → VK → Prop} (ho : UnR X (unaryOp op) r) (ha : PE X a ta) : PE X (.UnaryOp op a pos) (tUn r ta) := by
 intro pins s σ H Q I h
 exact UnaryOp_ (thn (ha pins s σ H _ I h) fun v s1 ⟨x, H1, I1, r1, q1⟩ => ho pins s1 σ H1 x v Q I1 r1 q1)
theorem opI {f : Value → Value → Sem Value} {C : Int → Int → Prop} {g : Int → Int → Int}
  (rule : ∀ (i j : Int) (t u : Tok) (s : Shared) (Q : Value → Shared → Prop) (E : Value → Shared → Prop), C i j → Q (.int (g i j) s.toks) { s with toks := s.toks + 1 } → wpAny (model X.prog X.w) X.A (f (.int i t) (.int j u)) Q E s) :
  OpR X f (rI C fun i j => .int (g i j)) := by
 intro pins s σ H x y v u Q I rx ry h
 obtain ⟨i, j, rfl, rfl, hc, q⟩ := h
 obtain ⟨t, rfl⟩ := rx
 obtain ⟨t', rfl⟩ := ry
 exact rule i j t t' s _ _ hc ⟨.int (g i j), H, I.tok _, ⟨_, rfl⟩, q⟩
theorem ZRx {f : Value → Value → Sem Value} {g : Int → Int → Int}
  (rule : ∀ (i j : Int) (t u : Tok) (s : Shared) (Q : Value → Shared → Prop) (E : Value → Shared → Prop), Q (.int (g i j) s.toks) { s with toks := s.toks + 1 } → wpAny (model X.prog X.w) X.A (f (.int i t) (.int j u)) Q E s) :
  OpR X f (rI0 fun i j => .int (g i j)) := by
 intro pins s σ H x y v u Q I rx ry h
 obtain ⟨i, j, rfl, rfl, q⟩ := h
 obtain ⟨t, rfl⟩ := rx
 obtain ⟨t', rfl⟩ := ry
 exact rule i j t t' s _ _ ⟨.int (g i j), H, I.tok _, ⟨_, rfl⟩, q⟩
theorem ZLv {f : Value → Value → Sem Value} {g : Int → Int → Bool}
  (rule : ∀ (i j : Int) (t u : Tok) (s : Shared) (Q : Value → Shared → Prop) (E : Value → Shared → Prop), Q (.bool (g i j)) s → wpAny (model X.prog X.w) X.A (f (.int i t) (.int j u)) Q E s) :
  OpR X f (rI0 fun i j => .bl (g i j)) := by
 intro pins s σ H x y v u Q I rx ry h
 obtain ⟨i, j, rfl, rfl, q⟩ := h
 obtain ⟨t, rfl⟩ := rx
 obtain ⟨t', rfl⟩ := ry
 exact rule i j t t' s _ _ ⟨.bl (g i j), H, I, rfl, q⟩
def ZOH (i j : Int) : Prop := 0 ≤ j ∧ j ≤ 1000000 ∧ i.natAbs < 2 ^ 64
theorem ZEw : OpR X (binaryOp .Add) (rI0 fun i j => .int (i + j)) := ZRx fun _ _ _ _ _ _ _ q => add_int q
theorem ZRy : OpR X (binaryOp .Sub) (rI0 fun i j => .int (i - j)) := ZRx fun _ _ _ _ _ _ _ q => sub_int q
theorem ZF2 : OpR X (binaryOp .Mod) (rI (fun _ j => 0 < j) fun i j => .int (i % j)) := opI fun i j _ _ _ _ _ hc q => by
 have h1 : (0 : Int) < j := hc
 exact mod_int' (by omega) (by rw [Int.fmod_eq_emod_of_nonneg i (by omega)]; exact q)
theorem ZMq : OpR X (binaryOp .Pow) (rI ZOH fun i j => .int (i ^ j.toNat)) := opI fun _ _ _ _ _ _ _ hc q => pow_int_small hc.1 hc.2.1 hc.2.2 q
theorem unI {f : Value → Sem Value} {g : Int → Int}
  (rule : ∀ (i : Int) (t : Tok) (s : Shared) (Q : Value → Shared → Prop) (E : Value → Shared → Prop), Q (.int (g i) s.toks) { s with toks := s.toks + 1 } → wpAny (model X.prog X.w) X.A (f (.int i t)) Q E s) :
  UnR X f (rU fun i => .int (g i)) := by
 intro pins s σ H x v Q I rx h
 obtain ⟨i, rfl, q⟩ := h
 obtain ⟨t, rfl⟩ := rx
 exact rule i t s _ _ ⟨.int (g i), H, I.tok _, ⟨_, rfl⟩, q⟩
theorem ZMr : UnR X (unaryOp .USub) (rU fun i => .int (-i)) := unI fun _ _ _ _ _ q => neg_int q
end
def ZRz : V → V → Bool
 | .non, .non => true | .non, .int _ => true | .int _, .non => true | .non, .bl _ => true | .bl _, .non => true | .non, .str _ => true | .str _, .non => true
 | .int _, .int _ => true | .bl _, .bl _ => true | .str _, .str _ => true | .byt _, .byt _ => true
 | .int _, .str _ => true | .str _, .int _ => true | .bl _, .str _ => true | .str _, .bl _ => true
 | _, _ => false
def rEq : R2 := fun x y H Q => ZRz x y = true ∧ Q (.bl (decide (x = y))) H
def rNe : R2 := fun x y H Q => ZRz x y = true ∧ Q (.bl (!decide (x = y))) H
theorem ZLM {i j : Int} : decide (V.int i = V.int j) = (i == j) := by
 rw [Bool.eq_iff_iff]
 simp
theorem ZMs {i j : Bool} : decide (V.bl i = V.bl j) = (i == j) := by
 rw [Bool.eq_iff_iff]
 simp
theorem ZLN {i j : Str} : decide (V.str i = V.str j) = (i == j) := by
 rw [Bool.eq_iff_iff]
 simp
theorem ZLO {i j : Array UInt8} : decide (V.byt i = V.byt j) = (i.toList == j.toList) := by
 rw [Bool.eq_iff_iff]
 cases i
 cases j
 simp
section
variable {X : Cx} {a b c : Expr} {ta tb tc : TE} {pos : Pos}
theorem ZDQ {pins : List (Addr × Obj)} {σ : St} {H : Hp} {s : Shared} {Q : VK} {k k' : Bool} (I : Inv X pins σ H s) (q : Q (.bl k) H) (e : k = k') : EP X pins σ Q (.bool k') s := by
 subst e
 exact ⟨.bl k, H, I, rfl, q⟩
theorem ZLw : OpR X (compareOp .Eq) rEq := by
 intro pins s σ H x y v u Q I rx ry h
 obtain ⟨hs, q⟩ := h
 cases x with
 | non =>
  cases rx
  cases y with
  | non => cases ry; exact PySem.EqNone.eq_none_none (ZDQ I q (by simp))
  | bl j => cases ry; exact PySem.EqNone.eq_none_bool (ZDQ I q (by simp))
  | int j => obtain ⟨t', rfl⟩ := ry; exact PySem.EqNone.eq_none_int (ZDQ I q (by simp))
  | str j => obtain ⟨t', rfl⟩ := ry; exact PySem.EqNone.eq_none_str (ZDQ I q (by simp))
  | _ => exact absurd (show false = true from hs) Bool.false_ne_true
 | bl i =>
  cases rx
  cases y with
  | non => cases ry; exact PySem.EqNone.eq_bool_none (ZDQ I q (by simp))
  | bl j => cases ry; exact eq_bool (ZDQ I q ZMs)
  | str j => obtain ⟨t', rfl⟩ := ry; exact PySem.EqMixed.eq_bool_str (ZDQ I q (by simp))
  | _ => exact absurd (show false = true from hs) Bool.false_ne_true
 | int i =>
  obtain ⟨t, rfl⟩ := rx
  cases y with
  | non => cases ry; exact PySem.EqNone.eq_int_none (ZDQ I q (by simp))
  | int j => obtain ⟨t', rfl⟩ := ry; exact eq_int (ZDQ I q ZLM)
  | str j => obtain ⟨t', rfl⟩ := ry; exact PySem.EqMixed.eq_int_str (ZDQ I q (by simp))
  | _ => exact absurd (show false = true from hs) Bool.false_ne_true
 | str i =>
  obtain ⟨t, rfl⟩ := rx
  cases y with
  | non => cases ry; exact PySem.EqNone.eq_str_none (ZDQ I q (by simp))
  | bl j => cases ry; exact PySem.EqMixed.eq_str_bool (ZDQ I q (by simp))
  | int j => obtain ⟨t', rfl⟩ := ry; exact PySem.EqMixed.eq_str_int (ZDQ I q (by simp))
  | str j => obtain ⟨t', rfl⟩ := ry; exact eq_str (ZDQ I q ZLN)
  | _ => exact absurd (show false = true from hs) Bool.false_ne_true
 | byt i =>
  obtain ⟨t, rfl⟩ := rx
  cases y with
  | byt j => obtain ⟨t', rfl⟩ := ry; exact PySem.W.eq_bytes (ZDQ I q ZLO)
  | _ => exact absurd (show false = true from hs) Bool.false_ne_true
 | _ => cases y <;> exact absurd (show false = true from hs) Bool.false_ne_true
theorem ZTU : OpR X (compareOp .NotEq) rNe := by
 intro pins s σ H x y v u Q I rx ry h
 obtain ⟨hs, q⟩ := h
 cases x with
 | non =>
  cases rx
  cases y with
  | non => cases ry; exact PySem.EqNone.ne_none_none (ZDQ I q (by simp))
  | bl j => cases ry; exact PySem.EqNone.ne_none_bool (ZDQ I q (by simp))
  | int j => obtain ⟨t', rfl⟩ := ry; exact PySem.EqNone.ne_none_int (ZDQ I q (by simp))
  | str j => obtain ⟨t', rfl⟩ := ry; exact PySem.EqNone.ne_none_str (ZDQ I q (by simp))
  | _ => exact absurd (show false = true from hs) Bool.false_ne_true
 | bl i =>
  cases rx
  cases y with
  | non => cases ry; exact PySem.EqNone.ne_bool_none (ZDQ I q (by simp))
  | bl j => cases ry; exact ne_bool (ZDQ I q (congrArg not ZMs))
  | str j => obtain ⟨t', rfl⟩ := ry; exact PySem.EqMixed.ne_bool_str (ZDQ I q (by simp))
  | _ => exact absurd (show false = true from hs) Bool.false_ne_true
 | int i =>
  obtain ⟨t, rfl⟩ := rx
  cases y with
  | non => cases ry; exact PySem.EqNone.ne_int_none (ZDQ I q (by simp))
  | int j => obtain ⟨t', rfl⟩ := ry; exact ne_int (ZDQ I q (congrArg not ZLM))
  | str j => obtain ⟨t', rfl⟩ := ry; exact PySem.EqMixed.ne_int_str (ZDQ I q (by simp))
  | _ => exact absurd (show false = true from hs) Bool.false_ne_true
 | str i =>
  obtain ⟨t, rfl⟩ := rx
  cases y with
  | non => cases ry; exact PySem.EqNone.ne_str_none (ZDQ I q (by simp))
  | bl j => cases ry; exact PySem.EqMixed.ne_str_bool (ZDQ I q (by simp))
  | int j => obtain ⟨t', rfl⟩ := ry; exact PySem.EqMixed.ne_str_int (ZDQ I q (by simp))
  | str j => obtain ⟨t', rfl⟩ := ry; exact ne_str (ZDQ I q (congrArg not ZLN))
  | _ => exact absurd (show false = true from hs) Bool.false_ne_true
 | byt i =>
  obtain ⟨t, rfl⟩ := rx
  cases y with
  | byt j => obtain ⟨t', rfl⟩ := ry; exact PySem.W.ne_bytes (ZDQ I q (congrArg not ZLO))
  | _ => exact absurd (show false = true from hs) Bool.false_ne_true
 | _ => cases y <;> exact absurd (show false = true from hs) Bool.false_ne_true
theorem ZTV : OpR X (compareOp .Lt) (rI0 fun i j => .bl (decide (i < j))) := ZLv fun _ _ _ _ _ _ _ q => lt_int q
theorem ZIE : OpR X (compareOp .LtE) (rI0 fun i j => .bl (decide (i ≤ j))) := ZLv fun _ _ _ _ _ _ _ q => le_int q
theorem ZTW : OpR X (compareOp .Gt) (rI0 fun i j => .bl (decide (j < i))) := ZLv fun _ _ _ _ _ _ _ q => gt_int q
theorem ZPf : OpR X (compareOp .GtE) (rI0 fun i j => .bl (decide (j ≤ i))) := ZLv fun _ _ _ _ _ _ _ q => ge_int q
theorem ZR0 : OpR X (compareOp .Is) (fun x y H Q => y = .non ∧ Q (.bl (decide (x = .non))) H) := by
 intro pins s σ H x y v u Q I rx ry h
 obtain ⟨rfl, q⟩ := h
 cases ry
 refine is_none_gen (ZDQ I q ?_)
 cases x <;> first
  | (cases rx; rfl)
  | (obtain ⟨t, rfl⟩ := rx; rfl)
theorem ZP9 : OpR X (compareOp .IsNot) (fun x y H Q => y = .non ∧ Q (.bl (!decide (x = .non))) H) := by
 intro pins s σ H x y v u Q I rx ry h
 obtain ⟨rfl, q⟩ := h
 cases ry
 refine isnot_none_gen (ZDQ I q ?_)
 cases x <;> first
  | (cases rx; rfl)
  | (obtain ⟨t, rfl⟩ := rx; rfl)
theorem ZDx (b : Expr) {op : CmpOp} (h : op ≠ .In := by decide) (h2 : op ≠ .NotIn := by decide) : behindInMarks op b = false := by
 have e1 : (op == CmpOp.In) = false := by cases op <;> first | rfl | exact absurd rfl h
 have e2 : (op == CmpOp.NotIn) = false := by cases op <;> first | rfl | exact absurd rfl h2
 cases b <;> simp [behindInMarks, e1, e2]
theorem ZQA {op : CmpOp} {r : R2} (ho : OpR X (compareOp op) r) (ha : PE X a ta) (hb : PE X b tb) (hm : behindInMarks op b = false) : PE X (.Compare a [op] [b] pos) (tOp r ta tb) := by
 intro pins s σ H Q I h
 exact wpAny_Compare1 (ZOG ha hb I h fun v u s2 x y H2 I2 rx ry q => ho pins s2 σ H2 x y v u Q I2 rx ry q) hm
def ZLx (t : TE) : TT := fun σ H Q => t σ H fun x H' => ∃ k, x = .bl k ∧ Q k H'
theorem ZQB {op : CmpOp} {r : R2} (ho : OpR X (compareOp op) r) (ha : PE X a ta) (hb : PE X b tb) (hm : behindInMarks op b = false) : PT X (.Compare a [op] [b] pos) (ZLx (tOp r ta tb)) := by
 intro pins s σ H Q I h
 refine wpAny_isTrue_Compare1 (thn (ha pins s σ H _ I h) fun v s1 ⟨x, H1, I1, r1, q1⟩ => thn (hb pins s1 σ H1 _ I1 q1) fun u s2 ⟨y, H2, I2, r2, q2⟩ =>
  thn (ho pins s2 σ H2 x y v u _ I2 r1 r2 q2) fun c s3 ⟨z, H3, I3, r3, k, e, q3⟩ => ?_) hm
 subst e
 cases r3
 exact wpAny_truthy_bool ⟨H3, I3, q3⟩
def ZJh (r r' : R2) (ta tb tc : TE) : TE := fun σ H Q => ta σ H fun x H1 => tb σ H1 fun y H2 => r x y H2 fun z H3 => ∃ k, z = .bl k ∧
 (if k = true then tc σ H3 fun w' H4 => r' y w' H4 Q else Q (.bl false) H3)
theorem ZOI {op op' : CmpOp} {r r' : R2} (ho : OpR X (compareOp op) r) (ho' : OpR X (compareOp op') r') (ha : PE X a ta) (hb : PE X b tb) (hc : PE X c tc)
  (hm : lastMarks [op, op'] [b, c] = false := by with_unfolding_all rfl) : PE X (.Compare a [op, op'] [b, c] pos) (ZJh r r' ta tb tc) := by
 intro pins s σ H Q I h
 refine Compare_chain (thn (ha pins s σ H _ I h) fun v s1 ⟨x, H1, I1, r1, q1⟩ => chain_link (thn (hb pins s1 σ H1 _ I1 q1) fun u s2 ⟨y, H2, I2, r2, q2⟩ =>
  thn (ho pins s2 σ H2 x y v u _ I2 r1 r2 q2) fun d s3 ⟨z, H3, I3, r3, k, e, q3⟩ => ?_)) hm
 subst e
 cases r3
 refine wpAny_truthy_bool ?_
 cases k with
 | false => exact ite_ff ⟨.bl false, H3, I3, rfl, q3⟩
 | true => exact ite_tt (chain_last (thn (hc pins s3 σ H3 _ I3 q3) fun w' s4 ⟨z', H4, I4, r4, q4⟩ => ho' pins s4 σ H4 y z' u w' Q I4 r2 r4 q4))
theorem ZF3 : (sizeLine : Nat) < 2 ^ 63 := by rw [sizeLine_eq]; decide
theorem ZLy : OpR X (binaryOp .Add) (fun x y H Q => ∃ i j, x = .str i ∧ y = .str j ∧ i.length + j.length ≤ sizeLine ∧ Q (.str (i ++ j)) H) := by
 intro pins s σ H x y v u Q I rx ry h
 obtain ⟨i, j, rfl, rfl, hz, q⟩ := h
 obtain ⟨t, rfl⟩ := rx
 obtain ⟨t', rfl⟩ := ry
 exact add_str (fun t' tk => ⟨.str (i ++ j), H, I.tok _, ⟨_, rfl⟩, q⟩) hz
theorem ZJW {x : V} {us : List Value} (r : ZDG [x] us) : ∃ u, us = [u] ∧ ZDH x u := by
 cases r with
 | cons r1 r2 => cases r2; exact ⟨_, rfl, r1⟩
theorem ZPg {x y : V} {us : List Value} (r : ZDG [x, y] us) : ∃ u w', us = [u, w'] ∧ ZDH x u ∧ ZDH y w' := by
 cases r with
 | cons r1 r2 =>
  cases r2 with
  | cons r3 r4 => cases r4; exact ⟨_, _, rfl, r1, r3⟩
theorem ZOJ : ZDb X (.builtin "abs") (fun xs H Q => ∃ i, xs = [.int i] ∧ Q (.int (if i < 0 then -i else i)) H) := by
 intro pins s σ H xs us Q I r h
 obtain ⟨i, rfl, q⟩ := h
 obtain ⟨u, rfl, t, rfl⟩ := ZJW r
 exact call_abs_int fun u tk => ⟨.int (if i < 0 then -i else i), H, I.tok _, ⟨_, rfl⟩, q⟩
theorem ZMt (hc : X.calm = true) : ZDb X (.builtin "max") (fun xs H Q => ∃ i j, xs = [.int i, .int j] ∧ Q (.int (if j > i then j else i)) H) := by
 intro pins s σ H xs us Q I r h
 obtain ⟨i, j, rfl, q⟩ := h
 obtain ⟨u, w', rfl, ⟨t, rfl⟩, ⟨t', rfl⟩⟩ := ZPg r
 refine max_two_ints (I.ok.hd hc) fun h' tk k => ⟨_, H, I.kept k, ?_, q⟩
 by_cases hj : j > i
 ·rw [if_pos hj, if_pos hj]; exact ⟨_, rfl⟩
 ·rw [if_neg hj, if_neg hj]; exact ⟨_, rfl⟩
theorem ZMu (hc : X.calm = true) : ZDb X (.builtin "min") (fun xs H Q => ∃ i j, xs = [.int i, .int j] ∧ Q (.int (if j < i then j else i)) H) := by
 intro pins s σ H xs us Q I r h
 obtain ⟨i, j, rfl, q⟩ := h
 obtain ⟨u, w', rfl, ⟨t, rfl⟩, ⟨t', rfl⟩⟩ := ZPg r
 refine min_two_ints (I.ok.hd hc) fun h' tk k => ⟨_, H, I.kept k, ?_, q⟩
 by_cases hj : j < i
 ·rw [if_pos hj, if_pos hj]; exact ⟨_, rfl⟩
 ·rw [if_neg hj, if_neg hj]; exact ⟨_, rfl⟩
end
structure ZHk (h : Heap) (x dx C : Addr) (mA : Str → Option Value) : Prop where
 obj : h.get? x = some (PySem.W.instObj C dx)
 ns : h.Ns1 dx mA
 ne : dx ≠ x
theorem ZMv {h : Heap} {dx : Addr} {mA : Str → Option Value} (n : h.Ns1 dx mA) : ∃ od, h.get? dx = some od ∧ ∀ name, PySem.W.lookIn name od = some (mA name) := by
 obtain ⟨o, es, ep, ho, hd, hk, _, hm⟩ := n
 refine ⟨o, ho, fun name => ?_⟩
 have e := hm name
 unfold nsFind findBy at e
 rw [← Array.find?_toList] at e
 unfold PySem.W.lookIn
 rw [hd]
 dsimp only
 split
 ·rename_i y q
  rw [q] at e
  exact congrArg some e
 ·rename_i q
  rw [q] at e
  have a : es.toList.any (·.refKey) = false := by
   rw [List.any_eq_false]
   intro y hy
   obtain ⟨z, t, hkey⟩ := hk y (Array.mem_toList_iff.mp hy)
   simp [DictEntry.refKey, hkey]
  have a' : ¬ es.toList.any (·.refKey) = true := by rw [a]; exact Bool.false_ne_true
  rw [if_neg a']
  exact congrArg some e
theorem ZHk.look {h : Heap} {x dx C : Addr} {mA : Str → Option Value} (I : ZHk h x dx C mA) : ∃ od, PySem.W.InstAt h x (PySem.W.instObj C dx) C (some od) ∧ ∀ name, PySem.W.lookIn name od = some (mA name) :=
 let ⟨od, ho, hl⟩ := ZMv I.ns
 ⟨od, ⟨I.obj, rfl, rfl, ho⟩, hl⟩
section
variable {prog : Program} {w : World} {A : Around} {E : Value → Shared → Prop} {s : Shared} {K : W.Frag} {x dx C f : Addr} {mA : Str → Option Value} {name : Str} {v : Value}
theorem ZQC {expr : Bool} {Q : Value → Shared → Prop} (X : K.In s.heap) (I : ZHk s.heap x dx C mA) (hg : PySem.W.plainGet K C name = true) (hh : PySem.W.hasDictIn K C = true)
  (ha : W.findIn K (.ref C) name = some none) (hv : mA name = some v) (hv' : PySem.W.handedIn v = true) (h : Q v { s with toks := s.toks + 1 }) :
  wpAny (model prog w) A (getAttr (.ref x) name expr) Q E s := by
 obtain ⟨od, J, hl⟩ := I.look
 exact PySem.W.get_value X J (PySem.W.plainGet_of hg).1 (PySem.W.findObj_own hh ha rfl (by rw [hl, hv])) hv' h
theorem ZOK {pl : Sem Bool} {Q : Value × List Value → Shared → Prop} (X : K.In s.heap) (I : ZHk s.heap x dx C mA) (hg : PySem.W.plainGet K C name = true)
  (hf : W.findIn K (.ref C) name = some (some (.ref f))) (ht : PySem.W.isFn K (.ref f) = true) (hv : mA name = none) (h : Q (.ref f, [.ref x]) s) :
  wpAny (model prog w) A (getMethod (.ref x) name pl) Q E s := by
 obtain ⟨od, J, hl⟩ := I.look
 exact PySem.W.method_fn X J (PySem.W.plainGet_of hg).1 (PySem.W.plainGet_of hg).2 hf (beq_iff_eq.mp ht) (by show (PySem.W.lookIn name od).map (·.isSome) = some false; rw [hl, hv]; rfl) h
theorem ZQD {ns : List Str} {Q : Unit → Shared → Prop} (X : K.In s.heap) (I : ZHk s.heap x dx C mA)
  (hs : W.findIn K (.ref C) "__setattr__" = some (some (.builtin "object.__setattr__"))) (hp : PySem.W.plainOver K C = true) (ht : PySem.W.takerIn K C name = some none) (hh : PySem.W.hasDictIn K C = true)
  (hw : PySem.Within mA ns) (hsz : ns.length ≤ sizeLine)
  (h : ∀ h', ZHk h' x dx C (fun y => if y = name then some v else mA y) → Heap.SameBut dx s.heap h' → Q () { s with heap := h', toks := s.toks + 2 }) :
  wpAny (model prog w) A (setAttr (.ref x) name v) Q E s := by
 obtain ⟨od, J, hl⟩ := I.look
 refine PySem.W.set_plain X J hs (PySem.W.osa_open (s := { s with toks := s.toks + 1 }) (r := none) X J hp ht fun b => ?_)
 obtain ⟨cd, hc, hd'⟩ := PySem.W.any_some hh
 have hx : s.heap.get? x = some ⟨.ref C, some dx, .plain, #[]⟩ := I.obj
 refine wpAny_bind (wpAny_pure (wpAny_bind (wpAny_bind (wpAny_loadPart hx (wpAny_bind (PySem.W.Looks.here (s := { s with toks := s.toks + 1 }) (PySem.W.looks_clsIn X hc) ?_))))))
 rw [hd']
 refine wpAny_pure (a := some dx) (wpAny_bind (wpAny_pure (wpAny_bind ?_)))
 refine wpAny_nsSet1 (s := { s with toks := s.toks + 1 }) I.ns fun h' hn2 hs2 => ?_
 obtain ⟨oD, esD, epD, hoD, hdD, hcD⟩ := hn2.count (PySem.Within.cons name v hw)
 refine wpAny_bind (wpAny_lookBehind hoD (by rw [hdD]; exact pastItsLine_dict (Nat.le_trans hcD (by rw [List.length_cons]; omega))) ?_)
 exact wpAny_pure (h _ ⟨(hs2.2 _ (Ne.symm I.ne)).trans I.obj, hn2, I.ne⟩ hs2)
theorem ZOL {R : Result → Shared → Prop} {vs : List Value} {kw : List (Str × Value)} (X : K.In s.heap) (hm : PySem.W.makesIn K C = true)
  (hi : W.findIn K (.ref C) "__init__" = some (some (.ref f))) (hf : PySem.W.typeIn K (.ref f) = some (.type "function"))
  (h : codeAny (model prog w) (A.under (.builtin "type.__call__" ⟨.ref C :: vs, kw⟩)) (.call (.ref f) ⟨.ref (s.heap.objs.size + 1) :: vs, kw⟩) (PySem.W.InitBack (s.heap.objs.size + 1) R)
   { s with heap := (s.heap.push PySem.W.emptyDict).push (PySem.W.instObj C s.heap.objs.size) }) :
  codeAny (model prog w) A (.call (.ref C) ⟨vs, kw⟩) R s := by
 obtain ⟨hh, g, d, t, os⟩ := s
 exact PySem.W.make_core (PySem.W.makes_of X hm) (PySem.W.looks_findIn X hi) (fun self => PySem.W.bind_fn X self hf) (.inl rfl) h
end
def ZDc (f : Str) (v : V) : List (Str × V) → List (Str × V)
 | [] => [(f, v)]
 | (g, x) :: r => if g = f then (g, v) :: r else (g, x) :: ZDc f v r
theorem ZHX (f g : Str) (v : V) : ∀ fs : List (Str × V), (ZDc f v fs).lookup g = if g = f then some v else fs.lookup g
 | [] => by
  show List.lookup g [(f, v)] = _
  by_cases h : g = f
  ·have hb : (g == f) = true := beq_iff_eq.mpr h
   simp only [List.lookup, hb, if_pos h]
  ·have hb : (g == f) = false := beq_eq_false_iff_ne.mpr h
   simp only [List.lookup, hb, if_neg h]
 | (k, x) :: r => by
  have ih := ZHX f g v r
  rw [show ZDc f v ((k, x) :: r) = (if k = f then (k, v) :: r else (k, x) :: ZDc f v r) from rfl]
  by_cases hk : k = f
  ·rw [if_pos hk]
   by_cases h : g = k
   ·have hb : (g == k) = true := beq_iff_eq.mpr h
    simp only [List.lookup, hb, if_pos (h.trans hk)]
   ·have hb : (g == k) = false := beq_eq_false_iff_ne.mpr h
    simp only [List.lookup, hb, if_neg (fun e : g = f => h (e.trans hk.symm))]
  ·rw [if_neg hk]
   by_cases h : g = k
   ·have hb : (g == k) = true := beq_iff_eq.mpr h
    simp only [List.lookup, hb, if_neg (fun e : g = f => hk (h.symm.trans e))]
   ·have hb : (g == k) = false := beq_eq_false_iff_ne.mpr h
    simp only [List.lookup, hb]
    exact ih
theorem ZGo (f : Str) (v : V) : ∀ fs : List (Str × V), f ∈ (ZDc f v fs).map (·.1) ∧ ∀ g, g ∈ fs.map (·.1) → g ∈ (ZDc f v fs).map (·.1)
 | [] => ⟨by simp [ZDc], fun g h => by simp at h⟩
 | (k, x) :: r => by
  obtain ⟨i1, i2⟩ := ZGo f v r
  rw [show ZDc f v ((k, x) :: r) = (if k = f then (k, v) :: r else (k, x) :: ZDc f v r) from rfl]
  by_cases hk : k = f
  ·rw [if_pos hk]
   subst hk
   exact ⟨by simp, fun g h => by simpa using h⟩
  ·rw [if_neg hk]
   refine ⟨?_, fun g h => ?_⟩
   ·rw [List.map_cons]
    exact List.mem_cons_of_mem _ i1
   ·rw [List.map_cons] at h ⊢
    rcases List.mem_cons.mp h with e | e
    ·exact List.mem_cons.mpr (.inl e)
    ·exact List.mem_cons_of_mem _ (i2 g e)
theorem ZHY (f : Str) (v : V) : ∀ fs : List (Str × V), (ZDc f v fs).length ≤ fs.length + 1
 | [] => by simp [ZDc]
 | (k, x) :: r => by
  have ih := ZHY f v r
  rw [show ZDc f v ((k, x) :: r) = (if k = f then (k, v) :: r else (k, x) :: ZDc f v r) from rfl]
  by_cases hk : k = f
  ·rw [if_pos hk, List.length_cons, List.length_cons]; omega
  ·rw [if_neg hk, List.length_cons, List.length_cons]; omega
theorem ZEQ.some_of {v : V} {o : Option Value} (r : ZEQ (some v) o) : ∃ u, o = some u ∧ ZDH v u := by
 cases o with
 | none => exact (show False from r).elim
 | some u => exact ⟨u, rfl, r⟩
theorem ZEQ.none_of {o : Option Value} (r : ZEQ none o) : o = none := by
 cases o with
 | none => rfl
 | some u => exact (show False from r).elim
theorem ZMw {v : V} {u : Value} (r : ZDH v u) : PySem.W.handedIn u = true := by
 cases v with
 | non => cases (show u = Value.none from r); rfl
 | bl b => cases (show u = Value.bool b from r); rfl
 | int i => obtain ⟨t, e⟩ := (show ∃ t, u = Value.int i t from r); cases e; rfl
 | str x => obtain ⟨t, e⟩ := (show ∃ t, u = Value.str x t from r); cases e; rfl
 | byt b => obtain ⟨t, e⟩ := (show ∃ t, u = Value.bytes b t from r); cases e; rfl
 | flt b => obtain ⟨t, e⟩ := (show ∃ t, u = Value.float b t from r); cases e; rfl
 | ref a => cases (show u = Value.ref a from r); rfl
 | ty n => cases (show u = Value.type n from r); rfl
section
variable {P : Program} {w : World} {H H' : Hp} {h h' : Heap} {a C dx : Addr} {fs fs' : List (Str × V)}
theorem ZHK (hok : HOk P w H h) (e : H a = some (.ins C dx fs)) : ∃ mA, ZHk h a dx C mA ∧ (∀ f, ZEQ (fs.lookup f) (mA f)) ∧ PySem.Within mA (fs.map (·.1)) ∧ fs.length ≤ 1000 ∧ H dx = some (.own a) := by
 obtain ⟨d, z, ne, ob, mA, n, r, q⟩ := (show ZDS P w H h a (.ins C dx fs) from hok a _ e)
 exact ⟨mA, ⟨ob, n, ne⟩, r, q, z, d⟩
end
structure Cls (K : W.Frag) (C : Addr) : Prop where
 pg : PySem.W.plainGet K C Str.empty = true
 hd : PySem.W.hasDictIn K C = true
 po : PySem.W.plainOver K C = true
 sa : W.findIn K (.ref C) "__setattr__" = some (some (.builtin "object.__setattr__"))
theorem Cls.get {K : W.Frag} {C : Addr} (c : Cls K C) (f : Str) : PySem.W.plainGet K C f = true := c.pg
def ZDy (K : W.Frag) (C : Addr) (f : Str) : Prop := W.findIn K (.ref C) f = some none
theorem ZDy.taker {K : W.Frag} {C : Addr} {f : Str} (n : ZDy K C f) : PySem.W.takerIn K C f = some none := by
 unfold PySem.W.takerIn
 rw [show W.findIn K (.ref C) f = some none from n]
 rfl
structure ZDu (K : W.Frag) (C : Addr) (m : Str) (f : Addr) : Prop where
 at_ : W.findIn K (.ref C) m = some (some (.ref f))
 fn : PySem.W.isFn K (.ref f) = true
 kp : W.keepIn K (.ref f) = true
section
variable {X : Cx} {pins : List (Addr × Obj)} {σ : St} {H : Hp} {s : Shared} {a C dx : Addr} {fs : List (Str × V)} {f : Str} {v : V} {A : Around} {E : Value → Shared → Prop}
theorem ZLz {b : Bool} {Q : Value → Shared → Prop} (I : Inv X pins σ H s) (e : H a = some (.ins C dx fs)) (c : Cls X.K C) (n : ZDy X.K C f) (l : fs.lookup f = some v)
  (h : ∀ u s', Inv X pins σ H s' → ZDH v u → Q u s') : wpAny (model X.prog X.w) A (getAttr (.ref a) f b) Q E s := by
 obtain ⟨mA, O, r, _, _, _⟩ := ZHK I.hok e
 obtain ⟨u, hu, ru⟩ := ZEQ.some_of (v := v) (o := mA f) (by rw [← l]; exact r f)
 exact ZQC I.kIn O (c.get f) c.hd n hu (ZMw ru) (h u _ (I.tok _) ru)
theorem ZGJ {m : Str} {g : Addr} {pl : Sem Bool} {Q : Value × List Value → Shared → Prop} (I : Inv X pins σ H s) (e : H a = some (.ins C dx fs)) (c : Cls X.K C) (k : ZDu X.K C m g) (l : fs.lookup m = none)
  (h : Q (.ref g, [.ref a]) s) : wpAny (model X.prog X.w) A (getMethod (.ref a) m pl) Q E s := by
 obtain ⟨mA, O, r, _, _, _⟩ := ZHK I.hok e
 have hn : mA m = none := ZEQ.none_of (by rw [← l]; exact r m)
 exact ZOK I.kIn O (c.get m) k.at_ k.fn hn h
theorem ZL0 {y : V} {u : Value} {Q : Unit → Shared → Prop} (I : Inv X pins σ H s) (e : H a = some (.ins C dx fs)) (c : Cls X.K C) (n : ZDy X.K C f) (hl : fs.length < 1000) (ry : ZDH y u)
  (h : ∀ s', Inv X pins σ (upd H a (.ins C dx (ZDc f y fs))) s' → Q () s') : wpAny (model X.prog X.w) A (setAttr (.ref a) f u) Q E s := by
 obtain ⟨mA, O, r, wi, _, ho⟩ := ZHK I.hok e
 have hz : (fs.map (·.1)).length ≤ sizeLine := by rw [List.length_map, sizeLine_eq]; omega
 refine ZQD I.kIn O c.sa c.po n.taker c.hd wi hz fun h' O' sb => h _ ?_
 have hd : ∃ o, h'.get? dx = some o := let ⟨o, _, _, e', _⟩ := O'.ns; ⟨o, e'⟩
 refine I.write (x := a) (e := dx) (by rw [e]; exact True.intro) (.inr ho) (fun b q hb z => (sb.2 b hb).trans z) hd ?_
 refine ⟨by rw [ZDF O.ne]; exact ho, ?_, O.ne, O'.obj, _, O'.ns, fun g => ?_, fun g hg => ?_⟩
 ·have := ZHY f y fs; omega
 ·show ZEQ ((ZDc f y fs).lookup g) (if g = f then some u else mA g)
  rw [ZHX]
  by_cases q : g = f
  ·rw [if_pos q, if_pos q]; exact ry
  ·rw [if_neg q, if_neg q]; exact r g
 ·by_cases q : g = f
  ·rw [q]; exact (ZGo f y fs).1
  ·refine (ZGo f y fs).2 g (wi g fun z => hg ?_)
   show (if g = f then some u else mA g) = none
   rw [if_neg q]; exact z
theorem Inv.made (I : Inv X pins σ H s) : Inv X pins σ (upd (upd H s.heap.objs.size (.own (s.heap.objs.size + 1))) (s.heap.objs.size + 1) (.ins C s.heap.objs.size []))
  { s with heap := (s.heap.push PySem.W.emptyDict).push (PySem.W.instObj C s.heap.objs.size) } := by
 have e1 : (s.heap.push PySem.W.emptyDict).get? s.heap.objs.size = some PySem.W.emptyDict := Heap.get?_push_size s.heap rfl
 have e2 : ((s.heap.push PySem.W.emptyDict).push (PySem.W.instObj C s.heap.objs.size)).get? (s.heap.objs.size + 1) = some (PySem.W.instObj C s.heap.objs.size) := by
  have := Heap.get?_push_size (s.heap.push PySem.W.emptyDict) (o := PySem.W.instObj C s.heap.objs.size) rfl
  rwa [Heap.size_push] at this
 have e3 : (s.heap.push PySem.W.emptyDict).Ns s.heap.objs.size (fun _ => none) := ⟨PySem.W.emptyDict, #[], _, e1, rfl, (fun e he => absurd he (by simp)), fun _ => rfl⟩
 have I1 := I.laid (a := s.heap.objs.size) (o := .own (s.heap.objs.size + 1)) (h' := s.heap.push PySem.W.emptyDict) (t' := s.toks) (fun b u q => Heap.get?_push_of_some _ q) (Nat.le_refl _) ⟨_, e1⟩
 refine I1.laid (a := s.heap.objs.size + 1) (o := .ins C s.heap.objs.size []) (t' := s.toks) (fun b u q => Heap.get?_push_of_some _ q) (Nat.le_of_eq (Heap.size_push _ _)) ?_
 have ne : s.heap.objs.size ≠ s.heap.objs.size + 1 := Nat.ne_of_lt (Nat.lt_succ_self _)
 refine ⟨by rw [ZDF ne, ZDN], Nat.zero_le _, ne, e2, fun _ => none, (Heap.Ns1.of_empty e3).at fun o q => Heap.get?_push_of_some _ q, fun _ => True.intro, fun y hy => absurd rfl hy⟩
theorem ZQE {prog : Program} {w : World} {env : Env} {e : Expr} {f : Str} {pos : Pos} {s : Shared} {Q : Value → Shared → Prop} (hb : attributeBase e f env (eval e env) = eval e env)
  (h : wpAny (model prog w) A (eval e env) (fun o s₁ => wpAny (model prog w) A (getAttr o f true) Q E s₁) E s) : wpAny (model prog w) A (eval (.Attribute e f pos) env) Q E s :=
 Attribute_any_ h (by rw [arm_eval_Attribute, hb])
end
def ZOM (K : W.Frag) (ta : TE) (f : Str) : TE := fun σ H Q => ta σ H fun x H1 => ∃ a C dx fs v, x = .ref a ∧ H1 a = some (.ins C dx fs) ∧ Cls K C ∧ ZDy K C f ∧ fs.lookup f = some v ∧ Q v H1
def ZON (K : W.Frag) (ta tv : TE) (f : Str) : TS := fun D σ H => tv σ H fun y H1 => ta σ H1 fun x H2 => ∃ a C dx fs, x = .ref a ∧ H2 a = some (.ins C dx fs) ∧ Cls K C ∧ ZDy K C f ∧ fs.length < 1000 ∧
 D.nx σ (upd H2 a (.ins C dx (ZDc f y fs)))
section
variable {X : Cx} {o e value : Expr} {f : Str} {pos pos' tpos : Pos} {ta tv : TE}
theorem ZR1 (he : PE X e ta) (hb : attributeBase e f X.env (eval e X.env) = eval e X.env) : PE X (.Attribute e f pos) (ZOM X.K ta f) := by
 intro pins s σ H Q I h
 refine ZQE hb (thn (he pins s σ H _ I h) fun u s1 ⟨x, H1, I1, rx, a, C, dx, fs, v, ex, ea, c, n, l, q⟩ => ?_)
 subst ex
 obtain rfl : u = Value.ref a := rx
 exact ZLz I1 ea c n l fun u' s2 I2 ru => ⟨v, H1, I2, ru, q⟩
theorem ZR2 (ha : PE X o ta) (hv : PE X value tv) (hs : swapsWith value (some (.Attribute o f pos')) pos.line X.env = pure false) : PS X (.Assign [.Attribute o f pos'] value pos) (ZON X.K ta tv f) := by
 intro pins s σ H D I h
 refine plainObj_wpAny_Assign_Attribute (thn (hv pins s σ H _ I h) fun u s1 ⟨y, H1, I1, ry, q⟩ => thn (ha pins s1 σ H1 _ I1 q) fun ov s2 ⟨x, H2, I2, rx, a, C, dx, fs, ex, ea, c, n, l, q2⟩ => ?_) hs
 subst ex
 obtain rfl : ov = Value.ref a := rx
 exact ZL0 I2 ea c n l ry fun s3 I3 => ⟨σ, _, I3, q2⟩
end
section
variable {X : Cx} {pins : List (Addr × Obj)} {σ : St} {H : Hp} {s : Shared} {A : Around} {E : Value → Shared → Prop} {Q : Value → Shared → Prop} {c : Value} {b : Bool}
inductive ZEx (K : W.Frag) (H : Hp) : V → Value → Prop where
 | non : ZEx K H .non (.type "NoneType")
 | bl (x : Bool) : ZEx K H (.bl x) (.type "bool")
 | int (i : Int) : ZEx K H (.int i) (.type "int")
 | str (x : Str) : ZEx K H (.str x) (.type "str")
 | flt (x : UInt64) : ZEx K H (.flt x) (.type "float")
 | lst {a : Addr} {xs : List V} (e : H a = some (.lst xs)) : ZEx K H (.ref a) (.type "list")
 | frz {a : Addr} {o : Obj} {xs : List V} (e : H a = some (.frz o (.lst xs))) : ZEx K H (.ref a) (.type "list")
 | tup {a : Addr} {xs : List V} (e : H a = some (.tup xs)) : ZEx K H (.ref a) (.type "tuple")
 | dK {a : Addr} {kvs : List (Key × V)} (e : H a = some (.dK kvs)) : ZEx K H (.ref a) (.type "dict")
 | dT {a : Addr} {kvs : List (List Key × V)} (e : H a = some (.dT kvs)) : ZEx K H (.ref a) (.type "dict")
 | ins {a C dx : Addr} {fs : List (Str × V)} (e : H a = some (.ins C dx fs)) (cl : Cls K C) (ha : W.findIn K (.ref C) "__class__" = some (some (.builtin "object.__class__")))
  (hn : PySem.W.specialIn K (.builtin "object.__class__") "__get__" = some (some (.builtin "getset_descriptor.__get__"))) (htk : PySem.W.takesIn K (.builtin "object.__class__") = some true)
  (hm : PySem.W.mroIn K C (.type "object") = some true) : ZEx K H (.ref a) (.ref C)
theorem ZMx {x : V} {u t : Value} (I : Inv X pins σ H s) (rx : ZDH x u) (ty : ZEx X.K H x t) (e : W.kitOne X.K t c = some b) (h : ∀ tk, Q (.bool b) { s with toks := tk }) :
  wpAny (model X.prog X.w) A (call (.builtin "isinstance") [u, c]) Q E s := by
 cases ty with
 | non => cases (show u = Value.none from rx); exact PySem.W.kia_one PySem.W.kitx_none I.kIn True.intro e (fun z => nomatch z) h
 | bl y => cases (show u = Value.bool y from rx); exact PySem.W.kia_one PySem.W.kitx_bool I.kIn True.intro e (fun z => nomatch z) h
 | int i => obtain ⟨t, q⟩ := (show ∃ t, u = Value.int i t from rx); cases q; exact PySem.W.kia_one PySem.W.kitx_int I.kIn True.intro e (fun z => nomatch z) h
 | str y => obtain ⟨t, q⟩ := (show ∃ t, u = Value.str y t from rx); cases q; exact PySem.W.kia_one PySem.W.kitx_str I.kIn True.intro e (fun z => nomatch z) h
 | flt y => obtain ⟨t, q⟩ := (show ∃ t, u = Value.float y t from rx); cases q; exact PySem.W.kia_one PySem.W.kitx_float I.kIn True.intro e (fun z => nomatch z) h
 | @lst a xs ea =>
  cases (show u = Value.ref a from rx)
  obtain ⟨_, _, n, _, h1⟩ := (show ZDS X.prog X.w H s.heap a (.lst xs) from I.hok a _ ea)
  exact PySem.W.kia_one PySem.W.kitx_list I.kIn ⟨_, h1, rfl⟩ e (fun z => nomatch z) h
 | @frz a ob xs ea =>
  cases (show u = Value.ref a from rx)
  obtain ⟨_, _, _, n, _, h1⟩ := (show ZDS X.prog X.w H s.heap a (.frz ob (.lst xs)) from I.hok a _ ea)
  exact PySem.W.kia_one PySem.W.kitx_list I.kIn ⟨_, h1, rfl⟩ e (fun z => nomatch z) h
 | @tup a xs ea =>
  cases (show u = Value.ref a from rx)
  obtain ⟨_, _, _, p⟩ := (show ZDS X.prog X.w H s.heap a (.tup xs) from I.hok a _ ea)
  obtain ⟨o, h1, h2, _⟩ := p
  exact PySem.W.kia_one PySem.W.kitx_tuple I.kIn ⟨o, h1, h2⟩ e (fun z => nomatch z) h
 | @dK a kvs ea =>
  cases (show u = Value.ref a from rx)
  obtain ⟨_, _, vs, _, p⟩ := (show ZDS X.prog X.w H s.heap a (.dK kvs) from I.hok a _ ea)
  obtain ⟨o, es, ep, h1, h2, _⟩ := p
  exact PySem.W.kia_one PySem.W.kitx_dict I.kIn ⟨o, h1, h2.1⟩ e (fun z => nomatch z) h
 | @dT a kvs ea =>
  cases (show u = Value.ref a from rx)
  obtain ⟨_, _, xs, _, o, es, ep, h1, h2, _⟩ := (show ZDS X.prog X.w H s.heap a (.dT kvs) from I.hok a _ ea)
  exact PySem.W.kia_one PySem.W.kitx_dict I.kIn ⟨o, h1, h2.1⟩ e (fun z => nomatch z) h
 | @ins a C dx fs ea cl ha hn htk hm =>
  cases (show u = Value.ref a from rx)
  obtain ⟨mA, O, _⟩ := ZHK I.hok ea
  obtain ⟨od, J, _⟩ := O.look
  exact PySem.W.kia_one (PySem.W.kitx_own (cl.get _) cl.hd ha hn htk hm) I.kIn J e (fun z => nomatch z) h
end
structure Room (k : Nat) (A : Around) : Prop where
 hd : A.handled = none
 dp : A.depth + 3 * k + 5 < recursionLimit
 un : A.units + 16 * k + 200 < cLine
 gd : A.guards = some []
theorem Room.mono {j k : Nat} {A : Around} (r : Room k A) (h : j ≤ k) : Room j A := ⟨r.hd, by have := r.dp; omega, by have := r.un; omega, r.gd⟩
theorem Room.deeper {k : Nat} {A : Around} (r : Room (k + 1) A) (env : Env) : Room k (A.deeper env) :=
 ⟨r.hd, by have := r.dp; show A.depth + 1 + 3 * k + 5 < _; omega, by have := r.un; show A.units + 3 + 16 * k + 200 < _; omega, r.gd⟩
theorem Room.in1 {k : Nat} {A : Around} (r : Room (k + 1) A) : Room k A.in1 :=
 ⟨r.hd, by have := r.dp; show A.depth + 3 * k + 5 < _; omega, by have := r.un; show A.units + 1 + 16 * k + 200 < _; omega, r.gd⟩
theorem ZL1 {A : Around} {C : Addr} {us : List Value} {kw : List (Str × Value)} : (A.under (.builtin "type.__call__" ⟨.ref C :: us, kw⟩)).depth = A.depth + 1 := by
 first | rfl | simp [Around.under, Code.weight, Code.isCreation, Code.isGuard, Code.isCaller, Code.frames, Code.isFrame, guardIds]
theorem ZL2 {A : Around} {C : Addr} {us : List Value} {kw : List (Str × Value)} : (A.under (.builtin "type.__call__" ⟨.ref C :: us, kw⟩)).units = A.units + 1 := by
 first | rfl | simp [Around.under, Code.cUnits, Code.frames, Code.isFrame]
theorem ZK5 {A : Around} {C : Addr} {us : List Value} {kw : List (Str × Value)} : (A.under (.builtin "type.__call__" ⟨.ref C :: us, kw⟩)).guards = A.guards := by
 have e : pushGuards [] A.guards = A.guards := by cases A.guards <;> rfl
 first | exact e | rfl | simp [Around.under, Code.guards, Code.isGuard, guardIds, pushGuards]
theorem Room.make {k : Nat} {A : Around} (r : Room (k + 1) A) (C : Addr) (us : List Value) (kw : List (Str × Value)) : Room k (A.under (.builtin "type.__call__" ⟨.ref C :: us, kw⟩)) :=
 ⟨r.hd, by have := r.dp; rw [ZL1]; omega, by have := r.un; rw [ZL2]; omega, (ZK5).trans r.gd⟩
theorem Room.depth {k : Nat} {A : Around} (r : Room k A) : A.depth < recursionLimit := by have := r.dp; omega
theorem Room.units {k : Nat} {A : Around} (r : Room k A) : A.units + 64 < cLine := by have := r.un; omega
def ZHl : TA := fun _ H Q => Q [] H
def ZJX (ta : TE) (tr : TA) : TA := fun σ H Q => ta σ H fun x H1 => tr σ H1 fun xs H2 => Q (x :: xs) H2
section
variable {X : Cx} {e : Expr} {es : List Expr} {te : TE} {t : TA} {pos : Pos}
theorem ZR3 : PA X [] ZHl := fun _ _ _ _ H Q I h => Calls.spliced_nil ⟨[], H, I, .nil, h⟩
theorem ZQF (ha : PE X e te) (hr : PA X es t) (hs : starEach (e :: es) X.env = (false, eval e X.env) :: starEach es X.env := by rfl) : PA X (e :: es) (ZJX te t) := by
 intro pos pins s σ H Q I h
 rw [hs]
 show wpAny _ _ (spliced ((false, eval e X.env) :: backTo pos (starEach es X.env))) _ _ s
 refine Calls.spliced_cons (thn (ha pins s σ H _ I h) fun u s1 ⟨x, H1, I1, r1, q1⟩ => ?_)
 exact thn (hr pos pins s1 σ H1 _ I1 q1) fun us s2 ⟨xs, H2, I2, r2, q2⟩ => ⟨x :: xs, H2, I2, .cons r1 r2, q2⟩
def ZOO (t : TA) : TE := fun σ H Q => t σ H fun xs H1 => xs.length ≤ sizeLine ∧ ∀ p, H1 p = none → Q (.ref p) (upd H1 p (.tup xs))
def ZOP (t : TA) : TE := fun σ H Q => t σ H fun xs H1 => xs.length ≤ sizeLine ∧ ∀ p, H1 p = none → Q (.ref p) (upd H1 p (.lst xs))
theorem ZR4 {x1} (h : PA X es t) : PE X (.Tuple es x1 pos) (ZOO t) := by
 intro pins s σ H Q I hq
 refine wpAny_Tuple_spliced (thn (h pos pins s σ H _ I hq) fun us s1 ⟨xs, H1, I1, r, z, q⟩ => ⟨by rw [← r.length]; exact z, ?_⟩)
 have hf : H1 s1.heap.objs.size = none := I1.hok.fresh (Nat.le_refl _)
 refine ⟨.ref s1.heap.objs.size, upd H1 s1.heap.objs.size (.tup xs), I1.laid (t' := s1.toks) (fun b u e => Heap.get?_push_of_some _ e) (Nat.le_refl _) ?_, rfl, q _ hf⟩
 exact ⟨⟨z, fun _ => ⟨_, Heap.get?_push_size _ rfl, rfl, rfl⟩⟩, us, r, ⟨_, Heap.get?_push_size _ rfl, rfl, _, rfl⟩⟩
theorem ZR5 (h : PA X es t) : PE X (.List es pos) (ZOP t) := by
 intro pins s σ H Q I hq
 refine wpAny_List_spliced (thn (h pos pins s σ H _ I hq) fun us s1 ⟨xs, H1, I1, r, z, q⟩ => ⟨by rw [← r.length]; exact z, ?_⟩)
 have hf : H1 s1.heap.objs.size = none := I1.hok.fresh (Nat.le_refl _)
 refine ⟨.ref s1.heap.objs.size, upd H1 s1.heap.objs.size (.lst xs), I1.laid (t' := s1.toks) (fun b u e => Heap.get?_push_of_some _ e) (Nat.le_refl _) ?_, rfl, q _ hf⟩
 exact ⟨z, us, 0, r, Heap.get?_push_size _ rfl⟩
end
abbrev Sp := List V → Hp → VK → XK → Prop
abbrev CXT := List Env → Hp → Shared → XK → Value → Shared → Prop
structure ZFJ (P : Program) (w : World) (K : W.Frag) (mg : Str → Option Value) (base : Heap) (A : Around) (outer : List Env) (s : Shared) (H : Hp) : Prop where
 frames : A.frames = some outer
 mod : Mod K mg base
 bs : ∀ b o, base.get? b = some o → s.heap.get? b = some o ∧ H b = none
 bsz : base.objs.size ≤ s.heap.objs.size
 funs : s.heap.FunFrames base outer
 frf : ∀ b ∈ frs outer, H b = none
 hok : HOk P w H s.heap
 bare : AllBare s.gens
def CE (outer : List Env) (P : Program) (w : World) (H : Hp) (s : Shared) (Q : VK) (u : Value) (s' : Shared) : Prop :=
 ∃ v H', s'.os = s.os ∧ AllBare s'.gens ∧ Un (frs outer) [] H H' s.heap s'.heap ∧ HOk P w H' s'.heap ∧ ZDH v u ∧ Q v H'
def CR (CX : CXT) (outer : List Env) (P : Program) (w : World) (H : Hp) (s : Shared) (Q : VK) (E : XK) (r : Result) (s' : Shared) : Prop :=
 match r with
 | .ok (.ret u) => CE outer P w H s Q u s'
 | .ok _ => False
 | .error e => CX outer H s E e s'
structure ZDI (P : Program) (w : World) (K : W.Frag) (mg : Str → Option Value) (base : Heap) (CX : CXT) (k : Nat) (f : Addr) (fd : FuncData) (ps : List Str) (sp : Sp) : Prop where
 len : ∀ vs H Q E, sp vs H Q E → vs.length = ps.length
 run : ∀ (A : Around) (outer : List Env) (s : Shared) (H : Hp) (args : Args) (us : List Value) (vs : List V) (Q : VK) (E : XK), Room k A → ZFJ P w K mg base A outer s H → BindsTo s fd args (ps.zip us) → ZDG vs us → sp vs H Q E →
  codeAny (model P w) A (.call (.ref f) args) (CR CX outer P w H s Q E) s
theorem ZFJ.make {P : Program} {w : World} {K : W.Frag} {mg : Str → Option Value} {base : Heap} {A : Around} {outer : List Env} {s : Shared} {H : Hp} (e : ZFJ P w K mg base A outer s H) (C : Addr) (us : List Value) (kw : List (Str × Value)) :
 ZFJ P w K mg base (A.under (.builtin "type.__call__" ⟨.ref C :: us, kw⟩)) outer s H := ⟨by first | exact e.frames | (simpa [Around.under, Code.envs, Code.isFrame, pushEnvs] using e.frames), e.mod, e.bs, e.bsz, e.funs, e.frf, e.hok, e.bare⟩
theorem ZFJ.in1 {P : Program} {w : World} {K : W.Frag} {mg : Str → Option Value} {base : Heap} {A : Around} {outer : List Env} {s : Shared} {H : Hp} (e : ZFJ P w K mg base A outer s H) :
 ZFJ P w K mg base A.in1 outer s H := ⟨e.frames, e.mod, e.bs, e.bsz, e.funs, e.frf, e.hok, e.bare⟩
section
variable {X : Cx} {pins : List (Addr × Obj)} {σ : St} {H : Hp} {s s' : Shared}
theorem Inv.env0 (I : Inv X pins σ H s) : ZFJ X.prog X.w X.K X.mg X.base X.A X.stack s H :=
 ⟨I.ok.frames, I.ok.mod, I.bs, Nat.le_trans I.ok.bsz I.sz, I.stack, I.stkFree, I.hok, I.bare⟩
theorem Inv.after {Q : VK} {u : Value} (I : Inv X pins σ H s) (h : CE X.stack X.prog X.w H s Q u s') : EP X pins σ Q u s' := by
 obtain ⟨v, H', os, bare, un, hok, r, q⟩ := h
 obtain ⟨hh, g, d, t, os'⟩ := s'
 obtain rfl : os' = s.os := os
 exact ⟨v, H', I.call (h' := hh) (g' := g) (d' := d) (t' := t) (ch := []) un hok bare (fun b z => absurd z (by simp)), r, q⟩
end
def ZHL (sp : Sp) (dvs : List V) (E : XK) (t : TA) : TE := fun σ H Q => t σ H fun vs H1 => sp (vs ++ dvs) H1 Q E
def ZIF (C : Addr) (m : Str) (sp : Sp) (dvs : List V) (E : XK) (ta : TE) (t : TA) : TE := fun σ H Q => ta σ H fun x H1 => ∃ a dx fs, x = .ref a ∧ H1 a = some (.ins C dx fs) ∧ fs.lookup m = none ∧
 t σ H1 fun vs H2 => sp (x :: (vs ++ dvs)) H2 Q E
def ZIG (C : Addr) (sp : Sp) (dvs : List V) (E : XK) (t : TA) : TE := fun σ H Q => t σ H fun vs H1 => ∀ x dx, H1 x = none → H1 dx = none → dx ≠ x →
 sp (.ref x :: (vs ++ dvs)) (upd (upd H1 dx (.own x)) x (.ins C dx [])) (fun v H2 => v = .non ∧ Q (.ref x) H2) E
def ZDE (K : W.Frag) (fd : FuncData) (ps : List Str) (ds : List Value) : Prop :=
 ∀ (s : Shared) (us : List Value), K.In s.heap → (us ++ ds).length = ps.length → BindsTo s fd ⟨us, []⟩ (ps.zip (us ++ ds))
theorem ZDE.all {K : W.Frag} {fd : FuncData} {ps : List Str} (h : ∀ us : List Value, us.length = ps.length → bindArgs fd ⟨us, []⟩ = pure (ps.zip us)) : ZDE K fd ps [] := fun s us _ hl => by
 rw [List.append_nil] at hl ⊢
 exact .of_eq (h us hl)
def ZED (CX : CXT) (X : Cx) (E : XK) : Prop := ∀ (pins : List (Addr × Obj)) (σ : St) (H : Hp) (s : Shared) (e : Value) (s' : Shared), Inv X pins σ H s → CX X.stack H s E e s' → X.xe e s'
section
variable {X : Cx} {CX : CXT} {k : Nat} {f C : Addr} {fd : FuncData} {ps : List Str} {sp : Sp} {dvs : List V} {ds : List Value} {E : XK} {x m : Str} {p pos apos : Pos} {e o : Expr} {es : List Expr} {ta : TE} {t : TA}
theorem ZJi {pins : List (Addr × Obj)} {σ : St} {H : Hp} {s : Shared} {Q : VK} {us : List Value} {vs : List V} (F : ZDI X.prog X.w X.K X.mg X.base CX k f fd ps sp) (hr : Room k X.A) (hb : ZDE X.K fd ps ds) (hd : ZDG dvs ds) (hx : ZED CX X E)
  (I : Inv X pins σ H s) (r : ZDG vs us) (h : sp (vs ++ dvs) H Q E) : wpAny (model X.prog X.w) X.A (call (.ref f) us) (EP X pins σ Q) X.xe s := by
 have r2 : ZDG (vs ++ dvs) (us ++ ds) := r.append hd
 have hl : (us ++ ds).length = ps.length := by rw [← r2.length]; exact F.len _ _ _ _ h
 refine wpAny_call (codeAny_mono (F.run X.A X.stack s H ⟨us, []⟩ (us ++ ds) (vs ++ dvs) Q E hr I.env0 (hb s us I.kIn hl) r2 h) fun r s' hq => ?_)
 cases r with
 | error e => exact hx pins σ H s e s' I hq
 | ok fl =>
  cases fl with
  | ret u => exact I.after hq
  | next => exact False.elim hq
  | brk => exact False.elim hq
  | cont => exact False.elim hq
theorem ZQG (F : ZDI X.prog X.w X.K X.mg X.base CX k f fd ps sp) (hr : Room k X.A) (hg : Gl X x) (hm : X.mg x = some (.ref f)) (hk : W.keepIn X.K (.ref f) = true) (hb : ZDE X.K fd ps ds) (hd : ZDG dvs ds) (hx : ZED CX X E)
  (ha : PA X (e :: es) t) (hdb : (x == ("__debug__" : Str)) = false := by decide) (he : starEach (e :: es) X.env = (false, eval e X.env) :: starEach es X.env := by rfl) (hpl : (backTo pos (starEach es X.env)).any (·.1) = false := by rfl) :
  PE X (.Call (.Name x p) (e :: es) [] pos) (ZHL sp dvs E t) := by
 intro pins s σ H Q I h
 refine wpAny_Call_Name_kw (ZEh I hg hm ?_ hdb)
 refine PySem.W.callWith_K (h₀ := X.base) I.ok.mod.kin hk (thn (ha pos pins s σ H _ I h) fun us s1 ⟨vs, H1, I1, r, q⟩ => ⟨I1.kIn, ?_⟩) he hpl
 exact ZJi F hr hb hd hx I1 r q
theorem ZQH {pl : Sem Bool} (he : PE X o ta) (c : Cls X.K C) (hm : ZDu X.K C m f) (F : ZDI X.prog X.w X.K X.mg X.base CX k f fd ps sp) (hr : Room k X.A) (hb : ZDE X.K fd ps ds) (hd : ZDG dvs ds) (hx : ZED CX X E) (ha : PA X (e :: es) t)
  (hst : starEach (e :: es) X.env = (false, eval e X.env) :: starEach es X.env := by rfl) (hpl : (backTo pos (starEach es X.env)).any (·.1) = false := by rfl)
  (ht : eval (.Call (.Attribute o m apos) (e :: es) [] pos) X.env = (do
   let ov ← eval o X.env
   standAt apos.atName
   let (f, first) ← holding [ov] (getMethod ov m pl)
   callWith pos f first (backTo pos (starEach (e :: es) X.env)) (backToKw pos (keywordEach [] X.env))) := by rfl) :
  PE X (.Call (.Attribute o m apos) (e :: es) [] pos) (ZIF C m sp dvs E ta t) := by
 intro pins s σ H Q I h
 refine PySem.W.methodCall_KW (pl := pl) (thn (he pins s σ H _ I h) fun u s1 ⟨x, H1, I1, rx, a, dx, fs, ex, ea, l, q⟩ => ?_) ht
 subst ex
 obtain rfl : u = Value.ref a := rx
 refine ZGJ I1 ea c hm l ?_
 refine PySem.W.callWith_K (first := [.ref a]) (h₀ := X.base) I.ok.mod.kin hm.kp (thn (ha pos pins s1 σ H1 _ I1 q) fun us s2 ⟨vs, H2, I2, r, q2⟩ => ⟨I2.kIn, ?_⟩) hst hpl
 exact ZJi (us := .ref a :: us) (vs := .ref a :: vs) F hr hb hd hx I2 (.cons rfl r) q2
theorem ZOQ {pl : Sem Bool} (he : PE X o ta) (c : Cls X.K C) (hm : ZDu X.K C m f) (F : ZDI X.prog X.w X.K X.mg X.base CX k f fd ps sp) (hr : Room k X.A) (hb : ZDE X.K fd ps ds) (hd : ZDG dvs ds) (hx : ZED CX X E)
  (ht : eval (.Call (.Attribute o m apos) [] [] pos) X.env = (do
   let ov ← eval o X.env
   standAt apos.atName
   let (f, first) ← holding [ov] (getMethod ov m pl)
   callWith pos f first (backTo pos (starEach [] X.env)) (backToKw pos (keywordEach [] X.env))) := by rfl) :
  PE X (.Call (.Attribute o m apos) [] [] pos) (ZIF C m sp dvs E ta ZHl) := by
 intro pins s σ H Q I h
 refine PySem.W.methodCall_KW (pl := pl) (thn (he pins s σ H _ I h) fun u s1 ⟨x, H1, I1, rx, a, dx, fs, ex, ea, l, q⟩ => ?_) ht
 subst ex
 obtain rfl : u = Value.ref a := rx
 refine ZGJ I1 ea c hm l ?_
 exact PySem.W.callWith_K0 (first := [.ref a]) I1.kIn hm.kp (ZJi (us := [.ref a]) (vs := [.ref a]) F hr hb hd hx I1 (.cons rfl .nil) q)
structure Mk (K : W.Frag) (C f : Addr) : Prop where
 makes : PySem.W.makesIn K C = true
 init : W.findIn K (.ref C) "__init__" = some (some (.ref f))
 fn : PySem.W.isFn K (.ref f) = true
 kp : W.keepIn K (.ref C) = true
theorem ZJj {pins : List (Addr × Obj)} {σ : St} {H : Hp} {s : Shared} {Q : VK} {us : List Value} {vs : List V} (M : Mk X.K C f) (F : ZDI X.prog X.w X.K X.mg X.base CX k f fd ps sp) (hr : Room (k + 1) X.A) (hb : ZDE X.K fd ps ds) (hd : ZDG dvs ds)
  (hx : ZED CX X E) (I : Inv X pins σ H s) (r : ZDG vs us)
  (h : ∀ x dx, H x = none → H dx = none → dx ≠ x → sp (.ref x :: (vs ++ dvs)) (upd (upd H dx (.own x)) x (.ins C dx [])) (fun v H2 => v = .non ∧ Q (.ref x) H2) E) :
  wpAny (model X.prog X.w) X.A (call (.ref C) us) (EP X pins σ Q) X.xe s := by
 have hq := h (s.heap.objs.size + 1) s.heap.objs.size (I.hok.fresh (Nat.le_succ _)) (I.hok.fresh (Nat.le_refl _)) (Nat.ne_of_lt (Nat.lt_succ_self _))
 have I2 := Inv.made (C := C) I
 have r2 : ZDG (V.ref (s.heap.objs.size + 1) :: (vs ++ dvs)) (Value.ref (s.heap.objs.size + 1) :: (us ++ ds)) := .cons rfl (r.append hd)
 have hl : (Value.ref (s.heap.objs.size + 1) :: us ++ ds).length = ps.length := by
  have e := r2.length
  rw [F.len _ _ _ _ hq] at e
  exact e.symm
 refine wpAny_call (ZOL (f := f) I.kIn M.makes M.init (beq_iff_eq.mp M.fn) (codeAny_mono (F.run _ X.stack _ _ ⟨Value.ref (s.heap.objs.size + 1) :: us, []⟩ (Value.ref (s.heap.objs.size + 1) :: (us ++ ds)) _ _ E (hr.make C us [])
  (I2.env0.make C us []) (hb _ (Value.ref (s.heap.objs.size + 1) :: us) I2.kIn hl) r2 hq) fun r s' hq' => ?_))
 cases r with
 | error e => exact hx pins σ _ _ e s' I2 hq'
 | ok fl =>
  cases fl with
  | ret u =>
   obtain ⟨v, H', I3, rv, ev, q3⟩ := I2.after hq'
   subst ev
   exact ⟨rv, ⟨V.ref (s.heap.objs.size + 1), H', I3, rfl, q3⟩⟩
  | next => exact False.elim hq'
  | brk => exact False.elim hq'
  | cont => exact False.elim hq'
theorem ZQI (M : Mk X.K C f) (F : ZDI X.prog X.w X.K X.mg X.base CX k f fd ps sp) (hr : Room (k + 1) X.A) (hg : Gl X x) (hm : X.mg x = some (.ref C)) (hb : ZDE X.K fd ps ds) (hd : ZDG dvs ds) (hx : ZED CX X E)
  (ha : PA X (e :: es) t) (hdb : (x == ("__debug__" : Str)) = false := by decide) (he : starEach (e :: es) X.env = (false, eval e X.env) :: starEach es X.env := by rfl) (hpl : (backTo pos (starEach es X.env)).any (·.1) = false := by rfl) :
  PE X (.Call (.Name x p) (e :: es) [] pos) (ZIG C sp dvs E t) := by
 intro pins s σ H Q I h
 refine wpAny_Call_Name_kw (ZEh I hg hm ?_ hdb)
 refine PySem.W.callWith_K (h₀ := X.base) I.ok.mod.kin M.kp (thn (ha pos pins s σ H _ I h) fun us s1 ⟨vs, H1, I1, r, q⟩ => ⟨I1.kIn, ?_⟩) he hpl
 exact ZJj M F hr hb hd hx I1 r q
theorem ZOR (M : Mk X.K C f) (F : ZDI X.prog X.w X.K X.mg X.base CX k f fd ps sp) (hr : Room (k + 1) X.A) (hg : Gl X x) (hm : X.mg x = some (.ref C)) (hb : ZDE X.K fd ps ds) (hd : ZDG dvs ds) (hx : ZED CX X E)
  (hdb : (x == ("__debug__" : Str)) = false := by decide) : PE X (.Call (.Name x p) [] [] pos) (ZIG C sp dvs E ZHl) := by
 intro pins s σ H Q I h
 refine wpAny_Call_Name_kw (ZEh I hg hm ?_ hdb)
 exact PySem.W.callWith_K0 I.kIn M.kp (ZJj (us := []) M F hr hb hd hx I .nil h)
end
structure ZDL (N P : List Str) (sc : Scope) : Prop where
 kind : sc.kind = .function
 co : sc.isCoroutine = false
 gen : sc.isGenerator = false
 nd : N.Nodup
 pre : N.take P.length = P
 par : ∀ x ∈ P, sc.names.lookup x = some .local ∨ sc.names.lookup x = some .cell
 nofree : ∀ y ∈ sc.names, y.2 ≠ .free
theorem ZIy {kindOf : Str → Option NameKind} {x : Str} : ∀ {binds : List (Str × Value)} {m : Str → Option Value}, (∀ v, (x, v) ∉ binds) → bindL kindOf binds m x = m x
 | [], _, _ => rfl
 | (n, v) :: r, m, h => by
  unfold bindL
  rw [ZIy fun w hw => h w (List.mem_cons_of_mem _ hw)]
  split
  ·have : x ≠ n := by rintro rfl; exact h v List.mem_cons_self
   simp [this]
  ·rfl
theorem ZIz {kindOf : Str → Option NameKind} {x : Str} : ∀ {binds : List (Str × Value)} {m : Str → Option Value}, (∀ v, (x, v) ∉ binds) → bindC kindOf binds m x = m x
 | [], _, _ => rfl
 | (n, v) :: r, m, h => by
  unfold bindC
  rw [ZIz fun w hw => h w (List.mem_cons_of_mem _ hw)]
  split
  ·rfl
  ·have : x ≠ n := by rintro rfl; exact h v List.mem_cons_self
   simp [this]
theorem ZI0 {kindOf : Str → Option NameKind} {x : Str} {v : Value} : ∀ {P : List Str} {vs : List Value} {i : Nat} {m : Str → Option Value}, P.Nodup → P[i]? = some x → vs[i]? = some v → kindOf x = some .local →
  bindL kindOf (P.zip vs) m x = some v
 | [], _, _, _, _, h, _, _ => by simp at h
 | _ :: _, [], _, _, _, _, h, _ => by simp at h
 | p :: P, w :: vs, 0, m, nd, h1, h2, hk => by
  simp at h1 h2; subst h1; subst h2
  show bindL kindOf ((p, w) :: P.zip vs) m p = _
  unfold bindL
  rw [ZIy fun v hv => (List.nodup_cons.mp nd).1 (List.of_mem_zip hv).1, if_pos hk]
  simp
 | p :: P, w :: vs, i + 1, m, nd, h1, h2, hk => by
  show bindL kindOf ((p, w) :: P.zip vs) m x = _
  unfold bindL
  exact ZI0 (i := i) (List.nodup_cons.mp nd).2 (by simpa using h1) (by simpa using h2) hk
theorem ZI1 {kindOf : Str → Option NameKind} {x : Str} {v : Value} : ∀ {P : List Str} {vs : List Value} {i : Nat} {m : Str → Option Value}, P.Nodup → P[i]? = some x → vs[i]? = some v → kindOf x ≠ some .local →
  bindC kindOf (P.zip vs) m x = some v
 | [], _, _, _, _, h, _, _ => by simp at h
 | _ :: _, [], _, _, _, _, h, _ => by simp at h
 | p :: P, w :: vs, 0, m, nd, h1, h2, hk => by
  simp at h1 h2; subst h1; subst h2
  show bindC kindOf ((p, w) :: P.zip vs) m p = _
  unfold bindC
  rw [ZIz fun v hv => (List.nodup_cons.mp nd).1 (List.of_mem_zip hv).1, if_neg hk]
  simp
 | p :: P, w :: vs, i + 1, m, nd, h1, h2, hk => by
  show bindC kindOf ((p, w) :: P.zip vs) m x = _
  unfold bindC
  exact ZI1 (i := i) (List.nodup_cons.mp nd).2 (by simpa using h1) (by simpa using h2) hk
def start (N : List Str) (vs : List V) : St := vs.map some ++ List.replicate (N.length - vs.length) none
def ZFs (CX : CXT) (P : Program) (w : World) (K : W.Frag) (mg : Str → Option Value) (base : Heap) (N : List Str) (qual : Str) (scope : Scope) (f : Addr) (cd : Value) (A : Around) (outer : List Env) (s : Shared) (H : Hp) (E : XK) : Cx where
 prog := P
 w := w
 K := K
 mg := mg
 base := base
 A := A.deeper (envOfC qual scope s.heap.objs.size f cd)
 N := N
 s₀ := s
 H₀ := H
 env := envOfC qual scope s.heap.objs.size f cd
 outer := outer
 stack := envOfC qual scope s.heap.objs.size f cd :: outer
 ex := []
 calm := true
 fn := fun _ => true
 pn := []
 xe := fun e s' => wpAny (model P w) (A.deeper (envOfC qual scope s.heap.objs.size f cd)) (leaving (envOfC qual scope s.heap.objs.size f cd) e) (fun _ s'' => CX outer H s E e s'') (fun e' s'' => CX outer H s E e' s'') s'
theorem ZJk {sc : Scope} {n : Nat} {x : Str} (h : sc.names.lookup x = some .cell) : ∃ c, (cellsFrom n sc.names []).lookup x = some c := by
 have q := PySem.W.cellsFrom_some sc.names n [] (.inl h)
 exact Option.isSome_iff_exists.mp q
theorem ZI2 {CX : CXT} {P : Program} {w : World} {K : W.Frag} {mg : Str → Option Value} {base : Heap} {N ps : List Str} {qual : Str} {scope : Scope} {f : Addr} {cd : Value} {A : Around} {outer : List Env} {s s1 : Shared} {H : Hp} {E : XK} {us : List Value} {vs : List V}
  (S : ZDL N ps scope) (hd : A.handled = none) (e0 : ZFJ P w K mg base A outer s H) (hl : vs.length = ps.length) (r : ZDG vs us)
  (x : InCallC s s.heap.objs.size (bindL (envOfC qual scope s.heap.objs.size f cd).kindOf (ps.zip us) fun _ => none) (cellsFrom (s.heap.objs.size + 1) scope.names []) (bindC (envOfC qual scope s.heap.objs.size f cd).kindOf (ps.zip us) fun _ => none) s1) :
  Inv (ZFs CX P w K mg base N qual scope f cd A outer s H E) [] (start N vs) H s1 := by
 have hpl : ps.length ≤ N.length := by have := congrArg List.length S.pre; rw [List.length_take] at this; omega
 obtain ⟨h1, tk, rfl, hk⟩ := x.done
 have noA : ∀ b : Addr, b ∉ (ZFs CX P w K mg base N qual scope f cd A outer s H E).ex := fun b z => absurd (show b ∈ ([] : List Addr) from z) (by simp)
 refine ⟨⟨e0.mod, S.kind, rfl, rfl, Nat.le_refl _, fun y z c h1 h2 => ?_, fun y hy => ?_, fun y c _ h => ?_, fun _ => hd, Around.frames_deeper e0.frames, .inr ⟨rfl, rfl⟩, fun b z => absurd z (noA b), e0.bs, e0.bsz, fun b _ _ => noA b, fun b z => absurd z (noA b), e0.funs, e0.frf⟩,
  rfl, e0.bare, Un.kept hk, ⟨_, x.toInCall.ns, fun i y v h1 h2 h3 => ?_⟩, fun y c h => ⟨_, x.cell y c h⟩, e0.hok.fresh (Nat.le_refl _), fun y c h => ?_, fun p hp => absurd (show p ∈ ([] : List (Addr × Obj)) from hp) (by simp), e0.hok.kept hk, ?_⟩
 ·exact name_of_addr x.apart (PySem.mem_of_lookup h1) (PySem.mem_of_lookup h2)
 ·have hy : scope.names.lookup y = some .cell ∨ scope.names.lookup y = some .free := hy
  rcases hy with hy | hy
  ·exact ZJk hy
  ·exact absurd rfl (S.nofree _ (PySem.mem_of_lookup hy))
 ·exact Nat.le_of_lt (x.above y c (PySem.mem_of_lookup h))
 ·have hi : i < vs.length := by
   unfold start at h2
   by_cases hi : i < vs.length
   ·exact hi
   ·rw [List.getElem?_append_right (by simpa using hi)] at h2
    rw [List.getElem?_replicate] at h2
    split at h2 <;> cases h2
  have ha : vs[i]? = some v := by
   unfold start at h2
   rw [List.getElem?_append_left (by simpa using hi), List.getElem?_map] at h2
   cases e : vs[i]? with
   | none => rw [e] at h2; cases h2
   | some a => rw [e] at h2; cases h2; rfl
  obtain ⟨u, hu, rv⟩ := r.get ha
  have hp : ps[i]? = some y := by
   rw [← S.pre, List.getElem?_take_of_lt (by omega)]; exact h1
  have ndP : ps.Nodup := by rw [← S.pre]; exact S.nd.sublist (List.take_sublist _ _)
  refine ⟨u, rv, ?_⟩
  rcases S.par y (List.mem_of_getElem? hp) with k | k
  ·exact .inl ⟨k, ZI0 ndP hp hu k⟩
  ·obtain ⟨c, e⟩ := ZJk (n := s.heap.objs.size + 1) k
   refine .inr ⟨.inl k, c, e, ?_⟩
   have q := x.cell y c e
   rw [ZI1 ndP hp hu (by show scope.names.lookup y ≠ _; rw [k]; decide)] at q
   exact q
 ·exact e0.hok.fresh (Nat.le_of_lt (x.above y c (PySem.mem_of_lookup h)))
 ·unfold start
  show _ = N.length
  rw [List.length_append, List.length_map, List.length_replicate]
  omega
theorem ZL3 {CX : CXT} {P : Program} {w : World} {K : W.Frag} {mg : Str → Option Value} {base : Heap} {k : Nat} {f : Addr} {name qual : Str} {params : Arguments} {body : List Stmt} {scope : Scope} {dV kV doc pm cdv ct oc : Value} {an od : Option Addr}
  {osl : Array (Option Value)} {N ps : List Str} {sp : Sp} (lk : K.lookup f = some ⟨oc, od, .func (W.fnOf name qual params body scope dV kV doc pm an cdv ct), osl⟩) (hcd : W.codeIn K cdv qual = true) (S : ZDL N ps scope)
  (len : ∀ vs H Q E, sp vs H Q E → vs.length = ps.length)
  (hbody : ∀ (A : Around) (outer : List Env) (s : Shared) (H : Hp) (vs : List V) (Q : VK) (E : XK), Room k (A.deeper (envOfC qual scope s.heap.objs.size f cdv)) → sp vs H Q E →
   ∃ t, PSs (ZFs CX P w K mg base N qual scope f cdv A outer s H E) body t ∧ t { nx := fun _ H' => Q .non H', rt := Q } (start N vs) H) :
  ZDI P w K mg base CX (k + 1) f (W.fnOf name qual params body scope dV kV doc pm an cdv ct) ps sp := by
 refine ⟨len, fun A outer s H args us vs Q E hr e0 hb r hsp => ?_⟩
 have hl := len _ _ _ _ hsp
 have KX : K.In s.heap := e0.mod.kin.keeps fun b o e => (e0.bs b o e).1
 have lim : s.heap.NoLimit := e0.mod.nolimit.keeps fun b o e => (e0.bs b o e).1
 have hkind : ∀ y ∈ ps.zip us, scope.names.lookup y.1 = some .local ∨ (scope.names.lookup y.1 = some .cell ∧ ((cellsFrom (s.heap.objs.size + 1) scope.names []).lookup y.1).isSome = true) := fun ⟨n, v⟩ hy => by
  rcases S.par n (List.of_mem_zip hy).1 with q | q
  ·exact .inl q
  ·exact .inr ⟨q, PySem.W.cellsFrom_some _ _ _ (.inl q)⟩
 refine codeAny_call_function hr.depth (KX _ _ lk) rfl S.co S.gen rfl (PySem.W.codeRec_of KX hcd) (hb _ _ _ _ ?_)
 refine wpAny_newFunctionEnv_cells S.kind hkind fun env he s1 x => ?_
 subst he
 refine ⟨lim.keeps x.toInCall.keep, codeAny_func ?_⟩
 obtain ⟨t, ht, hq⟩ := hbody A outer s H vs Q E (hr.deeper _) hsp
 have I : Inv (ZFs CX P w K mg base N qual scope f cdv A outer s H E) [] (start N vs) H s1 := ZI2 S hr.hd e0 hl r x
 refine wpAny_mono (ht [] s1 (start N vs) H _ I hq) (fun fl s' hs => ?_) fun e s' hs => hs
 have fin : ∀ {σ' : St} {H' : Hp} {v : V} {u : Value}, Inv (ZFs CX P w K mg base N qual scope f cdv A outer s H E) [] σ' H' s' → ZDH v u → Q v H' → CE outer P w H s Q u s' :=
  fun {σ' H' v u} J rv q => ⟨v, H', J.os, J.bare, J.base, J.hok, rv, q⟩
 cases fl with
 | ret u =>
  obtain ⟨v, σ', H', J, rv, q⟩ := hs
  exact fin J rv q
 | next =>
  obtain ⟨σ', H', J, q⟩ := hs
  exact fin (v := V.non) (u := Value.none) J rfl q
 | brk =>
  obtain ⟨_, _, _, q⟩ := hs
  exact False.elim q
 | cont =>
  obtain ⟨_, _, _, q⟩ := hs
  exact False.elim q
section
variable {X : Cx} {x : Str} {p pos : Pos} {e : Expr} {es : List Expr} {t : TA} {id T : String} {r : List V → Hp → VK → Prop}
def tCB (r : List V → Hp → VK → Prop) (t : TA) : TE := fun σ H Q => t σ H fun vs H1 => r vs H1 Q
theorem ZOS (hc : ZDb X (.builtin id) r) (hg : Gl X x) (hm : X.mg x = none) (hv : bootBuiltins x = some (.builtin id)) (ha : PA X (e :: es) t) (hn : x ≠ "__name__" := by decide) (hdb : (x == ("__debug__" : Str)) = false := by decide)
  (he : starEach (e :: es) X.env = (false, eval e X.env) :: starEach es X.env := by rfl) (hpl : (backTo pos (starEach es X.env)).any (·.1) = false := by rfl) : PE X (.Call (.Name x p) (e :: es) [] pos) (tCB r t) := by
 intro pins s σ H Q I h
 refine wpAny_Call_Name_kw (ZFE I hg hm hv ?_ hn hdb)
 exact PyProof.Rows.callWith_builtin1 (thn (ha pos pins s σ H _ I h) fun us s1 ⟨vs, H1, I1, r1, q1⟩ => hc pins s1 σ H1 vs us Q I1 r1 q1) he hpl
theorem ZMy (hc : ZDb X (.type T) r) (hg : Gl X x) (hm : X.mg x = none) (hv : bootBuiltins x = some (.type T)) (ha : PA X (e :: es) t) (hn : x ≠ "__name__" := by decide) (hdb : (x == ("__debug__" : Str)) = false := by decide)
  (he : starEach (e :: es) X.env = (false, eval e X.env) :: starEach es X.env := by rfl) (hpl : (backTo pos (starEach es X.env)).any (·.1) = false := by rfl) : PE X (.Call (.Name x p) (e :: es) [] pos) (tCB r t) := by
 intro pins s σ H Q I h
 refine wpAny_Call_Name_kw (ZFE I hg hm hv ?_ hn hdb)
 exact PyProof.Rows.callWith_type1 (thn (ha pos pins s σ H _ I h) fun us s1 ⟨vs, H1, I1, r1, q1⟩ => hc pins s1 σ H1 vs us Q I1 r1 q1) he hpl
end
end L2
namespace HT
open PySem PyProof.Rows
end HT
namespace L2
open PySem PySem.Spec PyProof.Rows
abbrev TO := St → Hp → (Option Int → Hp → Prop) → Prop
def PO (X : Cx) (e : Option Expr) (t : TO) : Prop :=
 ∀ (pins : List (Addr × Obj)) (s : Shared) (σ : St) (H : Hp) (Q : Option Int → Hp → Prop), Inv X pins σ H s → t σ H Q →
  wpAny (model X.prog X.w) X.A (evalPart e X.env) (fun u s' => ∃ o H', Inv X pins σ H' s' ∧ IsPart u o ∧ Q o H') X.xe s
def ZIf : TO := fun _ H Q => Q none H
def ZL4 (t : TE) : TO := fun σ H Q => t σ H fun x H1 => ∃ i, x = .int i ∧ Q (some i) H1
section
variable {X : Cx} {e : Expr} {te : TE} {lo hi : Option Expr} {tl th : TO} {pos p2 : Pos}
theorem ZQJ : PO X none ZIf := by
 intro pins s σ H Q I h
 rw [evalPart_none]
 exact wpAny_pure ⟨none, H, I, .none, h⟩
theorem ZQK (h : PE X e te) : PO X (some e) (ZL4 te) := by
 intro pins s σ H Q I hw
 rw [evalPart_some]
 refine thn (h pins s σ H _ I hw) fun u s1 ⟨x, H1, I1, r1, q1⟩ => ?_
 obtain ⟨i, rfl, q⟩ := q1
 obtain ⟨t, rfl⟩ := r1
 exact ⟨some i, H1, I1, .int i t, q⟩
def SlR (X : Cx) (r : V → Option Int → Option Int → Hp → VK → Prop) : Prop :=
 ∀ (pins : List (Addr × Obj)) (s : Shared) (σ : St) (H : Hp) (x : V) (v vl vu : Value) (lo hi : Option Int) (sl : Addr) (Q : VK), Inv X pins σ H s → ZDH x v → s.heap.IsSliceOf sl vl vu .none → IsPart vl lo → IsPart vu hi → r x lo hi H Q →
  ∃ T id, typeLookup (.type T) "__getitem__" = pure (some (.builtin id)) ∧ s.TypeIs v T ∧ wpAny (model X.prog X.w) X.A (getItem v (.ref sl)) (EP X pins σ Q) X.xe s
def tSl (r : V → Option Int → Option Int → Hp → VK → Prop) (te : TE) (tl th : TO) : TE := fun σ H Q => te σ H fun x H1 => tl σ H1 fun l H2 => th σ H2 fun u H3 => r x l u H3 Q
theorem ZOT {r : V → Option Int → Option Int → Hp → VK → Prop} (hr : SlR X r) (he : PE X e te) (hl : PO X lo tl) (hu : PO X hi th) : PE X (.Subscript e (.Slice lo hi none p2) pos) (tSl r te tl th) := by
 intro pins s σ H Q I h
 refine Subscript_ (thn (he pins s σ H _ I h) fun v s1 ⟨x, H1, I1, r1, q1⟩ => ?_)
 refine wpAny_Slice (thn (hl pins s1 σ H1 _ I1 q1) fun vl s2 ⟨l, H2, I2, pl, q2⟩ => thn (hu pins s2 σ H2 _ I2 q2) fun vu s3 ⟨u, H3, I3, pu, q3⟩ => ?_)
 rw [evalPart_none]
 refine wpAny_pure ?_
 have I4 : Inv X pins σ H3 { s3 with heap := s3.heap.push { cls := .type "slice", data := .fields #[vl, vu, .none] } } := I3.kept (t' := s3.toks) fun b ob q => Heap.get?_push_of_some _ q
 obtain ⟨T, id, hT, ht, hg⟩ := hr pins { s3 with heap := s3.heap.push { cls := .type "slice", data := .fields #[vl, vu, .none] } } σ H3 x v vl vu l u s3.heap.objs.size Q I4 r1 (Heap.IsSliceOf.new ..) pl pu q3
 show wpAny (model X.prog X.w) X.A (subscriptTail e (.Slice lo hi none p2) v (.ref s3.heap.objs.size)) (EP X pins σ Q) X.xe { s3 with heap := s3.heap.push { cls := .type "slice", data := .fields #[vl, vu, .none] } }
 exact tail_any (ops := [.ref s3.heap.objs.size, v]) ht hT hg (by with_unfolding_all rfl)
end
def ixN (n : Nat) (i : Int) : Option Nat := if 0 ≤ i then (if i < n then some i.toNat else none) else if -(n : Int) ≤ i then some (i + n).toNat else none
def atI {α : Type} (xs : List α) (i : Int) : Option α := (ixN xs.length i).bind fun j => xs[j]?
theorem ZLP {n : Nat} {i : Int} {j : Nat} (h : ixN n i = some j) : seqIndex? i n = some j ∧ j < n ∧ -(n : Int) ≤ i ∧ i < n := by
 unfold ixN at h
 by_cases h0 : 0 ≤ i
 ·rw [if_pos h0] at h
  by_cases h1 : i < n
  ·rw [if_pos h1] at h
   have e : i.toNat = j := Option.some.inj h
   exact ⟨by rw [seqIndex_of h0 h1, e], by omega, by omega, h1⟩
  ·rw [if_neg h1] at h; cases h
 ·rw [if_neg h0] at h
  by_cases h1 : -(n : Int) ≤ i
  ·rw [if_pos h1] at h
   have e : (i + n).toNat = j := Option.some.inj h
   exact ⟨by rw [seqIndex_neg (by omega) h1, e], by omega, h1, by omega⟩
  ·rw [if_neg h1] at h; cases h
theorem ZIg {α : Type} {xs : List α} {i : Int} {v : α} (h : atI xs i = some v) : ∃ j, seqIndex? i xs.length = some j ∧ xs[j]? = some v ∧ j < xs.length ∧ -(xs.length : Int) ≤ i ∧ i < xs.length := by
 unfold atI at h
 cases e : ixN xs.length i with
 | none => rw [e] at h; cases h
 | some j =>
  rw [e] at h
  obtain ⟨h1, h2, h3, h4⟩ := ZLP e
  exact ⟨j, h1, h, h2, h3, h4⟩
theorem ZF4 {α : Type} {xs : List α} {j : Nat} {v : α} (h : xs[j]? = some v) : atI xs (j : Int) = some v := by
 have hj : j < xs.length := (List.getElem?_eq_some_iff.mp h).1
 have e : ixN xs.length (j : Int) = some j := by
  unfold ixN
  rw [if_pos (by omega), if_pos (by omega)]; simp
 unfold atI; rw [e]; exact h
def ZLQ (b : Expr) : Prop := ∀ o i, subscripted b false o i = operate [o, i] (getItem o i)
def IxR (X : Cx) (r : R2) : Prop :=
 ∀ (value slice : Expr) (pins : List (Addr × Obj)) (s : Shared) (σ : St) (H : Hp) (x y : V) (v u : Value) (Q : VK), Inv X pins σ H s → ZDH x v → ZDH y u → r x y H Q →
  subscripted slice false v u = operate [v, u] (getItem v u) → wpAny (model X.prog X.w) X.A (subscriptTail value slice v u) (EP X pins σ Q) X.xe s
def MtR (X : Cx) (id : String) (r : V → List V → Hp → VK → Prop) : Prop :=
 ∀ (pins : List (Addr × Obj)) (s : Shared) (σ : St) (H : Hp) (x : V) (xs : List V) (v : Value) (us : List Value) (Q : VK), Inv X pins σ H s → ZDH x v → ZDG xs us → r x xs H Q →
  wpAny (model X.prog X.w) X.A (call (.builtin id) (v :: us)) (EP X pins σ Q) X.xe s
section
variable {X : Cx} {a b : Expr} {ta tb : TE} {pos : Pos}
theorem ZTX {r : R2} (hr : IxR X r) (ha : PE X a ta) (hb : PE X b tb) (hs : ZLQ b) : PE X (.Subscript a b pos) (tOp r ta tb) := by
 intro pins s σ H Q I h
 exact Subscript_ (ZOG ha hb I h fun v u s2 x y H2 I2 rx ry q => hr a b pins s2 σ H2 x y v u Q I2 rx ry q (hs _ _))
def ZOU (K : W.Frag) : R2 := fun x y H Q => ∃ p xs i v, x = .ref p ∧ y = .int i ∧ SqL K H p xs ∧ atI xs i = some v ∧ Q v H
def ZOV (K : W.Frag) : R2 := fun x y H Q => ∃ p xs i v, x = .ref p ∧ y = .int i ∧ SqT K H p xs ∧ atI xs i = some v ∧ Q v H
def ZR6 : R2 := fun x y H Q => ∃ z i c, x = .str z ∧ y = .int i ∧ z.length ≤ sizeLine ∧ atI z.cps.toList i = some c ∧ Q (.str ⟨#[c]⟩) H
theorem ZQL : IxR X (ZOU X.K) := by
 intro value slice pins s σ H x y v u Q I rx ry h hs
 obtain ⟨p, xs, i, z, rfl, rfl, hq, he, q⟩ := h
 cases rx
 obtain ⟨t, rfl⟩ := ry
 obtain ⟨its, r, pl, hz⟩ := I.list hq
 obtain ⟨j, h1, h2, h3, h4, h5⟩ := ZIg he
 obtain ⟨w, ew, rw'⟩ := r.get h2
 have hl := r.length
 have hn := ZF3
 have fin : EP X pins σ Q w s := ⟨z, H, I, rw', q⟩
 by_cases h0 : 0 ≤ i
 ·have hj : i.toNat = j := by
   rw [seqIndex_of h0 h5] at h1
   exact Option.some.inj h1
  exact item_listR pl.isList h0 (by omega) (by rw [hj]; simpa using ew) fin hs
 ·have hj : (i + (its.toArray.size : Int)).toNat = j := by
   rw [seqIndex_neg (by omega) h4] at h1
   rw [List.size_toArray, ← hl]
   exact Option.some.inj h1
  exact subscriptTail_builtinR (x := w) pl.isList.typeIs slot_list_getitem.lookup
   (wpAny_getItem_list_neg (Q := fun r s' => r = w ∧ EP X pins σ Q r s') pl.isList (by omega) (by rw [List.size_toArray] <;> omega) (by omega) (by rw [hj]; simpa using ew) ⟨rfl, fin⟩) hs
theorem ZR7 : IxR X (ZOV X.K) := by
 intro value slice pins s σ H x y v u Q I rx ry h hs
 obtain ⟨p, xs, i, z, rfl, rfl, hq, he, q⟩ := h
 cases rx
 obtain ⟨t, rfl⟩ := ry
 obtain ⟨its, r, pl, hz⟩ := I.tuple hq
 obtain ⟨j, h1, h2, h3, h4, h5⟩ := ZIg he
 obtain ⟨w, ew, rw'⟩ := r.get h2
 have hl := r.length
 have hn := ZF3
 have fin : EP X pins σ Q w s := ⟨z, H, I, rw', q⟩
 exact subscriptTail_builtinR (x := w) pl.typeIs slot_tuple_getitem.lookup
  (getItem_tuple (j := j) (Q := fun r s' => r = w ∧ EP X pins σ Q r s') pl (by omega) (by omega) (by rw [List.size_toArray, ← hl]; exact h1) (by simpa using ew) ⟨rfl, fin⟩) hs
theorem ZR8 : IxR X ZR6 := by
 intro value slice pins s σ H x y v u Q I rx ry h hs
 obtain ⟨z, i, c, rfl, rfl, hz, he, q⟩ := h
 obtain ⟨t, rfl⟩ := rx
 obtain ⟨t', rfl⟩ := ry
 obtain ⟨j, h1, h2, h3, h4, h5⟩ := ZIg he
 have hl : z.cps.toList.length = z.length := by simp [Str.length]
 rw [hl] at h1 h4 h5
 have hn := ZF3
 exact tail_any (typeIs_str s z t) slot_str_getitem.lookup (getItem_str (c := c) (by
  have e1 : decide (i < -(2 ^ 63 : Int)) = false := decide_eq_false (by omega)
  have e2 : decide (i ≥ 2 ^ 63) = false := decide_eq_false (by omega)
  rw [e1, e2, Bool.or_false]) (by rw [h1]; simpa using h2) ⟨.str ⟨#[c]⟩, H, I.tok _, ⟨_, rfl⟩, q⟩) hs
theorem ZL5 (its : List Value) (n j : Nat) (u : Value) : Obj.mapSeq (·.setIfInBounds j u) { cls := .type "list", data := .seq its.toArray n } = { cls := .type "list", data := .seq (its.set j u).toArray n } := by
 simp [Obj.mapSeq]
theorem Inv.lst {pins : List (Addr × Obj)} {σ : St} {H : Hp} {s : Shared} {p : Addr} {xs : List V} (I : Inv X pins σ H s) (h : H p = some (.lst xs)) :
  ∃ (its : List Value) (n : Nat), ZDG xs its ∧ s.heap.get? p = some { cls := .type "list", data := .seq its.toArray n } ∧ xs.length ≤ sizeLine := by
 obtain ⟨z, its, n, r, e⟩ := I.hok p _ h
 exact ⟨its, n, r, e, z⟩
theorem Inv.lstUpd {pins : List (Addr × Obj)} {σ : St} {H : Hp} {s : Shared} {p : Addr} {xs ys : List V} {its its' : List Value} {n n' : Nat} {f : Obj → Obj} (I : Inv X pins σ H s) (h : H p = some (.lst xs))
  (ho : s.heap.get? p = some { cls := .type "list", data := .seq its.toArray n }) (hf : f { cls := .type "list", data := .seq its.toArray n } = { cls := .type "list", data := .seq its'.toArray n' }) (r : ZDG ys its') (hz : ys.length ≤ sizeLine) (t : Nat) :
  Inv X pins σ (upd H p (.lst ys)) { s with heap := s.heap.update p f, toks := t } := by
 have e : (s.heap.update p f).get? p = some { cls := .type "list", data := .seq its'.toArray n' } := by
  rw [Heap.get?_update_self f ho (by rw [hf] <;> rfl), hf]
 refine I.write (x := p) (e := p) (by rw [h]; trivial) (.inl rfl) (fun b u hb q => (Heap.get?_update_other _ _ (Ne.symm hb)).trans q) ⟨_, e⟩ ?_
 exact ⟨hz, its', n', r, e⟩
def ZL6 : V → V → V → Hp → (Hp → Prop) → Prop := fun o i v H Q => ∃ p xs k j, o = .ref p ∧ i = .int k ∧ H p = some (.lst xs) ∧ ixN xs.length k = some j ∧ Q (upd H p (.lst (xs.set j v)))
theorem ZHm : ZN9 X ZL6 := by
 intro pins s σ H o i v ov iv u Q I ro ri rv h
 obtain ⟨p, xs, k, j, rfl, rfl, hp, hj, q⟩ := h
 cases ro
 obtain ⟨t, rfl⟩ := ri
 obtain ⟨its, n, r, ho, hz⟩ := I.lst hp
 obtain ⟨h1, h2, h3, h4⟩ := ZLP hj
 have hl := r.length
 have hn := ZF3
 have I' : Inv X pins σ (upd H p (.lst (xs.set j v))) { s with heap := s.heap.update p (Obj.mapSeq (·.setIfInBounds j u)) } :=
  I.lstUpd hp ho (ZL5 its n j u) (r.set rv j) (by rw [List.length_set]; exact hz) s.toks
 by_cases h0 : 0 ≤ k
 ·have hk : k.toNat = j := by
   rw [seqIndex_of h0 h4] at h1
   exact Option.some.inj h1
  exact PySem.W.ki_setAt ho h0 (by omega) (by rw [List.size_toArray, ← hl]; exact h4) (by rw [hk]; exact ⟨_, I', q⟩)
 ·have hk : (k + (its.toArray.size : Int)).toNat = j := by
   rw [seqIndex_neg (by omega) h3] at h1
   rw [List.size_toArray, ← hl]
   exact Option.some.inj h1
  exact PySem.W.ki_setBack ho (by omega) (by rw [List.size_toArray, ← hl]; exact h3) (by omega) (by rw [hk]; exact ⟨_, I', q⟩)
theorem ZJl : ZDb X (.builtin "len") (fun xs H Q => ∃ p ys, xs = [.ref p] ∧ (SqL X.K H p ys ∨ SqT X.K H p ys) ∧ Q (.int ys.length) H) := by
 intro pins s σ H xs us Q I r h
 obtain ⟨p, ys, rfl, hq, q⟩ := h
 obtain ⟨u, rfl, rx⟩ := ZJW r
 cases rx
 have hn := ZF3
 rcases hq with hq | hq
 ·obtain ⟨its, r', pl, hz⟩ := I.list hq
  have hlen := r'.length
  exact Calls.call_len_list pl.isList (by simp only [List.size_toArray] <;> omega) ⟨.int ys.length, H, I.tok _, ⟨s.toks + 1, by rw [List.size_toArray, hlen]⟩, q⟩
 ·obtain ⟨its, r', pl, hz⟩ := I.tuple hq
  have hlen := r'.length
  exact len_tuple pl (by simp only [List.size_toArray] <;> omega) ⟨.int ys.length, H, I.tok _, ⟨s.toks + 1, by rw [List.size_toArray, hlen]⟩, q⟩
theorem ZJm : ZDb X (.builtin "len") (fun xs H Q => ∃ z, xs = [.str z] ∧ z.length ≤ sizeLine ∧ Q (.int z.length) H) := by
 intro pins s σ H xs us Q I r h
 obtain ⟨z, rfl, hz, q⟩ := h
 obtain ⟨u, rfl, t, rfl⟩ := ZJW r
 have hn := ZF3
 exact len_str (by omega) ⟨.int z.length, H, I.tok _, ⟨_, rfl⟩, q⟩
theorem ZJK : ZDb X (.type "tuple") (fun xs H Q => ∃ p ys, xs = [.ref p] ∧ ((SqL X.K H p ys ∧ ∀ l, H l = none → Q (.ref l) (upd H l (.tup ys))) ∨ (SqT X.K H p ys ∧ Q (.ref p) H))) := by
 intro pins s σ H xs us Q I r h
 obtain ⟨p, ys, rfl, h⟩ := h
 obtain ⟨u, rfl, rx⟩ := ZJW r
 cases rx
 rcases h with ⟨hq, q⟩ | ⟨hq, q⟩
 ·obtain ⟨its, r', pl, hz⟩ := I.list hq
  have hlen := r'.length
  refine call_tuple_list pl.isList (fun h' kp => ?_) (by simp only [List.size_toArray] <;> omega)
  have I1 : Inv X pins σ H { s with heap := h' } := I.kept (t' := s.toks) kp
  have I2 : Inv X pins σ (upd H h'.objs.size (.tup ys)) { s with heap := h'.push { cls := .type "tuple", data := .seq its.toArray } } :=
   I1.laid (t' := s.toks) (fun b o e => Heap.get?_push_of_some _ e) (Nat.le_refl _) (show ZDS X.prog X.w _ _ _ (.tup ys) from ⟨⟨hz, fun _ => ⟨_, Heap.get?_push_size _ rfl, rfl, rfl⟩⟩, its, r', IsTup.new _ _⟩)
  exact ⟨.ref h'.objs.size, _, I2, rfl, q _ (I1.hok.fresh (Nat.le_refl _))⟩
 ·obtain ⟨its, r', pl, hz⟩ := I.tuple hq
  exact call_tuple_same pl ⟨.ref p, H, I, rfl, q⟩
def tyV (K : W.Frag) (T : String) (x : V) (H : Hp) : Prop := match x with
 | .str _ => T = "str"
 | .int _ => T = "int"
 | .ref p => (T = "list" ∧ ∃ xs, SqL K H p xs) ∨ (T = "tuple" ∧ ∃ o, K.lookup p = some o ∧ o.cls = .type "tuple" ∧ o.dict = none) ∨
  (T = "dict" ∧ ((∃ kvs, H p = some (.dK kvs)) ∨ ∃ kvs, H p = some (.dT kvs))) ∨ (T = "set" ∧ ∃ S n, H p = some (.set S n))
 | _ => False
theorem ZMz {pins : List (Addr × Obj)} {σ : St} {H : Hp} {s : Shared} {T : String} {x : V} {v : Value} (I : Inv X pins σ H s) (r : ZDH x v) (ty : tyV X.K T x H) :
  s.TypeIs v T ∧ ∀ a, v = .ref a → ∃ ob, s.heap.get? a = some ob ∧ ob.dict = none := by
 cases x with
 | str z =>
  obtain ⟨t, rfl⟩ := r
  cases (show T = "str" from ty)
  exact ⟨typeIs_str s z t, fun _ e => nomatch e⟩
 | int i =>
  obtain ⟨t, rfl⟩ := r
  cases (show T = "int" from ty)
  exact ⟨typeIs_int s i t, fun _ e => nomatch e⟩
 | ref p =>
  cases r
  rcases ty with ⟨rfl, xs, hq⟩ | ⟨rfl, o, hk, hc, hd⟩ | ⟨rfl, hk⟩ | ⟨rfl, S, n, hk⟩
  ·obtain ⟨its, _, pl, _⟩ := I.list hq
   refine ⟨pl.isList.typeIs, fun a e => ?_⟩
   cases e
   obtain ⟨o, n, e, c, hd, _⟩ := pl
   exact ⟨o, e, hd⟩
  ·refine ⟨⟨o, I.kIn p o hk, hc⟩, fun a e => ?_⟩
   cases e
   exact ⟨o, I.kIn _ o hk, hd⟩
  ·have z : ∃ o, s.heap.get? p = some o ∧ o.ExactDict := by
    rcases hk with ⟨kvs, hk⟩ | ⟨kvs, hk⟩
    ·obtain ⟨_, _, _, _, o, _, _, e, ex, _⟩ := I.hok p _ hk
     exact ⟨o, e, ex⟩
    ·obtain ⟨_, _, _, _, o, _, _, e, ex, _⟩ := I.hok p _ hk
     exact ⟨o, e, ex⟩
   obtain ⟨o, e, ex⟩ := z
   refine ⟨⟨o, e, ex.1⟩, fun a e2 => ?_⟩
   cases e2
   exact ⟨o, e, ex.2.1⟩
  ·obtain ⟨o, _, _, _, e, ex, _⟩ := I.hok p _ hk
   refine ⟨⟨o, e, ex.1⟩, fun a e2 => ?_⟩
   cases e2
   exact ⟨o, e, ex.2.1⟩
 | _ => exact False.elim ty
def ZOW (K : W.Frag) (T : String) (r : V → List V → Hp → VK → Prop) (to : TE) : TE := fun σ H Q => to σ H fun x H1 => tyV K T x H1 ∧ r x [] H1 Q
def tBM (K : W.Frag) (T : String) (r : V → List V → Hp → VK → Prop) (to : TE) (t : TA) : TE := fun σ H Q => to σ H fun x H1 => tyV K T x H1 ∧ t σ H1 fun xs H2 => r x xs H2 Q
variable {o e : Expr} {es : List Expr} {to : TE} {t : TA} {name : Str} {apos cpos : Pos} {T id : String} {r : V → List V → Hp → VK → Prop}
theorem ZR9 (pa : PlainAttrs T) (slot : Slot T name id) (hty : typeOf (.builtin id) = pure (.type "method_descriptor")) (hm : MtR X id r) (ho : PE X o to)
  (hbase : attributeBase o name X.env (eval o X.env) = eval o X.env := by rfl) (hline : (apos.endLine == cpos.line) = true := by rfl) : PE X (.Call (.Attribute o name apos) [] [] cpos) (ZOW X.K T r to) := by
 intro pins s σ H Q I h
 refine wpAny_Call_method0_late hbase hline (thn (ho pins s σ H _ I h) fun v s1 ⟨x, H1, I1, r1, ty, q1⟩ => ?_)
 obtain ⟨h1, h2⟩ := ZMz I1 r1 ty
 exact ⟨T, id, pa, slot, hty, h1, h2, Calls.callWith_builtin rfl (PySem.evalArgs_none (hm pins s1 σ H1 x [] v [] Q I1 r1 .nil q1))⟩
theorem ZTY (pa : PlainAttrs T) (slot : Slot T name id) (hty : typeOf (.builtin id) = pure (.type "method_descriptor")) (hm : MtR X id r) (ho : PE X o to) (ha : PA X (e :: es) t)
  (hbase : attributeBase o name X.env (eval o X.env) = eval o X.env := by rfl)
  (hfew : ((backTo cpos (starEach (e :: es) X.env)).all (fun x => !x.1) && (backToKw cpos (keywordEach [] X.env)).all (fun x => x.1.isSome)
   && decide ((e :: es).length + ([] : List Keyword).length + (if ([] : List Keyword).isEmpty then 0 else 1) < 30)) = true := by rfl)
  (hline : (apos.endLine == cpos.line) = true := by rfl) (hs : starEach (e :: es) X.env = (false, eval e X.env) :: starEach es X.env := by rfl) (hplain : (backTo cpos (starEach es X.env)).any (·.1) = false := by rfl) :
  PE X (.Call (.Attribute o name apos) (e :: es) [] cpos) (tBM X.K T r to t) := by
 intro pins s σ H Q I h
 refine wpAny_Call_method_late hbase hfew hline rfl (thn (ho pins s σ H _ I h) fun v s1 ⟨x, H1, I1, r1, ty, q1⟩ => ?_)
 obtain ⟨h1, h2⟩ := ZMz I1 r1 ty
 refine ⟨T, id, pa, slot, hty, h1, h2, ?_⟩
 have hA := ha cpos pins s1 σ H1 _ I1 q1
 rw [hs] at hA ⊢
 refine Calls.callWith_builtin (by show (false || (backTo cpos (starEach es X.env)).any (·.1)) = false; rw [hplain] <;> rfl) (Calls.evalArgs_plain ?_)
 exact thn hA fun us s2 ⟨vs, H2, I2, r2, q2⟩ => hm pins s2 σ H2 x vs v us Q I2 r1 r2 q2
end
def MtM (X : Cx) (id : String) (r : V → List V → Hp → VK → Prop) : Prop :=
 ∀ (pins : List (Addr × Obj)) (s : Shared) (σ : St) (H : Hp) (x : V) (xs : List V) (v : Value) (us : List Value) (Q : VK), Inv X pins σ H s → ZDH x v → ZDG xs us → r x xs H Q →
  wpAny (model X.prog X.w) X.A (call (.builtin id) (v :: us)) (EP X pins σ Q) X.xe s
theorem ZDG.one : ∀ {x : V} {us : List Value}, ZDG [x] us → ∃ u, us = [u] ∧ ZDH x u
 | _, _, .cons r .nil => ⟨_, rfl, r⟩
theorem ZDG.two : ∀ {x y : V} {us : List Value}, ZDG [x, y] us → ∃ u v, us = [u, v] ∧ ZDH x u ∧ ZDH y v
 | _, _, _, .cons r (.cons q .nil) => ⟨_, _, rfl, r, q⟩
theorem ZDG.zero : ∀ {us : List Value}, ZDG [] us → us = []
 | _, .nil => rfl
theorem ZDG.reverse {xs : List V} {us : List Value} (h : ZDG xs us) : ZDG xs.reverse us.reverse := by
 induction h with
 | nil => exact .nil
 | cons r t ih => rw [List.reverse_cons, List.reverse_cons]; exact ZDG.append ih (.cons r .nil)
section
variable {X : Cx} {pins : List (Addr × Obj)} {σ : St} {H : Hp} {s : Shared} {l b : Addr} {xs ys zs : List V}
theorem Inv.lset {its its' : List Value} {n : Nat} {f : Array Value → Array Value} {t' : Nat} (I : Inv X pins σ H s) (hH : H l = some (.lst xs))
  (e : s.heap.get? l = some { cls := .type "list", data := .seq its.toArray n }) (hf : f its.toArray = its'.toArray) (hv : ZDG ys its') (hz : ys.length ≤ sizeLine) :
  Inv X pins σ (upd H l (.lst ys)) { s with heap := s.heap.update l (Obj.mapSeq f), toks := t' } := by
 have q := PySem.IsL.update e f
 rw [hf] at q
 refine I.write (x := l) (e := l) (by rw [hH]; exact trivial) (.inl rfl) (fun b' u hb hu => (Heap.get?_update_other s.heap (Obj.mapSeq f) (Ne.symm hb)).trans hu) ⟨_, q⟩ ?_
 exact ⟨hz, its', _, hv, q⟩
theorem Inv.lnew {its : List Value} {t' : Nat} (I : Inv X pins σ H s) (hv : ZDG ys its) (hz : ys.length ≤ sizeLine) :
  Inv X pins σ (upd H s.heap.objs.size (.lst ys)) { s with heap := s.heap.push { cls := .type "list", data := .seq its.toArray }, toks := t' } :=
 I.laid (fun _ _ q => Heap.get?_push_of_some _ q) (Nat.le_refl _) ⟨hz, its, 0, hv, Heap.get?_push_size _ rfl⟩
theorem Inv.fresh (I : Inv X pins σ H s) : H s.heap.objs.size = none := I.hok.fresh (Nat.le_refl _)
theorem Inv.lstM (I : Inv X pins σ H s) (hH : H l = some (.lst xs)) : xs.length ≤ sizeLine ∧ ∃ (its : List Value) (n : Nat), ZDG xs its ∧ xs.length = its.length ∧ s.heap.get? l = some { cls := .type "list", data := .seq its.toArray n } := by
 obtain ⟨z, its, n, r, e⟩ := I.hok l _ hH
 exact ⟨z, its, n, r, r.length, e⟩
end
section
variable {X : Cx}
def ZLR : V → List V → Hp → VK → Prop := fun x vs H Q => ∃ l xs y, x = .ref l ∧ vs = [y] ∧ H l = some (.lst xs) ∧ xs.length < sizeLine ∧ Q .non (upd H l (.lst (xs ++ [y])))
theorem ZFi : MtM X "list.append" ZLR := by
 intro pins s σ H x vs v us Q I rx rv h
 obtain ⟨l, xs, y, rfl, rfl, hH, hz, q⟩ := h
 cases rx
 obtain ⟨u, rfl, ru⟩ := rv.one
 obtain ⟨z, its, n, r, hl, e⟩ := I.lstM hH
 refine call_meets F.slot_list_append ⟨_, e, rfl⟩ F.entry_list_append (F.args_list_append_2 _ _) (PySem.list_append l its.toArray n u (by rw [List.size_toArray]; omega)) ⟨e, ?_⟩
 refine ⟨.non, _, I.lset (its' := its ++ [u]) hH e (by simp) (r.append (.cons ru .nil)) ?_, rfl, q⟩
 rw [List.length_append, List.length_singleton]
 omega
def ZJn : V → List V → Hp → VK → Prop := fun x vs H Q => ∃ l xs, x = .ref l ∧ vs = [] ∧ H l = some (.lst xs) ∧ Q .non (upd H l (.lst xs.reverse))
theorem ZL7 : MtM X "list.reverse" ZJn := by
 intro pins s σ H x vs v us Q I rx rv h
 obtain ⟨l, xs, rfl, rfl, hH, q⟩ := h
 cases rx
 have hus := rv.zero
 subst hus
 obtain ⟨z, its, n, r, hl, e⟩ := I.lstM hH
 refine call_meets F.slot_list_reverse ⟨_, e, rfl⟩ F.entry_list_reverse (F.args_list_reverse_1 _) (AutoSeq1.list_reverse_list_0 l its.toArray n (by rw [List.size_toArray]; omega)) ⟨e, ?_⟩
 refine ⟨.non, _, I.lset (its' := its.reverse) hH e (by simp) r.reverse ?_, rfl, q⟩
 rw [List.length_reverse]
 omega
def ZSA : R2 := fun x y H Q => ∃ l b xs zs, x = .ref l ∧ y = .ref b ∧ H l = some (.lst xs) ∧ H b = some (.lst zs) ∧ xs.length + zs.length ≤ sizeLine ∧ ∀ p, H p = none → Q (.ref p) (upd H p (.lst (xs ++ zs)))
theorem ZSB : OpR X (binaryOp .Add) ZSA := by
 intro pins s σ H x y v u Q I rx ry h
 obtain ⟨l, b, xs, zs, rfl, rfl, hH, hB, hz, q⟩ := h
 cases rx
 cases ry
 obtain ⟨z, its, n, r, hl, e⟩ := I.lstM hH
 obtain ⟨z2, its2, n2, r2, hl2, e2⟩ := I.lstM hB
 refine PySem.P.add_list e e2 ?_ (by rw [List.size_toArray, List.size_toArray]; omega)
 have ea : its.toArray ++ its2.toArray = (its ++ its2).toArray := by simp
 rw [ea]
 exact ⟨.ref _, _, I.lnew (t' := s.toks) (r.append r2) (by rw [List.length_append]; omega), rfl, q _ I.fresh⟩
end
end L2
namespace Att
open PySem PySem.W PySem.Calls PyProof.Rows
theorem ZIH {P : Params} {h : Heap} : ∀ (ns : List Int) (vs : List Value), WellAll P h vs (ns.map WData.int) → IntsAre vs ns := by
 intro ns
 induction ns with
 | nil =>
  intro vs w
  rw [List.map_nil] at w
  cases w
  exact .nil
 | cons n ns ih =>
  intro vs w
  rw [List.map_cons] at w
  cases w with
  | cons a b =>
   cases a
   exact .cons _ _ (ih _ b)
theorem ZM0 {l : OpenLaw} {n : Nat} (hn : l.most = some n) {P : Params} {h : Heap} {args : List WData} {vals : List Value}
  (hpre : l.row.toRowW.claim.pre args = true) (hwl : WellAll P h vals args) :
  ∃ a vs ns, vals = [Value.ref a] ∧ args = [WData.list (ns.map WData.int)] ∧ h.get? a = some { cls := .type "list", data := .seq vs.toArray } ∧ IntsAre vs ns ∧ ns.length ≤ n := by
 have hsh : WShape.hasAll [] args [.list .int] = true := (pre_splitW hpre).1
 have hc : l.pre.holds [] { args := args } = true := (pre_splitW hpre).2
 obtain ⟨d, r, rfl, h1, h2⟩ := hasAllW_cons hsh
 obtain rfl := hasAllW_nil h2
 obtain ⟨xs, rfl, h3⟩ := hasW_list h1
 obtain ⟨ns, rfl⟩ := items_int h3
 have hlen : ns.length ≤ n := by
  unfold OpenLaw.pre at hc
  have h4 : (WTm.not (.lt (.lit (.int (n : Int))) (.len (.arg 0)))).holds [] { args := [.list (ns.map .int)] } = true := by
   have h4 := (holds_andW hc).1
   rw [hn] at h4
   exact h4
  have h5 := condW_of h4 (w_not (w_lt w_lit (w_len_list (w_arg rfl))))
  rw [List.length_map] at h5
  refine Nat.le_of_not_lt fun q => ?_
  have q' : (n : Int) < ((ns.length : Nat) : Int) := by omega
  first
   | (rw [decide_eq_true q'] at h5; exact absurd h5 (by decide))
   | (simp at h5; omega)
 cases hwl with
 | cons w1 w2 =>
  cases w2
  cases w1 with
  | list ho hall => exact ⟨_, _, ns, rfl, rfl, ho, ZIH ns _ hall, hlen⟩
theorem ZM1 (l : OpenLaw) (args : List WData) : l.row.toRowW.claim.post args (.bool true) args = true :=
 postW_of (r := l.row.toRowW) (X := (true == true))
  (show WShape.has [] (.bool true) .bool = true by first | rfl | decide | simp [WShape.has, WShape.arms, WShape.armsAll])
  (show (WTm.eq .res (.lit (.bool true))).value [] { args := args, res := some (.bool true), after := args } = some (.bool (true == true)) from w_eq_bool (w_res rfl) w_lit) rfl
theorem attach_call {l : OpenLaw} {n : Nat} {q : Program} {loose : List Str} {XP : (Str → Option Value) → Heap → Prop} {YP : World → Heap → Prop} {d : DefRec}
  (hn : l.most = some n) (hdf : d.params.defaults = [])
  (call : ∀ (w : World) (s₀ s₁ : Shared) (mg mb : Str → Option Value) (fa : Addr) (o : Obj) (pm cd doc : Value) (a : Addr) (vs : List Value) (ns : List Int),
   Ground q loose [] XP w s₀ mg mb s₁.heap → YP w s₁.heap →
   s₁.heap.get? fa = some o → o.data = .func (docDef d.name d.params d.body d.scope pm cd doc) → s₁.heap.CodeRec cd d.name → mg d.name = some (.ref fa) →
   s₁.heap.get? a = some { cls := .type "list", data := .seq vs.toArray } → IntsAre vs ns → ns.length ≤ n → s₁.gens = #[] →
   codeAny (model l.prog w) callerA (.call (.ref fa) ⟨[.ref a], []⟩) (fun r s' => r = .ok (.ret (.bool true)) ∧ OldK s₁.heap s'.heap ∧ s'.os = s₁.os ∧ AllBare s'.gens) s₁) :
  WalkO q loose XP YP l.row.toRowW d [] (fun f vs => PySem.call f vs) := by
 intro w s₀ s₁ mg mb G Y fa o pm cd doc dV kV ho hd hcd hD hmg hg args vals as hpre hlay hrd hwl hlo
 obtain rfl : dV = .none := Dflts.none hD hdf
 obtain rfl : kV = .none := Dflts.noKw hD
 obtain ⟨a, vs, ns, rfl, rfl, hobj, hints, hlen⟩ := ZM0 hn hpre hwl
 refine enter_call (codeAny_mono (call w s₀ s₁ mg mb fa o pm cd doc a vs ns G Y ho (fd_plain hd) hcd hmg hobj hints hlen hg) fun r s' hq => ?_)
 obtain ⟨rfl, h2, h3, h4⟩ := hq
 exact ⟨.inl ⟨.bool true, .bool true, [], rfl, fun _ => rfl, .bool true, ZM1 l _, fun _ => ⟨List.Pairwise.nil, fun _ hm => (nomatch hm)⟩⟩, h2, h3, h4⟩
section
variable {prog : Program} {w : World} {A : Around} {E : Value → Shared → Prop} {s : Shared} {K : Frag}
def ZT1 (h : Heap) (L d : Addr) : List (Addr × Obj) := (List.range h.objs.size).filterMap fun a => if a = L ∨ a = d then none else (h.get? a).map fun o => (a, o)
end
end Att
namespace L2
open PySem PySem.Spec PyProof.Rows
theorem ZI3 : ∀ {vs : List Value} {ns : List Int}, IntsAre vs ns → ZDG (ns.map V.int) vs
 | _, _, .nil => .nil
 | _, _, .cons n t h => .cons ⟨t, rfl⟩ (ZI3 h)
def ZOX (H : Hp) : Prop := ∀ b, H b = none ∨ ∃ o xs, H b = some (.frz o (.lst xs))
theorem ZOY {P : Program} {w : World} {K : W.Frag} {mg mb : Str → Option Value} {CX : CXT} {k : Nat} {fa a : Addr} {fd : FuncData} {x : Str} {sp : Sp} {s₁ : Shared} {vs : List Value} {ns : List Int}
  (KX : K.In s₁.heap) (hns : s₁.heap.Ns mainGlobals mg) (hb : s₁.heap.Ns builtinsNs mb) (hbb : ∀ x : Str, x ≠ "__name__" → mb x = bootBuiltins x) (hlim : s₁.heap.NoLimit) (hg : s₁.gens = #[])
  (ha : s₁.heap.get? a = some { cls := .type "list", data := .seq vs.toArray }) (hi : IntsAre vs ns) (hl : ns.length ≤ sizeLine) (hr : Room k callerA)
  (F : ∀ base : Heap, K.In base → base.Ns mainGlobals mg → ZDI P w K mg base CX k fa fd [x] sp) (hbind : ∀ (s : Shared) (u : Value), BindsTo s fd ⟨[u], []⟩ [(x, u)])
  (hsp : ∀ H : Hp, ZOX H → SqL K H a (ns.map V.int) → sp [.ref a] H (fun v _ => v = .bl true) fun _ _ _ => False)
  (hCX : ∀ H e s', CX [] H s₁ (fun _ _ _ => False) e s' → False) :
  codeAny (model P w) callerA (.call (.ref fa) ⟨[.ref a], []⟩) (fun r s' => r = .ok (.ret (.bool true)) ∧ OldK s₁.heap s'.heap ∧ s'.os = s₁.os ∧ AllBare s'.gens) s₁ := by
 have rv := ZI3 hi
 have lenV := hi.length
 -- from an abstract heap in which nothing but the script may be tracked
 have core : ∀ H : Hp, ZOX H → SqL K H a (ns.map V.int) → HOk P w H s₁.heap → (∀ b, H b ≠ none → b = a) → (H a ≠ none → K.lookup a = none) →
   codeAny (model P w) callerA (.call (.ref fa) ⟨[.ref a], []⟩) (fun r s' => r = .ok (.ret (.bool true)) ∧ OldK s₁.heap s'.heap ∧ s'.os = s₁.os ∧ AllBare s'.gens) s₁ := by
  intro H hO hS hok hA hK
  have base_of : ∀ {b : Addr} {o : Obj}, s₁.heap.get? b = some o → H b = none → (ZGI s₁.heap H).get? b = some o := fun e n => ZN0 e n
  have noA : ∀ {b : Addr} {o : Obj} {es : Array DictEntry} {ep : Nat}, s₁.heap.get? b = some o → o.data = .dict es ep → H b = none := fun {b o es ep} e d => by
   cases q : H b with
   | none => rfl
   | some u =>
    have e' : b = a := hA b (by rw [q]; simp)
    subst e'
    rw [ha] at e; cases e
    have d' : Data.seq vs.toArray _ = Data.dict es ep := d
    cases d'
  have nsK : ∀ {b : Addr} {m : Str → Option Value}, s₁.heap.Ns b m → (ZGI s₁.heap H).Ns b m := fun {b m} ⟨o, es, ep, e, d, r⟩ => ⟨o, es, ep, base_of e (noA e d), d, r⟩
  have hKb : K.In (ZGI s₁.heap H) := fun b o e => base_of (KX b o e) (by
   cases q : H b with
   | none => rfl
   | some u =>
    have e' : b = a := hA b (by rw [q]; simp)
    subst e'
    rw [hK (by rw [q]; simp)] at e; cases e)
  have hM : Mod K mg (ZGI s₁.heap H) := ⟨hKb, nsK hns, ⟨mb, nsK hb, hbb⟩, let ⟨mc, h1, h2⟩ := hlim; ⟨mc, nsK h1, h2⟩⟩
  have e0 : ZFJ P w K mg (ZGI s₁.heap H) callerA [] s₁ H := ⟨rfl, hM, fun b o e => ZPx e, Nat.le_of_eq (ZMk _ _), trivial, fun b hb => absurd (show b ∈ ([] : List Addr) from hb) (by simp), hok, .of_eq hg⟩
  refine codeAny_mono ((F _ hKb (nsK hns)).run callerA [] s₁ H ⟨[.ref a], []⟩ [.ref a] [.ref a] _ _ hr e0 (hbind s₁ (.ref a)) (.cons rfl .nil) (hsp H hO hS)) fun r s' h => ?_
  cases r with
  | error e => exact (hCX H e s' h).elim
  | ok fl =>
   cases fl with
   | next => exact False.elim h
   | brk => exact False.elim h
   | cont => exact False.elim h
   | ret u =>
    obtain ⟨v, H', os, bare, un, hok', r', q⟩ := h
    have q' : v = .bl true := q
    subst q'
    obtain rfl : u = Value.bool true := r'
    refine ⟨rfl, OldK.of_keep fun b o e => ?_, os, bare⟩
    cases q : H b with
    | none => exact un.keep b o e q (by intro z; exact absurd (show b ∈ ([] : List Addr) from z) (by simp)) (by simp)
    | some u =>
     rcases hO b with z | ⟨ob, xs, z⟩
     ·rw [q] at z; cases z
     ·have z2 := un.frzs b ob _ z
      obtain ⟨e1, _⟩ := hok b _ z
      obtain ⟨e2, _⟩ := hok' b _ z2
      rw [e] at e1; cases e1
      exact e2
 cases hk : K.lookup a with
 | some o =>
  -- the script is one of the module's own objects
  have e := KX a o hk
  rw [ha] at e
  cases e
  refine core (fun _ => none) (fun _ => .inl rfl) (.inr ⟨_, vs.toArray, _, hk, rfl, rfl, rfl, by rw [List.size_toArray, lenV]; exact hl, by simpa using rv⟩) (fun b u z => by have z' : (none : Option HO) = some u := z; cases z') (fun b z => absurd rfl z) fun z => absurd rfl z
 | none =>
  refine core (fun b => if b = a then some (.frz { cls := .type "list", data := .seq vs.toArray } (.lst (ns.map V.int))) else none) (fun b => ?_) (.inl (.inr ⟨{ cls := .type "list", data := .seq vs.toArray }, if_pos rfl⟩)) (fun b u z => ?_) (fun b z => ?_) fun _ => hk
  ·by_cases hb : b = a
   ·exact .inr ⟨_, _, if_pos hb⟩
   ·exact .inl (if_neg hb)
  ·by_cases hb : b = a
   ·have z' := (if_pos hb).symm.trans z
    cases z'
    subst hb
    exact ⟨ha, by rw [List.length_map]; exact hl, vs, _, rv, ha⟩
   ·have z' := (if_neg hb).symm.trans z
    cases z'
  ·by_cases hb : b = a
   ·exact hb
   ·exact absurd (if_neg hb) z
theorem walk_of {l : PySem.W.OpenLaw} {n k : Nat} {q : Program} {loose : List Str} {XP : (Str → Option Value) → Heap → Prop} {YP : World → Heap → Prop} {d : DefRec} {K : Params → W.Frag} {CX : World → CXT} {sp : World → Sp} {x : Str}
  (hn : l.most = some n) (hn2 : n ≤ sizeLine) (hdf : d.params.defaults = []) (hr : Room k callerA)
  (hY : ∀ (w : World) (h : Heap), YP w h → (K w.params).In h)
  (F : ∀ (w : World) (mg : Str → Option Value) (fa : Addr) (h : Heap), (K w.params).In h → h.Ns mainGlobals mg → mg d.name = some (.ref fa) →
   ∃ fd : FuncData, (∀ (s : Shared) (u : Value), BindsTo s fd ⟨[u], []⟩ [(x, u)]) ∧
    ∀ base : Heap, (K w.params).In base → base.Ns mainGlobals mg → ZDI l.prog w (K w.params) mg base (CX w) k fa fd [x] (sp w))
  (hsp : ∀ (w : World) (H : Hp) (a : Addr) (ns : List Int), ns.length ≤ n → ZOX H → SqL (K w.params) H a (ns.map V.int) → sp w [.ref a] H (fun v _ => v = .bl true) fun _ _ _ => False)
  (hCX : ∀ (w : World) (H : Hp) (s : Shared) (e : Value) (s' : Shared), CX w [] H s (fun _ _ _ => False) e s' → False) :
  PySem.W.WalkO q loose XP YP l.row.toRowW d [] (fun f vs => PySem.call f vs) := by
 refine Att.attach_call hn hdf fun w s₀ s₁ mg mb fa o pm cd doc a vs ns G Y ho hd hcd hmg hobj hints hlen hg => ?_
 have KX := hY w _ Y
 obtain ⟨fd, hb, hF⟩ := F w mg fa _ KX G.T.g hmg
 exact ZOY KX G.T.g G.T.b G.T.builtins G.T.nolimit hg hobj hints (Nat.le_trans hlen hn2) hr hF hb (fun H hO hS => hsp w H a ns hlen hO hS) fun H e s' => hCX w H s₁ e s'
end L2
namespace L2
open PySem PySem.Spec PyProof.Rows
def ZDU (s : Stmt) (j : Nat) : Stmt := match s with
 | .ClassDef _ _ _ body _ _ _ _ _ _ _ => body.getD j (.Pass ⟨0, 0, 0, 0⟩)
 | _ => .Pass ⟨0, 0, 0, 0⟩
def ZDr (s : Stmt) : Arguments := match s with
 | .FunctionDef _ a _ _ _ _ _ _ _ _ => a
 | _ => { posonlyargs := [], args := [], vararg := none, kwonlyargs := [], kw_defaults := [], kwarg := none, defaults := [] }
def ZDg (s : Stmt) : List Stmt := match s with
 | .FunctionDef _ _ b _ _ _ _ _ _ _ => b
 | _ => []
def ZC9 (s : Stmt) : Scope := match s with
 | .FunctionDef _ _ _ _ _ _ sc _ _ _ => sc
 | _ => { kind := .function, names := [], isGenerator := false, isCoroutine := false }
abbrev CX0 : CXT := fun _ _ _ _ _ _ => False
abbrev E0 : XK := fun _ _ _ => False
theorem ZD2 {X : Cx} : ZED CX0 X E0 := fun _ _ _ _ _ _ _ h => h.elim
structure Fun (K : W.Frag) (x qual : Str) (st : Stmt) (f : Addr) (fd : FuncData) : Prop where
 ex : ∃ (oc : Value) (od : Option Addr) (kV doc pm : Value) (an : Option Addr) (cdv ct : Value) (osl : Array (Option Value)),
  fd = W.fnOf x qual (ZDr st) (ZDg st) (ZC9 st) .none kV doc pm an cdv ct ∧ K.lookup f = some ⟨oc, od, .func fd, osl⟩ ∧ W.codeIn K cdv qual = true
 kp : W.keepIn K (.ref f) = true
section
variable {P : Program} {w : World} {K : W.Frag} {mg : Str → Option Value} {base : Heap}
theorem Fun.ok {x qual : Str} {st : Stmt} {f : Addr} {fd : FuncData} {N ps : List Str} {k : Nat} {sp : Sp} (F : Fun K x qual st f fd) (S : ZDL N ps (ZC9 st)) (len : ∀ vs H Q E, sp vs H Q E → vs.length = ps.length)
  (hbody : ∀ (cdv : Value) (A : Around) (outer : List Env) (s : Shared) (H : Hp) (vs : List V) (Q : VK) (E : XK), Room k (A.deeper (envOfC qual (ZC9 st) s.heap.objs.size f cdv)) → sp vs H Q E →
   ∃ t, PSs (ZFs CX0 P w K mg base N qual (ZC9 st) f cdv A outer s H E).nox (ZDg st) t ∧ t { nx := fun _ H' => Q .non H', rt := Q } (start N vs) H) : ZDI P w K mg base CX0 (k + 1) f fd ps sp := by
 obtain ⟨oc, od, kV, doc, pm, an, cdv, ct, osl, rfl, lk, hcd⟩ := F.ex
 refine ZL3 lk hcd S len fun A outer s H vs Q E hr hsp => ?_
 obtain ⟨t, h, q⟩ := hbody cdv A outer s H vs Q E hr hsp
 exact ⟨t, h.nox, q⟩
theorem Fun.binds {x qual : Str} {st : Stmt} {f : Addr} {fd : FuncData} {ps : List Str} (F : Fun K x qual st f fd)
  (h : ∀ (kV doc pm : Value) (an : Option Addr) (cdv ct : Value) (us : List Value), us.length = ps.length → bindArgs (W.fnOf x qual (ZDr st) (ZDg st) (ZC9 st) .none kV doc pm an cdv ct) ⟨us, []⟩ = pure (ps.zip us)) : ZDE K fd ps [] := by
 obtain ⟨oc, od, kV, doc, pm, an, cdv, ct, osl, rfl, lk, hcd⟩ := F.ex
 exact .all (h kV doc pm an cdv ct)
theorem fun_mk {x qual : Str} {st : Stmt} {f : Addr} {oc : Value} {od an : Option Addr} {osl : Array (Option Value)} {kV doc pm cdv ct : Value} (l : K.lookup f = some ⟨oc, od, .func (W.fnOf x qual (ZDr st) (ZDg st) (ZC9 st) .none kV doc pm an cdv ct), osl⟩)
 (c : W.codeIn K cdv qual = true) (k : W.keepIn K (.ref f) = true) : Fun K x qual st f (W.fnOf x qual (ZDr st) (ZDg st) (ZC9 st) .none kV doc pm an cdv ct) := ⟨⟨oc, od, kV, doc, pm, an, cdv, ct, osl, rfl, l, c⟩, k⟩
end
theorem ZHM {A : Around} {k : Nat} (hr : Room k A) : A.units + 1 < cLine := Nat.lt_of_le_of_lt (Nat.add_le_add_left (by decide : 1 ≤ 64) _) hr.units
theorem ZEc {A B : Prop} (h : B) : if false = true then A else B := by
 rw [if_neg Bool.false_ne_true]
 exact h
theorem ZE1 {A B : Prop} (h : A) : if true = true then A else B := by
 rw [if_pos rfl]
 exact h
def ZDC (H H' : Hp) : Prop := ∀ b o, H b = some o → H' b = some o
theorem ZDC.refl (H : Hp) : ZDC H H := fun _ _ h => h
theorem ZDC.trans {H H1 H2 : Hp} (a : ZDC H H1) (b : ZDC H1 H2) : ZDC H H2 := fun c o h => b c o (a c o h)
theorem ZDC.seq {K : W.Frag} {H H' : Hp} {a : Addr} {xs : List V} (e : ZDC H H') (h : SqL K H a xs) : SqL K H' a xs := by
 rcases h with (h | ⟨o, h⟩) | h
 ·exact .inl (.inl (e _ _ h))
 ·exact .inl (.inr ⟨o, e _ _ h⟩)
 ·exact .inr h
end L2
namespace L2
open PySem PySem.Spec PyProof.Rows PySem.W
def evT (c : Nat → Nat → Bool) {α : Type} : KasT α → α
 | .ret a => a
 | .ask i j k => evT c (k (c i j))
theorem ZE2 (c : Nat → Nat → Bool) {α β : Type} (f : α → KasT β) : ∀ t : KasT α, evT c (t.bind f) = evT c (f (evT c t))
 | .ret _ => rfl
 | .ask i j k => ZE2 c f (k (c i j))
abbrev gt0 (p : Array Nat) (i : Nat) : Nat := p.getD i 0
section
variable {c : Nat → Nat → Bool} {n : Nat}
structure Ord (c : Nat → Nat → Bool) (n : Nat) : Prop where
 tr : ∀ i j k, c i j = true → c j k = true → c i k = true
 asy : ∀ i j, c i j = true → c j i = false
 tot : ∀ i j, i < n → j < n → i ≠ j → c i j = false → c j i = true
structure Ixs (p : Array Nat) (n : Nat) : Prop where
 size : p.size = n
 lt : ∀ i, i < n → gt0 p i < n
 inj : ∀ i j, i < n → j < n → gt0 p i = gt0 p j → i = j
theorem ZII {p : Array Nat} {i v : Nat} (h : p[i]? = some v) : gt0 p i = v := by
 simp [gt0, h]
theorem ZEs {p : Array Nat} {i : Nat} (h : i < p.size) : p[i]? = some (gt0 p i) := by
 simp [gt0, h]
theorem Ixs.of_perm {p : Array Nat} (h : p.toList.Perm (List.range n)) : Ixs p n := by
 have hs : p.size = n := by have := h.length_eq; simpa using this
 refine ⟨hs, fun i hi => ?_, fun i j hi hj e => ?_⟩
 ·have hm : gt0 p i ∈ p.toList := by
   have := ZEs (p := p) (i := i) (by omega)
   exact Array.mem_toList_iff.mpr (Array.mem_of_getElem? this)
  exact List.mem_range.mp (h.mem_iff.mp hm)
 ·have hn : p.toList.Nodup := h.nodup_iff.mpr List.nodup_range
  have h1 : p.toList[i]? = some (gt0 p i) := by rw [Array.getElem?_toList]; exact ZEs (by omega)
  have h2 : p.toList[j]? = some (gt0 p i) := by rw [Array.getElem?_toList, e]; exact ZEs (by omega)
  have hi' : i < p.toList.length := by simp; omega
  have hj' : j < p.toList.length := by simp; omega
  rw [List.getElem?_eq_getElem hi'] at h1
  rw [List.getElem?_eq_getElem hj'] at h2
  have hpw := List.pairwise_iff_getElem.mp (List.nodup_iff_pairwise_ne.mp hn)
  have ee : p.toList[i] = p.toList[j] := by rw [Option.some.inj h1, Option.some.inj h2]
  rcases Nat.lt_trichotomy i j with z | z | z
  ·exact absurd ee (hpw i j hi' hj' z)
  ·exact z
  ·exact absurd ee.symm (hpw j i hj' hi' z)
def Up (c : Nat → Nat → Bool) (p : Array Nat) (m : Nat) : Prop := ∀ a b, a < b → b < m → c (gt0 p a) (gt0 p b) = true
theorem ZHZ (O : Ord c n) {p : Array Nat} {m : Nat} (h : ∀ i, 1 ≤ i → i < m → c (gt0 p (i - 1)) (gt0 p i) = true) : Up c p m := by
 intro a b hab hb
 obtain ⟨d, rfl⟩ := Nat.exists_eq_add_of_lt hab
 induction d with
 | zero => have := h (a + 1) (by omega) hb; simpa using this
 | succ d ih =>
  have h1 := ih (by omega) (by omega)
  have h2 := h (a + (d + 1) + 1) (by omega) hb
  have e : a + (d + 1) + 1 - 1 = a + d + 1 := by omega
  rw [e] at h2
  exact O.tr _ _ _ h1 h2
theorem ZIJ (p : Array Nat) : ∀ (f a : Nat), a ≤ evT c (kas_asc p f a) ∧ evT c (kas_asc p f a) ≤ a + f ∧ (∀ i, a ≤ i → i < evT c (kas_asc p f a) → c (gt0 p i) (gt0 p (i - 1)) = false) ∧
  (evT c (kas_asc p f a) = a + f ∨ c (gt0 p (evT c (kas_asc p f a))) (gt0 p (evT c (kas_asc p f a) - 1)) = true)
 | 0, a => ⟨Nat.le_refl _, Nat.le_refl _, fun i h1 h2 => absurd h2 (by show ¬ i < a; omega), .inl rfl⟩
 | f + 1, a => by
  have e : evT c (kas_asc p (f + 1) a) = evT c (if c (gt0 p a) (gt0 p (a - 1)) = true then KasT.ret a else kas_asc p f (a + 1)) := rfl
  rw [e]
  cases hc : c (gt0 p a) (gt0 p (a - 1)) with
  | true =>
   rw [if_pos rfl]
   exact ⟨Nat.le_refl _, Nat.le_add_right _ _, fun i h1 h2 => absurd h2 (by show ¬ i < a; omega), .inr hc⟩
  | false =>
   rw [if_neg (by decide)]
   obtain ⟨h1, h2, h3, h4⟩ := ZIJ p f (a + 1)
   refine ⟨by omega, by omega, fun i g1 g2 => ?_, ?_⟩
   ·by_cases z : i = a
    ·rw [z]; exact hc
    ·exact h3 i (by omega) g2
   ·rcases h4 with h4 | h4
    ·left; omega
    ·right; exact h4
theorem ZLS (O : Ord c n) {p : Array Nat} (P : Ixs p n) : ∀ (f a : Nat), 1 ≤ a → a + f ≤ n → ∃ m, evT c (kas_desc f p a 0) = (p, m, 0) ∧ a ≤ m ∧ m ≤ a + f ∧ ∀ i, a ≤ i → i < m → c (gt0 p i) (gt0 p (i - 1)) = true
 | 0, a, _, _ => ⟨a, rfl, Nat.le_refl _, Nat.le_refl _, fun i h1 h2 => absurd h2 (by omega)⟩
 | f + 1, a, h1, h2 => by
  have e : evT c (kas_desc (f + 1) p a 0) = evT c (if c (gt0 p a) (gt0 p (a - 1)) = true then (if 0 > 0 then kas_desc f (kas_rev p (a - (0 + 1)) a) (a + 1) 0 else kas_desc f p (a + 1) 0)
   else .ask (p.getD (a - 1) 0) (p.getD a 0) fun d => if d = true then .ret (p, a, 0) else kas_desc f p (a + 1) (0 + 1)) := rfl
  rw [e]
  cases hc : c (gt0 p a) (gt0 p (a - 1)) with
  | true =>
   rw [if_pos rfl, if_neg (by decide)]
   obtain ⟨m, g1, g2, g3, g4⟩ := ZLS O P f (a + 1) (by omega) (by omega)
   refine ⟨m, g1, by omega, by omega, fun i k1 k2 => ?_⟩
   by_cases z : i = a
   ·rw [z]; exact hc
   ·exact g4 i (by omega) k2
  | false =>
   rw [if_neg (by decide)]
   have hd : c (gt0 p (a - 1)) (gt0 p a) = true := O.tot _ _ (P.lt _ (by omega)) (P.lt _ (by omega)) (fun z => by have := P.inj _ _ (by omega) (by omega) z; omega) hc
   have e2 : evT c (KasT.ask (p.getD (a - 1) 0) (p.getD a 0) fun d => if d = true then KasT.ret (p, a, 0) else kas_desc f p (a + 1) (0 + 1)) = evT c (if c (gt0 p (a - 1)) (gt0 p a) = true then KasT.ret (p, a, 0) else kas_desc f p (a + 1) (0 + 1)) := rfl
   rw [e2, hd, if_pos rfl]
   exact ⟨a, rfl, Nat.le_refl _, by omega, fun i k1 k2 => absurd k2 (by omega)⟩
theorem ZJo (p : Array Nat) (i j : Nat) : (kas_rev p i j).toList.Perm p.toList := Array.perm_iff_toList_perm.mp (mirror_perm p i j _)
theorem ZLT {p : Array Nat} {m : Nat} (hm : m ≤ p.size) (k : Nat) (hk : k < m) : gt0 (kas_rev p 0 m) k = gt0 p (m - 1 - k) := by
 refine ZII ?_
 have e : (kas_rev p 0 m)[k]? = if 0 ≤ k ∧ k < m then p[0 + m - 1 - k]? else p[k]? := getElem?_mirror_all (i := 0) hm k
 rw [e, if_pos ⟨by omega, hk⟩]
 have e2 : 0 + m - 1 - k = m - 1 - k := by omega
 rw [e2]
 exact ZEs (by omega)
theorem ZLU (O : Ord c n) {p : Array Nat} (P : Ixs p n) {m f : Nat} (h1 : 1 ≤ m) (h : Up c p m) (hf : m + f ≤ n) : Up c p (evT c (kas_asc p f m)) := by
 obtain ⟨g1, g2, g3, _⟩ := ZIJ (c := c) p f m
 refine ZHZ O fun i hi1 hi2 => ?_
 by_cases z : i < m
 ·exact h (i - 1) i (by omega) z
 ·have := g3 i (by omega) hi2
  exact O.tot _ _ (P.lt _ (by omega)) (P.lt _ (by omega)) (fun e => by have := P.inj _ _ (by omega) (by omega) e; omega) this
theorem ZOZ (O : Ord c n) {p : Array Nat} (hp : p.toList.Perm (List.range n)) (hn : 1 ≤ n) : (evT c (kas_count n p)).2.toList.Perm (List.range n) ∧ 1 ≤ (evT c (kas_count n p)).1 ∧ (evT c (kas_count n p)).1 ≤ n ∧ Up c (evT c (kas_count n p)).2 (evT c (kas_count n p)).1 := by
 have P := Ixs.of_perm hp
 unfold kas_count
 rw [ZE2]
 obtain ⟨g1, g2, g3, g4⟩ := ZIJ (c := c) p (n - 1) 1
 have hup := ZLU O P (m := 1) (f := n - 1) (Nat.le_refl _) (fun a b h1 h2 => by omega) (by omega)
 generalize hm : evT c (kas_asc p (n - 1) 1) = m at *
 by_cases h1 : (m == n) = true
 ·rw [if_pos h1]
  exact ⟨hp, g1, by show m ≤ n; omega, hup⟩
 ·rw [if_neg h1]
  have hmn : m < n := by
   have : m ≠ n := fun z => h1 (by simp [z])
   omega
  by_cases h2 : m > 1
  ·rw [if_pos h2]
   have hc : c (gt0 p 0) (gt0 p (m - 1)) = true := hup 0 (m - 1) (by omega) (by omega)
   have e : evT c (KasT.ask (p.getD 0 0) (p.getD (m - 1) 0) fun c => if c = true then KasT.ret (m, p) else kas_descPart m n (kas_rev p 0 m)) = evT c (if c (gt0 p 0) (gt0 p (m - 1)) = true then KasT.ret (m, p) else kas_descPart m n (kas_rev p 0 m)) := rfl
   rw [e, hc, if_pos rfl]
   exact ⟨hp, by show 1 ≤ m; omega, by show m ≤ n; omega, hup⟩
  ·rw [if_neg h2]
   have hm1 : m = 1 := by omega
   subst hm1
   have h10 : c (gt0 p 1) (gt0 p 0) = true := by
    rcases g4 with g4 | g4
    ·omega
    ·exact g4
   unfold kas_descPart
   rw [ZE2]
   obtain ⟨m, k1, k2, k3, k4⟩ := ZLS O P (n - (1 + 1)) (1 + 1) (by omega) (by omega)
   rw [k1]
   rw [if_neg (show ¬ ((p, m, 0) : Array Nat × Nat × Nat).2.2 > 0 by show ¬ 0 > 0; omega)]
   show (evT c (kas_tail3 m n p)).2.toList.Perm (List.range n) ∧ _
   unfold kas_tail3
   rw [ZE2]
   have hrp : (kas_rev p 0 m).toList.Perm (List.range n) := (ZJo p 0 m).trans hp
   have R := Ixs.of_perm hrp
   have hupr : Up c (kas_rev p 0 m) m := by
    refine ZHZ O fun i hi1 hi2 => ?_
    rw [ZLT (by rw [P.size]; omega) _ (by omega), ZLT (by rw [P.size]; omega) _ hi2]
    have e : m - 1 - (i - 1) = m - i := by omega
    have e2 : m - 1 - i = m - i - 1 := by omega
    rw [e, e2]
    by_cases z : m - i = 1
    ·rw [z]; exact h10
    ·exact k4 (m - i) (by omega) (by omega)
   have hfin := ZLU O R (m := m) (f := n - m) (by omega) hupr (by omega)
   obtain ⟨q1, q2, _, _⟩ := ZIJ (c := c) (kas_rev p 0 m) (n - m) m
   exact ⟨hrp, by show 1 ≤ evT c _; omega, by show evT c _ ≤ n; omega, hfin⟩
theorem ZHn (O : Ord c n) {p : Array Nat} (P : Ixs p n) {k : Nat} (hk : k < n) (h : Up c p k) : ∀ (f l r : Nat), l ≤ r → r ≤ k → r - l ≤ f → (∀ i, i < l → c (gt0 p i) (gt0 p k) = true) → (∀ i, r ≤ i → i < k → c (gt0 p k) (gt0 p i) = true) →
  ∃ m, evT c (kas_place p k f l r) = m ∧ m ≤ k ∧ (∀ i, i < m → c (gt0 p i) (gt0 p k) = true) ∧ (∀ i, m ≤ i → i < k → c (gt0 p k) (gt0 p i) = true)
 | 0, l, r, h1, h2, h3, h4, h5 => ⟨l, rfl, by omega, h4, fun i g1 g2 => h5 i (by omega) g2⟩
 | f + 1, l, r, h1, h2, h3, h4, h5 => by
  by_cases hlr : l ≥ r
  ·have e : evT c (kas_place p k (f + 1) l r) = l := by
    show evT c (if l ≥ r then KasT.ret l else _) = l
    rw [if_pos hlr]
    rfl
   exact ⟨l, e, by omega, h4, fun i g1 g2 => h5 i (by omega) g2⟩
  ·have e : evT c (kas_place p k (f + 1) l r) = evT c (if c (gt0 p k) (gt0 p ((l + r) / 2)) = true then kas_place p k f l ((l + r) / 2) else kas_place p k f ((l + r) / 2 + 1) r) := by
    show evT c (if l ≥ r then KasT.ret l else _) = _
    rw [if_neg hlr]
    rfl
   rw [e]
   cases hc : c (gt0 p k) (gt0 p ((l + r) / 2)) with
   | true =>
    rw [if_pos rfl]
    refine ZHn O P hk h f l ((l + r) / 2) (by omega) (by omega) (by omega) h4 fun i g1 g2 => ?_
    by_cases z : i = (l + r) / 2
    ·rw [z]; exact hc
    ·exact O.tr _ _ _ hc (h ((l + r) / 2) i (by omega) g2)
   | false =>
    rw [if_neg (by decide)]
    have hd : c (gt0 p ((l + r) / 2)) (gt0 p k) = true := O.tot _ _ (P.lt _ hk) (P.lt _ (by omega)) (fun z => by have := P.inj _ _ hk (by omega) z; omega) hc
    refine ZHn O P hk h f ((l + r) / 2 + 1) r (by omega) h2 (by omega) (fun i g1 => ?_) h5
    by_cases z : i = (l + r) / 2
    ·rw [z]; exact hd
    ·exact O.tr _ _ _ (h i ((l + r) / 2) (by omega) (by omega)) hd
theorem ZLV {p : Array Nat} {k l : Nat} (hk : k < p.size) (hl : l ≤ k) (i : Nat) (hi : i < p.size) : gt0 (bubble p k (k - l)) i = if i = l then gt0 p k else if l < i ∧ i ≤ k then gt0 p (i - 1) else gt0 p i := by
 refine ZII ?_
 rw [getElem?_bubble hk (k - l) (by omega)]
 have e : k - (k - l) = l := by omega
 rw [e]
 by_cases h1 : i = l
 ·rw [if_pos h1, if_pos h1]; exact ZEs hk
 ·rw [if_neg h1, if_neg h1]
  by_cases h2 : l < i ∧ i ≤ k
  ·rw [if_pos h2, if_pos h2]; exact ZEs (by omega)
  ·rw [if_neg h2, if_neg h2]; exact ZEs hi
theorem ZM2 (O : Ord c n) : ∀ (f : Nat) (p : Array Nat) (k : Nat), p.toList.Perm (List.range n) → k + f = n → Up c p k → (evT c (kas_bin f p k)).toList.Perm (List.range n) ∧ Up c (evT c (kas_bin f p k)) n
 | 0, p, k, hp, hk, h => by
  have e : k = n := by omega
  refine ⟨hp, ?_⟩
  show Up c p n
  rw [← e]
  exact h
 | f + 1, p, k, hp, hk, h => by
  have P := Ixs.of_perm hp
  show (evT c ((kas_place p k k 0 k).bind fun l => kas_bin f (bubble p k (k - l)) (k + 1))).toList.Perm (List.range n) ∧ Up c (evT c ((kas_place p k k 0 k).bind fun l => kas_bin f (bubble p k (k - l)) (k + 1))) n
  rw [ZE2]
  obtain ⟨m, e, g1, g2, g3⟩ := ZHn O P (k := k) (by omega) h k 0 k (by omega) (Nat.le_refl _) (by omega) (fun i hi => by omega) (fun i h1 h2 => by omega)
  rw [e]
  refine ZM2 O f (bubble p k (k - m)) (k + 1) ((Array.perm_iff_toList_perm.mp (bubble_perm p k _)).trans hp) (by omega) fun a b hab hb => ?_
  rw [ZLV (by rw [P.size]; omega) g1 a (by rw [P.size]; omega), ZLV (by rw [P.size]; omega) g1 b (by rw [P.size]; omega)]
  by_cases ha : a = m
  ·rw [if_pos ha, if_neg (by omega), if_pos ⟨by omega, by omega⟩]
   exact g3 (b - 1) (by omega) (by omega)
  ·rw [if_neg ha]
   by_cases hb2 : b = m
   ·rw [if_pos hb2, if_neg (by omega)]
    exact g2 a (by omega)
   ·rw [if_neg hb2]
    by_cases ha3 : m < a ∧ a ≤ k
    ·rw [if_pos ha3, if_pos ⟨by omega, by omega⟩]
     exact h (a - 1) (b - 1) (by omega) (by omega)
    ·rw [if_neg ha3]
     by_cases hb3 : m < b ∧ b ≤ k
     ·rw [if_pos hb3]
      by_cases z : a = b - 1
      ·omega
      ·exact h a (b - 1) (by omega) (by omega)
     ·rw [if_neg hb3]
      exact h a b hab (by omega)
theorem ZQM (O : Ord c n) (hn : 1 ≤ n) : (evT c (kas_sort n)).toList.Perm (List.range n) ∧ Up c (evT c (kas_sort n)) n := by
 unfold kas_sort
 rw [ZE2]
 obtain ⟨h1, h2, h3, h4⟩ := ZOZ O (p := List.toArray (List.range n)) (List.Perm.refl _) hn
 generalize evT c (kas_count n (List.toArray (List.range n))) = r at *
 by_cases h : r.1 < n
 ·rw [if_pos h]
  have e : max r.1 1 = r.1 := by omega
  rw [e]
  exact ZM2 O (n - r.1) r.2 r.1 h1 (by omega) h4
 ·rw [if_neg h]
  refine ⟨h1, ?_⟩
  have e : r.1 = n := by omega
  rw [e] at h4
  exact h4
end
section
variable {X : Cx}
theorem ZEV : OpR X (binaryOp .Mult) (rI IntMulOk fun i j => .int (i * j)) := opI fun _ _ _ _ _ _ _ hc q => mul_int q hc
def ZHN (_ j : Int) : Prop := 0 < j ∧ j.natAbs.log2 < 9000
theorem ZHo : OpR X (binaryOp .FloorDiv) (rI ZHN fun i j => .int (i / j)) := opI fun i j _ _ _ _ _ hc q => by
 have h1 : (0 : Int) < j := hc.1
 exact floordiv_int (by omega) (by rw [Int.fdiv_eq_ediv_of_nonneg i (by omega)]; exact q) (.inl (PyProof.noPylong_of_log2 hc.2))
theorem ZHN.of {i j : Int} (h : 0 < j) {k : Nat} (h2 : j < 2 ^ k) (hk : k ≤ 9000) : ZHN i j := by
 refine ⟨h, ?_⟩
 have h3 : j.natAbs < 2 ^ k := by
  have e : ((j.natAbs : Nat) : Int) = j := by omega
  have e2 : ((2 ^ k : Nat) : Int) = (2 : Int) ^ k := by simp
  have : ((j.natAbs : Nat) : Int) < ((2 ^ k : Nat) : Int) := by rw [e, e2]; exact h2
  exact Int.ofNat_lt.mp this
 have h4 : j.natAbs.log2 < k := (Nat.log2_lt (by omega)).mpr h3
 omega
theorem ZTq {i j : Int} (h1 : -(2 ^ 64) < i) (h2 : i < 2 ^ 64) : IntMulOk i j := .of_left (intBits_le_64 h1 h2)
theorem ZTr {i j : Int} (h1 : -(2 ^ 64) < j) (h2 : j < 2 ^ 64) : IntMulOk i j := .of_right (intBits_le_64 h1 h2)
theorem ZIK : ∀ {bs : List Bool} {us : List Value}, ZDG (bs.map V.bl) us → ∀ (i : Nat) (v : Value), us[i]? = some v → ∃ b, bs[i]? = some b ∧ v = .bool b
 | [], _, .nil, i, v, h => by simp at h
 | b :: bs, _, .cons r t, 0, v, h => by
  simp at h; subst h
  exact ⟨b, rfl, r⟩
 | b :: bs, _, .cons r t, i + 1, v, h => by
  simpa using ZIK t i v (by simpa using h)
theorem ZOa (hc : X.calm = true) : ZDb X (.builtin "all") (fun xs H Q => ∃ (p : Addr) (bs : List Bool), xs = [.ref p] ∧ SqL X.K H p (bs.map V.bl) ∧ Q (.bl (bs.all id)) H) := by
 intro pins s σ H xs us Q I r h
 obtain ⟨p, bs, rfl, hq, q⟩ := h
 cases r with
 | cons r1 r2 =>
 cases r2
 cases r1
 obtain ⟨its, rv, pl, hz⟩ := I.list hq
 have hl : s.heap.IsList p its.toArray := pl.isList
 have hlt : p < s.heap.objs.size := by obtain ⟨_, e, _⟩ := hl; exact Heap.lt_size e
 refine call_all_walk (wpAny_pyIter_list hl ?_)
 refine ⟨s.heap.objs.size, [s.heap.objs.size, p], [s.heap.objs.size], its.toArray.size, _, _, fun i => (bs[i]?).getD true, rfl, Walks.list (A := X.A.in1) (I.ok.hd hc) _ p (Nat.ne_of_lt hlt) its.toArray,
  ⟨⟨_, Heap.get?_push_size _ rfl, rfl, rfl⟩, hl.push _⟩, fun i v s' Q' E' hP hQ => ?_, fun h' tk hk => ?_⟩
 ·obtain ⟨b, e, rfl⟩ := ZIK rv i v (by simpa using hP)
  simp only [e, Option.getD_some] at hQ
  exact wpAny_truthy_bool hQ
 ·have e : ((List.range its.toArray.size).all fun i => (bs[i]?).getD true) = bs.all id := by
   have hl2 := rv.length
   rw [List.length_map] at hl2
   rw [List.size_toArray, ← hl2]; exact PyProof.Rows.LSm.range_all bs
  rw [e]
  refine ⟨.bl _, H, I.kept fun b x e => hk b x (fun hm => by rw [List.mem_singleton.mp hm] at e; exact Nat.lt_irrefl _ (Heap.lt_size e)) (Heap.get?_push_of_some _ e), rfl, q⟩
def ZOb (K : W.Frag) : List V → Hp → VK → Prop := fun xs H Q => ∃ x n t b, xs = [x, .ty n] ∧ ZEx K H x t ∧ W.kitOne K t (.type n) = some b ∧ Q (.bl b) H
theorem ZOc : ZDb X (.builtin "isinstance") (ZOb X.K) := by
 intro pins s σ H xs us Q I r h
 obtain ⟨x, n, t, b, rfl, ty, e, q⟩ := h
 obtain ⟨u, v, rfl, ru, rv⟩ := r.two
 obtain rfl : v = Value.type n := rv
 exact ZMx I ru ty e fun tk => ⟨.bl b, H, I.tok _, rfl, q⟩
end
theorem ZJL {l : List (Str × Addr)} {x : Str} {c : Addr} (h : (x, c) ∈ l) : ∃ d, l.lookup x = some d := by
 induction l with
 | nil => cases h
 | cons p r ih =>
  obtain ⟨y, d⟩ := p
  cases hx : x == y with
  | true => exact ⟨d, by simp [List.lookup_cons, hx]⟩
  | false =>
   have hr : (x, c) ∈ r := by
    rcases List.mem_cons.mp h with e | e
    ·cases e
     simp at hx
    ·exact e
   obtain ⟨d', e⟩ := ih hr
   exact ⟨d', by simp only [List.lookup_cons, hx]; exact e⟩
theorem ZFY {env : Env} : ∀ (names : List (Str × NameKind)) (acc : List (Str × Addr)), (∀ y ∈ names, y.2 = NameKind.free → ∃ c, env.cells.lookup y.1 = some c) → (∀ p ∈ acc, env.cells.lookup p.1 = some p.2) →
  ∃ cl : List (Str × Addr), (forIn names acc fun (x : Str × NameKind) (r : List (Str × Addr)) => (match x with | (name, kind) => if (kind == NameKind.free) = true then (do let a ← cellOf env name; pure (ForInStep.yield ((name, a) :: r))) else pure (ForInStep.yield r) : Sem (ForInStep (List (Str × Addr))))) = pure cl
   ∧ (∀ p ∈ cl, env.cells.lookup p.1 = some p.2) ∧ (∀ p ∈ acc, p ∈ cl) ∧ ∀ y ∈ names, y.2 = NameKind.free → ∃ c, (y.1, c) ∈ cl
 | [], acc, _, ha => ⟨acc, by simp, ha, fun _ h => h, fun y h => by cases h⟩
 | (n, k) :: r, acc, h, ha => by
  by_cases hk : k = NameKind.free
  ·subst hk
   obtain ⟨c, hc⟩ := h (n, .free) List.mem_cons_self rfl
   obtain ⟨cl, e, h1, h2, h3⟩ := ZFY r ((n, c) :: acc) (fun y hy => h y (List.mem_cons_of_mem _ hy)) (fun p hp => by
    rcases List.mem_cons.mp hp with rfl | hp
    ·exact hc
    ·exact ha p hp)
   refine ⟨cl, ?_, h1, fun p hp => h2 p (List.mem_cons_of_mem _ hp), fun y hy hf => ?_⟩
   ·rw [List.forIn_cons]
    simp only [beq_self_eq_true, if_true, cellOf, hc, pure_bind]
    exact e
   ·rcases List.mem_cons.mp hy with rfl | hy
    ·exact ⟨c, h2 _ List.mem_cons_self⟩
    ·exact h3 y hy hf
  ·obtain ⟨cl, e, h1, h2, h3⟩ := ZFY r acc (fun y hy => h y (List.mem_cons_of_mem _ hy)) ha
   have hb : (k == NameKind.free) = false := by simpa using hk
   refine ⟨cl, ?_, h1, h2, fun y hy hf => ?_⟩
   ·rw [List.forIn_cons]
    simp only [hb, Bool.false_eq_true, if_false, pure_bind]
    exact e
   ·rcases List.mem_cons.mp hy with rfl | hy
    ·exact absurd hf hk
    ·exact h3 y hy hf
theorem ZL8 {scope : Scope} {env : Env} (h : ∀ y ∈ scope.names, y.2 = NameKind.free → ∃ c, env.cells.lookup y.1 = some c) :
  ∃ cl, closureFor scope env = pure cl ∧ (∀ x c, cl.lookup x = some c → env.cells.lookup x = some c) ∧ ∀ y ∈ scope.names, y.2 = .free → ∃ c, cl.lookup y.1 = some c := by
 obtain ⟨cl, e, h1, _, h3⟩ := ZFY scope.names [] h (fun p hp => by cases hp)
 refine ⟨cl, ?_, fun x c hx => h1 (x, c) (PySem.mem_of_lookup hx), fun y hy hf => ?_⟩
 ·simp only [closureFor]
  rw [e]
  rfl
 ·obtain ⟨c, hc⟩ := h3 y hy hf
  exact ZJL hc
theorem ZF5 {env : Env} : ∀ (names : List (Str × NameKind)) (x : Str),
  (names.map fun (n, k) => if (k == NameKind.free && env.scope.kind == .function && env.kindOf n == some .cell) then (n, NameKind.cell) else (n, k)).lookup x =
   (names.lookup x).map fun k => if (k == NameKind.free && env.scope.kind == .function && env.kindOf x == some .cell) then NameKind.cell else k
 | [], _ => rfl
 | (n, k) :: r, x => by
  have ih := ZF5 (env := env) r x
  show List.lookup x ((if (k == NameKind.free && env.scope.kind == .function && env.kindOf n == some .cell) = true then (n, NameKind.cell) else (n, k)) :: _) = _
  cases hx : x == n with
  | true =>
   have e : x = n := eq_of_beq hx
   subst e
   by_cases hc : (k == NameKind.free && env.scope.kind == .function && env.kindOf x == some .cell) = true
   ·rw [if_pos hc]
    simp only [List.lookup_cons, beq_self_eq_true, Option.map_some]
    rw [if_pos hc]
   ·rw [if_neg hc]
    simp only [List.lookup_cons, beq_self_eq_true, Option.map_some]
    rw [if_neg hc]
  | false =>
   by_cases hc : (k == NameKind.free && env.scope.kind == .function && env.kindOf n == some .cell) = true
   ·rw [if_pos hc]; simp only [List.lookup_cons, hx]; exact ih
   ·rw [if_neg hc]; simp only [List.lookup_cons, hx]; exact ih
structure ZM3 (N : List Str) (sc : Scope) (own caps : List Str) (ks : List Nat) (scope : Scope) : Prop where
 kind : scope.kind = .function
 nocell : ∀ y ∈ scope.names, y.2 ≠ .cell
 names : ∀ y ∈ scope.names, y.2 = .local → scope.names.lookup y.1 = some .local
 free : ∀ y ∈ scope.names, y.2 = .free → sc.names.lookup y.1 = some .cell
 nd : (own ++ caps).Nodup
 cap : ks.map (fun k => N[k]?) = caps.map some
 fr : ∀ x ∈ caps, scope.names.lookup x = some .free
def ZD8 (X : Cx) (N' : List Str) (scope : Scope) (cl : List (Str × Addr)) (C : Addr) (s₂ : Shared) (H₂ : Hp) (fp : List Addr) : Cx :=
 { X with N := N', s₀ := s₂, H₀ := H₂, env := compEnvC scope cl C X.env, outer := X.stack, stack := X.stack, ex := fp, fn := fun _ => false, pn := [], xe := fun _ _ => False }
def ZGK (own : Nat) (ks : List Nat) (σ : St) : St := List.replicate own none ++ ks.map fun k => (σ[k]?).join
section
variable {prog : Program} {w : World} {A : Around} {R : Result → Shared → Prop} {s : Shared}
theorem ZGL {elt target iter : Expr} {ifs : List Expr} {scope : Scope} {pos : Pos} {it acc : Value} {env : Env} (I : Nat → Shared → Prop)
  (turn : ∀ n s, I n s → wpAny (model prog w) A (pyNext it) (fun r s₁ => match r with
   | none => R (.ok .next) s₁
   | some v => wpAny (model prog w) A (letOwnedTupleGo target it v) (fun _ s₁' => wpAny (model prog w) A (assign target env v) (fun _ s₂ =>
    wpAny (model prog w) A (forIn ifs true fun c r => if r = true then do let ok ← isTrue c env (eval c env); pure (ForInStep.yield ok) else pure (ForInStep.yield r)) (fun ok s₃ =>
     if ok = true then wpAny (model prog w) A (eval elt env) (fun x s₄ =>
      wpAny (model prog w) A (call (.builtin "list.append") [acc, x]) (fun _ s₅ => ∃ m, m < n ∧ I m s₅) (notedBy (model prog w) A env fun e s' => R (.error e) s') s₄) (notedBy (model prog w) A env fun e s' => R (.error e) s') s₃
     else ∃ m, m < n ∧ I m s₃) (notedBy (model prog w) A env fun e s' => R (.error e) s') s₂) (notedBy (model prog w) A env fun e s' => R (.error e) s') s₁') (notedBy (model prog w) A env fun e s' => R (.error e) s') s₁) (notedBy (model prog w) A env fun e s' => R (.error e) s') s)
  (n : Nat) (h : I n s) :
  codeAny (model prog w) A (.compLoop (.ListComp elt [⟨target, iter, ifs, 0⟩] scope pos) 0 it acc env) R s := by
 refine codeAny_loop rfl I (fun n s hI => ?_) n h
 show wpAny _ A ((compTurn (.ListComp elt [⟨target, iter, ifs, 0⟩] scope pos) 0 it acc env).onRaise (fun x => do noteFrame x env; theTreesLotGoes x)) _ _ s
 refine wpAny_noted ?_
 rw [compTurn_list]
 refine wpAny_bind (wpAny_standAt (wpAny_bind (wpAny_mono (turn n s hI) (fun r s₁ h₁ => ?_) fun _ _ h' => h')))
 cases r with
 | none => exact wpAny_pure h₁
 | some v =>
  refine wpAny_bind (wpAny_mono h₁ (fun _ s₁' h₁' => ?_) fun _ _ h' => h')
  refine wpAny_bind (wpAny_mono h₁' (fun _ s₂ h₂ => wpAny_bind (wpAny_mono h₂ (fun ok s₃ h₃ => ?_) fun _ _ h' => h')) fun _ _ h' => h')
  cases ok with
  | false => exact wpAny_pure ⟨rfl, h₃⟩
  | true =>
   exact wpAny_bind (wpAny_bind (wpAny_mono h₃ (fun x s₄ h₄ => wpAny_bind (wpAny_mono h₄ (fun _ s₅ h₅ => wpAny_pure (wpAny_pure ⟨rfl, h₅⟩)) fun _ _ h' => h')) fun _ _ h' => h'))
end
def ZOd (X : Cx) (ifs : List Expr) (t : TT) : Prop :=
 ∀ (pins : List (Addr × Obj)) (s : Shared) (σ : St) (H : Hp) (Q : Bool → Hp → Prop), Inv X pins σ H s → t σ H Q →
  wpAny (model X.prog X.w) X.A (forIn ifs true fun c r => if r = true then do let ok ← isTrue c X.env (eval c X.env); pure (ForInStep.yield ok) else pure (ForInStep.yield r)) (TP X pins σ Q) X.xe s
def ZL9 : TT := fun _ H Q => Q true H
section
variable {X : Cx}
theorem ZOe : ZOd X [] ZL9 := fun _ _ _ H _ I h => wpAny_tests_nil ⟨H, I, h⟩
def ZMA (own : Nat) (ks : List Nat) (wi : TI) (g : TG) (tt : TT) (te : TE) : TE := fun σ H Q => wi σ H fun J H1 => ∀ l, H1 l = none →
 ∃ W : Nat → Nat → St → Hp → Prop, (∃ m, W 0 m (ZGK own ks σ) (upd H1 l (.lst []))) ∧ ∀ i m σ' H', W i m σ' H' →
  (J.stop i H' ∧ Q (.ref l) H') ∨ (J.go i H' ∧ ∃ N : St → Hp → Prop, (∀ σ2 H2, N σ2 H2 → ∃ m', m' < m ∧ W (i + 1) m' σ2 H2) ∧
   ∀ x H'', J.yld i H' x H'' → g x σ' H'' fun σ2 H2 => tt σ2 H2 fun b H3 =>
    if b = true then te σ2 H3 fun v H4 => ∃ xs, H4 l = some (.lst xs) ∧ xs.length < sizeLine ∧ N σ2 (upd H4 l (.lst (xs ++ [v]))) else N σ2 H3)
theorem ZM4 {α : Type} {o : Option (Option α)} {v : α} (h : o.join = some v) : o = some (some v) := by
 cases o with
 | none => cases h
 | some x => exact congrArg some h
theorem ZQN {N : List Str} {sc : Scope} {own caps : List Str} {ks : List Nat} {elt tg iter : Expr} {ifs : List Expr} {scope : Scope} {pos : Pos} {wi : TI} {g : TG} {tt : TT} {te : TE}
  (hN : X.N = N) (hsc : X.env.scope = sc) (hc : X.calm = true) (S : ZM3 N sc own caps ks scope) (hi : PI X tg iter wi)
  (hg : ∀ cl C s₂ H₂ fp, PG (ZD8 X (own ++ caps) scope cl C s₂ H₂ fp) tg g)
  (ht : ∀ cl C s₂ H₂ fp, ZOd (ZD8 X (own ++ caps) scope cl C s₂ H₂ fp) ifs tt)
  (he : ∀ cl C s₂ H₂ fp, PE (ZD8 X (own ++ caps) scope cl C s₂ H₂ fp) elt te)
  (hs : ∀ x, foldedSetIterable iter X.env x = pure x := by intro _; rfl) :
  PE X (.ListComp elt [⟨tg, iter, ifs, 0⟩] scope pos) (ZMA own.length ks wi g tt te) := by
 intro pins s σ H Q I h
 subst hN hsc
 rw [eval_ListComp]
 obtain ⟨cl, hclos, hcl, hclf⟩ := ZL8 (scope := scope) (env := X.env) fun y hy hf => I.ok.has y.1 (.inl (S.free y hy hf))
 refine wpAny_comprehension_free (use := none) rfl hs hclos S.kind S.names (wpAny_mono (hi pins s σ H _ I h) (fun xv s₁ h₁ => wpAny_mono h₁ (fun it s₂ h₂ => ?_) fun _ _ e => e) fun _ _ e => e)
 obtain ⟨it, fp, tn, J, H2, e, I2, T, st2, f2, q⟩ := h₂
 subst e
 refine wpAny_newObj_type (wpAny_newFunctionEnv S.nocell (by intro y hy; simp at hy) (fun h₁ hns₁ hsb₁ => ?_) S.kind)
 dsimp only at hns₁ hsb₁ ⊢
 generalize hH2 : s₂.heap.push { cls := .type "list", dict := none, data := .seq ([] : List Value).toArray } = HP at hns₁ hsb₁ ⊢
 have hC : HP.objs.size = s₂.heap.objs.size + 1 := by rw [← hH2, Heap.size_push]
 have hDC : s₂.heap.objs.size ≠ HP.objs.size := by rw [hC]; exact Nat.ne_of_lt (Nat.lt_succ_self _)
 have hCle : s₂.heap.objs.size ≤ HP.objs.size := by rw [hC]; exact Nat.le_succ _
 have old : ∀ b o, s₂.heap.get? b = some o → h₁.get? b = some o := fun b o e => by
  have hb : b < s₂.heap.objs.size := Heap.lt_size e
  exact hsb₁.extBut b o (by rw [hC]; exact Nat.ne_of_lt (Nat.lt_succ_of_lt hb)) (Heap.get?_push_of_some _ (hH2 ▸ Heap.get?_push_of_some _ e))
 have hacc : h₁.get? s₂.heap.objs.size = some { cls := .type "list", dict := none, data := .seq ([] : List Value).toArray } := hsb₁.extBut _ _ hDC (Heap.get?_push_of_some _ (hH2 ▸ Heap.get?_push_size _ rfl))
 have fpl : ∀ b ∈ fp, b < s₂.heap.objs.size := fun b hb => by
  obtain ⟨o, e, _⟩ := T.obj _ _ st2 b hb
  exact Heap.lt_size e
 have hfD : H2 s₂.heap.objs.size = none := I2.hok.fresh (Nat.le_refl _)
 obtain ⟨W, ⟨m0, w0⟩, turn⟩ := q s₂.heap.objs.size hfD
 have hkr : ∀ x, (compEnvC scope cl HP.objs.size X.env).kindOf x = (scope.names.lookup x).map fun k => if (k == NameKind.free && X.env.scope.kind == .function && X.env.kindOf x == some .cell) then NameKind.cell else k := fun x => ZF5 (env := X.env) scope.names x
 have cellOfN : ∀ x, scope.names.lookup x = some .free → X.env.kindOf x = some .cell := fun x e => S.free (x, .free) (PySem.mem_of_lookup e) rfl
 -- the context within
 have ok : (ZD8 X (own ++ caps) scope cl HP.objs.size s₂ H2 fp).Ok := by
  refine ⟨I2.ok.mod, S.kind, I2.ok.glob, I2.ok.blt, hCle, fun x y c e1 e2 => I2.ok.inj x y c (hcl x c e1) (hcl y c e2), fun x hx => ?_, fun x c z => (by cases z), I2.ok.hd, I2.ok.frames, .inl rfl, fun b hb => ⟨?_, fun x c e => (f2 b hb).2.2.2.2.1 x c (hcl x c e)⟩,
   I2.bs, Nat.le_trans I2.ok.bsz I2.sz, fun b o e hb => ?_, fun b hb z => ?_, I2.stack, I2.stkFree⟩
  ·have hx' : (scope.names.lookup x).map (fun k => if (k == NameKind.free && X.env.scope.kind == .function && X.env.kindOf x == some .cell) then NameKind.cell else k) = some .cell ∨
     (scope.names.lookup x).map (fun k => if (k == NameKind.free && X.env.scope.kind == .function && X.env.kindOf x == some .cell) then NameKind.cell else k) = some .free := by rw [← hkr x]; exact hx
   cases e : scope.names.lookup x with
   | none => rw [e] at hx'; rcases hx' with z | z <;> cases z
   | some k =>
    have hm := PySem.mem_of_lookup e
    have hk : k = .free := by
     by_cases hkf : k = .free
     ·exact hkf
     ·have hb : (k == NameKind.free) = false := by simpa using hkf
      rw [e] at hx'
      simp only [Option.map_some, hb, Bool.false_and, Bool.false_eq_true, if_false, Option.some.injEq] at hx'
      rcases hx' with z | z
      ·exact absurd z (S.nocell _ hm)
      ·exact z
    exact hclf _ hm hk
  ·exact Nat.ne_of_lt (Nat.lt_of_lt_of_le (fpl b hb) hCle)
  ·rcases (f2 b hb).2.2.2.1 with z | z
   ·exact I2.ok.noex b o e z
   ·exact absurd (Nat.lt_of_lt_of_le (Heap.lt_size e) (Nat.le_trans I2.ok.bsz z)) (Nat.lt_irrefl _)
  ·rcases List.mem_cons.mp (I2.stkSub b z) with r | r
   ·exact (f2 b hb).2.1 r
   ·exact (f2 b hb).2.2.1 r
 have hlen : (ZGK own.length ks σ).length = (own ++ caps).length := by
  have := congrArg List.length S.cap
  simp only [List.length_map] at this
  simp [ZGK, this]
 have I4 : Inv (ZD8 X (own ++ caps) scope cl HP.objs.size s₂ H2 fp) [] (ZGK own.length ks σ) (upd H2 s₂.heap.objs.size (.lst [])) { s₂ with heap := h₁, toks := s₂.toks + ([] : List (Str × Value)).length } := by
  obtain ⟨mX, hnX, hlX⟩ := I2.loc
  refine ⟨ok, rfl, I2.bare, Un.laid old (Nat.le_refl _) hfD, ⟨_, hns₁, fun i x v e1 e2 e3 => ?_⟩, fun x c e => ?_, ?_, fun x c e => ?_, fun p hp => (by cases hp), I2.hok.laid old (Nat.le_refl _) ⟨Nat.zero_le _, [], 0, .nil, hacc⟩, hlen⟩
  ·have e1 : (own ++ caps)[i]? = some x := e1
   by_cases hio : i < own.length
   ·unfold ZGK at e2
    rw [List.getElem?_append_left (by simpa using hio), List.getElem?_replicate] at e2
    rw [if_pos hio] at e2
    cases e2
   ·unfold ZGK at e2
    rw [List.getElem?_append_right (by simpa using hio), List.length_replicate, List.getElem?_map] at e2
    rw [List.getElem?_append_right (by simpa using hio)] at e1
    cases ek : ks[i - own.length]? with
    | none => rw [ek] at e2; cases e2
    | some k =>
     rw [ek] at e2
     have e2' := ZM4 (Option.some.inj e2)
     have hcap := congrArg (fun l => l[i - own.length]?) S.cap
     simp only [List.getElem?_map, ek, e1, Option.map_some] at hcap
     have hNk : X.N[k]? = some x := Option.some.inj hcap
     have hfx := S.fr x (List.mem_of_getElem? e1)
     have hkX := cellOfN x hfx
     obtain ⟨u, ru, lk⟩ := hlX k x v hNk e2' (.inr (.inl hkX))
     refine ⟨u, ru, .inr ⟨.inl ?_, ?_⟩⟩
     ·show (compEnvC scope cl HP.objs.size X.env).kindOf x = some .cell
      rw [hkr x, hfx]
      simp [I2.ok.kind, hkX]
     ·rcases lk with ⟨z, _⟩ | ⟨_, c, ec, o, ho, hd⟩
      ·rw [hkX] at z; cases z
      ·obtain ⟨c', ec'⟩ := hclf (x, .free) (PySem.mem_of_lookup hfx) rfl
       have := hcl _ _ ec'
       rw [ec] at this
       cases this
       exact ⟨c, ec', o, old _ _ ho, hd⟩
  ·obtain ⟨v, o, ho, hd⟩ := I2.cell x c (hcl x c e)
   exact ⟨v, o, old _ _ ho, hd⟩
  ·show upd H2 s₂.heap.objs.size (.lst []) HP.objs.size = none
   rw [ZDF (Ne.symm hDC)]
   exact I2.hok.fresh hCle
  ·obtain ⟨v, o, ho, hd⟩ := I2.cell x c (hcl x c e)
   show upd H2 s₂.heap.objs.size (.lst []) c = none
   rw [ZDF (Nat.ne_of_lt (Heap.lt_size ho))]
   exact I2.freeC x c (hcl x c e)
 -- the way out
 have out : ∀ {σ' : St} {H' : Hp} {s' : Shared}, Inv (ZD8 X (own ++ caps) scope cl HP.objs.size s₂ H2 fp) [] σ' H' s' → Q (.ref s₂.heap.objs.size) H' →
   ∃ m, s'.heap.Ns HP.objs.size m ∧ ∀ h', Heap.SameBut HP.objs.size s'.heap h' → EP X pins σ Q (.ref s₂.heap.objs.size) { s' with heap := h' } := fun {σ' H' s'} I' q' => by
  obtain ⟨m, hn, _⟩ := I'.loc
  refine ⟨m, hn, fun h' hs' => ⟨.ref s₂.heap.objs.size, H', ?_, rfl, q'⟩⟩
  have hfree : H' HP.objs.size = none := I'.free
  have neC : ∀ {b : Addr} {o : Obj}, s₂.heap.get? b = some o → b ≠ HP.objs.size := fun e => Nat.ne_of_lt (Nat.lt_of_lt_of_le (Heap.lt_size e) hCle)
  refine I2.call' (ch := fp) (s' := { s' with heap := h' }) I'.os ⟨fun b o e n hb hx => ?_, fun b o e n hb hx => ?_, I'.base.free, fun b o e hx => ?_, I'.base.tups, I'.base.frzs, I'.base.tbls⟩ (fun b ob e => ?_) I'.bare fun b hb => ⟨(f2 b hb).2.2.2.1, (f2 b hb).2.1, (f2 b hb).2.2.2.2.1, (f2 b hb).2.2.2.2.2⟩
  ·exact (hs'.2 b (neC e)).trans (I'.base.keep b o e n hb hx)
  ·obtain ⟨sl, e1⟩ := I'.base.slot b o e n hb hx
   exact ⟨sl, (hs'.2 b (neC e)).trans e1⟩
  ·obtain ⟨o', e1⟩ := I'.base.there b o e hx
   exact ⟨o', (hs'.2 b (neC e)).trans e1⟩
  ·refine (I'.hok b ob e).stay (fun c w' hc q => (hs'.2 c ?_).trans q) (fun _ q => q) fun _ _ q => q
   rintro rfl
   rcases hc with rfl | hc
   ·rw [hfree] at e; cases e
   ·rw [hfree] at hc; cases hc
 have stat : ∀ {H' : Hp}, (∀ b ∈ fp, H' b = none) → ∀ b ∈ fp, ZER (ZD8 X (own ++ caps) scope cl HP.objs.size s₂ H2 fp) [] H' b := fun hn b hb =>
  ⟨hn b hb, Nat.ne_of_lt (Nat.lt_of_lt_of_le (fpl b hb) hCle), ok.exfs b hb, .inl hb, (ok.exf b hb).2, fun p hp => by cases hp⟩
 have fr4 : ∀ b ∈ fp, upd H2 s₂.heap.objs.size (.lst []) b = none := fun b hb => by
  rw [ZDF (Nat.ne_of_lt (fpl b hb))]
  exact (f2 b hb).1
 have tn4 : tn 0 h₁ := T.keep _ _ _ st2 fun b _ o e => old b o e
 have loop : ∀ s4 : Shared, s4 = { s₂ with heap := h₁, toks := s₂.toks + ([] : List (Str × Value)).length } →
   codeAny (model X.prog X.w) X.A (.compLoop (.ListComp elt [⟨tg, iter, ifs, 0⟩] scope pos) 0 (.ref it) (.ref s₂.heap.objs.size) (compEnvC scope cl HP.objs.size X.env))
    (compPost (model X.prog X.w) X.A X.xe none (EP X pins σ Q) (.ref s₂.heap.objs.size) HP.objs.size) s4 := by
  rintro s4 rfl
  refine ZGL (fun n s' => ∃ i σ' H', Inv (ZD8 X (own ++ caps) scope cl HP.objs.size s₂ H2 fp) [] σ' H' s' ∧ tn i s'.heap ∧ (∀ b ∈ fp, H' b = none) ∧ W i n σ' H') ?_ m0 ⟨0, _, _, I4, tn4, fr4, w0⟩
  rintro n s3 ⟨i, σ3, H3, I3, st3, fr3, w3⟩
  rcases turn i n σ3 H3 w3 with ⟨stop, qn⟩ | ⟨go, N, hN, step⟩
  ·refine wpAny_mono (T.done (ZD8 X (own ++ caps) scope cl HP.objs.size s₂ H2 fp) rfl rfl rfl hc i [] s3 σ3 H3 (fun _ _ => False) I3 (stat fr3) st3 stop) (fun r s4 ⟨hr, I4'⟩ => ?_) fun _ _ z => False.elim z
   subst hr
   exact out I4' qn
  ·refine wpAny_mono (T.item (ZD8 X (own ++ caps) scope cl HP.objs.size s₂ H2 fp) rfl rfl rfl hc i [] s3 σ3 H3 (fun _ _ => False) I3 (stat fr3) st3 go) (fun r s4 ⟨u, hr, h4⟩ => ?_) fun _ _ z => False.elim z
   subst hr
   refine wpAny_mono h4 (fun _ s5 ⟨x, H5, I5, r5, y5, st5, fr5⟩ => ?_) fun _ _ z => False.elim z
   have I5' := I5.pinned (stat fr5) (T.obj _ _ st5)
   have back : ∀ {s7 : Shared} {σ7 : St} {H7 : Hp}, Inv (ZD8 X (own ++ caps) scope cl HP.objs.size s₂ H2 fp) ([] ++ ZGn fp s5.heap) σ7 H7 s7 → N σ7 H7 →
     ∃ m, m < n ∧ ∃ i σ' H', Inv (ZD8 X (own ++ caps) scope cl HP.objs.size s₂ H2 fp) [] σ' H' s7 ∧ tn i s7.heap ∧ (∀ b ∈ fp, H' b = none) ∧ W i m σ' H' := fun {s7 σ7 H7} I7 n7 => by
    obtain ⟨m', hm, w7⟩ := hN σ7 H7 n7
    refine ⟨m', hm, i + 1, σ7, H7, I7.unpinned, T.keep _ _ _ st5 fun b hb o e => (I7.pin (b, o) (List.mem_append_right _ (List.mem_append_right _ (ZFO hb e)))).1, fun b hb => ?_, w7⟩
    obtain ⟨o, e, d⟩ := T.obj _ _ st5 b hb
    exact (I7.pin (b, o) (List.mem_append_right _ (List.mem_append_right _ (ZFO hb e)))).2.1
   refine wpAny_mono (hg _ _ _ _ _ _ s5 σ3 H5 x u _ I5' r5 (step x H5 y5)) (fun _ s6 ⟨σ6, H6, I6, q6⟩ => ?_) fun _ _ z => False.elim z
   refine wpAny_mono (ht _ _ _ _ _ _ s6 σ6 H6 _ I6 q6) (fun b s7 ⟨H7, I7, q7⟩ => ?_) fun _ _ z => False.elim z
   cases b with
   | false =>
    rw [if_neg Bool.false_ne_true]
    rw [if_neg Bool.false_ne_true] at q7
    exact back I7 q7
   | true =>
    rw [if_pos rfl]
    rw [if_pos rfl] at q7
    refine wpAny_mono (he _ _ _ _ _ _ s7 σ6 H7 _ I7 q7) (fun y s8 ⟨v, H8, I8, r8, xs, hx8, hz8, n8⟩ => ?_) fun _ _ z => False.elim z
    refine wpAny_mono (ZFi (X := ZD8 X (own ++ caps) scope cl HP.objs.size s₂ H2 fp) _ s8 σ6 H8 (.ref s₂.heap.objs.size) [v] (.ref s₂.heap.objs.size) [y] (fun _ H' => N σ6 H') I8 rfl (.cons r8 .nil) ⟨_, xs, v, rfl, rfl, hx8, hz8, n8⟩) (fun _ s9 ⟨_, H9, I9, _, n9⟩ => ?_) fun _ _ z => False.elim z
    exact back I9 n9
 exact codeAny_compStart_list (loop _ rfl) (T.self _ 0 _ _ _ tn4 (loop _ rfl))
end
theorem ZSC : bootBuiltins "int" = some (.type "int") := by decide +kernel
theorem ZQO : bootBuiltins "bool" = some (.type "bool") := by decide +kernel
theorem ZSD : bootBuiltins "str" = some (.type "str") := by decide +kernel
theorem ZHp : bootBuiltins "tuple" = some (.type "tuple") := by decide +kernel
theorem ZQP : bootBuiltins "list" = some (.type "list") := by decide +kernel
theorem ZGp : bootBuiltins "len" = some (.builtin "len") := by decide +kernel
theorem ZSE : bootBuiltins "abs" = some (.builtin "abs") := by decide +kernel
theorem ZM5 : bootBuiltins "max" = some (.builtin "max") := by decide +kernel
theorem ZM6 : bootBuiltins "min" = some (.builtin "min") := by decide +kernel
theorem ZSF : bootBuiltins "all" = some (.builtin "all") := by decide +kernel
theorem ZFF : bootBuiltins "sorted" = some (.builtin "sorted") := by decide +kernel
theorem ZET : bootBuiltins "isinstance" = some (.builtin "isinstance") := by decide +kernel
def ZEy : Expr → Bool
 | .Starred _ _ => true
 | _ => false
def ZDh (es : List Expr) : Bool := es.all fun e => !ZEy e
theorem ZFG {e : Expr} {es : List Expr} {env : Env} (h : ZEy e = false) : starEach (e :: es) env = (false, eval e env) :: starEach es env := by
 cases e <;> first | rfl | cases h
theorem ZEW {e : Expr} {es : List Expr} {env : Env} (h : ZDh (e :: es) = true) : starEach (e :: es) env = (false, eval e env) :: starEach es env := by
 refine ZFG ?_
 unfold ZDh at h
 rw [List.all_cons, Bool.and_eq_true] at h
 simpa using h.1
theorem ZEH {pos : Pos} {env : Env} : ∀ {es : List Expr}, ZDh es = true → (backTo pos (starEach es env)).any (·.1) = false
 | [], _ => rfl
 | e :: es, h => by
  rw [ZEW h]
  have h2 : ZDh es = true := by
   unfold ZDh at h ⊢
   rw [List.all_cons, Bool.and_eq_true] at h
   exact h.2
  exact ZEH h2
theorem ZEE {e : Expr} {es : List Expr} (h : ZDh (e :: es) = true) : ZDh es = true := by
 unfold ZDh at h ⊢
 rw [List.all_cons, Bool.and_eq_true] at h
 exact h.2
section
variable {X : Cx} {CX : CXT} {k : Nat} {f : Addr} {fd : FuncData} {ps : List Str} {sp : Sp} {dvs : List V} {ds : List Value} {E : XK} {x : Str} {p pos : Pos} {e : Expr} {es : List Expr} {te : TE} {t : TA} {id T : String} {r : List V → Hp → VK → Prop}
theorem ZTs (ha : PE X e te) (hr : PA X es t) (hs : ZEy e = false := by rfl) : PA X (e :: es) (ZJX te t) := ZQF ha hr (ZFG hs)
theorem ZOf (F : ZDI X.prog X.w X.K X.mg X.base CX k f fd ps sp) (hr : Room k X.A) (hg : Gl X x) (hm : X.mg x = some (.ref f)) (hk : W.keepIn X.K (.ref f) = true) (hb : ZDE X.K fd ps ds) (hd : ZDG dvs ds) (hx : ZED CX X E)
  (ha : PA X (e :: es) t) (hns : ZDh (e :: es) = true := by rfl) (hdb : (x == ("__debug__" : Str)) = false := by decide) : PE X (.Call (.Name x p) (e :: es) [] pos) (ZHL sp dvs E t) :=
 ZQG F hr hg hm hk hb hd hx ha hdb (ZEW hns) (ZEH (ZEE hns))
theorem ZM7 (hc : ZDb X (.builtin id) r) (hg : Gl X x) (hm : X.mg x = none) (hv : bootBuiltins x = some (.builtin id)) (ha : PA X (e :: es) t) (hns : ZDh (e :: es) = true := by rfl) (hn : x ≠ "__name__" := by decide) (hdb : (x == ("__debug__" : Str)) = false := by decide) :
 PE X (.Call (.Name x p) (e :: es) [] pos) (tCB r t) := ZOS hc hg hm hv ha hn hdb (ZEW hns) (ZEH (ZEE hns))
theorem ZMB (hc : ZDb X (.type T) r) (hg : Gl X x) (hm : X.mg x = none) (hv : bootBuiltins x = some (.type T)) (ha : PA X (e :: es) t) (hns : ZDh (e :: es) = true := by rfl) (hn : x ≠ "__name__" := by decide) (hdb : (x == ("__debug__" : Str)) = false := by decide) :
 PE X (.Call (.Name x p) (e :: es) [] pos) (tCB r t) := ZMy hc hg hm hv ha hn hdb (ZEW hns) (ZEH (ZEE hns))
end
def ZEX : Expr → Bool
 | .ListComp _ _ _ _ => true
 | .SetComp _ _ _ _ => true
 | .DictComp _ _ _ _ _ => true
 | _ => false
theorem ZE3 {e : Expr} {tg : Option Expr} {n : Nat} {env : Env} (h : ZEX e = false) : swapsWith e tg n env = pure false := by
 cases e <;> first | rfl | cases h
section
variable {X : Cx} {e : Expr} {te : TE} {pos : Pos}
theorem ZOg (he : PE X e te) (hs : ZEX e = false := by rfl) : PS X (.Expr e pos) (ZJU te) := ZP4 he (ZE3 hs)
theorem ZQQ {i : Nat} {x : Str} {pos' : Pos} (hN : X.N.Nodup) (hi : X.N[i]? = some x) (hx : Loc X.env.scope x) (he : PE X e te) (hs : ZEX e = false := by rfl) (hf : X.fn x = true ∨ X.env.scope.names.lookup x = some .local := by first | exact .inl rfl | exact .inr rfl | assumption) :
 PS X (.Assign [.Name x pos'] e pos) (ZHj te (ZFh i)) := ZRu hN hi hx he (ZE3 hs) hf
end
def ZMC (K : W.Frag) : List V → Hp → VK → Prop := fun xs H Q => ∃ p ys, xs = [.ref p] ∧ (SqL K H p ys ∨ SqT K H p ys) ∧ Q (.int ys.length) H
def ZSG : List V → Hp → VK → Prop := fun xs H Q => ∃ i, xs = [.int i] ∧ Q (.int (if i < 0 then -i else i)) H
def ZSH : List V → Hp → VK → Prop := fun xs H Q => ∃ i j, xs = [.int i, .int j] ∧ Q (.int (if j > i then j else i)) H
def ZSI : List V → Hp → VK → Prop := fun xs H Q => ∃ i j, xs = [.int i, .int j] ∧ Q (.int (if j < i then j else i)) H
def ZOh (K : W.Frag) : List V → Hp → VK → Prop := fun xs H Q => ∃ (p : Addr) (bs : List Bool), xs = [.ref p] ∧ SqL K H p (bs.map V.bl) ∧ Q (.bl (bs.all id)) H
def ZJp (K : W.Frag) : List V → Hp → VK → Prop := fun xs H Q => ∃ p ys, xs = [.ref p] ∧ ((SqL K H p ys ∧ ∀ l, H l = none → Q (.ref l) (upd H l (.tup ys))) ∨ (SqT K H p ys ∧ Q (.ref p) H))
def ZSJ : R2 := fun x y H Q => y = .non ∧ Q (.bl (decide (x = .non))) H
def ZPh : R2 := fun x y H Q => y = .non ∧ Q (.bl (!decide (x = .non))) H
section
variable {X : Cx}
theorem ZSK : ZDb X (.builtin "len") (ZMC X.K) := ZJl
theorem ZSL : ZDb X (.builtin "abs") ZSG := ZOJ
theorem ZSM (hc : X.calm = true) : ZDb X (.builtin "max") ZSH := ZMt hc
theorem ZSN (hc : X.calm = true) : ZDb X (.builtin "min") ZSI := ZMu hc
theorem ZSO (hc : X.calm = true) : ZDb X (.builtin "all") (ZOh X.K) := ZOa hc
theorem ZOi : ZDb X (.type "tuple") (ZJp X.K) := ZJK
theorem ZJq : OpR X (compareOp .Is) ZSJ := ZR0
theorem ZQR : OpR X (compareOp .IsNot) ZPh := ZP9
end
section
variable {K : W.Frag} {σ : St} {H : Hp} {Q : VK} {D : ZDt}
theorem ZSP {t u : TS} (h : t { D with nx := u D } σ H) : ZN5 t u D σ H := h
theorem ZSQ {te : TE} (h : te σ H D.rt) : ZN7 te D σ H := h
theorem ZQS {te : TE} (h : te σ H fun _ H1 => D.nx σ H1) : ZJU te D σ H := h
theorem ZQT (h : D.nx σ H) : ZLp D σ H := h
theorem ZSR {te : TE} {g : TG} (h : te σ H fun x H1 => g x σ H1 D.nx) : ZHj te g D σ H := h
theorem ZOj {i : Nat} {v : V} {R : St → Hp → Prop} (h : R (σ.set i (some v)) H) : ZFh i v σ H R := h
theorem ZQU {R : St → Hp → Prop} (h : R σ H) : ZOA [] σ H R := ⟨rfl, h⟩
theorem ZOk {t : TG} {u : TGs} {v : V} {r : List V} {R : St → Hp → Prop} (h : t v σ H fun σ' H' => u r σ' H' R) : ZLq t u (v :: r) σ H R := ⟨v, r, rfl, h⟩
theorem ZQV {to ti : TE} {t : ZJg} {v : V} {R : St → Hp → Prop} (h : to σ H fun o H1 => ti σ H1 fun i H2 => t o i v H2 fun H3 => R σ H3) : ZOC to ti t v σ H R := h
theorem ZSS {c : TT} {t u : TS} (h : c σ H fun b H1 => if b = true then t D σ H1 else u D σ H1) : ZJf c t u D σ H := h
theorem ZQW {t : TE} {R : Bool → Hp → Prop} (h : t σ H fun x H' => ∃ k, x = .bl k ∧ R k H') : ZLx t σ H R := h
theorem ZTt {t : TE} {R : Bool → Hp → Prop} (h : t σ H fun x H' => ∃ k, x = .bl k ∧ R k H') : tB t σ H R := h
theorem ZHq {b : Bool} {R : Bool → Prop} (h : R b) : ∃ k, V.bl b = .bl k ∧ R k := ⟨b, rfl, h⟩
theorem ZST {t u : TT} {R : Bool → Hp → Prop} (h : t σ H fun c H1 => if c = true then u σ H1 R else R false H1) : ZN2 t u σ H R := h
theorem ZTZ {t u : TT} {R : Bool → Hp → Prop} (h : t σ H fun c H1 => if c = true then R true H1 else u σ H1 R) : tOr t u σ H R := h
theorem ZSU {t : TT} {R : Bool → Hp → Prop} (h : t σ H fun c H1 => R (!c) H1) : ZN3 t σ H R := h
theorem ZQX {t u : TE} (h : t σ H fun x H1 => ∃ c, x = .bl c ∧ if c = true then u σ H1 Q else Q (.bl false) H1) : ZLn t u σ H Q := h
theorem ZQY {t : TE} (h : t σ H fun x H1 => ∃ c, x = .bl c ∧ Q (.bl (!c)) H1) : ZLo t σ H Q := h
theorem ZTa {t : TT} {ta tb : TE} (h : t σ H fun c H1 => if c = true then ta σ H1 Q else tb σ H1 Q) : tIf t ta tb σ H Q := h
theorem ZSV {i : Nat} {v : V} (e : σ[i]? = some (some v)) (h : Q v H) : ZN1 i σ H Q := ⟨v, e, h⟩
theorem ZJr {i j : Int} (h1 : 0 ≤ j) (h2 : j ≤ 1000000) (h3 : i.natAbs < 2 ^ 64) : ZOH i j := ⟨h1, h2, h3⟩
theorem ZTu {v : V} (h : Q v H) : tC v σ H Q := h
theorem ZTb {r : R2} {ta tb : TE} (h : ta σ H fun x H1 => tb σ H1 fun y H2 => r x y H2 Q) : tOp r ta tb σ H Q := h
theorem ZTc {r : V → Hp → VK → Prop} {ta : TE} (h : ta σ H fun x H1 => r x H1 Q) : tUn r ta σ H Q := h
theorem ZTd {g : Int → Int → V} {i j : Int} (h : Q (g i j) H) : rI0 g (.int i) (.int j) H Q := ⟨i, j, rfl, rfl, h⟩
theorem ZSW {C : Int → Int → Prop} {g : Int → Int → V} {i j : Int} (c : C i j) (h : Q (g i j) H) : rI C g (.int i) (.int j) H Q := ⟨i, j, rfl, rfl, c, h⟩
theorem ZTv {g : Int → V} {i : Int} (h : Q (g i) H) : rU g (.int i) H Q := ⟨i, rfl, h⟩
theorem ZSX {i j : Int} (h : Q (.bl (decide (V.int i = V.int j))) H) : rEq (.int i) (.int j) H Q := ⟨rfl, h⟩
theorem ZTe {r : List V → Hp → VK → Prop} {t : TA} (h : t σ H fun vs H1 => r vs H1 Q) : tCB r t σ H Q := h
theorem ZQZ {sp : Sp} {dvs : List V} {E : XK} {t : TA} (h : t σ H fun vs H1 => sp (vs ++ dvs) H1 Q E) : ZHL sp dvs E t σ H Q := h
theorem ZQa {ta : TE} {tr : TA} {R : List V → Hp → Prop} (h : ta σ H fun x H1 => tr σ H1 fun xs H2 => R (x :: xs) H2) : ZJX ta tr σ H R := h
theorem ZSY {R : List V → Hp → Prop} (h : R [] H) : ZHl σ H R := h
def ZOl (n : Nat) (o : HO) (H : Hp) (Q : VK) : Prop := n ≤ sizeLine ∧ ∀ p, H p = none → Q (.ref p) (upd H p o)
theorem ZSZ {t : TA} (h : t σ H fun xs H1 => ZOl xs.length (.tup xs) H1 Q) : ZOO t σ H Q := h
theorem ZSa {t : TA} (h : t σ H fun xs H1 => ZOl xs.length (.lst xs) H1 Q) : ZOP t σ H Q := h
theorem ZDZ {n : Nat} {o : HO} (hz : n ≤ sizeLine) (h : ∀ p H2, H p = none → H2 p = some o → ZDC H H2 → Q (.ref p) H2) : ZOl n o H Q :=
 ⟨hz, fun p hp => h p _ hp ZDN (fun b u e => by rw [ZDF (ZDR e hp)]; exact e)⟩
theorem ZOm {r r' : R2} {ta tb tc : TE} (h : ta σ H fun x H1 => tb σ H1 fun y H2 => r x y H2 fun z H3 => ∃ k, z = .bl k ∧ (if k = true then tc σ H3 fun w' H4 => r' y w' H4 Q else Q (.bl false) H3)) : ZJh r r' ta tb tc σ H Q := h
theorem ZIL {p : Addr} {xs : List V} {i : Int} {v : V} (h1 : SqL K H p xs) (h2 : atI xs i = some v) (h : Q v H) : ZOU K (.ref p) (.int i) H Q := ⟨p, xs, i, v, rfl, rfl, h1, h2, h⟩
theorem ZJs {p : Addr} {xs : List V} {i : Int} {v : V} (h1 : SqT K H p xs) (h2 : atI xs i = some v) (h : Q v H) : ZOV K (.ref p) (.int i) H Q := ⟨p, xs, i, v, rfl, rfl, h1, h2, h⟩
theorem ZLW {p : Addr} {xs : List V} {k : Int} {j : Nat} {v : V} {R : Hp → Prop} (h1 : H p = some (.lst xs)) (h2 : ixN xs.length k = some j)
  (h : ∀ H2, H2 p = some (.lst (xs.set j v)) → (∀ q o, H q = some o → q ≠ p → H2 q = some o) → R H2) : ZL6 (.ref p) (.int k) v H R :=
 ⟨p, xs, k, j, rfl, rfl, h1, h2, h _ ZDN fun q o e n => by rw [ZDF n]; exact e⟩
theorem ZQb {p : Addr} {xs : List V} {k : Int} {j : Nat} {v : V} {R : Hp → Prop} (h1 : H p = some (.lst xs)) (h2 : ixN xs.length k = some j) (h : R (upd H p (.lst (xs.set j v)))) : ZL6 (.ref p) (.int k) v H R := ⟨p, xs, k, j, rfl, rfl, h1, h2, h⟩
def rFor (J : It) (g : TG) (tb : TS) (D : ZDt) (σ : St) (H : Hp) : Prop := ∃ W : Nat → Nat → St → Hp → Prop, (∃ m, W 0 m σ H) ∧ ∀ i m σ H, W i m σ H →
 (J.stop i H ∧ D.nx σ H) ∨ (J.go i H ∧ ∃ N : St → Hp → Prop, (∀ σ' H', N σ' H' → ∃ m', m' < m ∧ W (i + 1) m' σ' H') ∧ ∀ x H', J.yld i H x H' → g x σ H' fun σ2 H2 => tb { D with nx := N, ct := N, bk := D.nx } σ2 H2)
theorem ZSb {wi : TI} {g : TG} {tb : TS} (h : wi σ H fun J H1 => rFor J g tb D σ H1) : ZOE wi g tb D σ H := h
def ZPi (vs : List V) (H : Hp) (R : It → Hp → Prop) : Prop := ∃ j : Int, vs = [.int j] ∧ -(2 ^ 62) ≤ j ∧ j < 2 ^ 62 ∧ R (Itr 0 j.toNat) H
theorem ZQc {ta : TA} {R : It → Hp → Prop} (h : ta σ H fun vs H1 => ZPi vs H1 R) : ZLu ta σ H R := h
theorem ZIM {j : Int} {R : It → Hp → Prop} (h1 : -(2 ^ 62) ≤ j) (h2 : j < 2 ^ 62) (h : R (Itr 0 j.toNat) H) : ZPi [.int j] H R := ⟨j, rfl, h1, h2, h⟩
theorem ZSc {i : Int} (h : Q (.int (if i < 0 then -i else i)) H) : ZSG [.int i] H Q := ⟨i, rfl, h⟩
theorem ZSd {i j : Int} (h : Q (.int (if j > i then j else i)) H) : ZSH [.int i, .int j] H Q := ⟨i, j, rfl, h⟩
theorem ZSe {i j : Int} (h : Q (.int (if j < i then j else i)) H) : ZSI [.int i, .int j] H Q := ⟨i, j, rfl, h⟩
theorem ZQd {p : Addr} {ys : List V} (h1 : SqL K H p ys) (h : Q (.int ys.length) H) : ZMC K [.ref p] H Q := ⟨p, ys, rfl, .inl h1, h⟩
theorem ZQe {p : Addr} {ys : List V} (h1 : SqT K H p ys) (h : Q (.int ys.length) H) : ZMC K [.ref p] H Q := ⟨p, ys, rfl, .inr h1, h⟩
theorem ZSf {p : Addr} {bs : List Bool} (h1 : SqL K H p (bs.map V.bl)) (h : Q (.bl (bs.all id)) H) : ZOh K [.ref p] H Q := ⟨p, bs, rfl, h1, h⟩
theorem ZFH {x : V} {n : String} {t : Value} {b : Bool} (ty : ZEx K H x t) (e : W.kitOne K t (.type n) = some b) (h : Q (.bl b) H) : ZOb K [x, .ty n] H Q := ⟨x, n, t, b, rfl, ty, e, h⟩
theorem ZSg {x : V} (h : Q (.bl (decide (x = .non))) H) : ZSJ x .non H Q := ⟨rfl, h⟩
theorem ZQf {x : V} (h : Q (.bl (!decide (x = .non))) H) : ZPh x .non H Q := ⟨rfl, h⟩
theorem ZQg {n : Nat} {t : TGs} {p : Addr} {xs : List V} {R : St → Hp → Prop} (h1 : SqT K H p xs) (h2 : xs.length = n) (h : t xs σ H R) : ZLr K n t (.ref p) σ H R := ⟨p, xs, rfl, h1, h2, h⟩
theorem ZIh {p : Addr} {ys : List V} (h1 : SqL K H p ys) (h : ∀ l H2, H l = none → H2 l = some (.tup ys) → ZDC H H2 → Q (.ref l) H2) :
  ZJp K [.ref p] H Q :=
 ⟨p, ys, rfl, .inl ⟨h1, fun l hl => h l _ hl ZDN (fun b u e => by rw [ZDF (ZDR e hl)]; exact e)⟩⟩
theorem ZSh {p q : Addr} {xs zs : List V} (h1 : H p = some (.lst xs)) (h2 : H q = some (.lst zs)) (hz : xs.length + zs.length ≤ sizeLine) (h : ∀ l H2, H l = none → H2 l = some (.lst (xs ++ zs)) → ZDC H H2 → Q (.ref l) H2) : ZSA (.ref p) (.ref q) H Q :=
 ⟨p, q, xs, zs, rfl, rfl, h1, h2, hz, fun l hl => h l _ hl ZDN (fun b u e => by rw [ZDF (ZDR e hl)]; exact e)⟩
theorem ZTf {r : V → Option Int → Option Int → Hp → VK → Prop} {te : TE} {tl th : TO} (h : te σ H fun x H1 => tl σ H1 fun l H2 => th σ H2 fun u H3 => r x l u H3 Q) : tSl r te tl th σ H Q := h
theorem ZM8 {R : Option Int → Hp → Prop} (h : R none H) : ZIf σ H R := h
theorem ZQh {t : TE} {R : Option Int → Hp → Prop} (h : t σ H fun x H1 => ∃ i, x = .int i ∧ R (some i) H1) : ZL4 t σ H R := h
theorem ZTw {i : Int} {R : Int → Prop} (h : R i) : ∃ j, V.int i = .int j ∧ R j := ⟨i, rfl, h⟩
theorem ZEZ {c A B : Prop} [Decidable c] (h1 : c → A) (h2 : ¬ c → B) : if decide c = true then A else B := by
 by_cases h : c
 ·rw [decide_eq_true h]; exact ZE1 (h1 h)
 ·rw [decide_eq_false h]; exact ZEc (h2 h)
theorem ZPj {c A B : Prop} [Decidable c] (h1 : ¬ c → A) (h2 : c → B) : if (!decide c) = true then A else B := by
 by_cases h : c
 ·rw [decide_eq_true h]; exact ZEc (h2 h)
 ·rw [decide_eq_false h]; exact ZE1 (h1 h)
theorem ZPk {i j : Int} : decide (V.int i = V.int j) = decide (i = j) := by
 by_cases h : i = j
 ·subst h; simp
 ·rw [decide_eq_false h, decide_eq_false (fun z => h (V.int.inj z))]
theorem ZHO {lo : Int} {n : Nat} {g : TG} {tb : TS} (Pv : Nat → St → Hp → Prop) (h0 : Pv 0 σ H)
 (hs : ∀ i σ H, i < n → Pv i σ H → g (.int (lo + i)) σ H fun σ2 H2 => tb { D with nx := Pv (i + 1), ct := Pv (i + 1), bk := D.nx } σ2 H2) (hd : ∀ σ H, Pv n σ H → D.nx σ H) :
 rFor (Itr lo n) g tb D σ H := ZMp Pv h0 hs hd
theorem ZQi {a : Addr} {xs : List V} {g : TG} {tb : TS} (Pv : Nat → St → Hp → Prop) (h0 : Pv 0 σ H) (hl : ∀ i σ H, i ≤ xs.length → Pv i σ H → SqL K H a xs)
 (hs : ∀ i x σ H, xs[i]? = some x → Pv i σ H → g x σ H fun σ2 H2 => tb { D with nx := Pv (i + 1), ct := Pv (i + 1), bk := D.nx } σ2 H2) (hd : ∀ σ H, Pv xs.length σ H → D.nx σ H) :
 rFor (Itl K a) g tb D σ H := ZOF Pv h0 hl hs hd
theorem ZLX {a : Addr} {xs : List V} {g : TG} {tb : TS} (Pv : Nat → St → Hp → Prop) (h0 : Pv 0 σ H) (hl : ∀ i σ H, i ≤ xs.length → Pv i σ H → SqT K H a xs)
 (hs : ∀ i x σ H, xs[i]? = some x → Pv i σ H → g x σ H fun σ2 H2 => tb { D with nx := Pv (i + 1), ct := Pv (i + 1), bk := D.nx } σ2 H2) (hd : ∀ σ H, Pv xs.length σ H → D.nx σ H) :
 rFor (Itt K a) g tb D σ H := ZP8 Pv h0 hl hs hd
def ZPl (J : It) (g : TG) (tt : TT) (te : TE) (l : Addr) (σ0 : St) (H : Hp) (Q : VK) : Prop :=
 ∃ W : Nat → Nat → St → Hp → Prop, (∃ m, W 0 m σ0 (upd H l (.lst []))) ∧ ∀ i m σ' H', W i m σ' H' →
  (J.stop i H' ∧ Q (.ref l) H') ∨ (J.go i H' ∧ ∃ N : St → Hp → Prop, (∀ σ2 H2, N σ2 H2 → ∃ m', m' < m ∧ W (i + 1) m' σ2 H2) ∧
   ∀ x H'', J.yld i H' x H'' → g x σ' H'' fun σ2 H2 => tt σ2 H2 fun b H3 =>
    if b = true then te σ2 H3 fun v H4 => ∃ xs, H4 l = some (.lst xs) ∧ xs.length < sizeLine ∧ N σ2 (upd H4 l (.lst (xs ++ [v]))) else N σ2 H3)
theorem ZLY {J : It} {g : TG} {tt : TT} {te : TE} {σ0 : St} {l : Addr} (n : Nat) (Pv : Nat → St → Hp → Prop) (h0 : Pv 0 σ0 (upd H l (.lst [])))
  (stop : ∀ σ H, Pv n σ H → J.stop n H ∧ Q (.ref l) H)
  (go : ∀ i σ H, i < n → Pv i σ H → J.go i H ∧ ∀ x H', J.yld i H x H' → g x σ H' fun σ2 H2 => tt σ2 H2 fun b H3 =>
   if b = true then te σ2 H3 fun v H4 => ∃ xs, H4 l = some (.lst xs) ∧ xs.length < sizeLine ∧ Pv (i + 1) σ2 (upd H4 l (.lst (xs ++ [v]))) else Pv (i + 1) σ2 H3) :
  ZPl J g tt te l σ0 H Q := by
 refine ⟨fun i m σ H => m = n - i ∧ i ≤ n ∧ Pv i σ H, ⟨n, by simp, Nat.zero_le _, h0⟩, ?_⟩
 rintro i m σ H ⟨rfl, hi, p⟩
 by_cases hlt : i < n
 ·obtain ⟨hgo, h⟩ := go i σ H hlt p
  exact .inr ⟨hgo, Pv (i + 1), fun σ' H' p' => ⟨n - (i + 1), by omega, rfl, hlt, p'⟩, h⟩
 ·have e : i = n := by omega
  subst e
  exact .inl (stop σ H p)
theorem ZQj {own : Nat} {ks : List Nat} {wi : TI} {g : TG} {tt : TT} {te : TE} (h : wi σ H fun J H1 => ∀ l, H1 l = none → ZPl J g tt te l (ZGK own ks σ) H1 Q) : ZMA own ks wi g tt te σ H Q := h
def ZSi (K : W.Frag) (x : V) (H : Hp) (R : It → Hp → Prop) : Prop := ∃ a, x = .ref a ∧ (∃ xs, SqT K H a xs) ∧ R (Itt K a) H
def ZSj (K : W.Frag) (x : V) (H : Hp) (R : It → Hp → Prop) : Prop := ∃ a, x = .ref a ∧ (∃ xs, SqL K H a xs) ∧ R (Itl K a) H
theorem ZQk {tl : TE} {R : It → Hp → Prop} (h : tl σ H fun x H1 => ZSi K x H1 R) : ZLt K tl σ H R := h
theorem ZOn {tl : TE} {R : It → Hp → Prop} (h : tl σ H fun x H1 => ZSj K x H1 R) : ZJV K tl σ H R := h
theorem ZSk {p : Addr} {xs : List V} {R : It → Hp → Prop} (h1 : SqT K H p xs) (h : R (Itt K p) H) : ZSi K (.ref p) H R := ⟨p, rfl, ⟨xs, h1⟩, h⟩
theorem ZSl {p : Addr} {xs : List V} {R : It → Hp → Prop} (h1 : SqL K H p xs) (h : R (Itl K p) H) : ZSj K (.ref p) H R := ⟨p, rfl, ⟨xs, h1⟩, h⟩
theorem ZQl {R : Bool → Hp → Prop} (h : R true H) : ZL9 σ H R := h
end
theorem ZDC.seqT {K : W.Frag} {H H' : Hp} {a : Addr} {xs : List V} (e : ZDC H H') (h : SqT K H a xs) : SqT K H' a xs := by
 rcases h with (h | ⟨o, h⟩) | h
 ·exact .inl (.inl (e _ _ h))
 ·exact .inl (.inr ⟨o, e _ _ h⟩)
 ·exact .inr h
def Kp (p : Addr) (H H' : Hp) : Prop := ∀ q o, H q = some o → q ≠ p → H' q = some o
theorem Kp.trans {p : Addr} {H H1 H2 : Hp} (a : Kp p H H1) (b : Kp p H1 H2) : Kp p H H2 := fun q o h n => b q o (a q o h n) n
theorem Kp.upd {p : Addr} {H : Hp} {o : HO} : Kp p H (upd H p o) := fun q u h n => by rw [ZDF n]; exact h
theorem Kp.same {p : Addr} {H H' : Hp} (a : ZDC H H') : Kp p H H' := fun q o h _ => a q o h
theorem ZDC.new {H : Hp} {l : Addr} {o : HO} (h : H l = none) : ZDC H (upd H l o) := fun b u e => by rw [ZDF (ZDR e h)]; exact e
theorem Kp.then {H H1 H2 : Hp} {p : Addr} (h : Kp p H H1) (s : ZDC H1 H2) : Kp p H H2 := h.trans (Kp.same s)
structure QE (X : Cx) (e : Expr) (t : TE) : Prop where
 h : PE X e t
structure QT (X : Cx) (e : Expr) (t : TT) : Prop where
 h : PT X e t
structure QW (X : Cx) (e : Expr) (t : TT) : Prop where
 h : PW X e t
structure QA (X : Cx) (es : List Expr) (t : TA) : Prop where
 h : PA X es t
structure QS (X : Cx) (st : Stmt) (t : TS) : Prop where
 h : PS X st t
structure QB (X : Cx) (st : List Stmt) (t : TS) : Prop where
 h : PSs X st t
structure QG (X : Cx) (e : Expr) (t : TG) : Prop where
 h : PG X e t
structure QGs (X : Cx) (es : List Expr) (t : TGs) : Prop where
 h : PGs X es t
structure QI (X : Cx) (tg e : Expr) (t : TI) : Prop where
 h : PI X tg e t
structure QF (X : Cx) (es : List Expr) (t : TT) : Prop where
 h : ZOd X es t
structure QO (X : Cx) (e : Option Expr) (t : TO) : Prop where
 h : PO X e t
def ZJY : Expr → Bool
 | .Slice _ _ _ _ => true
 | _ => false
theorem ZQm {b : Expr} (h : ZJY b = false) : ZLQ b := by
 intro o i
 cases b <;> first | rfl | cases h
def ZJt : Expr → Bool
 | .UnaryOp _ _ _ => false
 | .BoolOp _ _ _ => false
 | .IfExp _ _ _ _ => false
 | .Compare _ _ _ _ => false
 | _ => true
theorem ZSm {e : Expr} {env : Env} (h : ZJt e = true) : ∀ whole, isTrue e env whole = (do let v ← whole; standAt e.pos; holding [v] (truthy v)) := by
 intro whole
 cases e <;> first | rfl | cases h
section
variable {X : Cx} {a b c e o : Expr} {es ZEA : List Expr} {ta tb tc te to ti : TE} {tA tB' : TT} {t tr : TA} {pos p p2 pos' : Pos} {x : Str}
theorem qv (i : Nat) {x : Str} {pos : Pos} (hN : X.N[i]? = some x := by rfl) (hv : Vis X.env.scope x := by first | exact Or.inl rfl | exact Or.inr (Or.inl rfl) | exact Or.inr (Or.inr rfl)) (hd : (x == ("__debug__" : Str)) = false := by decide)
 (hcd : (x == ("__classdict__" : Str)) = false := by decide) : QE X (.Name x pos) (ZN1 i) := ⟨ZRf hN hv hd hcd⟩
theorem ZDB {i j pos} : QE X (.Constant (.int i) j pos) (tC (.int i)) := ⟨ZRg⟩
theorem ZGM {b j pos} : QE X (.Constant (.bool b) j pos) (tC (.bl b)) := ⟨ZTP⟩
theorem ZFZ {j pos} : QE X (.Constant .none j pos) (tC .non) := ⟨ZRh⟩
theorem ZDk {x j pos} : QE X (.Constant (.str x) j pos) (tC (.str x)) := ⟨ZRi⟩
theorem ZD5 {v : V} {u : Value} (hg : Gl X x) (hm : X.mg x = some u) (r : ZDH v u) (hd : (x == ("__debug__" : Str)) = false := by decide) : QE X (.Name x pos) (tC v) := ⟨ZPz hg hm r hd⟩
theorem ZIi {v : V} {u : Value} (hg : Gl X x) (hm : X.mg x = none) (hv : bootBuiltins x = some u) (r : ZDH v u) (hn : x ≠ "__name__" := by decide) (hd : (x == ("__debug__" : Str)) = false := by decide) : QE X (.Name x pos) (tC v) := ⟨ZP0 hg hm hv r hn hd⟩
theorem ZDP {op : Operator} {r : R2} (ho : OpR X (binaryOp op) r) (ha : QE X a ta) (hb : QE X b tb) : QE X (.BinOp a op b pos) (tOp r ta tb) := ⟨ZTS ho ha.h hb.h⟩
theorem ZPm {op : UnaryOp} {r : V → Hp → VK → Prop} (ho : UnR X (unaryOp op) r) (ha : QE X a ta) : QE X (.UnaryOp op a pos) (tUn r ta) := ⟨ZTT ho ha.h⟩
theorem ZSn (ha : QE X a ta) : QE X (.UnaryOp .Not a pos) (ZLo ta) := ⟨ZRp ha.h⟩
theorem ZJu {op} (h : QE X a ta) : QE X (.BoolOp op [a] pos) ta := ⟨ZRn h.h⟩
theorem ZIN (ha : QE X a ta) (hb : QE X (.BoolOp .And (b :: ZEA) pos) tb) : QE X (.BoolOp .And (a :: b :: ZEA) pos) (ZLn ta tb) := ⟨ZRo ha.h hb.h⟩
theorem ZGN (hc : QT X c tA) (ha : QE X a ta) (hb : QE X b tb) : QE X (.IfExp c a b pos) (tIf tA ta tb) := ⟨ZN4 hc.h ha.h hb.h⟩
theorem ZQn {op : CmpOp} {r : R2} (ho : OpR X (compareOp op) r) (ha : QE X a ta) (hb : QE X b tb) (hm : behindInMarks op b = false) : QE X (.Compare a [op] [b] pos) (tOp r ta tb) := ⟨ZQA ho ha.h hb.h hm⟩
theorem ZDm {op : CmpOp} {r : R2} (ho : OpR X (compareOp op) r) (ha : QE X a ta) (hb : QE X b tb) (hm : behindInMarks op b = false) : QT X (.Compare a [op] [b] pos) (ZLx (tOp r ta tb)) := ⟨ZQB ho ha.h hb.h hm⟩
theorem ZJv {op op' : CmpOp} {r r' : R2} (ho : OpR X (compareOp op) r) (ho' : OpR X (compareOp op') r') (ha : QE X a ta) (hb : QE X b tb) (hc : QE X c tc)
 (hm : lastMarks [op, op'] [b, c] = false := by with_unfolding_all rfl) : QE X (.Compare a [op, op'] [b, c] pos) (ZJh r r' ta tb tc) := ⟨ZOI ho ho' ha.h hb.h hc.h hm⟩
theorem ZGq (h : QE X e te) (he : ZJt e = true := by rfl) : QT X e (tB te) := ⟨ZRj h.h (ZSm he)⟩
theorem QW.pt (h : QW X e tA) : QT X e tA := ⟨h.h.pt⟩
theorem ZQo (ha : QT X a tA) : QW X (.BoolOp .And [a] pos) tA := ⟨ZP1 ha.h⟩
theorem ZM9 (ha : QT X a tA) : QW X (.BoolOp .Or [a] pos) tA := ⟨ZRk ha.h⟩
theorem ZSo (ha : QT X a tA) (hb : QW X (.BoolOp .And (b :: ZEA) pos) tB') : QW X (.BoolOp .And (a :: b :: ZEA) pos) (ZN2 tA tB') := ⟨ZRl ha.h hb.h⟩
theorem ZPn (ha : QT X a tA) (hb : QW X (.BoolOp .Or (b :: ZEA) pos) tB') : QW X (.BoolOp .Or (a :: b :: ZEA) pos) (tOr tA tB') := ⟨ZTQ ha.h hb.h⟩
theorem ZIO (ha : QT X a tA) : QT X (.UnaryOp .Not a pos) (ZN3 tA) := ⟨ZRm ha.h⟩
theorem ZC8 : QA X [] ZHl := ⟨ZR3⟩
theorem ZC7 (ha : QE X e te) (hr : QA X es t) (hs : ZEy e = false := by rfl) : QA X (e :: es) (ZJX te t) := ⟨ZTs ha.h hr.h hs⟩
theorem ZEI {x1} (h : QA X es t) : QE X (.Tuple es x1 pos) (ZOO t) := ⟨ZR4 h.h⟩
theorem ZEl (h : QA X es t) : QE X (.List es pos) (ZOP t) := ⟨ZR5 h.h⟩
theorem ZDn {r : R2} (hr : IxR X r) (ha : QE X a ta) (hb : QE X b tb) (hs : ZJY b = false := by rfl) : QE X (.Subscript a b pos) (tOp r ta tb) := ⟨ZTX hr ha.h hb.h (ZQm hs)⟩
theorem ZFT : QO X none ZIf := ⟨ZQJ⟩
theorem ZFU (h : QE X e te) : QO X (some e) (ZL4 te) := ⟨ZQK h.h⟩
theorem ZE4 {lo hi : Option Expr} {tl th : TO} {r : V → Option Int → Option Int → Hp → VK → Prop} (hr : SlR X r) (he : QE X e te) (hl : QO X lo tl) (hu : QO X hi th) : QE X (.Subscript e (.Slice lo hi none p2) pos) (tSl r te tl th) := ⟨ZOT hr he.h hl.h hu.h⟩
theorem ZOo {CX : CXT} {k : Nat} {f : Addr} {fd : FuncData} {ps : List Str} {sp : Sp} {dvs : List V} {ds : List Value} {E : XK} (F : ZDI X.prog X.w X.K X.mg X.base CX k f fd ps sp) (hr : Room k X.A) (hg : Gl X x) (hm : X.mg x = some (.ref f)) (hk : W.keepIn X.K (.ref f) = true) (hb : ZDE X.K fd ps ds) (hd : ZDG dvs ds) (hx : ZED CX X E)
 (ha : QA X (e :: es) t) (hns : ZDh (e :: es) = true := by rfl) (hdb : (x == ("__debug__" : Str)) = false := by decide) : QE X (.Call (.Name x p) (e :: es) [] pos) (ZHL sp dvs E t) := ⟨ZOf F hr hg hm hk hb hd hx ha.h hns hdb⟩
theorem ZDX {id : String} {r : List V → Hp → VK → Prop} (hc : ZDb X (.builtin id) r) (hg : Gl X x) (hm : X.mg x = none) (hv : bootBuiltins x = some (.builtin id)) (ha : QA X (e :: es) t) (hns : ZDh (e :: es) = true := by rfl) (hn : x ≠ "__name__" := by decide) (hdb : (x == ("__debug__" : Str)) = false := by decide) :
 QE X (.Call (.Name x p) (e :: es) [] pos) (tCB r t) := ⟨ZM7 hc hg hm hv ha.h hns hn hdb⟩
theorem ZGO {T : String} {r : List V → Hp → VK → Prop} (hc : ZDb X (.type T) r) (hg : Gl X x) (hm : X.mg x = none) (hv : bootBuiltins x = some (.type T)) (ha : QA X (e :: es) t) (hns : ZDh (e :: es) = true := by rfl) (hn : x ≠ "__name__" := by decide) (hdb : (x == ("__debug__" : Str)) = false := by decide) :
 QE X (.Call (.Name x p) (e :: es) [] pos) (tCB r t) := ⟨ZMB hc hg hm hv ha.h hns hn hdb⟩
theorem ZJw : QF X [] ZL9 := ⟨ZOe⟩
theorem ZQp {tg : Expr} (hl : QE X e te) : QI X tg e (ZJV X.K te) := ⟨ZP7 hl.h⟩
theorem ZSp {tg : Expr} (hl : QE X e te) : QI X tg e (ZLt X.K te) := ⟨ZRv hl.h⟩
theorem ZFj {tg : Expr} (hg : Gl X "range") (hm : X.mg "range" = none) (ha : QA X [a] t) (hs : ZEy a = false := by rfl) : QI X tg (.Call (.Name "range" p) [a] [] pos) (ZLu t) := ⟨ZMn hg hm ha.h (ZFG hs)⟩
theorem ZIj {i : Nat} (hN : X.N.Nodup) (hi : X.N[i]? = some x) (hx : Loc X.env.scope x) (hf : X.fn x = true ∨ X.env.scope.names.lookup x = some .local := by first | exact .inl rfl | exact .inr rfl | assumption) : QG X (.Name x pos) (ZFh i) := ⟨ZP5 hN hi hx hf⟩
theorem ZLZ : QGs X [] ZOA := ⟨ZP6⟩
theorem ZNA {e : Expr} {es : List Expr} {env : Env} (h : ZEy e = false) : (assignEach (e :: es) env).map (·.2) = assign e env :: (assignEach es env).map (·.2) := by
 cases e <;> first | rfl | cases h
theorem ZGP {g : TG} {u : TGs} (h1 : QG X e g) (h2 : QGs X es u) (hs : ZEy e = false := by rfl) : QGs X (e :: es) (ZLq g u) := ⟨ZOB h1.h h2.h (ZNA hs)⟩
theorem ZSq {k : Nat} {u : TGs} {n : Nat} (hc : X.calm = true) (h : QGs X es u) (hn : (assignEach es X.env).length = n := by rfl) (hst : (assignEach es X.env).findIdx? (·.1) = none := by rfl) : QG X (.Tuple es k pos) (ZLr X.K n u) := ⟨ZRr hc h.h hn hst⟩
theorem ZJx {s : ZJg} (ho : QE X o to) (hi : QE X e ti) (hs : ZN9 X s)
 (ha : ∀ v, assign (.Subscript o e pos) X.env v = (do
  let ov ← holding [v] (eval o X.env)
  let iv ← holding [v, ov] (eval e X.env)
  standAt pos
  holding [v, ov, iv] (setItem ov iv v)
  release [v, ov, iv] []) := by intro _; rfl) : QG X (.Subscript o e pos) (ZOC to ti s) := ⟨ZRs ho.h hi.h hs ha⟩
theorem ZLa {N : List Str} {sc : Scope} {own caps : List Str} {ks : List Nat} {elt tg iter : Expr} {ifs : List Expr} {scope : Scope} {wi : TI} {g : TG} {tt : TT}
  (hN : X.N = N) (hsc : X.env.scope = sc) (hc : X.calm = true) (S : ZM3 N sc own caps ks scope) (hi : QI X tg iter wi)
  (hg : ∀ cl C s₂ H₂ fp, QG (ZD8 X (own ++ caps) scope cl C s₂ H₂ fp) tg g)
  (ht : ∀ cl C s₂ H₂ fp, QF (ZD8 X (own ++ caps) scope cl C s₂ H₂ fp) ifs tt)
  (he : ∀ cl C s₂ H₂ fp, QE (ZD8 X (own ++ caps) scope cl C s₂ H₂ fp) elt te)
  (hs : ∀ x, foldedSetIterable iter X.env x = pure x := by intro _; rfl) :
  QE X (.ListComp elt [⟨tg, iter, ifs, 0⟩] scope pos) (ZMA own.length ks wi g tt te) :=
 ⟨ZQN hN hsc hc S hi.h (fun cl C s₂ H₂ fp => (hg cl C s₂ H₂ fp).h) (fun cl C s₂ H₂ fp => (ht cl C s₂ H₂ fp).h) (fun cl C s₂ H₂ fp => (he cl C s₂ H₂ fp).h) hs⟩
theorem ZMD {T : String} {name : Str} {id : String} {r : V → List V → Hp → VK → Prop} {apos cpos : Pos} (pa : PlainAttrs T) (slot : Slot T name id) (hty : typeOf (.builtin id) = pure (.type "method_descriptor")) (hm : MtR X id r) (ho : QE X o to) (ha : QA X (e :: es) t)
  (hst : ZDh (e :: es) = true := by rfl) (hbase : attributeBase o name X.env (eval o X.env) = eval o X.env := by rfl)
  (hfew : ((backTo cpos (starEach (e :: es) X.env)).all (fun x => !x.1) && (backToKw cpos (keywordEach [] X.env)).all (fun x => x.1.isSome)
   && decide ((e :: es).length + ([] : List Keyword).length + (if ([] : List Keyword).isEmpty then 0 else 1) < 30)) = true := by rfl)
  (hline : (apos.endLine == cpos.line) = true := by rfl) : QE X (.Call (.Attribute o name apos) (e :: es) [] cpos) (tBM X.K T r to t) :=
 ⟨ZTY pa slot hty hm ho.h ha.h hbase hfew hline (ZEW hst) (ZEH (ZEE hst))⟩
end
section
variable {X : Cx} {st : Stmt} {ZEA sa sb : List Stmt} {t u : TS} {e c : Expr} {te : TE} {tA : TT} {pos pos' : Pos} {x : Str}
theorem ZDw : QB X [] ZLp := ⟨ZP2⟩
theorem ZDA (h1 : QS X st t) (h2 : QB X ZEA u) : QB X (st :: ZEA) (ZN5 t u) := ⟨ZN6 h1.h h2.h⟩
theorem ZDD (h1 : QS X st t) : QB X [st] t := ⟨ZP3 h1.h⟩
theorem ZDq (he : QE X e te) (hs : ZEX e = false := by rfl) : QS X (.Expr e pos) (ZJU te) := ⟨ZOg he.h hs⟩
theorem ZDT (he : QE X e te) : QS X (.Return (some e) pos) (ZN7 te) := ⟨ZRq he.h⟩
theorem ZEF (hc : QT X c tA) (ha : QB X sa t) (hb : QB X sb u) : QS X (.If c sa sb pos) (ZJf tA t u) := ⟨ZTR hc.h ha.h hb.h⟩
theorem ZGQ : QS X st ZMm := ⟨ZN8⟩
theorem ZQq {i : Nat} (hN : X.N.Nodup) (hi : X.N[i]? = some x) (hx : Loc X.env.scope x) (he : QE X e te) (hs : ZEX e = false := by rfl) (hf : X.fn x = true ∨ X.env.scope.names.lookup x = some .local := by first | exact .inl rfl | exact .inr rfl | assumption) :
 QS X (.Assign [.Name x pos'] e pos) (ZHj te (ZFh i)) := ⟨ZQQ hN hi hx he.h hs hf⟩
theorem ZJy {tg : Expr} {g : TG} (he : QE X e te) (hg : QG X tg g) (hs : ZEX e = false := by rfl) (hw : swappedStores [tg] e X.env = pure none := by rfl)
 (h1 : (assignEach [tg] X.env).map (·.2) = [assign tg X.env] := by rfl) : QS X (.Assign [tg] e pos) (ZHj te g) := ⟨ZRt he.h hg.h (ZE3 hs) hw h1⟩
theorem ZFa {tg iter : Expr} {wi : TI} {g : TG} (hp : PassesOwn (model X.prog X.w) X.A X.env X.xe) (hc : X.calm = true) (hi : QI X tg iter wi) (hg : QG X tg g) (hb : QB X sa t)
 (hs : ∀ x, foldedSetIterable iter X.env x = pure x := by intro _; rfl) : QS X (.For tg iter sa [] pos) (ZOE wi g t) := ⟨ZRw hp hc hi.h hg.h hb.h hs⟩
end
section
variable {X : Cx} {e : Expr} {es : List Expr} {te : TE} {pos : Pos} (K : W.Frag) (h : X.K = K)
include h
theorem ZIP : ZDb X (.builtin "len") (ZMC K) := h ▸ ZSK
theorem ZSr (hc : X.calm = true) : ZDb X (.builtin "all") (ZOh K) := h ▸ ZSO hc
theorem ZHr : ZDb X (.type "tuple") (ZJp K) := h ▸ ZOi
theorem ZJz : ZDb X (.builtin "isinstance") (ZOb K) := h ▸ ZOc
theorem ZEJ : IxR X (ZOU K) := h ▸ ZQL
theorem ZEB : IxR X (ZOV K) := h ▸ ZR7
theorem ZQr {tg : Expr} (hl : QE X e te) : QI X tg e (ZJV K te) := h ▸ ZQp hl
theorem ZSs {tg : Expr} (hl : QE X e te) : QI X tg e (ZLt K te) := h ▸ ZSp hl
theorem ZNB {k : Nat} {u : TGs} {n : Nat} (hc : X.calm = true) (hg : QGs X es u) (hn : (assignEach es X.env).length = n := by rfl) (hst : (assignEach es X.env).findIdx? (·.1) = none := by rfl) : QG X (.Tuple es k pos) (ZLr K n u) := h ▸ ZSq hc hg hn hst
end
mutual
inductive Dat (K : W.Frag) (H : Hp) : V → PyData → Prop
 | non : Dat K H .non .none
 | bl (b : Bool) : Dat K H (.bl b) (.bool b)
 | int (i : Int) : Dat K H (.int i) (.int i)
 | str (x : Str) : Dat K H (.str x) (.str x)
 | tup {a : Addr} {xs : List V} {ds : List PyData} (h : SqT K H a xs) (r : ZEa K H xs ds) : Dat K H (.ref a) (.tuple ds)
 | lst {a : Addr} {xs : List V} {ds : List PyData} (h : SqL K H a xs) (r : ZEa K H xs ds) : Dat K H (.ref a) (.list ds)
inductive ZEa (K : W.Frag) (H : Hp) : List V → List PyData → Prop
 | nil : ZEa K H [] []
 | cons {x : V} {d : PyData} {xs : List V} {ds : List PyData} (h : Dat K H x d) (r : ZEa K H xs ds) : ZEa K H (x :: xs) (d :: ds)
end
section
variable {X : Cx} {pins : List (Addr × Obj)} {σ : St} {H : Hp} {s : Shared}
mutual
theorem Dat.reads (I : Inv X pins σ H s) : ∀ {x : V} {d : PyData} {u : Value}, Dat X.K H x d → ZDH x u → ∃ as, Reads s.heap u d as
 | _, _, u, .non, r => by cases (show u = Value.none from r); exact ⟨_, .none⟩
 | _, _, u, .bl b, r => by cases (show u = Value.bool b from r); exact ⟨_, .bool b⟩
 | _, _, u, .int i, r => by obtain ⟨t, rfl⟩ := (show ∃ t, u = Value.int i t from r); exact ⟨_, .int i t⟩
 | _, _, u, .str x, r => by obtain ⟨t, rfl⟩ := (show ∃ t, u = Value.str x t from r); exact ⟨_, .str x t⟩
 | _, _, u, @Dat.tup _ _ a xs ds h rs, r => by
  cases (show u = Value.ref a from r)
  obtain ⟨its, rv, ⟨o, ho, hc, n, hd⟩, _⟩ := I.tuple h
  obtain ⟨as, ra⟩ := ZEa.reads I rs rv
  exact ⟨_, .tuple ho hc hd (by simpa using ra)⟩
 | _, _, u, @Dat.lst _ _ a xs ds h rs, r => by
  cases (show u = Value.ref a from r)
  obtain ⟨its, rv, ⟨o, n, ho, hc, _, hd⟩, _⟩ := I.list h
  obtain ⟨as, ra⟩ := ZEa.reads I rs rv
  exact ⟨_, .list ho hc hd (by simpa using ra)⟩
theorem ZEa.reads (I : Inv X pins σ H s) : ∀ {xs : List V} {ds : List PyData} {us : List Value}, ZEa X.K H xs ds → ZDG xs us → ∃ as, ReadsAll s.heap us ds as
 | _, _, _, .nil, .nil => ⟨_, .nil⟩
 | _, _, _, .cons h r, .cons r1 r2 => by
  obtain ⟨as, ra⟩ := Dat.reads I h r1
  obtain ⟨bs, rb⟩ := ZEa.reads I r r2
  exact ⟨_, .cons ra rb⟩
end
end
section
variable {X : Cx}
def ZJ0 (K : W.Frag) : R2 := fun x y H Q => ∃ d e, Dat K H x d ∧ Dat K H y e ∧ d.canLay0 = true ∧ e.canLay0 = true ∧ d.depth ≤ 60 ∧ Q (.bl (!PyData.eqv d e)) H
theorem ZGr (K : W.Frag) (hK : X.K = K) (hu : X.A.units + 64 < cLine) : OpR X (compareOp .NotEq) (ZJ0 K) := by
 subst hK
 intro pins s σ H x y v u Q I rx ry h
 obtain ⟨d, e, h1, h2, c1, c2, hd, q⟩ := h
 obtain ⟨as, ra⟩ := h1.reads I rx
 obtain ⟨bs, rb⟩ := h2.reads I ry
 exact SeqAt.compareNe_reads ra rb c1 c2 (by have := Nat.min_le_left d.depth e.depth; omega) ⟨.bl _, H, I, rfl, q⟩
theorem ZNC {K : W.Frag} {H : Hp} {Q : VK} {x y : V} {d e : PyData} (h1 : Dat K H x d) (h2 : Dat K H y e) (c1 : d.canLay0 = true) (c2 : e.canLay0 = true) (hd : d.depth ≤ 60) (h : Q (.bl (!PyData.eqv d e)) H) : ZJ0 K x y H Q := ⟨d, e, h1, h2, c1, c2, hd, h⟩
theorem ZTg {K : W.Frag} {T : String} {r : V → List V → Hp → VK → Prop} {to : TE} {t : TA} {σ : St} {H : Hp} {Q : VK} (h : to σ H fun x H1 => tyV K T x H1 ∧ t σ H1 fun xs H2 => r x xs H2 Q) : tBM K T r to t σ H Q := h
theorem tyL {K : W.Frag} {H : Hp} {p : Addr} {xs : List V} (h : H p = some (.lst xs)) : tyV K "list" (.ref p) H := .inl ⟨rfl, xs, SqL.of h⟩
theorem ZFk {H : Hp} {Q : VK} {p : Addr} {xs : List V} {y : V} (h1 : H p = some (.lst xs)) (hz : xs.length < sizeLine) (h : ∀ H2, H2 p = some (.lst (xs ++ [y])) → Kp p H H2 → Q .non H2) : ZLR (.ref p) [y] H Q :=
 ⟨p, xs, y, rfl, rfl, h1, hz, h _ ZDN Kp.upd⟩
end
def ZD3 (p : Int × Int) : PyData := .tuple [.int p.1, .int p.2]
def ZDK (H : Hp) (vs : List V) (l : PL) : Prop := Paired (fun v (p : Int × Int) => ∃ a, v = V.ref a ∧ H a = some (.tup [.int p.1, .int p.2])) vs l
theorem ZDK.same {H H' : Hp} {vs : List V} {l : PL} (h : ZDK H vs l) (s : ZDC H H') : ZDK H' vs l := Paired.mapP h fun _ _ ⟨a, e, z⟩ => ⟨a, e, s _ _ z⟩
theorem ZDK.dats {K : W.Frag} {H : Hp} : ∀ {vs : List V} {l : PL}, ZDK H vs l → ZEa K H vs (l.map ZD3)
 | _, _, .nil => .nil
 | _, _, .cons ⟨a, e, z⟩ t => by
  subst e
  exact .cons (.tup (SqT.of z) (.cons (.int _) (.cons (.int _) .nil))) (ZDK.dats t)
theorem ZGs : ∀ l : PL, PyData.canLayAll0 (l.map ZD3) = true
 | [] => rfl
 | p :: l => by
  show (PyData.canLay0 (ZD3 p) && PyData.canLayAll0 (l.map ZD3)) = true
  rw [ZGs l]
  rfl
section
variable {κ : Type} [DecidableEq κ]
def ZDY (kvs : List (κ × V)) (k : κ) : Option V := (kvs.find? fun kv => decide (kv.1 = k)).map (·.2)
def ZD6 (kvs : List (κ × V)) (k : κ) (v : V) : List (κ × V) :=
 if (kvs.any fun kv => decide (kv.1 = k)) = true then kvs.map (fun kv => if kv.1 = k then (kv.1, v) else kv) else kvs ++ [(k, v)]
def ZFl (kvs : List (κ × V)) (k : κ) : List (κ × V) := kvs.filter fun kv => decide (kv.1 ≠ k)
theorem ZD0 {p : κ × V} {r : List (κ × V)} {k : κ} (e : p.1 = k) : ZDY (p :: r) k = some p.2 := by simp [ZDY, List.find?_cons, e]
theorem ZD1 {p : κ × V} {r : List (κ × V)} {k : κ} (e : ¬ p.1 = k) : ZDY (p :: r) k = ZDY r k := by simp [ZDY, List.find?_cons, e]
theorem ZGR (k : κ) : ∀ kvs : List (κ × V), (kvs.any fun kv => decide (kv.1 = k)) = (ZDY kvs k).isSome
 | [] => rfl
 | p :: r => by
  rw [List.any_cons]
  by_cases e : p.1 = k
  ·simp only [ZD0 e, decide_eq_true e, Bool.true_or, Option.isSome_some]
  ·rw [ZD1 e, decide_eq_false e, Bool.false_or]; exact ZGR k r
theorem ZJ1 (k j : κ) (y : V) : ∀ kvs : List (κ × V), ZDY (kvs.map fun kv => if kv.1 = k then (kv.1, y) else kv) j = (ZDY kvs j).map fun x => if j = k then y else x
 | [] => rfl
 | p :: r => by
  have ih := ZJ1 k j y r
  rw [List.map_cons]
  by_cases h : p.1 = k
  ·rw [if_pos h]
   by_cases e : p.1 = j
   ·rw [ZD0 (p := (p.1, y)) e, ZD0 e, Option.map_some, if_pos (e.symm.trans h)]
   ·rw [ZD1 (p := (p.1, y)) e, ZD1 e, ih]
  ·rw [if_neg h]
   by_cases e : p.1 = j
   ·rw [ZD0 (p := p) e, ZD0 e, Option.map_some, if_neg (fun z => h (e.trans z))]
   ·rw [ZD1 (p := p) e, ZD1 e, ih]
theorem ZI4 (k j : κ) (y : V) : ∀ kvs : List (κ × V), ZDY kvs k = none → ZDY (kvs ++ [(k, y)]) j = if j = k then some y else ZDY kvs j
 | [], _ => by
  by_cases e : k = j
  ·rw [if_pos e.symm]; exact ZD0 (p := (k, y)) e
  ·rw [if_neg (fun z => e z.symm)]; exact ZD1 (p := (k, y)) e
 | p :: r, hn => by
  rw [List.cons_append]
  have hk : ¬ p.1 = k := fun z => by rw [ZD0 z] at hn; cases hn
  rw [ZD1 hk] at hn
  have ih := ZI4 k j y r hn
  by_cases e : p.1 = j
  ·rw [ZD0 e, ZD0 e, if_neg (fun z => hk (e.trans z))]
  ·rw [ZD1 e, ZD1 e, ih]
theorem ZHs (kvs : List (κ × V)) (k j : κ) (y : V) : ZDY (ZD6 kvs k y) j = if j = k then some y else ZDY kvs j := by
 unfold ZD6
 by_cases a : (kvs.any fun kv => decide (kv.1 = k)) = true
 ·rw [if_pos a, ZJ1]
  rw [ZGR] at a
  by_cases e : j = k
  ·obtain ⟨x, hx⟩ := Option.isSome_iff_exists.mp a
   rw [if_pos e, e, hx, Option.map_some, if_pos rfl]
  ·rw [if_neg e]
   cases ZDY kvs j with
   | none => rfl
   | some x => rw [Option.map_some, if_neg e]
 ·rw [if_neg a]
  refine ZI4 k j y kvs ?_
  rw [ZGR] at a
  cases q : ZDY kvs k with
  | none => rfl
  | some x => rw [q] at a; exact (a rfl).elim
theorem ZEm (kvs : List (κ × V)) (k : κ) (v : V) : (ZD6 kvs k v).length ≤ kvs.length + 1 := by
 unfold ZD6
 split
 ·rw [List.length_map]; omega
 ·rw [List.length_append, List.length_cons, List.length_nil]; omega
theorem ZEQ.isSome_eq {o : Option V} {u : Option Value} (r : ZEQ o u) : o.isSome = u.isSome := by
 cases o with
 | none => cases u with
  | none => rfl
  | some _ => exact (show False from r).elim
 | some _ => cases u with
  | none => exact (show False from r).elim
  | some _ => rfl
theorem ZEQ.getD {o : Option V} {u : Option Value} {d : V} {d' : Value} (r : ZEQ o u) (rd : ZDH d d') : ZDH (o.getD d) (u.getD d') := by
 cases o with
 | none => cases u with
  | none => exact rd
  | some _ => exact (show False from r).elim
 | some _ => cases u with
  | none => exact (show False from r).elim
  | some _ => exact r
theorem KV.val {kvs : List (κ × V)} {vs : List (κ × Value)} (r : KV kvs vs) (k : κ) : ZEQ (ZDY kvs k) (valueAt vs k) := by
 unfold KV at r
 induction r with
 | nil => exact True.intro
 | @cons p q ps qs h t ih =>
  obtain ⟨h1, h2⟩ := h
  by_cases e : p.1 = k
  ·have e' : q.1 = k := h1.symm.trans e
   have b : valueAt (q :: qs) k = some q.2 := by simp [valueAt, List.find?_cons, e']
   rw [ZD0 e, b]; exact h2
  ·have e' : ¬ q.1 = k := fun z => e (h1.trans z)
   have b : valueAt (q :: qs) k = valueAt qs k := by simp [valueAt, List.find?_cons, e']
   rw [ZD1 e, b]; exact ih
theorem KV.any {kvs : List (κ × V)} {vs : List (κ × Value)} (r : KV kvs vs) (k : κ) : (kvs.any fun kv => decide (kv.1 = k)) = vs.any fun kv => decide (kv.1 = k) := by
 unfold KV at r
 induction r with
 | nil => rfl
 | cons h t ih => rw [List.any_cons, List.any_cons, ih, h.1]
theorem KV.repl {kvs : List (κ × V)} {vs : List (κ × Value)} (r : KV kvs vs) (k : κ) {y : V} {u : Value} (ry : ZDH y u) :
  KV (kvs.map fun kv => if kv.1 = k then (kv.1, y) else kv) (vs.map fun kv => if kv.1 = k then (kv.1, u) else kv) := by
 unfold KV at r ⊢
 induction r with
 | nil => exact .nil
 | @cons p q ps qs h t ih =>
  rw [List.map_cons, List.map_cons]
  refine .cons ?_ ih
  obtain ⟨h1, h2⟩ := h
  by_cases e : p.1 = k
  ·rw [if_pos e, if_pos (h1.symm.trans e)]; exact ⟨h1, ry⟩
  ·rw [if_neg e, if_neg (fun z => e (h1.trans z))]; exact ⟨h1, h2⟩
theorem KV.put {kvs : List (κ × V)} {vs : List (κ × Value)} (r : KV kvs vs) (k : κ) {y : V} {u : Value} (ry : ZDH y u) : KV (ZD6 kvs k y) (stored vs k u) := by
 unfold ZD6 stored
 rw [r.any k]
 by_cases e : (vs.any fun kv => decide (kv.1 = k)) = true
 ·rw [if_pos e, if_pos e]; exact r.repl k ry
 ·rw [if_neg e, if_neg e]; exact Paired.snoc r ⟨rfl, ry⟩
theorem KV.drop {kvs : List (κ × V)} {vs : List (κ × Value)} (r : KV kvs vs) (k : κ) : KV (ZFl kvs k) (without vs k) := by
 unfold KV at r ⊢
 unfold ZFl without
 induction r with
 | nil => exact .nil
 | @cons p q ps qs h t ih =>
  obtain ⟨h1, h2⟩ := h
  rw [List.filter_cons, List.filter_cons]
  by_cases e : p.1 = k
  ·have a : ¬ decide (p.1 ≠ k) = true := by simp [e]
   have b : ¬ decide (q.1 ≠ k) = true := by simp [h1.symm.trans e]
   rw [if_neg a, if_neg b]; exact ih
  ·have e' : ¬ q.1 = k := fun z => e (h1.trans z)
   have a : decide (p.1 ≠ k) = true := by simp [e]
   have b : decide (q.1 ≠ k) = true := by simp [e']
   rw [if_pos a, if_pos b]; exact .cons ⟨h1, h2⟩ ih
theorem KV.length {kvs : List (κ × V)} {vs : List (κ × Value)} (r : KV kvs vs) : kvs.length = vs.length := Paired.length r
theorem ZOp (kvs : List (κ × V)) (k : κ) : (ZFl kvs k).length ≤ kvs.length := List.length_filter_le _ _
end
theorem ZGS {P : Program} {w : World} {k : Key} {u : Value} (r : ZDH (kV k) u) : (ZDV P w).is k u = true := by
 cases k with
 | inl i => obtain ⟨t, e⟩ := (show ∃ t, u = Value.int i t from r); subst e; exact ZK3 P w i t
 | inr x => obtain ⟨t, e⟩ := (show ∃ t, u = Value.str x t from r); subst e; exact ZK4 P w x t
theorem ZI5 {P : Program} {w : World} : ∀ {ks : List Key} {us : List Value}, ZDG (ks.map kV) us → ItemsAre (ZDV P w) ks us
 | [], _, r => by rw [List.map_nil] at r; cases r; exact .nil
 | k :: ks, _, r => by
  rw [List.map_cons] at r
  cases r with
  | cons h t => exact .cons (ZGS h) (ZI5 t)
abbrev KT (H : Hp) : List (List Key × V) → List (List Key × Addr × Value) → Prop := Paired fun p q => p.1 = q.1 ∧ H q.2.1 = some (.tup (p.1.map kV)) ∧ ZDH p.2 q.2.2
theorem KT.val {H : Hp} {kvs : List (List Key × V)} {xs : List (List Key × Addr × Value)} (r : KT H kvs xs) (k : List Key) : ZEQ (ZDY kvs k) ((atKey xs k).map (·.2)) := by
 induction r with
 | nil => exact True.intro
 | @cons p q ps qs h t ih =>
  obtain ⟨h1, _, h2⟩ := h
  by_cases e : p.1 = k
  ·have e' : q.1 = k := h1.symm.trans e
   have b : atKey (q :: qs) k = some q.2 := by simp [atKey, List.find?_cons, e']
   rw [ZD0 e, b]; exact h2
  ·have e' : ¬ q.1 = k := fun z => e (h1.trans z)
   have b : atKey (q :: qs) k = atKey qs k := by simp [atKey, List.find?_cons, e']
   rw [ZD1 e, b]; exact ih
theorem KT.repl {H : Hp} {kvs : List (List Key × V)} {xs : List (List Key × Addr × Value)} (r : KT H kvs xs) (k : List Key) {y : V} {u : Value} (ry : ZDH y u) :
  KT H (kvs.map fun kv => if kv.1 = k then (kv.1, y) else kv) (xs.map (putAt k u)) := by
 induction r with
 | nil => exact .nil
 | @cons p q ps qs h t ih =>
  rw [List.map_cons, List.map_cons]
  refine .cons ?_ ih
  obtain ⟨h1, h2, h3⟩ := h
  unfold putAt
  by_cases e : p.1 = k
  ·rw [if_pos e, if_pos (h1.symm.trans e)]; exact ⟨h1, h2, ry⟩
  ·rw [if_neg e, if_neg (fun z => e (h1.trans z))]; exact ⟨h1, h2, h3⟩
theorem KT.put {H : Hp} {kvs : List (List Key × V)} {xs : List (List Key × Addr × Value)} (r : KT H kvs xs) (k : List Key) {b : Addr} {y : V} {u : Value} (hb : H b = some (.tup (k.map kV))) (ry : ZDH y u) :
  KT H (ZD6 kvs k y) (storedH xs k b u) := by
 have e : (kvs.any fun kv => decide (kv.1 = k)) = (atKey xs k).isSome := by
  rw [ZGR, (r.val k).isSome_eq, Option.isSome_map]
 unfold ZD6 storedH
 rw [e]
 by_cases q : (atKey xs k).isSome = true
 ·rw [if_pos q, if_pos q]; exact r.repl k ry
 ·rw [if_neg q, if_neg q]; exact Paired.snoc r ⟨rfl, hb, ry⟩
theorem KT.keeps {H H' : Hp} {kvs : List (List Key × V)} {xs : List (List Key × Addr × Value)} (r : KT H kvs xs) (ht : ∀ b ys, H b = some (.tup ys) → H' b = some (.tup ys)) : KT H' kvs xs :=
 Paired.mapP r fun _ _ z => ⟨z.1, ht _ _ z.2.1, z.2.2⟩
section
variable {P : Program} {w : World} {H : Hp} {h : Heap} {a : Addr}
theorem ZPo {u : HO} (ok : HOk P w H h) (e : Rd H a u) : ZDS P w H h a u := e.ok ok
theorem ZFP {kvs : List (Key × V)} (ok : HOk P w H h) (e : Rd H a (.dK kvs)) : kvs.length ≤ sizeLine ∧ (a == sysModules) = false ∧ ∃ vs, KV kvs vs ∧ h.DictOf (ZDV P w) a vs :=
 show ZDS P w H h a (.dK kvs) from ZPo ok e
theorem ZGT {kvs : List (Key × V)} (ok : HOk P w H h) (e : H a = some (.dK kvs)) : kvs.length ≤ sizeLine ∧ (a == sysModules) = false ∧ ∃ vs, KV kvs vs ∧ h.DictOf (ZDV P w) a vs := ZFP ok (.inl e)
theorem ZGt {ks : List Key} (ok : HOk P w H h) (e : H a = some (.tup (ks.map kV))) : (tupleKind (ZDV P w)).is h ks a := by
 obtain ⟨_, its, r, o, h1, h2, n, h3⟩ := (show ZDS P w H h a (.tup (ks.map kV)) from ok a _ e)
 exact ⟨o, its.toArray, n, h1, h2, h3, by simpa using ZI5 r⟩
theorem ZGU {kvs : List (List Key × V)} (ok : HOk P w H h) (e : Rd H a (.dT kvs)) : kvs.length ≤ sizeLine ∧ (a == sysModules) = false ∧
  ∃ xs, KT H kvs xs ∧ h.DictOfH (tupleKind (ZDV P w)) a xs := by
 obtain ⟨z, y, xs, r, o, es, ep, h1, h2, h3, h4, h5⟩ := (show ZDS P w H h a (.dT kvs) from ZPo ok e)
 refine ⟨z, y, xs, r, o, es, ep, h1, h2, h3, h4, fun x hx => ?_, h5⟩
 have all : ∀ {l : List (List Key × V)} {m : List (List Key × Addr × Value)}, KT H l m → ∀ x ∈ m, (tupleKind (ZDV P w)).is h x.1 x.2.1 := by
  intro l m q
  induction q with
  | nil => intro x hx; exact nomatch hx
  | @cons p q ps qs hq t ih =>
   intro x hx
   rcases List.mem_cons.mp hx with e | hx
   ·subst e
    exact ZGt ok (by rw [← hq.1]; exact hq.2.1)
   ·exact ih x hx
 exact all r x hx
theorem ZTh {kvs : List (List Key × V)} (ok : HOk P w H h) (e : H a = some (.dT kvs)) : kvs.length ≤ sizeLine ∧ (a == sysModules) = false ∧
 ∃ xs, KT H kvs xs ∧ h.DictOfH (tupleKind (ZDV P w)) a xs := ZGU ok (.inl e)
end
def ZEK (H : Hp) (a : Addr) (y : V) (r : Option V) : Prop :=
 (∃ kvs k, Rd H a (.dK kvs) ∧ y = kV k ∧ r = ZDY kvs k) ∨ ∃ kvs k b, Rd H a (.dT kvs) ∧ y = .ref b ∧ H b = some (.tup (k.map kV)) ∧ r = ZDY kvs k
def ZFt (H : Hp) (a : Addr) (y v : V) (H' : Hp) : Prop :=
 (∃ kvs k, H a = some (.dK kvs) ∧ y = kV k ∧ kvs.length < sizeLine ∧ H' = upd H a (.dK (ZD6 kvs k v))) ∨
 ∃ kvs k b, H a = some (.dT kvs) ∧ y = .ref b ∧ H b = some (.tup (k.map kV)) ∧ kvs.length < sizeLine ∧ H' = upd H a (.dT (ZD6 kvs k v))
theorem ZEK.k {H : Hp} {a : Addr} {kvs : List (Key × V)} {k : Key} (e : H a = some (.dK kvs)) : ZEK H a (kV k) (ZDY kvs k) := .inl ⟨kvs, k, .inl e, rfl, rfl⟩
theorem ZEK.t {H : Hp} {a b : Addr} {kvs : List (List Key × V)} {k : List Key} (e : H a = some (.dT kvs)) (eb : H b = some (.tup (k.map kV))) : ZEK H a (.ref b) (ZDY kvs k) := .inr ⟨kvs, k, b, .inl e, rfl, eb, rfl⟩
theorem ZFt.k {H : Hp} {a : Addr} {kvs : List (Key × V)} {k : Key} {v : V} (e : H a = some (.dK kvs)) (hl : kvs.length < sizeLine) : ZFt H a (kV k) v (upd H a (.dK (ZD6 kvs k v))) := .inl ⟨kvs, k, e, rfl, hl, rfl⟩
theorem ZFt.t {H : Hp} {a b : Addr} {kvs : List (List Key × V)} {k : List Key} {v : V} (e : H a = some (.dT kvs)) (eb : H b = some (.tup (k.map kV))) (hl : kvs.length < sizeLine) :
 ZFt H a (.ref b) v (upd H a (.dT (ZD6 kvs k v))) := .inr ⟨kvs, k, b, e, rfl, eb, hl, rfl⟩
section
variable {X : Cx} {pins : List (Addr × Obj)} {σ : St} {H : Hp} {s : Shared} {a : Addr} {y v : V} {u r : Value} {o : Option V} {A : Around} {E : Value → Shared → Prop}
theorem Inv.big (I : Inv X pins σ H s) : sysModules < s.heap.objs.size := by
 have h : mainGlobals < s.heap.objs.size := (I.mod.glob.keeps I.bk).lt
 exact Nat.lt_trans (by decide) h
theorem ZND {Q : Value → Shared → Prop} (hu : A.units + 1 < cLine) (I : Inv X pins σ H s) (g : ZEK H a y (some v)) (ry : ZDH y u) (h : ∀ w' s', Inv X pins σ H s' → ZDH v w' → Q w' s') :
  wpAny (model X.prog X.w) A (getItem (.ref a) u) Q E s := by
 rcases g with ⟨kvs, k, e, ey, l⟩ | ⟨kvs, k, b, e, ey, eb, l⟩
 ·subst ey
  obtain ⟨z, hd, vs, rel, dd⟩ := ZFP I.hok e
  obtain ⟨w', hw, rw'⟩ := ZEQ.some_of (v := v) (o := valueAt vs k) (by rw [l]; exact rel.val k)
  exact wpAny_getItem_of (ZGS ry) dd.mapOf hw (h w' _ (I.tok _) rw')
 ·subst ey
  cases (show u = Value.ref b from ry)
  obtain ⟨z, hd, xs, rel, dd⟩ := ZGU I.hok e
  obtain ⟨w', hw, rw'⟩ := ZEQ.some_of (v := v) (o := (atKey xs k).map (·.2)) (by rw [l]; exact rel.val k)
  obtain ⟨p, hp, hp2⟩ := Option.map_eq_some_iff.mp hw
  refine wpAny_getItem_heap (tupleKind_room_in1 hu) (ZGt I.hok eb) dd hp ?_
  rw [hp2]
  exact h w' _ (I.tok _) rw'
theorem ZQs {Q : Value → Shared → Prop} (hu : A.units + 1 < cLine) (I : Inv X pins σ H s) (g : ZEK H a y o) (ry : ZDH y u) (h : ∀ s', Inv X pins σ H s' → Q (.bool (!o.isSome)) s') :
  wpAny (model X.prog X.w) A (compareOp .NotIn u (.ref a)) Q E s := by
 rcases g with ⟨kvs, k, e, ey, l⟩ | ⟨kvs, k, b, e, ey, eb, l⟩
 ·subst ey
  obtain ⟨z, hd, vs, rel, dd⟩ := ZFP I.hok e
  refine wpAny_notIn_of (ZGS ry) hd dd.mapOf ?_
  rw [← (rel.val k).isSome_eq, ← l]
  exact h _ (I.tok _)
 ·subst ey
  cases (show u = Value.ref b from ry)
  obtain ⟨z, hd, xs, rel, dd⟩ := ZGU I.hok e
  refine wpAny_notIn_heap (tupleKind_room_in1 hu) (ZGt I.hok eb) hd dd ?_
  have q := (rel.val k).isSome_eq
  rw [Option.isSome_map] at q
  rw [← q, ← l]
  exact h _ (I.tok _)
theorem ZF6 {h' : Heap} {t' : Nat} {ob : HO} (I : Inv X pins σ H s) (mu : Mut (H a)) (hs : Heap.SameBut a s.heap h') (he : ∃ q, h'.get? a = some q) (new : ZDS X.prog X.w (upd H a ob) h' a ob) :
  Inv X pins σ (upd H a ob) { s with heap := h', toks := t' } :=
 I.write (x := a) (e := a) mu (.inl rfl) (fun b q hb z => (hs.2 b hb).trans z) he new
theorem ZIQ {P : Program} {w : World} {H' : Hp} {h' : Heap} {kvs : List (Key × V)} {vs : List (Key × Value)} (z : kvs.length ≤ sizeLine) (hd : (a == sysModules) = false) (rel : KV kvs vs) (dd : h'.DictOf (ZDV P w) a vs) :
 ZDS P w H' h' a (.dK kvs) := ⟨z, hd, vs, rel, dd⟩
theorem ZNE {H' : Hp} {Q : Unit → Shared → Prop} (hu : A.units + 1 < cLine) (I : Inv X pins σ H s) (g : ZFt H a y v H') (ry : ZDH y u) (rv : ZDH v r) (h : ∀ s', Inv X pins σ H' s' → Q () s') :
  wpAny (model X.prog X.w) A (setItem (.ref a) u r) Q E s := by
 rcases g with ⟨kvs, k, e, ey, l, eH⟩ | ⟨kvs, k, b, e, ey, eb, l, eH⟩
 ·subst ey eH
  obtain ⟨z, hd, vs, rel, dd⟩ := ZGT I.hok e
  have hz : vs.length ≤ sizeLine := by rw [← rel.length]; exact z
  have hl : (ZD6 kvs k v).length ≤ sizeLine := by have := ZEm kvs k v; omega
  refine wpAny_setItem_pairs (hsz := hz) (ZGS ry) dd fun h' dd' hs => h _ ?_
  have he : ∃ q, h'.get? a = some q := let ⟨q, _, _, hq, _⟩ := dd'; ⟨q, hq⟩
  exact ZF6 I (by rw [e]; exact True.intro) hs he (ZIQ hl hd (rel.put k rv) dd')
 ·subst ey eH
  cases (show u = Value.ref b from ry)
  obtain ⟨z, hd, xs, rel, dd⟩ := ZTh I.hok e
  have hz : xs.length ≤ sizeLine := by rw [← Paired.length rel]; exact z
  have hl : (ZD6 kvs k v).length ≤ sizeLine := by have := ZEm kvs k v; omega
  refine wpAny_setItem_heap (hsz := hz) (tupleKind_room_in1 hu) (ZGt I.hok eb) dd fun h' dd' hs => h _ ?_
  obtain ⟨q, es, ep, hq, h2, h3, h4, _, h5⟩ := dd'
  refine ZF6 I (by rw [e]; exact True.intro) hs ⟨q, hq⟩ ⟨hl, hd, _, (rel.put k eb rv).keeps fun c ys ec => ?_, q, es, ep, hq, h2, h3, h4, h5⟩
  rw [ZDF (ZTO ec e (fun z => nomatch z))]
  exact ec
end
section
variable {X : Cx} {pins : List (Addr × Obj)} {σ : St} {H : Hp} {s : Shared} {a : Addr} {kvs : List (Key × V)} {k : Key} {u : Value} {A : Around} {E : Value → Shared → Prop}
theorem ZTi {v : V} {more : List Value} {Q : Value → Shared → Prop} (I : Inv X pins σ H s) (e : H a = some (.dK kvs)) (ry : ZDH (kV k) u) (l : ZDY kvs k = some v) (hm : more = [] ∨ ∃ x, more = [x])
  (h : ∀ w' s', Inv X pins σ (upd H a (.dK (ZFl kvs k))) s' → ZDH v w' → Q w' s') : wpAny (model X.prog X.w) A (call (.builtin "dict.pop") (.ref a :: u :: more)) Q E s := by
 obtain ⟨z, hd, vs, rel, dd⟩ := ZGT I.hok e
 obtain ⟨w', hw, rw'⟩ := ZEQ.some_of (v := v) (o := valueAt vs k) (by rw [← l]; exact rel.val k)
 have hp : (keyPart u).isSome = true := by
  cases k with
  | inl i => obtain ⟨t, q⟩ := (show ∃ t, u = Value.int i t from ry); subst q; rfl
  | inr x => obtain ⟨t, q⟩ := (show ∃ t, u = Value.str x t from ry); subst q; rfl
 have ha : argsOk "dict.pop" ⟨.ref a :: u :: more, []⟩ := by
  rcases hm with q | ⟨x, q⟩
  ·subst q; exact PySem.F.args_dict_pop_2 _ _
  ·subst q; exact PySem.F.args_dict_pop_3 _ _ _
 refine call_meetsIn PySem.F.slot_dict_pop dd.typeIs PySem.F.entry_dict_pop ha (meets_dict_pop_there (ZDV X.prog X.w) a (ZGS ry) more hm hp)
  ⟨vs, w', dd, by rw [← rel.length]; exact z, hw, fun h' dd' hs => h w' _ ?_ rw'⟩
 have he : ∃ q, h'.get? a = some q := let ⟨q, _, _, hq, _⟩ := dd'; ⟨q, hq⟩
 exact ZF6 I (by rw [e]; exact True.intro) hs he (ZIQ (Nat.le_trans (ZOp kvs k) z) hd (rel.drop k) dd')
end
def ZOq (i : Expr) : Prop := ∀ ov iv, subscripted i false ov iv = operate [ov, iv] (getItem ov iv)
theorem ZQt {prog : Program} {w : World} {A : Around} {E : Value → Shared → Prop} {s : Shared} {env : Env} {value slice : Expr} {pos : Pos} {T id : String} {Q : Value → Shared → Prop}
  (hl : typeLookup (.type T) "__getitem__" = pure (some (.builtin id))) (hs : ZOq slice)
  (h : wpAny (model prog w) A (eval value env) (fun o s₁ => wpAny (model prog w) A (eval slice env) (fun i s₂ => s₂.TypeIs o T ∧ wpAny (model prog w) A (getItem o i) Q E s₂) E s₁) E s) :
  wpAny (model prog w) A (eval (.Subscript value slice pos) env) Q E s := by
 refine Subscript_ (wpAny_mono h (fun o s₁ h₁ => wpAny_mono h₁ (fun i s₂ h₂ => ?_) fun _ _ x => x) fun _ _ x => x)
 obtain ⟨hT, h₂⟩ := h₂
 unfold subscriptTail
 refine wpAny_bind ?_
 rw [getitemInPython_of_ne hT.not_modules]
 refine wpAny_bind (wpAny_specialOf hT hl ?_)
 have fin : wpAny (model prog w) A (subscripted slice false o i) (fun r s₃ => wpAny (model prog w) A (letTemporaryGo value o r >>= fun _ => pure r) Q E s₃) E s₂ := by
  rw [hs o i]
  exact wpAny_operating (wpAny_mono h₂ (fun r s₃ h₃ => wpAny_bind (wpAny_letTemporaryGo (wpAny_pure h₃))) fun _ _ x => x)
 first
  | exact wpAny_pure (wpAny_bind fin)
  | exact wpAny_bind (wpAny_pure (wpAny_bind fin))
  | exact wpAny_bind fin
theorem ZK6 {X : Cx} {pins : List (Addr × Obj)} {σ : St} {H : Hp} {s : Shared} {a : Addr} {y : V} {o : Option V} (I : Inv X pins σ H s) (g : ZEK H a y o) : s.TypeIs (.ref a) "dict" := by
 rcases g with ⟨kvs, k, e, _, _⟩ | ⟨kvs, k, b, e, _, _, _⟩
 ·obtain ⟨_, _, vs, _, dd⟩ := ZFP I.hok e
  exact dd.typeIs
 ·obtain ⟨_, _, xs, _, dd⟩ := ZGU I.hok e
  exact dd.typeIs
theorem ZK7 {X : Cx} {pins : List (Addr × Obj)} {σ : St} {H : Hp} {s : Shared} {a : Addr} {y : V} {o : Option V} (I : Inv X pins σ H s) (g : ZEK H a y o) :
  ∀ b, Value.ref a = .ref b → ∃ ob, s.heap.get? b = some ob ∧ ob.dict = none := fun b q => by
 cases q
 rcases g with ⟨kvs, k, e, _, _⟩ | ⟨kvs, k, b, e, _, _, _⟩
 ·obtain ⟨_, _, vs, _, ob, _, _, h1, h2, _⟩ := ZFP I.hok e
  exact ⟨ob, h1, h2.2.1⟩
 ·obtain ⟨_, _, xs, _, ob, _, _, h1, h2, _⟩ := ZGU I.hok e
  exact ⟨ob, h1, h2.2.1⟩
def ZME (td ty : TE) : TE := fun σ H Q => td σ H fun x H1 => ty σ H1 fun y H2 => ∃ a v, x = .ref a ∧ ZEK H2 a y (some v) ∧ Q v H2
def ZMF (td ty tv : TE) : TS := fun D σ H => tv σ H fun v H1 => td σ H1 fun x H2 => ty σ H2 fun y H3 => ∃ a H4, x = .ref a ∧ ZFt H3 a y v H4 ∧ D.nx σ H4
section
variable {X : Cx} {o i e value : Expr} {pos pos' tpos : Pos} {td ty tv : TE}
theorem ZQu (hu : X.A.units + 1 < cLine) (ho : PE X o td) (hi : PE X i ty) (hs : ZOq i) : PE X (.Subscript o i pos) (ZME td ty) := by
 intro pins s σ H Q I h
 refine ZQt PySem.F.slot_dict_getitem.lookup hs (thn (ho pins s σ H _ I h) fun u s1 ⟨x, H1, I1, rx, q1⟩ => thn (hi pins s1 σ H1 _ I1 q1) fun iv s2 ⟨y, H2, I2, ry, a, v, ex, g, q2⟩ => ?_)
 subst ex
 obtain rfl : u = Value.ref a := rx
 exact ⟨ZK6 I2 g, ZND hu I2 g ry fun w' s3 I3 rw' => ⟨v, H2, I3, rw', q2⟩⟩
theorem ZQv (hu : X.A.units + 1 < cLine) (ho : PE X o td) (hi : PE X i ty) (hv : PE X value tv) (hs : swapsWith value (some (.Subscript o i pos')) pos.line X.env = pure false) :
  PS X (.Assign [.Subscript o i pos'] value pos) (ZMF td ty tv) := by
 intro pins s σ H D I h
 refine wpAny_Assign_Subscript (thn (hv pins s σ H _ I h) fun r s1 ⟨v, H1, I1, rv, q1⟩ => thn (ho pins s1 σ H1 _ I1 q1) fun u s2 ⟨x, H2, I2, rx, q2⟩ => thn (hi pins s2 σ H2 _ I2 q2) fun iv s3 ⟨y, H3, I3, ry, a, H4, ex, g, q3⟩ => ?_) hs
 subst ex
 obtain rfl : u = Value.ref a := rx
 exact ZNE hu I3 g ry rv fun s4 I4 => ⟨σ, H4, I4, q3⟩
end
theorem ZOr {P : Program} {w : World} {H : Hp} (h : Heap) (hb : sysModules < h.objs.size) : ZDS P w H (h.push { cls := .type "dict", data := .dict #[] }) h.objs.size (.dK []) :=
 ⟨Nat.zero_le _, beq_eq_false_iff_ne.mpr (Ne.symm (Nat.ne_of_lt hb)), [], .nil, Heap.DictOf.new h⟩
theorem ZOs {P : Program} {w : World} {H : Hp} (h : Heap) (hb : sysModules < h.objs.size) : ZDS P w H (h.push { cls := .type "dict", data := .dict #[] }) h.objs.size (.dT []) :=
 ⟨Nat.zero_le _, beq_eq_false_iff_ne.mpr (Ne.symm (Nat.ne_of_lt hb)), [], .nil, _, #[], 0, Heap.get?_push_size _ rfl, ⟨rfl, rfl, rfl⟩, rfl, rfl, List.nodup_nil⟩
def ZJ2 : TE := fun _ H Q => ∀ p, H p = none → Q (.ref p) (upd H p (.dK []))
def ZJ3 : TE := fun _ H Q => ∀ p, H p = none → Q (.ref p) (upd H p (.dT []))
section
variable {X : Cx} {pos : Pos}
theorem ZOt : PE X (.Dict [] [] pos) ZJ2 := fun pins s σ H Q I h =>
 wpAny_Dict_empty ⟨.ref s.heap.objs.size, _, I.laid (a := s.heap.objs.size) (o := .dK []) (t' := s.toks) (fun _ _ q => Heap.get?_push_of_some _ q) (Nat.le_refl _) (ZOr s.heap I.big), rfl, h _ (I.hok.fresh (Nat.le_refl _))⟩
theorem ZOu : PE X (.Dict [] [] pos) ZJ3 := fun pins s σ H Q I h =>
 wpAny_Dict_empty ⟨.ref s.heap.objs.size, _, I.laid (a := s.heap.objs.size) (o := .dT []) (t' := s.toks) (fun _ _ q => Heap.get?_push_of_some _ q) (Nat.le_refl _) (ZOs s.heap I.big), rfl, h _ (I.hok.fresh (Nat.le_refl _))⟩
end
structure M1 (X : Cx) (o : Expr) (m : Str) (apos : Pos) (e : Expr) (cpos : Pos) : Prop where
 base : attributeBase o m X.env (eval o X.env) = eval o X.env
 few : ((backTo cpos (starEach [e] X.env)).all (fun x => !x.1) && (backToKw cpos (keywordEach [] X.env)).all (fun x => x.1.isSome)
  && decide (([e] : List Expr).length + ([] : List Keyword).length + (if ([] : List Keyword).isEmpty then 0 else 1) < 30)) = true
 line : (apos.endLine == cpos.line) = true
 trees : backTo cpos (starEach [e] X.env) = [(false, eval e X.env)]
structure M2 (X : Cx) (o : Expr) (m : Str) (apos : Pos) (e f : Expr) (cpos : Pos) : Prop where
 base : attributeBase o m X.env (eval o X.env) = eval o X.env
 few : ((backTo cpos (starEach [e, f] X.env)).all (fun x => !x.1) && (backToKw cpos (keywordEach [] X.env)).all (fun x => x.1.isSome)
  && decide (([e, f] : List Expr).length + ([] : List Keyword).length + (if ([] : List Keyword).isEmpty then 0 else 1) < 30)) = true
 line : (apos.endLine == cpos.line) = true
 trees : backTo cpos (starEach [e, f] X.env) = [(false, eval e X.env), (false, eval f X.env)]
def IsD (H : Hp) (a : Addr) : Prop := (∃ kvs, Rd H a (.dK kvs)) ∨ ∃ kvs, Rd H a (.dT kvs)
theorem ZJ4 {X : Cx} {pins : List (Addr × Obj)} {σ : St} {H : Hp} {s : Shared} {a : Addr} (I : Inv X pins σ H s) (d : IsD H a) :
  s.TypeIs (.ref a) "dict" ∧ (∀ b, Value.ref a = .ref b → ∃ ob, s.heap.get? b = some ob ∧ ob.dict = none) ∧ (a == sysModules) = false := by
 rcases d with ⟨kvs, e⟩ | ⟨kvs, e⟩
 ·obtain ⟨_, hd, vs, _, dd⟩ := ZFP I.hok e
  refine ⟨dd.typeIs, fun b q => ?_, hd⟩
  cases q
  obtain ⟨ob, _, _, h1, h2, _⟩ := dd
  exact ⟨ob, h1, h2.2.1⟩
 ·obtain ⟨_, hd, xs, _, dd⟩ := ZGU I.hok e
  refine ⟨dd.typeIs, fun b q => ?_, hd⟩
  cases q
  obtain ⟨ob, _, _, h1, h2, _⟩ := dd
  exact ⟨ob, h1, h2.2.1⟩
section
variable {X : Cx} {pins : List (Addr × Obj)} {σ : St} {H : Hp} {s : Shared} {a : Addr} {y d : V} {u r : Value} {o : Option V} {A : Around} {E : Value → Shared → Prop}
theorem ZSt {Q : Value → Shared → Prop} (hu : A.units + 1 < cLine) (I : Inv X pins σ H s) (g : ZEK H a y o) (ry : ZDH y u) (h : ∀ w' s', Inv X pins σ H s' → ZDH (o.getD .non) w' → Q w' s') :
  wpAny (model X.prog X.w) A (call (.builtin "dict.get") [.ref a, u]) Q E s := by
 rcases g with ⟨kvs, k, e, ey, l⟩ | ⟨kvs, k, b, e, ey, eb, l⟩
 ·subst ey
  obtain ⟨z, hd, vs, rel, dd⟩ := ZFP I.hok e
  refine call_meetsIn PySem.F.slot_dict_get dd.typeIs PySem.F.entry_dict_get (PySem.F.args_dict_get_2 _ _) (meets_dict_get (ZDV X.prog X.w) a (ZGS ry) hd) ⟨_, dd.mapOf, h _ _ (I.tok _) ?_⟩
  rw [l]
  exact (rel.val k).getD rfl
 ·subst ey
  cases (show u = Value.ref b from ry)
  obtain ⟨z, hd, xs, rel, dd⟩ := ZGU I.hok e
  refine call_meetsIn PySem.F.slot_dict_get dd.typeIs PySem.F.entry_dict_get (PySem.F.args_dict_get_2 _ _) (meetsH_dict_get (tupleKind (ZDV X.prog X.w)) a b hd) ⟨tupleKind_room_in1 hu, k, xs, ZGt I.hok eb, dd, h _ _ (I.tok _) ?_⟩
  rw [l]
  exact (rel.val k).getD rfl
end
def ZJ5 (td ty : TE) : TE := fun σ H Q => td σ H fun x H1 => ∃ a, x = .ref a ∧ IsD H1 a ∧ ty σ H1 fun y H2 => ∃ o, ZEK H2 a y o ∧ Q (o.getD .non) H2
def ZJ6 (td ty : TE) : TE := fun σ H Q => td σ H fun x H1 => ∃ a, x = .ref a ∧ IsD H1 a ∧ ty σ H1 fun y H2 => ∃ kvs k v, H2 a = some (.dK kvs) ∧ y = kV k ∧ ZDY kvs k = some v ∧ Q v (upd H2 a (.dK (ZFl kvs k)))
section
variable {X : Cx} {o e f : Expr} {apos cpos : Pos} {td ty tx : TE}
theorem ZOv (hu : X.A.units + 1 < cLine) (ho : PE X o td) (he : PE X e ty) (m : M1 X o "get" apos e cpos) : PE X (.Call (.Attribute o "get" apos) [e] [] cpos) (ZJ5 td ty) := by
 intro pins s σ H Q I h
 refine wpAny_Call_method m.base m.few m.line PySem.F.plainAttrs_dict PySem.F.slot_dict_get PySem.F.type_dict_get (thn (ho pins s σ H _ I h) fun u s1 ⟨x, H1, I1, rx, a, ex, d, q1⟩ => ?_)
 subst ex
 obtain rfl : u = Value.ref a := rx
 obtain ⟨t1, t2, _⟩ := ZJ4 I1 d
 refine ⟨t1, t2, ?_⟩
 rw [m.trees]
 refine Calls.callWith_builtin rfl (Calls.evalArgs_plain (Calls.spliced_cons (thn (he pins s1 σ H1 _ I1 q1) fun iv s2 ⟨y, H2, I2, ry, ov, g, q2⟩ => Calls.spliced_nil ?_)))
 exact ZSt hu I2 g ry fun w' s3 I3 rw' => ⟨_, H2, I3, rw', q2⟩
theorem ZOw (ho : PE X o td) (he : PE X e ty) (m : M1 X o "pop" apos e cpos) : PE X (.Call (.Attribute o "pop" apos) [e] [] cpos) (ZJ6 td ty) := by
 intro pins s σ H Q I h
 refine wpAny_Call_method m.base m.few m.line PySem.F.plainAttrs_dict PySem.F.slot_dict_pop PySem.F.type_dict_pop (thn (ho pins s σ H _ I h) fun u s1 ⟨x, H1, I1, rx, a, ex, d, q1⟩ => ?_)
 subst ex
 obtain rfl : u = Value.ref a := rx
 obtain ⟨t1, t2, _⟩ := ZJ4 I1 d
 refine ⟨t1, t2, ?_⟩
 rw [m.trees]
 refine Calls.callWith_builtin rfl (Calls.evalArgs_plain (Calls.spliced_cons (thn (he pins s1 σ H1 _ I1 q1) fun iv s2 ⟨y, H2, I2, ry, kvs, k, v, ea, ey, l, q2⟩ => Calls.spliced_nil ?_)))
 subst ey
 exact ZTi I2 ea ry l (.inl rfl) fun w' s3 I3 rw' => ⟨v, _, I3, rw', q2⟩
end
def ZTx (H : Hp) (vs : List V) (prs : List (Key × V)) : Prop := Paired (fun v (p : Key × V) => ∃ a, v = V.ref a ∧ H a = some (.tup [kV p.1, p.2])) vs prs
section
variable {prog : Program} {w : World} {A : Around} {E : Value → Shared → Prop} {s : Shared} {κ : Type} [DecidableEq κ] {knd : KeyKind prog w κ}
theorem ZGu {d : Addr} {kvs : List (κ × Value)} {ep : Nat} {Q : List Value → Shared → Prop} (hh : A.handled = none) (hd : (d == sysModules) = false) (hm : s.heap.DictAt knd d kvs ep) (hn : kvs.length ≤ sizeLine)
  (hQ : ∀ s' acc, (∀ b o, s.heap.get? b = some o → s'.heap.get? b = some o) → s'.gens = s.gens → s'.drawn = s.drawn → s'.os = s.os → s.heap.objs.size < s'.heap.objs.size → ItemsOf (fun i v => ∃ k x, kvs[i]? = some (k, x) ∧ knd.is k v = true) acc kvs.length → Q acc.toList s') :
  wpAny (model prog w) A (collect (.ref d)) Q E s := by
 have hdl : d < s.heap.objs.size := let ⟨_, _, ho, _⟩ := hm; Heap.lt_size ho
 unfold collect
 refine wpAny_bind (wpAny_runValue (codeAny_builtin F.entry_proto_collect ?_))
 rw [Around.under_plainId F.plain_proto_collect _]
 show wpAny _ A.in1 (newList [] >>= fun l => again (.builtin "list.__iadd__" ⟨[l, .ref d], []⟩)) _ _ s
 refine wpAny_bind (wpAny_newObj_type ?_)
 refine wpAny_pure ⟨plainId_quiet F.plain_list_iadd _, codeAny_builtin F.entry_list_iadd ?_⟩
 rw [Around.under_plainId F.plain_list_iadd _]
 generalize hH : s.heap.push { cls := .type "list", data := .seq ([] : List Value).toArray } = H
 have hHs : H.objs.size = s.heap.objs.size + 1 := by rw [← hH, Heap.size_push]
 have hm1 : H.DictAt knd d kvs ep := hm.at' fun o e => hH ▸ Heap.get?_push_of_some _ e
 have hT1 : (⟨H, s.gens, s.drawn, s.toks, s.os⟩ : Shared).TypeIs (.ref d) "dict" := hm1.dictOf.typeIs
 show wpAny _ A.in1 (Builtin.List.listExtendWith (.ref s.heap.objs.size) (.ref d) (.ref s.heap.objs.size)) _ _ (⟨H, s.gens, s.drawn, s.toks, s.os⟩ : Shared)
 unfold Builtin.List.listExtendWith
 refine wpAny_bind (wpAny_typeOf hT1 ?_)
 have h1 : Builtin.List.listSameRef (.ref s.heap.objs.size) (.ref d) = false := by
  simp only [Builtin.List.listSameRef]
  exact beq_eq_false_iff_ne.mpr (Nat.ne_of_gt hdl)
 have h2 : (Value.type "dict" == Value.type "list") = false := by decide
 have h3 : (Value.type "dict" == Value.type "tuple") = false := by decide
 simp only [h1, h2, h3, Bool.or_false, Bool.false_eq_true, if_false]
 refine wpAny_bind (wpAny_pyIter_dict hd hm1 ?_)
 generalize hO : ({ cls := .type "dict_keyiterator", data := .fields #[.ref d, .int 0 0, .int kvs.length 0, .int ep 0] } : Obj) = O
 have hm2 : (H.push O).DictAt knd d kvs ep := hm1.at' fun o e => Heap.get?_push_of_some _ e
 have hT2 : (⟨H.push O, s.gens, s.drawn, s.toks, s.os⟩ : Shared).TypeIs (.ref d) "dict" := hm2.dictOf.typeIs
 refine wpAny_bind (wpAny_holding ?_)
 unfold Builtin.List.listLengthHint
 refine wpAny_bind (wpAny_specialOf hT2 PySem.F.slot_dict_len.lookup ?_)
 wp_delta
 refine wpAny_bind (wpAny_isInstance (b := true) hT2 (by rw [isSubtype_type]; kernel_rfl) ?_)
 show wpAny _ A.in1 (typeOf (Value.ref d) >>= _) _ _ _
 refine wpAny_bind (wpAny_typeOf hT2 ?_)
 refine wpAny_pure ?_
 show wpAny _ A.in1 (rule "list.extend.makes-room" >>= fun _ => Builtin.List.listTouch (.ref s.heap.objs.size) >>= fun _ =>
  again (.builtin "list.extend.loop" ⟨[.ref s.heap.objs.size, .ref H.objs.size, .ref s.heap.objs.size], []⟩)) _ _ _
 refine wpAny_bind (wpAny_rule ?_)
 have hS₁ : (H.push O).get? s.heap.objs.size = some { cls := .type "list", data := .seq ([] : List Value).toArray } := Heap.get?_push_of_some _ (hH ▸ Heap.get?_push_size _ rfl)
 refine wpAny_bind ?_
 show wpAny _ A.in1 (updateSeq s.heap.objs.size (·.push .none) >>= fun _ => updateSeq s.heap.objs.size (·.pop)) _ _ _
 refine wpAny_bind (wpAny_updateSeq hS₁ rfl ?_)
 have hS₂ := Heap.get?_update_self (Obj.mapSeq (·.push Value.none)) hS₁ rfl
 refine wpAny_updateSeq hS₂ rfl ?_
 have hS₃ := Heap.get?_update_self (Obj.mapSeq (·.pop)) hS₂ rfl
 have oth : ∀ b o, b ≠ s.heap.objs.size → (H.push O).get? b = some o → (((H.push O).update s.heap.objs.size (Obj.mapSeq (·.push Value.none))).update s.heap.objs.size (Obj.mapSeq (·.pop))).get? b = some o :=
  fun b o hb e => (Heap.get?_update_other _ _ (Ne.symm hb)).trans ((Heap.get?_update_other _ _ (Ne.symm hb)).trans e)
 have hdH : d < H.objs.size := by rw [hHs]; exact Nat.lt_succ_of_lt hdl
 have hHne : H.objs.size ≠ s.heap.objs.size := by rw [hHs]; exact Nat.succ_ne_self _
 have hSf : s.heap.objs.size ∉ [H.objs.size, d] := fun z => by
  simp only [List.mem_cons, List.not_mem_nil, or_false] at z
  rcases z with z | z
  ·exact hHne z.symm
  ·exact Nat.ne_of_gt hdl z
 have W := (Walks.dictKeys (knd := knd) (A := A.in1) hh H.objs.size d (Nat.ne_of_lt hdH) kvs ep).toS
 refine wpAny_pure ⟨plainId_quiet F.plain_extend_loop _, codeAny_extend_loopS (A := A) W hn _ hSf _ kvs.length 0 _ _ _ rfl (Nat.zero_le _) ⟨?_, ?_⟩ hS₃ (ItemsOf.nil _) fun s' acc' c' hmv hS' hacc => ?_⟩
 ·exact ⟨_, oth _ _ hHne (Heap.get?_push_size _ (by rw [← hO]; rfl)), by rw [← hO], by rw [← hO]; rfl⟩
 ·exact hm2.at' fun o e => oth _ _ (Nat.ne_of_lt hdl) e
 ·show wpAny _ A (load s.heap.objs.size >>= _) _ _ s'
  refine wpAny_bind (wpAny_load hS' ?_)
  refine wpAny_pure (hQ s' acc' (fun b ob e => hmv.heap b ob (fun hb => ?_) (oth _ _ (Nat.ne_of_lt (Heap.lt_size e)) (Heap.get?_push_of_some _ (hH ▸ Heap.get?_push_of_some _ e)))) hmv.gens hmv.drawn hmv.os (Heap.lt_size hS') hacc)
  have hlt := Heap.lt_size e
  simp only [List.mem_cons, List.not_mem_nil, or_false] at hb
  rcases hb with h | h
  ·exact Nat.ne_of_lt hlt h
  ·rw [h, hHs] at hlt; exact absurd hlt (Nat.not_lt.mpr (Nat.le_succ _))
theorem ZK8 {d : Addr} {kvs : List (κ × Value)} {ep : Nat} {Q : Value → Shared → Prop} (hh : A.handled = none) (hd : (d == sysModules) = false) (hm : s.heap.DictAt knd d kvs ep) (h64 : kvs.length < 64)
  (hI : ∀ acc : Array Value, ItemsOf (fun i v => ∃ k x, kvs[i]? = some (k, x) ∧ knd.is k v = true) acc kvs.length → ∃ ns, IntsAre acc.toList ns ∧ ∀ (s' : Shared) (l : Addr) (out : Array Value) (ns' : List Int) (e : Nat), s.heap.objs.size ≤ l → (∀ b o, s.heap.get? b = some o → s'.heap.get? b = some o) → s'.gens = s.gens → s'.drawn = s.drawn → s'.os = s.os →
   s'.heap.get? l = some (seqObj "list" out e) → out.size = kvs.length → IntsAre out.toList ns' → ns'.Perm ns → ns'.Pairwise (· ≤ ·) → Q (.ref l) s') :
  wpAny (model prog w) A (call (.builtin "sorted") [.ref d]) Q E s := by
 refine Calls.call_function_entry kind_sorted plain_sorted entry_sorted (args_sorted1 _) ?_
 unfold Builtin.«sorted»
 refine wpAny_bind (m := checkCount "sorted" 1 1 _) (wpAny_pure ?_)
 refine wpAny_bind (ZGu (knd := knd) hh hd hm (by rw [sizeLine_eq]; omega) fun s1 acc hk e1 e2 e3 hlt hacc => ?_)
 obtain ⟨ns, hns, hQ⟩ := hI acc hacc
 refine wpAny_bind (wpAny_newList (hsz := by rw [Array.length_toList, hacc.1, sizeLine_eq]; omega) ?_)
 have hoL : (s1.heap.push (seqObj "list" acc.toList.toArray 0)).get? s1.heap.objs.size = some (seqObj "list" acc.toList.toArray 0) := Heap.get?_push_size _ rfl
 show wpAny _ _ _ _ _ { s1 with heap := s1.heap.push (seqObj "list" acc.toList.toArray 0) }
 refine wpAny_bind (wpAny_holding (wpAny_call_entry slot_list_sort ⟨_, hoL, rfl⟩ entry_list_sort (list_sort_tree hoL hns (by rw [Array.length_toList, hacc.1]; exact h64) fun out ns' a1 a2 a3 => ⟨_, rfl, ?_⟩) (args_list_sort _)))
 refine wpAny_pure ⟨_, rfl, ?_⟩
 obtain ⟨e, he⟩ := sortedHeap_at (out := out) hoL
 have hle : s.heap.objs.size ≤ s1.heap.objs.size := Nat.le_of_lt hlt
 refine hQ _ _ out ns' e hle (fun b o eb => ?_) e1 e2 e3 he ?_ a1 a2 a3
 ·have hb := Heap.lt_size (hk _ _ eb)
  exact (sortedHeap_old (Nat.ne_of_lt hb) (by rw [Heap.size_push]; exact Nat.lt_succ_of_lt hb)).trans (Heap.get?_push_of_some _ (hk _ _ eb))
 ·have l1 := IntsAre.length a1
  have l2 := IntsAre.length hns
  have l3 := a2.length_eq
  have l4 := hacc.1
  simp only [Array.length_toList] at l1 l2
  omega
end
theorem ZI6 : ∀ (vs : List (Key × Value)) (ns : List Int) (l : List Value), vs.map (·.1) = ns.map Sum.inl → l.length = vs.length → (∀ (j : Nat) (v : Value), l[j]? = some v → ∃ k x, vs[j]? = some (k, x) ∧ ZFg k v = true) → IntsAre l ns
 | [], [], [], _, _, _ => .nil
 | [], [], _ :: _, _, h, _ => by simp at h
 | [], _ :: _, _, h, _, _ => by simp at h
 | _ :: _, [], _, h, _, _ => by simp at h
 | _ :: _, _ :: _, [], _, h, _ => by simp at h
 | (k, x) :: vs, n :: ns, v :: l, h1, h2, h3 => by
  simp only [List.map_cons, List.cons.injEq] at h1
  obtain ⟨rfl, h1⟩ := h1
  obtain ⟨k', x', e, hk⟩ := h3 0 v rfl
  simp only [List.getElem?_cons_zero, Option.some.injEq, Prod.mk.injEq] at e
  obtain ⟨rfl, rfl⟩ := e
  rcases ZDf hk with ⟨i, t, e1, e2⟩ | ⟨y, t, e1, e2⟩
  ·cases e1; cases e2
   refine .cons _ _ (ZI6 vs ns l h1 (by simpa using h2) fun j v e => ?_)
   have := h3 (j + 1) v (by simpa using e)
   simpa using this
  ·cases e1
theorem KV.keysEq {κ : Type} : ∀ {kvs : List (κ × V)} {us : List (κ × Value)}, KV kvs us → us.map (·.1) = kvs.map (·.1)
 | _, _, .nil => rfl
 | _, _, .cons h t => by rw [List.map_cons, List.map_cons, h.1, KV.keysEq t]
theorem IntsAre.vals : ∀ {vs : List Value} {ns : List Int}, IntsAre vs ns → ZDG (ns.map V.int) vs
 | _, _, .nil => .nil
 | _, _, .cons _ t h => .cons ⟨t, rfl⟩ (IntsAre.vals h)
def ZJ7 : List V → Hp → VK → Prop := fun xs H Q => ∃ (p : Addr) (kvs : List (Key × V)) (ns : List Int), xs = [.ref p] ∧ Rd H p (.dK kvs) ∧ kvs.map (·.1) = ns.map Sum.inl ∧ kvs.length < 64 ∧ ∀ (l : Addr) (ns' : List Int), H l = none → ns'.Perm ns → ns'.Pairwise (· ≤ ·) → Q (.ref l) (upd H l (.lst (ns'.map V.int)))
theorem ZMG {X : Cx} (hc : X.calm = true) : ZDb X (.builtin "sorted") ZJ7 := by
 intro pins s σ H xs us Q I r h
 obtain ⟨p, kvs, ns, rfl, hd, hns, h64, q⟩ := h
 obtain ⟨u, rfl, ru⟩ := r.one
 cases ru
 obtain ⟨z, hd, vs, rel, dd⟩ := ZFP I.hok hd
 obtain ⟨ep, dd⟩ := dd.dictAt
 have hlen : vs.length = kvs.length := rel.length.symm
 refine ZK8 (I.ok.hd hc) hd dd (by rw [hlen]; exact h64) fun acc hacc => ⟨ns, ?_, fun s' l out ns' e hl hk e1 e2 e3 he ho a1 a2 a3 => ?_⟩
 ·exact ZI6 vs ns acc.toList (by rw [KV.keysEq rel]; exact hns) (by rw [Array.length_toList]; exact hacc.1) fun j v e => hacc.2 j v (by simpa using e)
 ·obtain ⟨h', g', d', tk, os'⟩ := s'
  simp only at e1 e2 e3
  subst e1 e2 e3
  refine ⟨.ref l, upd H l (.lst (ns'.map V.int)), I.laid (t' := tk) hk hl ?_, rfl, q l ns' (I.hok.fresh hl) a2 a3⟩
  refine ⟨?_, out.toList, e, IntsAre.vals a1, he⟩
  have l1 := a2.length_eq
  have l2 := congrArg List.length hns
  simp only [List.length_map] at l2 ⊢
  rw [sizeLine_eq]
  omega
section
variable {X : Cx} {o i value : Expr} {pos pos' : Pos} {td ty tv : TE}
theorem ZTy {b : Expr} (h : ZJY b = false) : ZOq b := by
 intro ov iv
 cases b <;> first | rfl | cases h
theorem ZF7 (hu : X.A.units + 1 < cLine) (ho : QE X o td) (hi : QE X i ty) (hs : ZJY i = false := by rfl) : QE X (.Subscript o i pos) (ZME td ty) := ⟨ZQu hu ho.h hi.h (ZTy hs)⟩
theorem ZFV (hu : X.A.units + 1 < cLine) (hv : QE X value tv) (ho : QE X o td) (hi : QE X i ty) (hs : ZEX value = false := by rfl) : QS X (.Assign [.Subscript o i pos'] value pos) (ZMF td ty tv) := ⟨ZQv hu ho.h hi.h hv.h (ZE3 hs)⟩
theorem ZE5 : QE X (.Dict [] [] pos) ZJ2 := ⟨ZOt⟩
end
section
variable {σ : St} {H : Hp} {Q : VK} {D : ZDt}
def ZJZ (x y : V) (H : Hp) (Q : VK) : Prop := ∃ a v, x = .ref a ∧ ZEK H a y (some v) ∧ Q v H
theorem ZOx {td ty : TE} (h : td σ H fun x H1 => ty σ H1 fun y H2 => ZJZ x y H2 Q) : ZME td ty σ H Q := h
def ZJa (v x y : V) (H : Hp) (R : Hp → Prop) : Prop := ∃ a H4, x = .ref a ∧ ZFt H a y v H4 ∧ R H4
theorem ZOy {td ty tv : TE} (h : tv σ H fun v H1 => td σ H1 fun x H2 => ty σ H2 fun y H3 => ZJa v x y H3 (D.nx σ)) : ZMF td ty tv D σ H := h
def ZJb (H : Hp) (Q : VK) : Prop := ∀ p, H p = none → Q (.ref p) (upd H p (.dK []))
theorem ZOz (h : ZJb H Q) : ZJ2 σ H Q := h
theorem ZLb (h : ∀ p H2, H p = none → H2 p = some (.dK []) → ZDC H H2 → Q (.ref p) H2) : ZJb H Q := fun p hp => h p _ hp ZDN (ZDC.new hp)
end
def ZDi (m : PL) (t : Int) : Option Int := (m.find? fun kv => decide (kv.1 = t)).map (·.2)
def ZDo (m : PL) (t h : Int) : PL := if (m.any fun kv => decide (kv.1 = t)) = true then m.map fun kv => if kv.1 = t then (kv.1, h) else kv else m ++ [(t, h)]
def dkE (p : Int × Int) : Key × V := (.inl p.1, .int p.2)
def ZDW (m : PL) : List (Key × V) := m.map dkE
theorem ZJ8 {a b : Int} : ((Sum.inl a : Key) = Sum.inl b) ↔ a = b := ⟨fun h => Sum.inl.inj h, fun h => h ▸ rfl⟩
theorem ZSu (m : PL) (t : Int) : ((ZDW m).any fun kv => decide (kv.1 = Sum.inl t)) = m.any fun kv => decide (kv.1 = t) := by
 unfold ZDW
 rw [List.any_map]
 congr 1
 funext p
 simp only [Function.comp, dkE, ZJ8]
theorem ZNF (m : PL) (t h : Int) : ZD6 (ZDW m) (.inl t) (.int h) = ZDW (ZDo m t h) := by
 unfold ZD6 ZDo
 rw [ZSu]
 by_cases c : (m.any fun kv => decide (kv.1 = t)) = true
 ·rw [if_pos c, if_pos c]
  unfold ZDW
  rw [List.map_map, List.map_map]
  refine List.map_congr_left fun p _ => ?_
  simp only [Function.comp, dkE, ZJ8]
  split <;> simp
 ·rw [if_neg c, if_neg c]
  simp [ZDW, dkE]
theorem ZF8 (t : Int) : ∀ m : PL, ZDY (ZDW m) (.inl t) = (ZDi m t).map V.int
 | [] => rfl
 | p :: m => by
  have ih := ZF8 t m
  by_cases e : p.1 = t
  ·have : ZDY (ZDW (p :: m)) (.inl t) = some (.int p.2) := ZD0 (p := dkE p) (by simp [dkE, e])
   rw [this]
   simp [ZDi, List.find?_cons, e]
  ·have : ZDY (ZDW (p :: m)) (.inl t) = ZDY (ZDW m) (.inl t) := ZD1 (p := dkE p) (by simp [dkE, e])
   rw [this, ih]
   simp [ZDi, List.find?_cons, e]
theorem ZJ9 {H : Hp} {Q : VK} {p : Addr} {m : PL} {t v : Int} (h1 : H p = some (.dK (ZDW m))) (h2 : ZDi m t = some v) (h : Q (.int v) H) : ZJZ (.ref p) (.int t) H Q :=
 ⟨p, .int v, rfl, by
  have := ZEK.k (k := Sum.inl t) h1
  rw [ZF8, h2] at this
  exact this, h⟩
theorem ZHt {H : Hp} {R : Hp → Prop} {p : Addr} {m : PL} {t v : Int} (h1 : H p = some (.dK (ZDW m))) (hz : m.length < sizeLine) (h : ∀ H2, H2 p = some (.dK (ZDW (ZDo m t v))) → Kp p H H2 → R H2) : ZJa (.int v) (.ref p) (.int t) H R :=
 ⟨p, _, rfl, ZFt.k (k := Sum.inl t) h1 (by simpa [ZDW] using hz), by
  rw [ZNF]
  exact h _ ZDN Kp.upd⟩
theorem ZHu {H : Hp} {Q : VK} (h : ∀ p H2, H p = none → H2 p = some (.dK (ZDW [])) → ZDC H H2 → Q (.ref p) H2) : ZJb H Q := ZLb h
theorem ZKA (m : PL) (t h j : Int) : ZDi (ZDo m t h) j = if j = t then some h else ZDi m j := by
 have e1 := ZF8 j (ZDo m t h)
 rw [← ZNF, ZHs] at e1
 have e2 := ZF8 j m
 rw [e2] at e1
 simp only [ZJ8] at e1
 by_cases e : j = t
 ·rw [if_pos e] at e1 ⊢
  cases hg : ZDi (ZDo m t h) j with
  | none => rw [hg] at e1; cases e1
  | some x => rw [hg] at e1; simp at e1; rw [e1]
 ·rw [if_neg e] at e1 ⊢
  cases hg : ZDi (ZDo m t h) j <;> cases hm : ZDi m j <;> rw [hg, hm] at e1 <;> simp_all
theorem ZHv (m : PL) (t h : Int) : (ZDo m t h).length ≤ m.length + 1 := by
 unfold ZDo
 split <;> simp
theorem ZFm {t : Int} : ∀ {m : PL}, ZDi m t = none ↔ t ∉ m.map (·.1)
 | [] => by simp [ZDi]
 | p :: m => by
  have ih := ZFm (t := t) (m := m)
  by_cases e : p.1 = t
  ·simp [ZDi, List.find?_cons, e]
  ·have e' : ¬ t = p.1 := fun z => e z.symm
   have : ZDi (p :: m) t = ZDi m t := by simp [ZDi, List.find?_cons, e]
   rw [this, ih]
   simp [e']
theorem ZNG (m : PL) (t h : Int) : (ZDo m t h).map (·.1) = if t ∈ m.map (·.1) then m.map (·.1) else m.map (·.1) ++ [t] := by
 have ha : (m.any fun kv => decide (kv.1 = t)) = true ↔ t ∈ m.map (·.1) := by simp
 unfold ZDo
 by_cases c : (m.any fun kv => decide (kv.1 = t)) = true
 ·rw [if_pos c, if_pos (ha.mp c), List.map_map]
  refine List.map_congr_left fun p _ => ?_
  simp only [Function.comp]
  split <;> rfl
 ·rw [if_neg c, if_neg (fun z => c (ha.mpr z))]
  simp
theorem ZGV {m : PL} {t h : Int} (n : (m.map (·.1)).Nodup) : ((ZDo m t h).map (·.1)).Nodup := by
 rw [ZNG]
 split
 ·exact n
 ·rename_i c
  rw [List.nodup_append]
  exact ⟨n, by simp, fun a ha b hb e => c (by simp at hb; subst hb; subst e; exact ha)⟩
theorem ZEp {t h : Int} : ∀ {m : PL}, (m.map (·.1)).Nodup → (ZDi m t = some h ↔ (t, h) ∈ m)
 | [], _ => by simp [ZDi]
 | p :: m, n => by
  simp only [List.map_cons, List.nodup_cons] at n
  have ih := ZEp (t := t) (h := h) n.2
  by_cases e : p.1 = t
  ·have : ZDi (p :: m) t = some p.2 := by simp [ZDi, List.find?_cons, e]
   rw [this]
   constructor
   ·intro z; cases z; rw [← e]; exact List.mem_cons_self
   ·intro z
    rcases List.mem_cons.mp z with z | z
    ·rw [← z]
    ·exact absurd (List.mem_map.mpr ⟨_, z, rfl⟩) (by rw [← e] at *; exact n.1)
  ·have : ZDi (p :: m) t = ZDi m t := by simp [ZDi, List.find?_cons, e]
   rw [this, ih]
   constructor
   ·exact fun z => List.mem_cons_of_mem _ z
   ·intro z
    rcases List.mem_cons.mp z with z | z
    ·exact absurd (by rw [← z]) e
    ·exact z
def ZES (prs : PL) : PL := prs.foldl (fun m p => ZDo m p.1 p.2) []
theorem ZHa : ∀ (prs acc : PL), (acc.map (·.1)).Nodup → ((prs.foldl (fun m p => ZDo m p.1 p.2) acc).map (·.1)).Nodup
 | [], _, h => h
 | p :: prs, acc, h => ZHa prs _ (ZGV h)
theorem ZGW (prs : PL) : ((ZES prs).map (·.1)).Nodup := ZHa prs [] List.nodup_nil
theorem ZI7 : ∀ (prs acc : PL), (prs.foldl (fun m p => ZDo m p.1 p.2) acc).length ≤ acc.length + prs.length
 | [], acc => Nat.le_refl _
 | p :: prs, acc => by
  have h1 := ZI7 prs (ZDo acc p.1 p.2)
  have h2 := ZHv acc p.1 p.2
  show (prs.foldl (fun m p => ZDo m p.1 p.2) (ZDo acc p.1 p.2)).length ≤ acc.length + (prs.length + 1)
  omega
theorem ZKB (prs : PL) : (ZES prs).length ≤ prs.length := by
 have := ZI7 prs []
 simpa [ZES] using this
theorem ZDK.prs {H : Hp} : ∀ {vs : List V} {l : PL}, ZDK H vs l → ZTx H vs (l.map dkE)
 | _, _, .nil => .nil
 | _, _, .cons ⟨a, e, z⟩ t => .cons ⟨a, e, z⟩ (ZDK.prs t)
theorem ZDK.length {H : Hp} {vs : List V} {l : PL} (h : ZDK H vs l) : vs.length = l.length := Paired.length h
theorem ZDK.snoc {H : Hp} : ∀ {vs : List V} {l : PL}, ZDK H vs l → ∀ {a : Addr} {p : Int × Int}, H a = some (.tup [.int p.1, .int p.2]) → ZDK H (vs ++ [.ref a]) (l ++ [p])
 | _, _, .nil, a, p, z => .cons ⟨a, rfl, z⟩ .nil
 | _, _, .cons h t, a, p, z => .cons h (ZDK.snoc t z)
theorem ZDK.at {H : Hp} : ∀ {vs : List V} {l : PL}, ZDK H vs l → ∀ {i : Nat} {v : V}, vs[i]? = some v → ∃ a p, v = .ref a ∧ l[i]? = some p ∧ H a = some (.tup [.int p.1, .int p.2])
 | _, _, .nil, i, v, e => by simp at e
 | _, _, @Paired.cons _ _ _ _ p _ _ ⟨a, e1, z⟩ t, 0, v, e => by
  simp at e; subst e
  exact ⟨a, p, e1, rfl, z⟩
 | _, _, .cons _ t, i + 1, v, e => by
  obtain ⟨a, p, h1, h2, h3⟩ := ZDK.at t (by simpa using e)
  exact ⟨a, p, h1, by simpa using h2, h3⟩
theorem ZDK.kp {p : Addr} {H H' : Hp} (k : Kp p H H') {n : Nat} {xs : List V} (hp : H p = some (.lst xs)) : ∀ {vs : List V} {l : PL}, ZDK H vs l → ZDK H' vs l
 | _, _, .nil => .nil
 | _, _, .cons ⟨a, e, z⟩ t => .cons ⟨a, e, k _ _ z (fun c => by subst c; rw [hp] at z; cases z)⟩ (ZDK.kp k (n := n) hp t)
theorem ZMH {H : Hp} {Q : VK} {p : Addr} {m : PL} (h1 : H p = some (.dK (ZDW m))) (hz : m.length < 64) (h : ∀ l H2 (ns : List Int), H l = none → H2 l = some (.lst (ns.map V.int)) → ns.Perm (m.map (·.1)) → ns.Pairwise (· ≤ ·) → ZDC H H2 → Q (.ref l) H2) : ZJ7 [.ref p] H Q :=
 ⟨p, _, m.map (·.1), rfl, .inl h1, by simp [ZDW, dkE], by simpa [ZDW] using hz, fun l ns hl hp hs => h l _ ns hl ZDN hp hs (ZDC.new hl)⟩
def Asc (cv : PL) : Prop := cv.Pairwise fun a b => a.1 < b.1
def ZIk (m cv : PL) : Prop := Asc cv ∧ ∀ t h, (t, h) ∈ cv ↔ ZDi m t = some h
theorem ZIl : ∀ {a b : PL}, Asc a → Asc b → (∀ p, p ∈ a ↔ p ∈ b) → a = b
 | [], [], _, _, _ => rfl
 | [], q :: b, _, _, h => by have := (h q).mpr List.mem_cons_self; simp at this
 | p :: a, [], _, _, h => by have := (h p).mp List.mem_cons_self; simp at this
 | p :: a, q :: b, ha, hb, h => by
  unfold Asc at ha hb
  rw [List.pairwise_cons] at ha hb
  have e : p = q := by
   rcases List.mem_cons.mp ((h p).mp List.mem_cons_self) with e | e
   ·exact e
   ·rcases List.mem_cons.mp ((h q).mpr List.mem_cons_self) with e2 | e2
    ·exact e2.symm
    ·have h1 := hb.1 _ e
     have h2 := ha.1 _ e2
     omega
  subst e
  rw [ZIl ha.2 hb.2 fun r => ?_]
  constructor
  ·intro hr
   rcases List.mem_cons.mp ((h r).mp (List.mem_cons_of_mem _ hr)) with e | e
   ·subst e; have := ha.1 _ hr; omega
   ·exact e
  ·intro hr
   rcases List.mem_cons.mp ((h r).mpr (List.mem_cons_of_mem _ hr)) with e | e
   ·subst e; have := hb.1 _ hr; omega
   ·exact e
def ZEL (m : PL) (ns : List Int) : PL := ns.map fun t => (t, (ZDi m t).getD 0)
theorem ZMI {m : PL} {ns : List Int} (nd : (m.map (·.1)).Nodup) (hp : ns.Perm (m.map (·.1))) (hs : ns.Pairwise (· ≤ ·)) : ZIk m (ZEL m ns) := by
 have hn : ns.Nodup := hp.nodup_iff.mpr nd
 refine ⟨?_, fun t h => ?_⟩
 ·unfold Asc ZEL
  rw [List.pairwise_map]
  exact (hs.and hn).imp fun ⟨a, b⟩ => by
   show _ < _
   omega
 ·unfold ZEL
  rw [List.mem_map]
  constructor
  ·rintro ⟨u, hu, e⟩
   have hu' := hp.mem_iff.mp hu
   cases hg : ZDi m u with
   | none => exact absurd hu' (ZFm.mp hg)
   | some x =>
    rw [hg] at e
    cases e
    exact hg
  ·intro hg
   refine ⟨t, hp.mem_iff.mpr ?_, by rw [hg]; rfl⟩
   by_cases c : t ∈ m.map (·.1)
   ·exact c
   ·rw [ZFm.mpr c] at hg; cases hg
theorem ZNH (p q : Int × Int) : PyData.eqv (ZD3 p) (ZD3 q) = decide (p = q) := by
 have e : PyData.eqv (ZD3 p) (ZD3 q) = ((p.1 == q.1) && ((p.2 == q.2) && true)) := rfl
 rw [e]
 obtain ⟨a, b⟩ := p
 obtain ⟨c, d⟩ := q
 by_cases h1 : a = c <;> by_cases h2 : b = d <;> simp [h1, h2]
theorem ZIR : ∀ l m : PL, PyData.eqvAll (l.map ZD3) (m.map ZD3) = decide (l = m)
 | [], [] => rfl
 | [], q :: m => by simp [PyData.eqvAll]
 | p :: l, [] => by simp [PyData.eqvAll]
 | p :: l, q :: m => by
  show (PyData.eqv (ZD3 p) (ZD3 q) && PyData.eqvAll (l.map ZD3) (m.map ZD3)) = _
  rw [ZNH, ZIR l m]
  by_cases h1 : p = q <;> by_cases h2 : l = m <;> simp [h1, h2]
theorem ZGv : ∀ l : PL, PyData.depthAll (l.map ZD3) ≤ 50
 | [] => by decide
 | p :: l => by
  have ih := ZGv l
  have h0 : PyData.depth (ZD3 p) ≤ 50 := by
   show PyData.depth (.tuple [.int p.1, .int p.2]) ≤ 50
   simp only [PyData.depth, PyData.depthAll]
   decide
  show PyData.depthAll (ZD3 p :: l.map ZD3) ≤ 50
  simp only [PyData.depthAll]
  omega
section
variable {K : W.Frag} {H : Hp} {Q : VK} {a b : Addr} {vs ws : List V} {l m : PL}
theorem ZKC (l : PL) : (PyData.tuple (l.map ZD3)).depth ≤ 60 := by
 have := ZGv l
 simp only [PyData.depth]
 omega
theorem ZQw (h1 : SqT K H a vs) (p1 : ZDK H vs l) (h2 : SqT K H b ws) (p2 : ZDK H ws m) (h : Q (.bl (!decide (l = m))) H) : ZJ0 K (.ref a) (.ref b) H Q := by
 refine ZNC (.tup h1 p1.dats) (.tup h2 p2.dats) (ZGs l) (ZGs m) (ZKC l) ?_
 have e : PyData.eqv (.tuple (l.map ZD3)) (.tuple (m.map ZD3)) = decide (l = m) := ZIR l m
 rw [e]
 exact h
end
theorem ZDC.kpN {H H1 H2 : Hp} {l : Addr} (s : ZDC H H1) (hl : H l = none) (k : Kp l H1 H2) : ZDC H H2 := fun q o e => k q o (s q o e) (ZDR e hl)
theorem ZDK.kpL {p : Addr} {H H' : Hp} (k : Kp p H H') {xs : List V} (hp : H p = some (.lst xs)) {vs : List V} {l : PL} (h : ZDK H vs l) : ZDK H' vs l := ZDK.kp k (n := 0) hp h
section
variable {K : W.Frag} {H H' : Hp} {Q : VK} {a b : Addr} {xs ys : List V} {cv l m : PL}
def PrT (H : Hp) (a : Addr) (cv : PL) : Prop := ∃ vs, H a = some (.tup vs) ∧ ZDK H vs cv
def PrL (H : Hp) (a : Addr) (cv : PL) : Prop := ∃ vs, H a = some (.lst vs) ∧ ZDK H vs cv
theorem PrT.same (h : PrT H a cv) (s : ZDC H H') : PrT H' a cv := by
 obtain ⟨vs, h1, h2⟩ := h
 exact ⟨vs, s _ _ h1, h2.same s⟩
theorem ZLc (h1 : PrT H a l) (h2 : PrT H b m) (h : Q (.bl (!decide (l = m))) H) : ZJ0 K (.ref a) (.ref b) H Q := by
 obtain ⟨vs, g1, p1⟩ := h1
 obtain ⟨ws, g2, p2⟩ := h2
 exact ZQw (SqT.of g1) p1 (SqT.of g2) p2 h
end
theorem ZF9 (a b : Str) : (a ++ b).length = a.length + b.length := by
 show (a.cps ++ b.cps).size = a.cps.size + b.cps.size
 exact Array.size_append
section
variable {X : Cx}
def ZPp : R2 := fun x y H Q => ∃ i j, x = .str i ∧ y = .str j ∧ i.length + j.length ≤ sizeLine ∧ Q (.str (i ++ j)) H
theorem ZEt : OpR X (binaryOp .Add) ZPp := ZLy
theorem ZEu {H : Hp} {Q : VK} {i j : Str} (hz : i.length + j.length ≤ sizeLine) (h : Q (.str (i ++ j)) H) : ZPp (.str i) (.str j) H Q := ⟨i, j, rfl, rfl, hz, h⟩
theorem ZSv {H : Hp} {Q : VK} {i j : Str} (h : Q (.bl (!decide (i = j))) H) : rNe (.str i) (.str j) H Q := ⟨rfl, by
 have : decide (V.str i = V.str j) = decide (i = j) := by
  by_cases e : i = j
  ·subst e; simp
  ·rw [decide_eq_false e, decide_eq_false (fun z => e (V.str.inj z))]
 rw [this]; exact h⟩
theorem ZNI {T : String} {name : Str} {id : String} {r : V → List V → Hp → VK → Prop} {apos cpos : Pos} {o : Expr} {to : TE} (pa : PlainAttrs T) (slot : Slot T name id) (hty : typeOf (.builtin id) = pure (.type "method_descriptor")) (hm : MtR X id r) (ho : QE X o to)
 (hbase : attributeBase o name X.env (eval o X.env) = eval o X.env := by rfl) (hline : (apos.endLine == cpos.line) = true := by rfl) : QE X (.Call (.Attribute o name apos) [] [] cpos) (ZOW X.K T r to) := ⟨ZR9 pa slot hty hm ho.h hbase hline⟩
theorem ZSw {K : W.Frag} {T : String} {r : V → List V → Hp → VK → Prop} {to : TE} {σ : St} {H : Hp} {Q : VK} (h : to σ H fun x H1 => tyV K T x H1 ∧ r x [] H1 Q) : ZOW K T r to σ H Q := h
theorem tyS {K : W.Frag} {H : Hp} {x : Str} : tyV K "str" (.str x) H := rfl
theorem ZMJ {H : Hp} {Q : VK} {p : Addr} {xs : List V} (h1 : H p = some (.lst xs)) (h : ∀ H2, H2 p = some (.lst xs.reverse) → Kp p H H2 → Q .non H2) : ZJn (.ref p) [] H Q := ⟨p, xs, rfl, rfl, h1, h _ ZDN Kp.upd⟩
end
def ZO0 (K : W.Frag) (x : V) (H : Hp) (R : It → Hp → Prop) : Prop := (∃ a, x = .ref a ∧ (∃ xs, SqL K H a xs) ∧ R (Itl K a) H) ∨ (∃ a, x = .ref a ∧ (∃ xs, SqT K H a xs) ∧ R (Itt K a) H)
def ZSx (K : W.Frag) (tl : TE) : TI := fun σ H R => tl σ H fun x H1 => ZO0 K x H1 R
theorem ZSy {X : Cx} {tg e : Expr} {te : TE} (K : W.Frag) (hK : X.K = K) (hl : QE X e te) : QI X tg e (ZSx K te) := by
 subst hK
 refine ⟨?_⟩
 intro pins s σ H R I h
 refine thn (hl.h pins s σ H _ I h) fun v s1 ⟨x, H1, I1, r1, q1⟩ => ?_
 rcases q1 with ⟨a, e, ⟨xs, hq⟩, q⟩ | ⟨a, e, ⟨xs, hq⟩, q⟩
 ·subst e
  cases r1
  obtain ⟨its, rv, p, hz⟩ := I1.list hq
  refine wpAny_pyIter_list p.isList ?_
  refine ⟨s1.heap.objs.size, [s1.heap.objs.size], _, _, H1, rfl, I1.kept (t' := s1.toks) fun b o e => Heap.get?_push_of_some _ e, ZIx a _, ⟨_, Heap.get?_push_size _ rfl, rfl, rfl⟩, fun b hb => ?_, q⟩
  have e : b = s1.heap.objs.size := by simpa using hb
  subst e
  exact I1.fpOk (Nat.le_refl _) (I1.hok.fresh (Nat.le_refl _))
 ·subst e
  cases r1
  obtain ⟨its, rv, p, hz⟩ := I1.tuple hq
  refine wpAny_pyIter_tuple (show s1.heap.IsTuple a its.toArray from p) ?_
  refine ⟨s1.heap.objs.size, [s1.heap.objs.size], _, _, H1, rfl, I1.kept (t' := s1.toks) fun b o e => Heap.get?_push_of_some _ e, ZID a _, ⟨_, Heap.get?_push_size _ rfl, rfl, rfl⟩, fun b hb => ?_, q⟩
  have e : b = s1.heap.objs.size := by simpa using hb
  subst e
  exact I1.fpOk (Nat.le_refl _) (I1.hok.fresh (Nat.le_refl _))
def SQ (b : Bool) (H : Hp) (a : Addr) (vs : List V) : Prop := H a = some (if b then .lst vs else .tup vs)
section
variable {K : W.Frag} {σ : St} {H : Hp} {D : ZDt}
theorem ZQx {tl : TE} {R : It → Hp → Prop} (h : tl σ H fun x H1 => ZO0 K x H1 R) : ZSx K tl σ H R := h
theorem ZQy {b : Bool} {a : Addr} {xs : List V} {g : TG} {tb : TS} (Pv : Nat → St → Hp → Prop) (hq : SQ b H a xs) (h0 : Pv 0 σ H) (hl : ∀ i σ H, i ≤ xs.length → Pv i σ H → SQ b H a xs)
  (hs : ∀ i x σ H, xs[i]? = some x → Pv i σ H → g x σ H fun σ2 H2 => tb { D with nx := Pv (i + 1), ct := Pv (i + 1), bk := D.nx } σ2 H2) (hd : ∀ σ H, Pv xs.length σ H → D.nx σ H) :
  ZO0 K (.ref a) H (fun J H1 => rFor J g tb D σ H1) := by
 cases b with
 | true => exact .inl ⟨a, rfl, ⟨xs, SqL.of hq⟩, ZQi Pv h0 (fun i σ H hi p => SqL.of (hl i σ H hi p)) hs hd⟩
 | false => exact .inr ⟨a, rfl, ⟨xs, SqT.of hq⟩, ZLX Pv h0 (fun i σ H hi p => SqT.of (hl i σ H hi p)) hs hd⟩
end
theorem SQ.same {b : Bool} {H H' : Hp} {a : Addr} {vs : List V} (h : SQ b H a vs) (s : ZDC H H') : SQ b H' a vs := s _ _ h
def ZDp (n : Nat) {α : Type} : KasT α → (α → Prop) → Prop
 | .ret a, R => R a
 | .ask i j k, R => i < n ∧ j < n ∧ ∀ b, ZDp n (k b) R
theorem ZDp.bind {n : Nat} {α β : Type} {f : α → KasT β} {R : α → Prop} {R' : β → Prop} (h : ∀ a, R a → ZDp n (f a) R') : ∀ t : KasT α, ZDp n t R → ZDp n (t.bind f) R'
 | .ret a, g => h a g
 | .ask i j k, g => ⟨g.1, g.2.1, fun b => ZDp.bind h (k b) (g.2.2 b)⟩
theorem ZNJ {n : Nat} {cmp : Nat → Nat → (Bool → Shared → Prop) → Shared → Prop} {c : Nat → Nat → Bool} {s : Shared} (hc : ∀ i j C, i < n → j < n → C (c i j) s → cmp i j C s) {α : Type} {Q : α → Shared → Prop} {R : α → Prop} : ∀ t : KasT α, ZDp n t R → Q (evT c t) s → t.kasWp cmp Q s
 | .ret _, _, h => h
 | .ask i j k, g, h => hc i j _ g.1 g.2.1 (ZNJ hc (k (c i j)) (g.2.2 _) h)
section
variable {n : Nat}
def Inn (n : Nat) (p : Array Nat) : Prop := 0 < n ∧ ∀ v ∈ p.toList, v < n
theorem Inn.at {p : Array Nat} (h : Inn n p) (i : Nat) : p.getD i 0 < n := by
 by_cases hi : i < p.size
 ·have := ZEs (p := p) hi
  exact h.2 _ (Array.mem_toList_iff.mpr (Array.mem_of_getElem? this))
 ·have : p.getD i 0 = 0 := by simp [Array.getD, hi]
  rw [this]
  exact h.1
theorem Inn.perm {p q : Array Nat} (h : Inn n p) (e : q.toList.Perm p.toList) : Inn n q := ⟨h.1, fun v hv => h.2 v (e.mem_iff.mp hv)⟩
theorem Inn.rev {p : Array Nat} (h : Inn n p) (i j : Nat) : Inn n (kas_rev p i j) := h.perm (ZJo p i j)
theorem ZHw {p : Array Nat} (h : Inn n p) : ∀ f a, ZDp n (kas_asc p f a) (fun _ => True)
 | 0, _ => trivial
 | f + 1, a => ⟨h.at _, h.at _, fun b => by
  cases b with
  | true => exact trivial
  | false => exact ZHw h f (a + 1)⟩
theorem ZFn : ∀ (f : Nat) {p : Array Nat} (a q : Nat), Inn n p → ZDp n (kas_desc f p a q) (fun r => Inn n r.1)
 | 0, _, _, _, h => h
 | f + 1, p, a, q, h => ⟨h.at _, h.at _, fun b => by
  cases b with
  | true =>
   show ZDp n (if q > 0 then kas_desc f (kas_rev p (a - (q + 1)) a) (a + 1) 0 else kas_desc f p (a + 1) 0) _
   split
   ·exact ZFn f _ _ (h.rev _ _)
   ·exact ZFn f _ _ h
  | false =>
   refine ⟨h.at _, h.at _, fun d => ?_⟩
   cases d with
   | true => exact h
   | false => exact ZFn f _ _ h⟩
theorem ZI8 {p : Array Nat} (h : Inn n p) (m k : Nat) : ZDp n (kas_tail3 m k p) (fun r => Inn n r.2) := by
 unfold kas_tail3
 refine ZDp.bind (R := fun _ => True) (fun a _ => ?_) _ (ZHw (h.rev _ _) _ _)
 exact h.rev _ _
theorem ZIS {p : Array Nat} (h : Inn n p) (m k : Nat) : ZDp n (kas_descPart m k p) (fun r => Inn n r.2) := by
 refine ZDp.bind (R := fun r => Inn n r.1) (fun r hr => ?_) _ (ZFn _ _ _ h)
 show ZDp n (if r.2.2 > 0 then _ else _) _
 split
 ·exact ZI8 (hr.rev _ _) _ _
 ·exact ZI8 hr _ _
theorem ZMK {p : Array Nat} (h : Inn n p) (k : Nat) : ZDp n (kas_count k p) (fun r => Inn n r.2) := by
 refine ZDp.bind (R := fun _ => True) (fun m _ => ?_) _ (ZHw h _ _)
 show ZDp n (if (m == k) = true then _ else _) _
 split
 ·exact h
 ·split
  ·refine ⟨h.at _, h.at _, fun b => ?_⟩
   cases b with
   | true => exact h
   | false => exact ZIS (h.rev _ _) _ _
  ·exact ZIS h _ _
theorem ZGX {p : Array Nat} (h : Inn n p) (k : Nat) : ∀ f l r, ZDp n (kas_place p k f l r) (fun _ => True)
 | 0, _, _ => trivial
 | f + 1, l, r => by
  show ZDp n (if l ≥ r then _ else _) _
  split
  ·exact trivial
  ·refine ⟨h.at _, h.at _, fun b => ?_⟩
   cases b with
   | true => exact ZGX h k f _ _
   | false => exact ZGX h k f _ _
theorem ZKD : ∀ (f : Nat) {p : Array Nat} (k : Nat), Inn n p → ZDp n (kas_bin f p k) (fun _ => True)
 | 0, _, _, _ => trivial
 | f + 1, p, k, h => ZDp.bind (R := fun _ => True) (fun l _ => ZKD f _ (h.perm (Array.perm_iff_toList_perm.mp (bubble_perm p k _)))) _ (ZGX h k _ _ _)
theorem ZNK (hn : 0 < n) : ZDp n (kas_sort n) (fun _ => True) := by
 have h : Inn n (List.toArray (List.range n)) := ⟨hn, fun v hv => by simpa using hv⟩
 refine ZDp.bind (R := fun r => Inn n r.2) (fun r hr => ?_) _ (ZMK h _)
 show ZDp n (if r.1 < n then _ else _) _
 split
 ·exact ZKD _ _ hr
 ·exact trivial
end
def ltP (p q : Int × Int) : Bool := decide (p.1 < q.1) || (decide (p.1 = q.1) && decide (p.2 < q.2))
theorem ZE6 {p q : Int × Int} : ltP p q = true ↔ p.1 < q.1 ∨ (p.1 = q.1 ∧ p.2 < q.2) := by simp [ltP]
theorem ZGw {p q : Int × Int} : ltP p q = false ↔ ¬ (p.1 < q.1 ∨ (p.1 = q.1 ∧ p.2 < q.2)) := by
 rw [← ZE6]; simp
def ZGY (h : Heap) (a : Addr) (v : Value) (p : Int × Int) : Prop := ∃ b t u, v = .ref b ∧ b ≠ a ∧ IsTup h b #[.int p.1 t, .int p.2 u]
def ZEd (h : Heap) (a : Addr) (vs : List Value) (l : PL) : Prop := Paired (ZGY h a) vs l
theorem ZEd.get {h : Heap} {a : Addr} : ∀ {vs : List Value} {l : PL}, ZEd h a vs l → ∀ {i : Nat}, i < l.length → ZGY h a (vs.getD i .none) (l.getD i (0, 0))
 | _, _, .nil, i, hi => absurd hi (Nat.not_lt_zero _)
 | _, _, .cons g t, 0, _ => g
 | _, _, .cons g t, i + 1, hi => by
  have := ZEd.get t (i := i) (by simpa using hi)
  simpa using this
theorem ZEd.katT {h : Heap} {a : Addr} : ∀ {vs : List Value} {l : PL}, ZEd h a vs l → ∃ fs, KatTups h vs fs ∧ fs.length = vs.length ∧ ∀ v ∈ fs, ∃ x t, v = .int x t
 | _, _, .nil => ⟨[], .nil, rfl, fun v hv => by cases hv⟩
 | _, _, @Paired.cons _ _ _ v p _ _ ⟨b, t, u, e, _, o, ho, hc, k, hd⟩ r => by
  obtain ⟨fs, h1, h2, h3⟩ := ZEd.katT r
  subst e
  refine ⟨.int p.1 t :: fs, .cons ho hc hd rfl h1, by simp [h2], fun v hv => ?_⟩
  rcases List.mem_cons.mp hv with rfl | hv
  ·exact ⟨_, _, rfl⟩
  ·exact h3 v hv
section
variable {prog : Program} {w : World} {A : Around} {E : Value → Shared → Prop} {s : Shared}
theorem ZK9 {a : Addr} {v v' : Value} {p q : Int × Int} {C : Bool → Shared → Prop} (hp : ZGY s.heap a v p) (hq : ZGY s.heap a v' q) (h : C (ltP p q) s) : wpAny (model prog w) A (keyLt' (tuples' true) v v') C E s := by
 obtain ⟨b, t, u, rfl, _, o, ho, hc, k, hd⟩ := hp
 obtain ⟨b', t', u', rfl, _, o', ho', hc', k', hd'⟩ := hq
 refine kat_lt ho hd ho' hd' ?_
 refine kat_cons (wpAny_eqBool_int ?_)
 by_cases e1 : p.1 = q.1
 ·rw [show (p.1 == q.1) = true by simp [e1]]
  refine kat_yes (kat_cons (wpAny_eqBool_int ?_))
  by_cases e2 : p.2 = q.2
  ·rw [show (p.2 == q.2) = true by simp [e2]]
   refine kat_yes (kat_nil ?_)
   have : ltP p q = false := by rw [ZGw]; omega
   rw [this] at h
   exact h
  ·rw [show (p.2 == q.2) = false by simp [e2]]
   refine kat_no (kat_one _ _ (lt_int ?_))
   have : ltP p q = decide (p.2 < q.2) := by simp [ltP, e1]
   rw [this] at h
   exact h
 ·rw [show (p.1 == q.1) = false by simp [e1]]
  refine kat_no (oneLt_int ?_)
  have : ltP p q = decide (p.1 < q.1) := by simp [ltP, e1]
  rw [this] at h
  exact h
theorem ZIT {a : Addr} {vs : List Value} {l : PL} {n : Nat} {P : Fin → Shared → Prop} (ho : s.heap.get? a = some (seqObj "list" vs.toArray n))
  (hT : ZEd s.heap a vs l) (hd : l.Nodup) (h64 : vs.length < 64)
  (h : ∀ (ix : List Nat), ix.Perm (List.range vs.length) → (ix.map fun i => l.getD i (0, 0)).Pairwise (fun p q => ltP p q = true) → P (.done (.ret .none)) { s with heap := sortedHeap s.heap a vs (ix.map fun i => vs.getD i Value.none).toArray }) :
  wpAny (model prog w) A (Builtin.«list.sort» ⟨[.ref a], []⟩) P E s := by
 have hlen : vs.length = l.length := Paired.length hT
 have ha : a < s.heap.objs.size := Heap.lt_size ho
 rw [list_sort_plain]
 refine wpAny_bind (listItems_at ho rfl ?_)
 refine wpAny_bind (listUpdate_at ho rfl ?_ (by rw [List.size_toArray, sizeLine_eq]; omega) (Nat.zero_le _))
 obtain ⟨e1, ho1⟩ : ∃ e1, (s.heap.update a (Obj.mapSeq fun _ => (#[] : Array Value))).get? a = some (seqObj "list" #[] e1) := ⟨_, get?_update_seq ho fun _ => #[]⟩
 refine wpAny_bind (seqEpoch_at ho1 rfl ?_)
 refine wpAny_bind (wpAny_newTuple ?_ (by show vs.length ≤ _; rw [sizeLine_eq]; omega))
 refine wpAny_bind (wpAny_newList ?_ (Nat.zero_le _))
 refine wpAny_holding ?_
 generalize hh : (((s.heap.update a (Obj.mapSeq fun _ => (#[] : Array Value))).push (seqObj "tuple" vs.toArray 0)).push (seqObj "list" #[] 0)) = h3
 have ho3 : h3.get? a = some (seqObj "list" #[] e1) := by rw [← hh]; exact Heap.get?_push_of_some _ (Heap.get?_push_of_some _ ho1)
 have keep : ∀ b o, b ≠ a → s.heap.get? b = some o → h3.get? b = some o := fun b o hb e => by
  rw [← hh]
  exact Heap.get?_push_of_some _ (Heap.get?_push_of_some _ ((Heap.get?_update_other _ _ (Ne.symm hb)).trans e))
 have hT3 : ZEd h3 a vs l := Paired.mapP hT fun v p ⟨b, t, u, e, hb, o, hx, r⟩ => ⟨b, t, u, e, hb, o, keep b o hb hx, r⟩
 have done : ∀ (ix : List Nat), ix.Perm (List.range vs.length) → (ix.map fun i => l.getD i (0, 0)).Pairwise (fun p q => ltP p q = true) →
   P (.done (.ret .none)) { s with heap := h3.update a (Obj.mapSeq fun _ => (ix.map fun i => vs.getD i Value.none).toArray) } := fun ix hp hs => by
  have := h ix hp hs
  unfold sortedHeap at this
  rw [hh] at this
  exact this
 show wpAny (model prog w) A _ P E { s with heap := h3 }
 dsimp only
 by_cases h2 : vs.toArray.size < 2
 ·rw [if_pos h2, if_pos h2]
  refine wpAny_bind (wpAny_pure ?_)
  have hsmall : (List.range vs.length).map (fun i => vs.getD i Value.none) = vs := by
   rw [List.size_toArray] at h2
   match vs, h2 with
   | [], _ => rfl
   | [v], _ => rfl
  have hpw : ((List.range vs.length).map fun i => l.getD i (0, 0)).Pairwise (fun p q => ltP p q = true) := by
   rw [List.size_toArray] at h2
   match vs, h2 with
   | [], _ => exact List.Pairwise.nil
   | [v], _ => exact List.pairwise_singleton _ _
  have D := done (List.range vs.length) (List.Perm.refl _) hpw
  rw [hsmall] at D
  show wpAny (model prog w) A ((pure () : StateT SortSt Sem Unit).run (SortSt.mk' general' (vs.toArray.zip vs.toArray) #[] 7 none) >>= _) P E { s with heap := h3 }
  rw [StateT.run_pure]
  refine wpAny_bind (wpAny_pure ?_)
  dsimp only
  have hout : ((arrOf (SortSt.mk' general' (vs.toArray.zip vs.toArray) #[] 7 none)).map (·.2)) = vs.toArray := by
   show ((vs.toArray.zip vs.toArray).map (·.2)) = vs.toArray
   apply Array.toList_inj.mp
   rw [Array.toList_map, Array.toList_zip]
   exact List.map_snd_zip (Nat.le_refl _)
  rw [hout]
  refine wpAny_bind (seqEpoch_at (s := { s with heap := h3 }) ho3 rfl ?_)
  refine wpAny_bind (listUpdate_at (s := { s with heap := h3 }) ho3 rfl ?_ (Nat.zero_le _) (by rw [List.size_toArray, sizeLine_eq]; omega))
  simp only [bne_self_eq_false, Bool.false_eq_true, if_false]
  exact wpAny_pure D
 ·rw [if_neg h2, if_neg h2]
  have h2' : 2 ≤ vs.length := by rw [List.size_toArray] at h2; omega
  obtain ⟨fs, k1, k2, k3⟩ := hT3.katT
  refine wpAny_bind (kat_kind (T := .type "int") (s := { s with heap := h3 }) k1 (by omega) (fun v hv => ?_) (by decide) ?_)
  ·obtain ⟨x, t, rfl⟩ := k3 v hv
   exact Looks.of_pure rfl
  have hkk : tuples' (Value.type "int" != Value.type "tuple") = tuples' true := by
   have : (Value.type "int" != Value.type "tuple") = true := by decide
   rw [this]
  rw [hkk]
  let c : Nat → Nat → Bool := fun i j => ltP (l.getD i (0, 0)) (l.getD j (0, 0))
  have O : Ord c vs.length := by
   refine ⟨fun i j k h1 h2 => ?_, fun i j h1 => ?_, fun i j hi hj hne h1 => ?_⟩
   ·have h1 := ZE6.mp h1
    have h2 := ZE6.mp h2
    exact ZE6.mpr (by omega)
   ·have h1 := ZE6.mp h1
    exact ZGw.mpr (by omega)
   ·have h1 := ZGw.mp h1
    refine ZE6.mpr ?_
    have hne2 : l.getD i (0, 0) ≠ l.getD j (0, 0) := by
     intro e
     have hi' : i < l.length := by omega
     have hj' : j < l.length := by omega
     have hpw := List.pairwise_iff_getElem.mp (List.nodup_iff_pairwise_ne.mp hd)
     have e1 : l.getD i (0, 0) = l[i] := by simp [hi']
     have e2 : l.getD j (0, 0) = l[j] := by simp [hj']
     rw [e1, e2] at e
     rcases Nat.lt_trichotomy i j with z | z | z
     ·exact hpw i j hi' hj' z e
     ·exact hne z
     ·exact hpw j i hj' hi' z e.symm
    have hne3 : ¬ ((l.getD i (0, 0)).1 = (l.getD j (0, 0)).1 ∧ (l.getD i (0, 0)).2 = (l.getD j (0, 0)).2) := fun z => hne2 (Prod.ext z.1 z.2)
    omega
  obtain ⟨S1, S2⟩ := ZQM O (by omega)
  refine wpAny_bind (wpAny_mono (kat_run (E := E) (vs := vs) (ks := vs) (Q := fun st' s' => s' = { s with heap := h3 } ∧ arrOf st' = (evT c (kas_sort vs.length)).map (kas_item (vs.toArray.zip vs.toArray)) ∧ failedOf st' = none)
   (G := fun p s' => s' = { s with heap := h3 } ∧ p = evT c (kas_sort vs.length)) rfl h2' h64 (fun p st' s' a1 a2 a3 a4 => ⟨a4.1, by rw [a2, a4.2], a3⟩)
   (ZNJ (c := c) (n := vs.length) (fun i j C hi hj hC => ?_) _ (ZNK (by omega)) ⟨rfl, rfl⟩)) ?_ fun _ _ e => e)
  ·exact ZK9 (hT3.get (by omega)) (hT3.get (by omega)) hC
  ·rintro ⟨⟨⟩, st'⟩ s' ⟨rfl, har, hf⟩
   dsimp only
   rw [kat_snds rfl har]
   have hperm : (evT c (kas_sort vs.length)).toList.Perm (List.range vs.length) := S1
   have hsz : (evT c (kas_sort vs.length)).size = vs.length := by have := S1.length_eq; simpa using this
   have hpw : ((evT c (kas_sort vs.length)).toList.map fun i => l.getD i (0, 0)).Pairwise (fun p q => ltP p q = true) := by
    rw [List.pairwise_map, List.pairwise_iff_getElem]
    intro i j hi hj hij
    have := S2 i j hij (by simp at hj; omega)
    have e1 : gt0 (evT c (kas_sort vs.length)) i = (evT c (kas_sort vs.length)).toList[i] := ZII (by rw [← Array.getElem?_toList, List.getElem?_eq_getElem hi])
    have e2 : gt0 (evT c (kas_sort vs.length)) j = (evT c (kas_sort vs.length)).toList[j] := ZII (by rw [← Array.getElem?_toList, List.getElem?_eq_getElem hj])
    rw [e1, e2] at this
    exact this
   refine wpAny_bind (seqEpoch_at (s := { s with heap := h3 }) ho3 rfl ?_)
   refine wpAny_bind (listUpdate_at (s := { s with heap := h3 }) ho3 rfl ?_ (Nat.zero_le _) ?_)
   ·rw [hf]
    simp only [bne_self_eq_false, Bool.false_eq_true, if_false]
    exact wpAny_pure (done _ hperm hpw)
   ·show (((evT c (kas_sort vs.length)).toList.map fun i => vs.getD i Value.none).toArray).size ≤ _
    rw [List.size_toArray, List.length_map, Array.length_toList, hsz, sizeLine_eq]
    omega
end
section
variable {X : Cx} {pins : List (Addr × Obj)} {σ : St} {H H' : Hp} {s : Shared} {h' : Heap}
theorem Inv.old (I : Inv X pins σ H s) {b : Addr} {o : HO} (e : H b = some o) : b < s.heap.objs.size := by
 by_cases h : b < s.heap.objs.size
 ·exact h
 ·rw [I.hok.fresh (Nat.le_of_not_lt h)] at e
  cases e
theorem Inv.many {t' : Nat} (I : Inv X pins σ H s) (k : ∀ b u, s.heap.get? b = some u → h'.get? b = some u) (hs : ∀ b, b < s.heap.objs.size → H' b = H b) (new : ∀ b o, s.heap.objs.size ≤ b → H' b = some o → ZDS X.prog X.w H' h' b o) :
  Inv X pins σ H' { s with heap := h', toks := t' } := by
 have old : ∀ b o, H b = some o → H' b = some o := fun b o e => (hs b (I.old e)).trans e
 refine I.un ⟨fun b u q _ _ _ => k b u q, fun b u q _ _ _ => ⟨u.slots, k b u q⟩, fun b u q n _ => (hs b (Heap.lt_size q)).trans n, fun b u q _ => ⟨u, k b u q⟩, fun b xs q => old _ _ q, fun b u xs q => old _ _ q, fun b ps q => ⟨#[], by rw [old _ _ q]; simp⟩⟩ fun b u e => ?_
 by_cases hb : b < s.heap.objs.size
 ·rw [hs b hb] at e
  exact (I.hok b u e).stay (fun c v _ q => k c v q) (fun c q => old _ _ q) fun c xs q => old _ _ q
 ·exact new b u (Nat.le_of_not_lt hb) e
end
section
variable {X : Cx} {o : Expr} {to : TE} {apos cpos : Pos}
def ZHx (to : TE) : (σ : St) → Hp → (Addr → PL → Hp → Prop) → Prop := fun σ H R => to σ H fun x H1 => ∃ a m, x = .ref a ∧ H1 a = some (.dK (ZDW m)) ∧ R a m H1
theorem ZIU {pins : List (Addr × Obj)} {s : Shared} {σ : St} {H : Hp} {R : Addr → PL → Hp → Prop} (ho : PE X o to) (I : Inv X pins σ H s) (h : ZHx to σ H R)
  (hbase : attributeBase o "items" X.env (eval o X.env) = eval o X.env) (hline : (apos.endLine == cpos.line) = true) :
  wpAny (model X.prog X.w) X.A (eval (.Call (.Attribute o "items" apos) [] [] cpos) X.env) (fun u s1 => ∃ r a m H1, u = .ref r ∧ s1.heap.objs.size = r + 1 ∧ s1.heap.IsItemsView r a ∧ H1 a = some (.dK (ZDW m)) ∧ Inv X pins σ H1 s1 ∧ R a m H1) X.xe s := by
 refine wpAny_Call_method0_late hbase hline (thn (ho pins s σ H _ I h) fun v s1 ⟨x, H1, I1, r1, a, m, ex, hd, q1⟩ => ?_)
 subst ex
 cases r1
 obtain ⟨z, hsm, vs, rel, dd⟩ := ZGT I1.hok hd
 refine ⟨"dict", "dict.items", PySem.F.plainAttrs_dict, PySem.F.slot_dict_items, PySem.F.type_dict_items, dd.typeIs, ZK7 I1 (ZEK.k (k := Sum.inl 0) hd), ?_⟩
 refine Calls.callWith_builtin rfl (PySem.evalArgs_none ?_)
 refine call_meetsIn PySem.F.slot_dict_items dd.typeIs PySem.F.entry_dict_items (PySem.F.args_dict_items_1 _) (meets_dict_items (ZDV X.prog X.w) a hsm) ⟨⟨vs, dd⟩, ?_⟩
 exact ⟨_, a, m, H1, rfl, by rw [Heap.size_push], ⟨_, Heap.get?_push_size _ rfl, rfl, rfl⟩, hd, I1.kept (t' := s1.toks) fun b o e => Heap.get?_push_of_some _ e, q1⟩
end
theorem ZKE {m : PL} {vs : List (Key × Value)} (rel : KV (ZDW m) vs) : vs.length = m.length ∧ ∀ (j : Nat) (k : Key) (x : Value), vs[j]? = some (k, x) → ∃ (p : Int × Int) (t : Tok), m[j]? = some p ∧ k = Sum.inl p.1 ∧ x = Value.int p.2 t := by
 have hl : vs.length = m.length := by
  have := rel.length
  simp [ZDW] at this
  omega
 refine ⟨hl, ?_⟩
 induction m generalizing vs with
 | nil => intro j k x e; cases rel; simp at e
 | cons p m ih =>
  cases rel with
  | cons h t =>
   rename_i q vs'
   intro j k x e
   cases j with
   | zero =>
    simp at e
    obtain ⟨h1, h2⟩ := h
    rw [e] at h1 h2
    obtain ⟨t', rfl⟩ := h2
    exact ⟨p, t', rfl, h1.symm, rfl⟩
   | succ j =>
    obtain ⟨p', t', g1, g2, g3⟩ := ih t (by simpa using hl) j k x (by simpa using e)
    exact ⟨p', t', by simpa using g1, g2, g3⟩
theorem ZFQ {α β : Type} {F : α → β → Prop} : ∀ {l₁ : List α} {l₂ : List β}, l₁.length = l₂.length → (∀ (i : Nat) a b, l₁[i]? = some a → l₂[i]? = some b → F a b) → Paired F l₁ l₂
 | [], [], _, _ => .nil
 | [], _ :: _, h, _ => by simp at h
 | _ :: _, [], h, _ => by simp at h
 | a :: l₁, b :: l₂, h, f => .cons (f 0 a b rfl rfl) (ZFQ (by simpa using h) fun i x y e1 e2 => f (i + 1) x y (by simpa using e1) (by simpa using e2))
theorem ZLd {P : Program} {w : World} {m : PL} {vs : List (Key × Value)} {lo : Addr} {h : Heap} {as : List Addr} (rel : KV (ZDW m) vs) (hl : as.length = vs.length) (g : KdxG (ZDV P w) vs lo h as) (a : Addr) (hna : ∀ b ∈ as, b ≠ a) :
  ZEd h a (as.map Value.ref) m := by
 obtain ⟨hvl, hv⟩ := ZKE rel
 refine ZFQ (by rw [List.length_map]; omega) fun i v p e1 e2 => ?_
 rw [List.getElem?_map] at e1
 cases hb : as[i]? with
 | none => rw [hb] at e1; cases e1
 | some b =>
  rw [hb] at e1
  cases e1
  obtain ⟨key, k, x, g1, g2, g3⟩ := g.pairs i b hb
  obtain ⟨p', t', e3, e4, e5⟩ := hv i k x g1
  rw [e2] at e3
  cases e3
  subst e4 e5
  rcases ZDf (k := Sum.inl p.1) (v := key) g2 with ⟨y, t, z1, z2⟩ | ⟨y, t, z1, z2⟩
  ·cases z1
   subst z2
   exact ⟨b, t, t', rfl, hna b (List.mem_of_getElem? hb), _, g3, rfl, _, rfl⟩
  ·cases z1
theorem ZGx {P : Program} {w : World} {h : Heap} {a b : Addr} {p : Int × Int} {Hn : Hp} (e : ZGY h a (.ref b) p) : ZDS P w Hn h b (.tup [.int p.1, .int p.2]) := by
 obtain ⟨b', t, u, e1, _, ht⟩ := e
 cases e1
 exact ⟨⟨by show 2 ≤ sizeLine; decide, fun z => absurd rfl (z p.1)⟩, [.int p.1 t, .int p.2 u], .cons ⟨t, rfl⟩ (.cons ⟨u, rfl⟩ .nil), ht⟩
def ZEk (H : Hp) (as : List Addr) (ps : PL) (l : Addr) (vs : List V) (n : Nat) : Hp := fun b => if b < n then H b else if b = l then some (.lst vs) else ((as.zip ps).lookup b).map fun p => .tup [.int p.1, .int p.2]
theorem ZIV {as : List Addr} {ps : PL} (hn : as.Nodup) : ∀ {i : Nat} {b : Addr} {p : Int × Int}, as[i]? = some b → ps[i]? = some p → (as.zip ps).lookup b = some p := by
 induction as generalizing ps with
 | nil => intro i b p e; simp at e
 | cons a as ih =>
  intro i b p e1 e2
  rw [List.nodup_cons] at hn
  cases ps with
  | nil => simp at e2
  | cons q ps =>
   cases i with
   | zero => simp at e1 e2; subst e1 e2; simp [List.lookup]
   | succ i =>
    have e1 : as[i]? = some b := by simpa using e1
    have hb : b ≠ a := fun z => hn.1 (z ▸ List.mem_of_getElem? e1)
    have hb' : (b == a) = false := by simpa using hb
    have := ih hn.2 (ps := ps) e1 (by simpa using e2)
    simpa [List.lookup, hb'] using this
theorem ZGA {as : List Addr} {ps : PL} : ∀ {b : Addr} {p : Int × Int}, (as.zip ps).lookup b = some p → ∃ i : Nat, as[i]? = some b ∧ ps[i]? = some p := by
 induction as generalizing ps with
 | nil => intro b p e; simp [List.lookup] at e
 | cons a as ih =>
  intro b p e
  cases ps with
  | nil => simp [List.lookup] at e
  | cons q ps =>
   by_cases hb : b = a
   ·subst hb
    simp [List.lookup] at e
    subst e
    exact ⟨0, rfl, rfl⟩
   ·have hb' : (b == a) = false := by simpa using hb
    have e : (as.zip ps).lookup b = some p := by simpa [List.lookup, hb'] using e
    obtain ⟨i, h1, h2⟩ := ih e
    exact ⟨i + 1, by simpa using h1, by simpa using h2⟩
theorem ZNL {α : Type} {l : List α} {d : α} {ix : List Nat} (h : ix.Perm (List.range l.length)) : (ix.map fun i => l.getD i d).Perm l := by
 have e : (List.range l.length).map (fun i => l.getD i d) = l := by
  apply List.ext_getElem
  ·simp
  ·intro i h1 h2
   simp at h1 ⊢
   rw [List.getElem?_eq_getElem h1]
   rfl
 have := h.map fun i => l.getD i d
 rw [e] at this
 exact this
def ZGy : Addr → PL → Hp → VK → Prop := fun a m H Q => m.Nodup ∧ m.length < 64 ∧
 ∀ (l : Addr) (vs : List V) (cv : PL) (H' : Hp), H l = none → H' l = some (.lst vs) → ZDK H' vs cv → cv.Perm m → cv.Pairwise (fun p q => ltP p q = true) → ZDC H H' → Q (.ref l) H'
section
variable {X : Cx} {o : Expr} {to : TE} {apos cpos pos p : Pos}
theorem ZKF {pins : List (Addr × Obj)} {s : Shared} {σ : St} {H : Hp} {Q : VK} {a r : Addr} {m : PL} (hc : X.calm = true) (I : Inv X pins σ H s) (hd : H a = some (.dK (ZDW m))) (hr : s.heap.objs.size = r + 1) (hv : s.heap.IsItemsView r a) (h : ZGy a m H Q) :
  wpAny (model X.prog X.w) X.A (call (.builtin "sorted") [.ref r]) (EP X pins σ Q) X.xe s := by
 obtain ⟨hnd, h64, q⟩ := h
 obtain ⟨z, hsm, kvs, rel, dd⟩ := ZGT I.hok hd
 obtain ⟨ep, dd⟩ := dd.dictAt
 obtain ⟨hkl, _⟩ := ZKE rel
 refine Calls.call_function_entry kind_sorted plain_sorted entry_sorted (args_sorted1 _) ?_
 unfold Builtin.«sorted»
 refine wpAny_bind (m := checkCount "sorted" 1 1 _) (wpAny_pure ?_)
 refine wpAny_bind (kdx_collect (A := X.A.in1) (knd := ZDV X.prog X.w) (I.ok.hd hc) hv dd (by rw [sizeLine_eq]; omega) fun h1 tk as hk hl hG => ?_)
 refine wpAny_bind (wpAny_newList ?_ (by rw [List.length_map, sizeLine_eq]; omega))
 have hoL : (h1.push (seqObj "list" (as.map Value.ref).toArray 0)).get? h1.objs.size = some (seqObj "list" (as.map Value.ref).toArray 0) := Heap.get?_push_size _ rfl
 have hT : ZEd (h1.push (seqObj "list" (as.map Value.ref).toArray 0)) h1.objs.size (as.map Value.ref) m := by
  have := ZLd rel hl hG h1.objs.size fun b hb => Nat.ne_of_lt (hG.there hb)
  exact Paired.mapP this fun v p ⟨b, t, u, e, hb, ot, ho, rr⟩ => ⟨b, t, u, e, hb, ot, Heap.get?_push_of_some _ ho, rr⟩
 show wpAny _ _ _ _ _ { s with heap := h1.push (seqObj "list" (as.map Value.ref).toArray 0), toks := tk }
 refine wpAny_bind (wpAny_holding (wpAny_call_entry slot_list_sort ⟨_, hoL, rfl⟩ entry_list_sort (ZIT (s := { s with heap := h1.push (seqObj "list" (as.map Value.ref).toArray 0), toks := tk }) hoL hT hnd (by rw [List.length_map]; omega) fun ix hp hs => ⟨_, rfl, ?_⟩) (args_list_sort _)))
 refine wpAny_pure ⟨_, rfl, ?_⟩
 generalize hout : (ix.map fun i => (as.map Value.ref).getD i Value.none).toArray = out
 obtain ⟨e, he⟩ := sortedHeap_at (out := out) hoL
 generalize hh2 : sortedHeap (h1.push (seqObj "list" (as.map Value.ref).toArray 0)) h1.objs.size (as.map Value.ref) out = h2 at he
 have hsz1 : s.heap.objs.size ≤ h1.objs.size := by
  obtain ⟨ov, hov, _⟩ := id hv
  rw [hr]
  exact Heap.lt_size (hk r ov hov)
 have hkeep : ∀ b u, s.heap.get? b = some u → h2.get? b = some u := fun b u e => by
  rw [← hh2]
  have hb := Heap.lt_size (hk _ _ e)
  exact (sortedHeap_old (Nat.ne_of_lt hb) (by rw [Heap.size_push]; exact Nat.lt_succ_of_lt hb)).trans (Heap.get?_push_of_some _ (hk _ _ e))
 have hasn : as.Nodup := List.nodup_iff_pairwise_ne.mpr (hG.rise.imp fun hab e => Nat.ne_of_lt hab e)
 have hlm : as.length = m.length := by omega
 have hout2 : out.toList = (ix.map fun i => as.getD i 0).map Value.ref := by
  rw [← hout, List.map_map]
  refine List.map_congr_left fun i hi => ?_
  have hi : i < as.length := by
   have := List.mem_range.mp (hp.mem_iff.mp hi)
   simpa using this
  show (as.map Value.ref).getD i Value.none = Value.ref (as.getD i 0)
  simp [hi]
 have hTm : ∀ (i : Nat) b p, as[i]? = some b → m[i]? = some p → ZGY h2 0 (.ref b) p ∨ ZGY h2 h1.objs.size (.ref b) p := fun i b p e1 e2 => by
  have hi : i < m.length := (List.getElem?_eq_some_iff.mp e2).1
  have g := hT.get (i := i) hi
  have e3 : (as.map Value.ref).getD i Value.none = .ref b := by simp [e1]
  have e4 : m.getD i (0, 0) = p := by simp [e2]
  rw [e3, e4] at g
  obtain ⟨b', t, u, ee, hb, ot, ho, rr⟩ := g
  refine .inr ⟨b', t, u, ee, hb, ot, ?_, rr⟩
  rw [← hh2]
  exact (sortedHeap_old hb (Heap.lt_size ho)).trans ho
 have hat : ∀ (i : Nat) b p, as[i]? = some b → m[i]? = some p → ZEk H as m h1.objs.size ((ix.map fun i => as.getD i 0).map V.ref) s.heap.objs.size b = some (.tup [.int p.1, .int p.2]) := fun i b p e1 e2 => by
  have hbl := hG.above b (List.mem_of_getElem? e1)
  have hbt := hG.there (List.mem_of_getElem? e1)
  unfold ZEk
  rw [if_neg (Nat.not_lt.mpr (Nat.le_of_lt hbl)), if_neg (Nat.ne_of_lt hbt), ZIV hasn e1 e2]
  rfl
 have hil : ZEk H as m h1.objs.size ((ix.map fun i => as.getD i 0).map V.ref) s.heap.objs.size h1.objs.size = some (.lst ((ix.map fun i => as.getD i 0).map V.ref)) := by
  unfold ZEk
  rw [if_neg (Nat.not_lt.mpr hsz1), if_pos rfl]
 have hixl : ix.length = as.length := by have := hp.length_eq; simpa using this
 have hSame : ZDC H (ZEk H as m h1.objs.size ((ix.map fun i => as.getD i 0).map V.ref) s.heap.objs.size) := fun b u e => by
  unfold ZEk
  rw [if_pos (I.old e)]
  exact e
 refine ⟨.ref h1.objs.size, _, I.many (t' := tk) (h' := h2) hkeep (fun b hb => by unfold ZEk; rw [if_pos hb]) (fun b ob hb e => ?_), rfl, q h1.objs.size _ (ix.map fun i => m.getD i (0, 0)) _ (I.hok.fresh hsz1) hil ?_ (ZNL (by rw [← hlm]; simpa using hp)) hs hSame⟩
 ·by_cases hbl : b = h1.objs.size
  ·subst hbl
   rw [hil] at e
   cases e
   refine ⟨by rw [List.length_map, List.length_map, hixl, sizeLine_eq]; omega, out.toList, _, ?_, he⟩
   rw [hout2]
   clear hout2 hil hat hSame
   generalize (ix.map fun i => as.getD i 0) = bs
   induction bs with
   | nil => exact .nil
   | cons b bs ih => exact .cons rfl ih
  ·unfold ZEk at e
   rw [if_neg (Nat.not_lt.mpr hb), if_neg hbl] at e
   cases hlk : (as.zip m).lookup b with
   | none => rw [hlk] at e; cases e
   | some p =>
    rw [hlk] at e
    cases e
    obtain ⟨i, e1, e2⟩ := ZGA hlk
    rcases hTm i b p e1 e2 with g | g
    ·exact ZGx g
    ·exact ZGx g
 ·refine ZFQ (by simp) fun i v p e1 e2 => ?_
  rw [List.getElem?_map, List.getElem?_map] at e1
  rw [List.getElem?_map] at e2
  cases hi : ix[i]? with
  | none => rw [hi] at e1; cases e1
  | some j =>
   rw [hi] at e1 e2
   cases e1
   cases e2
   have hj : j < as.length := by
    have := List.mem_range.mp (hp.mem_iff.mp (List.mem_of_getElem? hi))
    simpa using this
   have hj2 : j < m.length := by omega
   refine ⟨as.getD j 0, rfl, hat j _ _ ?_ ?_⟩
   ·simp [hj]
   ·simp [hj2]
def ZI9 (to : TE) : TE := fun σ H Q => ZHx to σ H fun a m H1 => ZGy a m H1 Q
theorem ZHb (hc : X.calm = true) (hg : Gl X "sorted") (hm : X.mg "sorted" = none) (ho : QE X o to)
  (hbase : attributeBase o "items" X.env (eval o X.env) = eval o X.env := by rfl) (hline : (apos.endLine == cpos.line) = true := by rfl) :
  QE X (.Call (.Name "sorted" p) [.Call (.Attribute o "items" apos) [] [] cpos] [] pos) (ZI9 to) := by
 refine ⟨?_⟩
 intro pins s σ H Q I h
 refine wpAny_Call_Name_kw (ZFE I hg hm ZFF ?_ (by decide) (by decide))
 refine PyProof.Rows.callWith_builtin1 ?_ rfl rfl
 show wpAny _ _ (spliced ((false, eval (.Call (.Attribute o "items" apos) [] [] cpos) X.env) :: backTo pos (starEach [] X.env))) _ _ s
 refine Calls.spliced_cons (thn (ZIU ho.h I h hbase hline) fun u s1 ⟨r, a, m, H1, eu, hsz, hv, hd, I1, q⟩ => ?_)
 subst eu
 refine Calls.spliced_nil ?_
 exact ZKF hc I1 hd hsz hv q
end
section
variable {σ : St} {H : Hp} {Q : VK} {to : TE}
def ZNM (x : V) (H : Hp) (Q : VK) : Prop := ∃ a m, x = .ref a ∧ H a = some (.dK (ZDW m)) ∧ ZGy a m H Q
theorem ZKG (h : to σ H fun x H1 => ZNM x H1 Q) : ZI9 to σ H Q := h
theorem ZQz {cv : PL} (h : cv.Pairwise fun p q => ltP p q = true) (hn : (cv.map (·.1)).Nodup) : Asc cv := by
 rw [List.nodup_iff_pairwise_ne, List.pairwise_map] at hn
 exact (h.and hn).imp fun ⟨a, b⟩ => by
  have := ZE6.mp a
  omega
theorem ZJM {m : PL} (h : (m.map (·.1)).Nodup) : m.Nodup := by
 rw [List.nodup_iff_pairwise_ne, List.pairwise_map] at h
 exact List.nodup_iff_pairwise_ne.mpr (h.imp fun hab e => hab (by rw [e]))
theorem ZHc {p : Addr} {m : PL} (h1 : H p = some (.dK (ZDW m))) (hn : (m.map (·.1)).Nodup) (hz : m.length < 64)
  (h : ∀ l H2 cv, H l = none → PrL H2 l cv → ZIk m cv → cv.length = m.length → ZDC H H2 → Q (.ref l) H2) : ZNM (.ref p) H Q := by
 refine ⟨p, m, rfl, h1, ZJM hn, hz, fun l vs cv H2 n2 f2 hP hperm hpw S2 => h l H2 cv n2 ⟨vs, f2, hP⟩ ⟨?_, fun t x => ?_⟩ hperm.length_eq S2⟩
 ·exact ZQz hpw ((hperm.map (·.1)).nodup_iff.mpr hn)
 ·rw [hperm.mem_iff, ZEp hn]
end
inductive ZD9 (H : Hp) : V → Option (PL) → Prop where
 | non : ZD9 H .non Option.none
 | pr {c : Addr} {qs : PL} (h : PrT H c qs) (hl : qs.length = 4) : ZD9 H (.ref c) (Option.some qs)
theorem ZD9.same {H H' : Hp} {v : V} {o : Option (PL)} (h : ZD9 H v o) (s : ZDC H H') : ZD9 H' v o := by
 cases h with
 | non => exact .non
 | pr e hl => exact .pr (e.same s) hl
section
variable {X : Cx}
mutual
theorem Dat.same {K : W.Frag} {H H' : Hp} (s : ZDC H H') : ∀ {x : V} {d : PyData}, Dat K H x d → Dat K H' x d
 | _, _, .non => .non
 | _, _, .bl b => .bl b
 | _, _, .int i => .int i
 | _, _, .str x => .str x
 | _, _, .tup h r => .tup (s.seqT h) (ZEa.same s r)
 | _, _, .lst h r => .lst (s.seq h) (ZEa.same s r)
theorem ZEa.same {K : W.Frag} {H H' : Hp} (s : ZDC H H') : ∀ {x : List V} {d : List PyData}, ZEa K H x d → ZEa K H' x d
 | _, _, .nil => .nil
 | _, _, .cons h r => .cons (Dat.same s h) (ZEa.same s r)
end
end
section
variable {X : Cx} {k : Nat} {f : Addr} {fd : FuncData} {ps : List Str} {sp : Sp}
theorem ZHP {pins : List (Addr × Obj)} {σ : St} {H : Hp} {s : Shared} {Q : VK} {us : List Value} {vs : List V} {E1 : Value → Shared → Prop} (F : ZDI X.prog X.w X.K X.mg X.base CX0 k f fd ps sp) (hr : Room k X.A.in1) (hb : ZDE X.K fd ps [])
  (I : Inv X pins σ H s) (r : ZDG vs us) (h : sp vs H Q E0) : wpAny (model X.prog X.w) X.A.in1 (call (.ref f) us) (EP X pins σ Q) E1 s := by
 have hl : (us ++ []).length = ps.length := by rw [List.append_nil, ← r.length]; exact F.len _ _ _ _ h
 refine wpAny_call (codeAny_mono (F.run X.A.in1 X.stack s H ⟨us, []⟩ (us ++ []) vs Q E0 hr I.env0.in1 (hb s us I.kIn hl) (by rw [List.append_nil]; exact r) h) fun r s' hq => ?_)
 cases r with
 | error e => exact False.elim hq
 | ok fl =>
  cases fl with
  | ret u => exact I.after hq
  | next => exact False.elim hq
  | brk => exact False.elim hq
  | cont => exact False.elim hq
theorem Inv.pin2 {pins : List (Addr × Obj)} {σ : St} {H : Hp} {s : Shared} {a b : Addr} {oa ob : Obj} (I : Inv X pins σ H s) (fa : ZER X pins H a) (fb : ZER X pins H b) (ha : s.heap.get? a = some oa) (hb : s.heap.get? b = some ob) (ca : ∀ v, oa.data ≠ .cell v) (cb : ∀ v, ob.data ≠ .cell v) :
  Inv X ((a, oa) :: (b, ob) :: pins) σ H s := I.pins_of fun p hp => by
 rcases List.mem_cons.mp hp with rfl | hp
 ·exact ⟨ha, fa.1, fa.2.1, fa.2.2.1, ca⟩
 ·rcases List.mem_cons.mp hp with rfl | hp
  ·exact ⟨hb, fb.1, fb.2.1, fb.2.2.1, cb⟩
  ·exact I.pin p (List.mem_append_right _ hp)
theorem Inv.unpin2 {pins : List (Addr × Obj)} {σ : St} {H : Hp} {s : Shared} {a b : Addr} {oa ob : Obj} (I : Inv X ((a, oa) :: (b, ob) :: pins) σ H s) : s.heap.get? a = some oa ∧ s.heap.get? b = some ob ∧ Inv X pins σ H s :=
 ⟨(I.pin (a, oa) (List.mem_append_right _ (.head _))).1, (I.pin (b, ob) (List.mem_append_right _ (.tail _ (.head _)))).1, I.pins_of fun p hp => I.pin p (List.mem_append_right _ (.tail _ (.tail _ hp)))⟩
theorem Inv.turnedAt {pins : List (Addr × Obj)} {σ : St} {H : Hp} {s : Shared} {h' : Heap} {t' : Nat} {it : Addr} (I : Inv X pins σ H s) (fa : ZER X pins H it) (k : ∀ b o, b ≠ it → s.heap.get? b = some o → h'.get? b = some o) : Inv X pins σ H { s with heap := h', toks := t' } := by
 obtain ⟨f0, f1, f2, f3, f4, f5⟩ := fa
 exact I.turned k f0 f1 f3 f4 f5
theorem ZJN {pins : List (Addr × Obj)} {σ : St} {H : Hp} (hc : X.calm = true) (F : ZDI X.prog X.w X.K X.mg X.base CX0 k f fd ps sp) (hr : Room k X.A.in1) (hb : ZDE X.K fd ps []) {l I S : Addr} {us : List V} (kf : Nat → Int) (hSI : S ≠ I) (hS : SqT X.K H l us)
  (fI : ZER X pins H I) (fS : ZER X pins H S) (turn : ∀ i v, us[i]? = some v → ∀ Q : VK, Q (.int (kf i)) H → sp [v] H Q E0) {R : Result → Shared → Prop}
  (hR : ∀ i v u s', us[i]? = some v → ZDH v u → (∀ j, j < us.length → kf i ≤ kf j ∧ (j < i → kf i < kf j)) → Inv X pins σ H s' → R (.ok (.ret u)) s') :
  ∀ (r j i : Nat) (s : Shared) (v : V) (vb : Value) (tb : Tok) (c : Nat), us.length - (j + 1) = r → j + 1 ≤ us.length → Inv X pins σ H s → s.heap.get? S = some (seqObj "list" #[vb, .int (kf i) tb] c) → s.heap.IsTupleIter I l (j + 1) →
   us[i]? = some v → ZDH v vb → i ≤ j → (∀ j', j' ≤ j → kf i ≤ kf j' ∧ (j' < i → kf i < kf j')) →
   codeAny (model X.prog X.w) X.A (.builtin "min.loop" ⟨[.ref I, .ref f, .ref S], []⟩) R s := by
 have hname : (toString "min" ++ toString ".loop" : String) = "min.loop" := by decide
 intro r
 induction r with
 | zero =>
  intro j i s v vb tb c hr' hj J nS hit hv rv hij hbest
  have hin : j + 1 = us.length := by omega
  obtain ⟨its, rvs, p, hz⟩ := J.tuple hS
  have hl := rvs.length
  refine codeAny_builtin PySem.F.entry_min_loop ?_
  rw [Around.under_plainId PySem.F.plain_min_loop _]
  show wpAny _ X.A.in1 (seqItems? (.ref S) >>= _) _ _ _
  refine wpAny_bind (wpAny_seqItems nS rfl ?_)
  show wpAny _ X.A.in1 (tryCatch (pyNext (.ref I)) _ >>= _) _ _ _
  refine wpAny_bind (wpAny_tryCatch (wpAny_pyNext_tuple_end (J.ok.hd hc) hit (show s.heap.IsTuple l its.toArray from p) (by simp; omega) fun h' eb => ?_))
  have J1 : Inv X pins σ H { s with heap := h' } := J.turnedAt (t' := s.toks) fI fun b o hb e => eb b o hb e
  have hS' : h'.get? S = some (seqObj "list" #[vb, .int (kf i) tb] c) := eb S _ hSI nS
  show wpAny _ X.A.in1 (updateSeq S (fun _ => #[]) >>= _) _ _ _
  refine wpAny_bind ?_
  refine wpAny_updateSeq hS' rfl (wpAny_bind (wpAny_letGo (wpAny_pure ?_)))
  exact hR i v vb _ hv rv (fun j' hj' => hbest j' (by omega)) (J1.turnedAt (t' := s.toks) fS fun b o hb e => (Heap.get?_update_other _ _ (Ne.symm hb)).trans e)
 | succ r ih =>
  intro j i s v vb tb c hr' hj J nS hit hv rv hij hbest
  have hlt : j + 1 < us.length := by omega
  obtain ⟨its, rvs, p, hz⟩ := J.tuple hS
  have hx : us[j + 1]? = some us[j + 1] := List.getElem?_eq_getElem hlt
  obtain ⟨u, hu, ru⟩ := rvs.get hx
  refine codeAny_builtin PySem.F.entry_min_loop ?_
  rw [Around.under_plainId PySem.F.plain_min_loop _]
  show wpAny _ X.A.in1 (seqItems? (.ref S) >>= _) _ _ _
  refine wpAny_bind (wpAny_seqItems nS rfl ?_)
  show wpAny _ X.A.in1 (tryCatch (pyNext (.ref I)) _ >>= _) _ _ _
  refine wpAny_bind (wpAny_tryCatch (wpAny_pyNext_tuple_item hit (show s.heap.IsTuple l its.toArray from p) (x := u) (by simpa using hu) fun h' st' sb => ?_))
  have J1 : Inv X pins σ H { s with heap := h' } := J.turnedAt (t' := s.toks) fI fun b o hb e => (sb.2 b hb).trans e
  have hS' : h'.get? S = some (seqObj "list" #[vb, .int (kf i) tb] c) := (sb.2 S hSI).trans nS
  obtain ⟨oI, hoI, hoc, hod⟩ := id st'
  have J2 := J1.pin2 (s := { s with heap := h' }) fS fI hS' hoI (fun v z => by cases z) (fun v z => by rw [hod] at z; cases z)
  show wpAny _ X.A.in1 (tryCatch (holding [u] (call (.ref f) [u])) _ >>= _) _ _ _
  refine wpAny_bind (wpAny_tryCatch (wpAny_holding (wpAny_mono (ZHP (E1 := fun _ _ => False) F hr hb J2 (.cons ru .nil) (turn (j + 1) _ hx (fun v H' => v = .int (kf (j + 1)) ∧ H' = H) ⟨rfl, rfl⟩)) (fun x s'' he => ?_) fun _ _ hF => hF.elim)))
  obtain ⟨v2, H2, J3, r2, e2, e3⟩ := he
  subst e2 e3
  obtain ⟨t2, rfl⟩ := r2
  obtain ⟨nS2, nI2, J4⟩ := J3.unpin2
  have hit2 : s''.heap.IsTupleIter I l (j + 1 + 1) := ⟨oI, nI2, hoc, hod⟩
  show wpAny _ X.A.in1 (tryCatch (holding [u, .int (kf (j + 1)) t2] (richCompare .Lt (.int (kf (j + 1)) t2) (.int (kf i) tb) >>= _)) _ >>= _) _ _ _
  refine wpAny_bind (wpAny_tryCatch (wpAny_holding (wpAny_bind (CmpOf.ints_lt (prog := X.prog) (w := X.w) (A := X.A.in1) (P := fun i v => ∃ t, v = .int (kf i) t) kf (fun i v h => h) (j + 1) i _ _ _ _ _ ⟨t2, rfl⟩ ⟨tb, rfl⟩ ?_))))
  refine wpAny_bind (wpAny_holding (wpAny_truthy_bool ?_))
  refine wpAny_bind (wpAny_letGo (wpAny_pure ?_))
  by_cases hb' : kf (j + 1) < kf i
  ·obtain ⟨c2, hc2⟩ : ∃ c2, (s''.heap.update S (Obj.mapSeq fun _ => #[u, .int (kf (j + 1)) t2])).get? S = some (seqObj "list" #[u, .int (kf (j + 1)) t2] c2) := ⟨_, get?_update_seq nS2 fun _ => #[u, .int (kf (j + 1)) t2]⟩
   simp only [hb', decide_true, if_true]
   refine wpAny_bind ?_
   refine wpAny_updateSeq nS2 rfl (wpAny_bind (wpAny_letGo ?_))
   rw [hname]
   refine wpAny_pure ⟨plainId_quiet PySem.F.plain_min_loop _, ih (j + 1) (j + 1) _ _ u t2 c2 (by omega) hlt (J4.turnedAt (t' := s''.toks) fS fun b o hb e => (Heap.get?_update_other _ _ (Ne.symm hb)).trans e) hc2 ⟨oI, (Heap.get?_update_other _ _ hSI).trans nI2, hoc, hod⟩ hx ru (Nat.le_refl _) fun j' hj' => ?_⟩
   by_cases e : j' = j + 1
   ·subst e
    exact ⟨by omega, fun _ => by omega⟩
   ·have hb1 := hbest j' (by omega)
    have hb2 := hb1.1
    exact ⟨by omega, fun _ => by omega⟩
  ·simp only [hb', decide_false, Bool.false_eq_true, if_false]
   refine wpAny_bind (wpAny_letGo ?_)
   rw [hname]
   refine wpAny_pure ⟨plainId_quiet PySem.F.plain_min_loop _, ih (j + 1) i _ v vb tb c (by omega) hlt J4 nS2 hit2 hv rv (by omega) fun j' hj' => ?_⟩
   by_cases e : j' = j + 1
   ·subst e
    exact ⟨by omega, fun _ => by omega⟩
   ·exact hbest j' (by omega)
theorem ZJO {pins : List (Addr × Obj)} {σ : St} {H : Hp} {s : Shared} {Q : VK} {E1 : Value → Shared → Prop} (hc : X.calm = true) (F : ZDI X.prog X.w X.K X.mg X.base CX0 k f fd ps sp) (hr : Room k X.A.in1) (hb : ZDE X.K fd ps []) {l : Addr} {us : List V} (kf : Nat → Int) (J : Inv X pins σ H s) (hS : SqT X.K H l us) (hne : us ≠ [])
  (turn : ∀ i v, us[i]? = some v → ∀ Q : VK, Q (.int (kf i)) H → sp [v] H Q E0) (hQ : ∀ i v, us[i]? = some v → (∀ j, j < us.length → kf i ≤ kf j ∧ (j < i → kf i < kf j)) → Q v H) :
  wpAny (model X.prog X.w) X.A (call (.builtin "min") [.ref l] [(Str.ofString "key", .ref f)]) (EP X pins σ Q) E1 s := by
 have hname : (toString "min" ++ toString ".loop" : String) = "min.loop" := by decide
 have hpos : 0 < us.length := List.length_pos_iff.mpr hne
 obtain ⟨its, rvs, p, hz⟩ := J.tuple hS
 have hls : s.heap.IsTuple l its.toArray := p
 refine kmk_tree PySem.F.kind_min PySem.F.plain_min PySem.F.entry_min (kmk_min_key _ _) ?_
 show wpAny _ X.A.in1 (Builtin.Builtins.bindParams "min" ["key", "default"] 0 ⟨[], [(Str.ofString "key", .ref f)]⟩ >>= _) _ _ s
 refine wpAny_bind (wpAny_of_eq (show Builtin.Builtins.bindParams "min" ["key", "default"] 0 ⟨[], [(Str.ofString "key", .ref f)]⟩ = pure [some (.ref f), none] from rfl) ?_)
 refine wpAny_bind (wpAny_pure ?_)
 refine wpAny_bind (wpAny_pyIter_tuple hls ?_)
 refine wpAny_bind (wpAny_newList ?_ (Nat.zero_le _))
 rw [hname]
 refine wpAny_pure ⟨plainId_quiet PySem.F.plain_min_loop _, ?_⟩
 generalize hO : ({ cls := .type "tuple_iterator", data := .fields #[.ref l, .int 0 0] } : Obj) = O
 have hSs : (s.heap.push O).objs.size = s.heap.objs.size + 1 := size_push' ..
 have hSI : (s.heap.push O).objs.size ≠ s.heap.objs.size := by rw [hSs]; exact Nat.ne_of_gt (Nat.lt_succ_self _)
 have gI : ((s.heap.push O).push (seqObj "list" #[] 0)).get? s.heap.objs.size = some O := Heap.get?_push_of_some _ (Heap.get?_push_size _ (by rw [← hO]; rfl))
 have gS : ((s.heap.push O).push (seqObj "list" #[] 0)).get? (s.heap.push O).objs.size = some (seqObj "list" #[] 0) := Heap.get?_push_size _ rfl
 have fI : ZER X pins H s.heap.objs.size := J.fpOk (Nat.le_refl _) (J.hok.fresh (Nat.le_refl _))
 have fS : ZER X pins H (s.heap.push O).objs.size := J.fpOk (by rw [hSs]; exact Nat.le_succ _) (J.hok.fresh (by rw [hSs]; exact Nat.le_succ _))
 have J0 : Inv X pins σ H { s with heap := (s.heap.push O).push (seqObj "list" #[] 0) } := J.kept (t' := s.toks) fun b o e => Heap.get?_push_of_some _ (Heap.get?_push_of_some _ e)
 obtain ⟨its0, rvs0, p0, hz0⟩ := J0.tuple hS
 have hx : us[0]? = some us[0] := List.getElem?_eq_getElem hpos
 obtain ⟨u, hu, ru⟩ := rvs0.get hx
 refine codeAny_builtin PySem.F.entry_min_loop ?_
 rw [Around.under_plainId PySem.F.plain_min_loop _]
 show wpAny _ X.A.in1 (seqItems? (.ref _) >>= _) _ _ _
 refine wpAny_bind (wpAny_seqItems gS rfl ?_)
 show wpAny _ X.A.in1 (tryCatch (pyNext (.ref s.heap.objs.size)) _ >>= _) _ _ _
 refine wpAny_bind (wpAny_tryCatch (wpAny_pyNext_tuple_item (s := { s with heap := (s.heap.push O).push (seqObj "list" #[] 0) }) (i := 0) ⟨O, gI, by rw [← hO], by rw [← hO]; rfl⟩ (show ((s.heap.push O).push (seqObj "list" #[] 0)).IsTuple l its0.toArray from p0) (x := u) (by simpa using hu) fun h' st' sb => ?_))
 have J1 : Inv X pins σ H { s with heap := h' } := J0.turnedAt (t' := s.toks) fI fun b o hb e => (sb.2 b hb).trans e
 have hS' : h'.get? (s.heap.push O).objs.size = some (seqObj "list" #[] 0) := (sb.2 _ hSI).trans gS
 obtain ⟨oI, hoI, hoc, hod⟩ := id st'
 have J2 := J1.pin2 (s := { s with heap := h' }) fS fI hS' hoI (fun v z => by cases z) (fun v z => by rw [hod] at z; cases z)
 show wpAny _ X.A.in1 (tryCatch (holding [u] (call (.ref f) [u])) _ >>= _) _ _ _
 refine wpAny_bind (wpAny_tryCatch (wpAny_holding (wpAny_mono (ZHP (E1 := fun _ _ => False) F hr hb J2 (.cons ru .nil) (turn 0 _ hx (fun v H' => v = .int (kf 0) ∧ H' = H) ⟨rfl, rfl⟩)) (fun x s'' he => ?_) fun _ _ hF => hF.elim)))
 obtain ⟨v2, H2, J3, r2, e2, e3⟩ := he
 subst e2 e3
 obtain ⟨t2, rfl⟩ := r2
 obtain ⟨nS2, nI2, J4⟩ := J3.unpin2
 obtain ⟨c2, hc2⟩ : ∃ c2, (s''.heap.update (s.heap.push O).objs.size (Obj.mapSeq fun _ => #[u, .int (kf 0) t2])).get? (s.heap.push O).objs.size = some (seqObj "list" #[u, .int (kf 0) t2] c2) := ⟨_, get?_update_seq nS2 fun _ => #[u, .int (kf 0) t2]⟩
 show wpAny _ X.A.in1 (updateSeq (s.heap.push O).objs.size (fun _ => #[u, .int (kf 0) t2]) >>= _) _ _ _
 refine wpAny_bind ?_
 refine wpAny_updateSeq nS2 rfl ?_
 rw [hname]
 refine wpAny_pure ⟨plainId_quiet PySem.F.plain_min_loop _, ZJN hc F hr hb kf hSI hS fI fS turn (fun i v u s' hv rv hbest J' => ⟨v, _, J', rv, hQ i v hv hbest⟩) _ 0 0 _ _ u t2 c2 rfl hpos (J4.turnedAt (t' := s''.toks) fS fun b o hb e => (Heap.get?_update_other _ _ (Ne.symm hb)).trans e) hc2 ⟨oI, (Heap.get?_update_other _ _ hSI).trans nI2, hoc, hod⟩ hx ru (Nat.le_refl _) fun j' hj' => ?_⟩
 have e : j' = 0 := by omega
 subst e
 exact ⟨by omega, fun h => absurd h (Nat.lt_irrefl _)⟩
def ZHy (K : W.Frag) (sp : Sp) (vs : List V) (H : Hp) (Q : VK) : Prop := ∃ (l : Addr) (us : List V) (kf : Nat → Int), vs = [.ref l] ∧ SqT K H l us ∧ us ≠ [] ∧ (∀ i v, us[i]? = some v → ∀ Q : VK, Q (.int (kf i)) H → sp [v] H Q E0) ∧
 ∀ i v, us[i]? = some v → (∀ j, j < us.length → kf i ≤ kf j ∧ (j < i → kf i < kf j)) → Q v H
def ZKH (K : W.Frag) (sp : Sp) (t : TA) : TE := fun σ H Q => t σ H fun vs H1 => ZHy K sp vs H1 Q
theorem ZML {x : Str} {e : Expr} {t : TA} {p kp kpos pos : Pos} (K : W.Frag) (hK : X.K = K) (hc : X.calm = true) (F : ZDI X.prog X.w X.K X.mg X.base CX0 k f fd ps sp) (hr : Room (k + 1) X.A) (hgm : Gl X "min") (hmm : X.mg "min" = none) (hg : Gl X x) (hm : X.mg x = some (.ref f)) (hb : ZDE X.K fd ps []) (ha : QA X [e] t)
  (hs : ZEy e = false := by rfl) (hd : (x == ("__debug__" : Str)) = false := by decide) : QE X (.Call (.Name "min" p) [e] [⟨some "key", .Name x kp, kpos⟩] pos) (ZKH K sp t) := by
 subst hK
 refine ⟨?_⟩
 intro pins s σ H Q I h
 refine wpAny_Call_Name_kw (ZFE I hgm hmm ZM6 ?_ (by decide) (by decide))
 have hse := ZFG (e := e) (es := []) (env := X.env) hs
 refine PyProof.Rows.callWith_kw (thn (ha.h pos pins s σ H _ I h) fun us s1 ⟨vs, H1, I1, r1, q1⟩ => PyProof.Rows.kws_cons (ZEh I1 hg hm (PyProof.Rows.kws_nil ?_) hd)) (by rw [hse]; rfl) (by rw [hse]; rfl)
 obtain ⟨l, ws, kf, e1, g1, g2, g3, g4⟩ := q1
 subst e1
 obtain ⟨u, rfl, ru⟩ := r1.one
 cases ru
 exact ZJO hc F hr.in1 hb kf I1 g1 g2 g3 g4
theorem ZMM {K : W.Frag} {H : Hp} {Q : VK} {sp : Sp} {l : Addr} {us : List V} (kf : Nat → Int) (h1 : SqT K H l us) (h2 : us ≠ []) (h3 : ∀ i v, us[i]? = some v → ∀ Q : VK, Q (.int (kf i)) H → sp [v] H Q E0)
 (h : ∀ i v, us[i]? = some v → (∀ j, j < us.length → kf i ≤ kf j ∧ (j < i → kf i < kf j)) → Q v H) : ZHy K sp [.ref l] H Q := ⟨l, us, kf, rfl, h1, h2, h3, h⟩
theorem ZLA {K : W.Frag} {sp : Sp} {t : TA} {σ : St} {H : Hp} {Q : VK} (h : t σ H fun vs H1 => ZHy K sp vs H1 Q) : ZKH K sp t σ H Q := h
theorem ZJP {pins : List (Addr × Obj)} {σ : St} {H : Hp} (hc : X.calm = true) (F : ZDI X.prog X.w X.K X.mg X.base CX0 k f fd ps sp) (hr : Room k X.A.in1) (hb : ZDE X.K fd ps []) {l I S : Addr} {us : List V} (kf : Nat → Int) (hSI : S ≠ I) (hS : SqT X.K H l us)
  (fI : ZER X pins H I) (fS : ZER X pins H S) (turn : ∀ i v, us[i]? = some v → ∀ Q : VK, Q (.int (kf i)) H → sp [v] H Q E0) {R : Result → Shared → Prop}
  (hR : ∀ i v u s', us[i]? = some v → ZDH v u → (∀ j, j < us.length → kf i ≥ kf j ∧ (j < i → kf i > kf j)) → Inv X pins σ H s' → R (.ok (.ret u)) s') :
  ∀ (r j i : Nat) (s : Shared) (v : V) (vb : Value) (tb : Tok) (c : Nat), us.length - (j + 1) = r → j + 1 ≤ us.length → Inv X pins σ H s → s.heap.get? S = some (seqObj "list" #[vb, .int (kf i) tb] c) → s.heap.IsTupleIter I l (j + 1) →
   us[i]? = some v → ZDH v vb → i ≤ j → (∀ j', j' ≤ j → kf i ≥ kf j' ∧ (j' < i → kf i > kf j')) →
   codeAny (model X.prog X.w) X.A (.builtin "max.loop" ⟨[.ref I, .ref f, .ref S], []⟩) R s := by
 have hname : (toString "max" ++ toString ".loop" : String) = "max.loop" := by decide
 intro r
 induction r with
 | zero =>
  intro j i s v vb tb c hr' hj J nS hit hv rv hij hbest
  have hin : j + 1 = us.length := by omega
  obtain ⟨its, rvs, p, hz⟩ := J.tuple hS
  have hl := rvs.length
  refine codeAny_builtin PySem.F.entry_max_loop ?_
  rw [Around.under_plainId PySem.F.plain_max_loop _]
  show wpAny _ X.A.in1 (seqItems? (.ref S) >>= _) _ _ _
  refine wpAny_bind (wpAny_seqItems nS rfl ?_)
  show wpAny _ X.A.in1 (tryCatch (pyNext (.ref I)) _ >>= _) _ _ _
  refine wpAny_bind (wpAny_tryCatch (wpAny_pyNext_tuple_end (J.ok.hd hc) hit (show s.heap.IsTuple l its.toArray from p) (by simp; omega) fun h' eb => ?_))
  have J1 : Inv X pins σ H { s with heap := h' } := J.turnedAt (t' := s.toks) fI fun b o hb e => eb b o hb e
  have hS' : h'.get? S = some (seqObj "list" #[vb, .int (kf i) tb] c) := eb S _ hSI nS
  show wpAny _ X.A.in1 (updateSeq S (fun _ => #[]) >>= _) _ _ _
  refine wpAny_bind ?_
  refine wpAny_updateSeq hS' rfl (wpAny_bind (wpAny_letGo (wpAny_pure ?_)))
  exact hR i v vb _ hv rv (fun j' hj' => hbest j' (by omega)) (J1.turnedAt (t' := s.toks) fS fun b o hb e => (Heap.get?_update_other _ _ (Ne.symm hb)).trans e)
 | succ r ih =>
  intro j i s v vb tb c hr' hj J nS hit hv rv hij hbest
  have hlt : j + 1 < us.length := by omega
  obtain ⟨its, rvs, p, hz⟩ := J.tuple hS
  have hx : us[j + 1]? = some us[j + 1] := List.getElem?_eq_getElem hlt
  obtain ⟨u, hu, ru⟩ := rvs.get hx
  refine codeAny_builtin PySem.F.entry_max_loop ?_
  rw [Around.under_plainId PySem.F.plain_max_loop _]
  show wpAny _ X.A.in1 (seqItems? (.ref S) >>= _) _ _ _
  refine wpAny_bind (wpAny_seqItems nS rfl ?_)
  show wpAny _ X.A.in1 (tryCatch (pyNext (.ref I)) _ >>= _) _ _ _
  refine wpAny_bind (wpAny_tryCatch (wpAny_pyNext_tuple_item hit (show s.heap.IsTuple l its.toArray from p) (x := u) (by simpa using hu) fun h' st' sb => ?_))
  have J1 : Inv X pins σ H { s with heap := h' } := J.turnedAt (t' := s.toks) fI fun b o hb e => (sb.2 b hb).trans e
  have hS' : h'.get? S = some (seqObj "list" #[vb, .int (kf i) tb] c) := (sb.2 S hSI).trans nS
  obtain ⟨oI, hoI, hoc, hod⟩ := id st'
  have J2 := J1.pin2 (s := { s with heap := h' }) fS fI hS' hoI (fun v z => by cases z) (fun v z => by rw [hod] at z; cases z)
  show wpAny _ X.A.in1 (tryCatch (holding [u] (call (.ref f) [u])) _ >>= _) _ _ _
  refine wpAny_bind (wpAny_tryCatch (wpAny_holding (wpAny_mono (ZHP (E1 := fun _ _ => False) F hr hb J2 (.cons ru .nil) (turn (j + 1) _ hx (fun v H' => v = .int (kf (j + 1)) ∧ H' = H) ⟨rfl, rfl⟩)) (fun x s'' he => ?_) fun _ _ hF => hF.elim)))
  obtain ⟨v2, H2, J3, r2, e2, e3⟩ := he
  subst e2 e3
  obtain ⟨t2, rfl⟩ := r2
  obtain ⟨nS2, nI2, J4⟩ := J3.unpin2
  have hit2 : s''.heap.IsTupleIter I l (j + 1 + 1) := ⟨oI, nI2, hoc, hod⟩
  show wpAny _ X.A.in1 (tryCatch (holding [u, .int (kf (j + 1)) t2] (richCompare .Gt (.int (kf (j + 1)) t2) (.int (kf i) tb) >>= _)) _ >>= _) _ _ _
  refine wpAny_bind (wpAny_tryCatch (wpAny_holding (wpAny_bind (CmpOf.ints_gt (prog := X.prog) (w := X.w) (A := X.A.in1) (P := fun i v => ∃ t, v = .int (kf i) t) kf (fun i v h => h) (j + 1) i _ _ _ _ _ ⟨t2, rfl⟩ ⟨tb, rfl⟩ ?_))))
  refine wpAny_bind (wpAny_holding (wpAny_truthy_bool ?_))
  refine wpAny_bind (wpAny_letGo (wpAny_pure ?_))
  by_cases hb' : kf (j + 1) > kf i
  ·obtain ⟨c2, hc2⟩ : ∃ c2, (s''.heap.update S (Obj.mapSeq fun _ => #[u, .int (kf (j + 1)) t2])).get? S = some (seqObj "list" #[u, .int (kf (j + 1)) t2] c2) := ⟨_, get?_update_seq nS2 fun _ => #[u, .int (kf (j + 1)) t2]⟩
   simp only [hb', decide_true, if_true]
   refine wpAny_bind ?_
   refine wpAny_updateSeq nS2 rfl (wpAny_bind (wpAny_letGo ?_))
   rw [hname]
   refine wpAny_pure ⟨plainId_quiet PySem.F.plain_max_loop _, ih (j + 1) (j + 1) _ _ u t2 c2 (by omega) hlt (J4.turnedAt (t' := s''.toks) fS fun b o hb e => (Heap.get?_update_other _ _ (Ne.symm hb)).trans e) hc2 ⟨oI, (Heap.get?_update_other _ _ hSI).trans nI2, hoc, hod⟩ hx ru (Nat.le_refl _) fun j' hj' => ?_⟩
   by_cases e : j' = j + 1
   ·subst e
    exact ⟨by omega, fun _ => by omega⟩
   ·have hb1 := hbest j' (by omega)
    have hb2 := hb1.1
    exact ⟨by omega, fun _ => by omega⟩
  ·simp only [hb', decide_false, Bool.false_eq_true, if_false]
   refine wpAny_bind (wpAny_letGo ?_)
   rw [hname]
   refine wpAny_pure ⟨plainId_quiet PySem.F.plain_max_loop _, ih (j + 1) i _ v vb tb c (by omega) hlt J4 nS2 hit2 hv rv (by omega) fun j' hj' => ?_⟩
   by_cases e : j' = j + 1
   ·subst e
    exact ⟨by omega, fun _ => by omega⟩
   ·exact hbest j' (by omega)
theorem ZJQ {pins : List (Addr × Obj)} {σ : St} {H : Hp} {s : Shared} {Q : VK} {E1 : Value → Shared → Prop} (hc : X.calm = true) (F : ZDI X.prog X.w X.K X.mg X.base CX0 k f fd ps sp) (hr : Room k X.A.in1) (hb : ZDE X.K fd ps []) {l : Addr} {us : List V} (kf : Nat → Int) (J : Inv X pins σ H s) (hS : SqT X.K H l us) (hne : us ≠ [])
  (turn : ∀ i v, us[i]? = some v → ∀ Q : VK, Q (.int (kf i)) H → sp [v] H Q E0) (hQ : ∀ i v, us[i]? = some v → (∀ j, j < us.length → kf i ≥ kf j ∧ (j < i → kf i > kf j)) → Q v H) :
  wpAny (model X.prog X.w) X.A (call (.builtin "max") [.ref l] [(Str.ofString "key", .ref f)]) (EP X pins σ Q) E1 s := by
 have hname : (toString "max" ++ toString ".loop" : String) = "max.loop" := by decide
 have hpos : 0 < us.length := List.length_pos_iff.mpr hne
 obtain ⟨its, rvs, p, hz⟩ := J.tuple hS
 have hls : s.heap.IsTuple l its.toArray := p
 refine kmk_tree PySem.F.kind_max PySem.F.plain_max PySem.F.entry_max (kmk_max_key _ _) ?_
 show wpAny _ X.A.in1 (Builtin.Builtins.bindParams "max" ["key", "default"] 0 ⟨[], [(Str.ofString "key", .ref f)]⟩ >>= _) _ _ s
 refine wpAny_bind (wpAny_of_eq (show Builtin.Builtins.bindParams "max" ["key", "default"] 0 ⟨[], [(Str.ofString "key", .ref f)]⟩ = pure [some (.ref f), none] from rfl) ?_)
 refine wpAny_bind (wpAny_pure ?_)
 refine wpAny_bind (wpAny_pyIter_tuple hls ?_)
 refine wpAny_bind (wpAny_newList ?_ (Nat.zero_le _))
 rw [hname]
 refine wpAny_pure ⟨plainId_quiet PySem.F.plain_max_loop _, ?_⟩
 generalize hO : ({ cls := .type "tuple_iterator", data := .fields #[.ref l, .int 0 0] } : Obj) = O
 have hSs : (s.heap.push O).objs.size = s.heap.objs.size + 1 := size_push' ..
 have hSI : (s.heap.push O).objs.size ≠ s.heap.objs.size := by rw [hSs]; exact Nat.ne_of_gt (Nat.lt_succ_self _)
 have gI : ((s.heap.push O).push (seqObj "list" #[] 0)).get? s.heap.objs.size = some O := Heap.get?_push_of_some _ (Heap.get?_push_size _ (by rw [← hO]; rfl))
 have gS : ((s.heap.push O).push (seqObj "list" #[] 0)).get? (s.heap.push O).objs.size = some (seqObj "list" #[] 0) := Heap.get?_push_size _ rfl
 have fI : ZER X pins H s.heap.objs.size := J.fpOk (Nat.le_refl _) (J.hok.fresh (Nat.le_refl _))
 have fS : ZER X pins H (s.heap.push O).objs.size := J.fpOk (by rw [hSs]; exact Nat.le_succ _) (J.hok.fresh (by rw [hSs]; exact Nat.le_succ _))
 have J0 : Inv X pins σ H { s with heap := (s.heap.push O).push (seqObj "list" #[] 0) } := J.kept (t' := s.toks) fun b o e => Heap.get?_push_of_some _ (Heap.get?_push_of_some _ e)
 obtain ⟨its0, rvs0, p0, hz0⟩ := J0.tuple hS
 have hx : us[0]? = some us[0] := List.getElem?_eq_getElem hpos
 obtain ⟨u, hu, ru⟩ := rvs0.get hx
 refine codeAny_builtin PySem.F.entry_max_loop ?_
 rw [Around.under_plainId PySem.F.plain_max_loop _]
 show wpAny _ X.A.in1 (seqItems? (.ref _) >>= _) _ _ _
 refine wpAny_bind (wpAny_seqItems gS rfl ?_)
 show wpAny _ X.A.in1 (tryCatch (pyNext (.ref s.heap.objs.size)) _ >>= _) _ _ _
 refine wpAny_bind (wpAny_tryCatch (wpAny_pyNext_tuple_item (s := { s with heap := (s.heap.push O).push (seqObj "list" #[] 0) }) (i := 0) ⟨O, gI, by rw [← hO], by rw [← hO]; rfl⟩ (show ((s.heap.push O).push (seqObj "list" #[] 0)).IsTuple l its0.toArray from p0) (x := u) (by simpa using hu) fun h' st' sb => ?_))
 have J1 : Inv X pins σ H { s with heap := h' } := J0.turnedAt (t' := s.toks) fI fun b o hb e => (sb.2 b hb).trans e
 have hS' : h'.get? (s.heap.push O).objs.size = some (seqObj "list" #[] 0) := (sb.2 _ hSI).trans gS
 obtain ⟨oI, hoI, hoc, hod⟩ := id st'
 have J2 := J1.pin2 (s := { s with heap := h' }) fS fI hS' hoI (fun v z => by cases z) (fun v z => by rw [hod] at z; cases z)
 show wpAny _ X.A.in1 (tryCatch (holding [u] (call (.ref f) [u])) _ >>= _) _ _ _
 refine wpAny_bind (wpAny_tryCatch (wpAny_holding (wpAny_mono (ZHP (E1 := fun _ _ => False) F hr hb J2 (.cons ru .nil) (turn 0 _ hx (fun v H' => v = .int (kf 0) ∧ H' = H) ⟨rfl, rfl⟩)) (fun x s'' he => ?_) fun _ _ hF => hF.elim)))
 obtain ⟨v2, H2, J3, r2, e2, e3⟩ := he
 subst e2 e3
 obtain ⟨t2, rfl⟩ := r2
 obtain ⟨nS2, nI2, J4⟩ := J3.unpin2
 obtain ⟨c2, hc2⟩ : ∃ c2, (s''.heap.update (s.heap.push O).objs.size (Obj.mapSeq fun _ => #[u, .int (kf 0) t2])).get? (s.heap.push O).objs.size = some (seqObj "list" #[u, .int (kf 0) t2] c2) := ⟨_, get?_update_seq nS2 fun _ => #[u, .int (kf 0) t2]⟩
 show wpAny _ X.A.in1 (updateSeq (s.heap.push O).objs.size (fun _ => #[u, .int (kf 0) t2]) >>= _) _ _ _
 refine wpAny_bind ?_
 refine wpAny_updateSeq nS2 rfl ?_
 rw [hname]
 refine wpAny_pure ⟨plainId_quiet PySem.F.plain_max_loop _, ZJP hc F hr hb kf hSI hS fI fS turn (fun i v u s' hv rv hbest J' => ⟨v, _, J', rv, hQ i v hv hbest⟩) _ 0 0 _ _ u t2 c2 rfl hpos (J4.turnedAt (t' := s''.toks) fS fun b o hb e => (Heap.get?_update_other _ _ (Ne.symm hb)).trans e) hc2 ⟨oI, (Heap.get?_update_other _ _ hSI).trans nI2, hoc, hod⟩ hx ru (Nat.le_refl _) fun j' hj' => ?_⟩
 have e : j' = 0 := by omega
 subst e
 exact ⟨by omega, fun h => absurd h (Nat.lt_irrefl _)⟩
def ZHz (K : W.Frag) (sp : Sp) (vs : List V) (H : Hp) (Q : VK) : Prop := ∃ (l : Addr) (us : List V) (kf : Nat → Int), vs = [.ref l] ∧ SqT K H l us ∧ us ≠ [] ∧ (∀ i v, us[i]? = some v → ∀ Q : VK, Q (.int (kf i)) H → sp [v] H Q E0) ∧
 ∀ i v, us[i]? = some v → (∀ j, j < us.length → kf i ≥ kf j ∧ (j < i → kf i > kf j)) → Q v H
def ZKI (K : W.Frag) (sp : Sp) (t : TA) : TE := fun σ H Q => t σ H fun vs H1 => ZHz K sp vs H1 Q
theorem ZMN {x : Str} {e : Expr} {t : TA} {p kp kpos pos : Pos} (K : W.Frag) (hK : X.K = K) (hc : X.calm = true) (F : ZDI X.prog X.w X.K X.mg X.base CX0 k f fd ps sp) (hr : Room (k + 1) X.A) (hgm : Gl X "max") (hmm : X.mg "max" = none) (hg : Gl X x) (hm : X.mg x = some (.ref f)) (hb : ZDE X.K fd ps []) (ha : QA X [e] t)
  (hs : ZEy e = false := by rfl) (hd : (x == ("__debug__" : Str)) = false := by decide) : QE X (.Call (.Name "max" p) [e] [⟨some "key", .Name x kp, kpos⟩] pos) (ZKI K sp t) := by
 subst hK
 refine ⟨?_⟩
 intro pins s σ H Q I h
 refine wpAny_Call_Name_kw (ZFE I hgm hmm ZM5 ?_ (by decide) (by decide))
 have hse := ZFG (e := e) (es := []) (env := X.env) hs
 refine PyProof.Rows.callWith_kw (thn (ha.h pos pins s σ H _ I h) fun us s1 ⟨vs, H1, I1, r1, q1⟩ => PyProof.Rows.kws_cons (ZEh I1 hg hm (PyProof.Rows.kws_nil ?_) hd)) (by rw [hse]; rfl) (by rw [hse]; rfl)
 obtain ⟨l, ws, kf, e1, g1, g2, g3, g4⟩ := q1
 subst e1
 obtain ⟨u, rfl, ru⟩ := r1.one
 cases ru
 exact ZJQ hc F hr.in1 hb kf I1 g1 g2 g3 g4
theorem ZMO {K : W.Frag} {H : Hp} {Q : VK} {sp : Sp} {l : Addr} {us : List V} (kf : Nat → Int) (h1 : SqT K H l us) (h2 : us ≠ []) (h3 : ∀ i v, us[i]? = some v → ∀ Q : VK, Q (.int (kf i)) H → sp [v] H Q E0)
 (h : ∀ i v, us[i]? = some v → (∀ j, j < us.length → kf i ≥ kf j ∧ (j < i → kf i > kf j)) → Q v H) : ZHz K sp [.ref l] H Q := ⟨l, us, kf, rfl, h1, h2, h3, h⟩
theorem ZLB {K : W.Frag} {sp : Sp} {t : TA} {σ : St} {H : Hp} {Q : VK} (h : t σ H fun vs H1 => ZHz K sp vs H1 Q) : ZKI K sp t σ H Q := h
end
section
variable {X : Cx} {o e value : Expr} {f m : Str} {pos pos' tpos apos : Pos} {ta tv : TE} {t : TA}
def ZSz (K : W.Frag) (f : Str) (x : V) (H : Hp) (Q : VK) : Prop := ∃ a C dx fs v, x = .ref a ∧ H a = some (.ins C dx fs) ∧ Cls K C ∧ ZDy K C f ∧ fs.lookup f = some v ∧ Q v H
def ZPq (K : W.Frag) (f : Str) (y x : V) (H : Hp) (R : Hp → Prop) : Prop := ∃ a C dx fs, x = .ref a ∧ H a = some (.ins C dx fs) ∧ Cls K C ∧ ZDy K C f ∧ fs.length < 1000 ∧ R (upd H a (.ins C dx (ZDc f y fs)))
theorem ZDz (K : W.Frag) (hK : X.K = K) (he : QE X e ta) (hb : attributeBase e f X.env (eval e X.env) = eval e X.env := by rfl) : QE X (.Attribute e f pos) (ZOM K ta f) := by
 subst hK
 exact ⟨ZR1 he.h hb⟩
theorem ZFI (K : W.Frag) (hK : X.K = K) (ho : QE X o ta) (hv : QE X value tv) (hs : ZEX value = false := by rfl) : QS X (.Assign [.Attribute o f pos'] value pos) (ZON K ta tv f) := by
 subst hK
 exact ⟨ZR2 ho.h hv.h (ZE3 hs)⟩
section
variable {CX : CXT} {k : Nat} {fa C : Addr} {fd : FuncData} {ps : List Str} {sp : Sp} {dvs : List V} {ds : List Value} {E : XK} {es : List Expr} {x : Str} {p : Pos}
theorem ZEY {pl : Sem Bool} (he : QE X o ta) (c : Cls X.K C) (hm : ZDu X.K C m fa) (F : ZDI X.prog X.w X.K X.mg X.base CX k fa fd ps sp) (hr : Room k X.A) (hb : ZDE X.K fd ps ds) (hd : ZDG dvs ds) (hx : ZED CX X E) (ha : QA X (e :: es) t) (hns : ZDh (e :: es) = true := by rfl)
 (ht : eval (.Call (.Attribute o m apos) (e :: es) [] pos) X.env = (do
  let ov ← eval o X.env
  standAt apos.atName
  let (f, first) ← holding [ov] (getMethod ov m pl)
  callWith pos f first (backTo pos (starEach (e :: es) X.env)) (backToKw pos (keywordEach [] X.env))) := by rfl) :
 QE X (.Call (.Attribute o m apos) (e :: es) [] pos) (ZIF C m sp dvs E ta t) := ⟨ZQH he.h c hm F hr hb hd hx ha.h (ZEW hns) (ZEH (ZEE hns)) ht⟩
theorem ZE7 {pl : Sem Bool} (he : QE X o ta) (c : Cls X.K C) (hm : ZDu X.K C m fa) (F : ZDI X.prog X.w X.K X.mg X.base CX k fa fd ps sp) (hr : Room k X.A) (hb : ZDE X.K fd ps ds) (hd : ZDG dvs ds) (hx : ZED CX X E)
 (ht : eval (.Call (.Attribute o m apos) [] [] pos) X.env = (do
  let ov ← eval o X.env
  standAt apos.atName
  let (f, first) ← holding [ov] (getMethod ov m pl)
  callWith pos f first (backTo pos (starEach [] X.env)) (backToKw pos (keywordEach [] X.env))) := by rfl) :
 QE X (.Call (.Attribute o m apos) [] [] pos) (ZIF C m sp dvs E ta ZHl) := ⟨ZOQ he.h c hm F hr hb hd hx ht⟩
theorem ZQ0 (M : Mk X.K C fa) (F : ZDI X.prog X.w X.K X.mg X.base CX k fa fd ps sp) (hr : Room (k + 1) X.A) (hg : Gl X x) (hm : X.mg x = some (.ref C)) (hb : ZDE X.K fd ps ds) (hd : ZDG dvs ds) (hx : ZED CX X E) (ha : QA X (e :: es) t)
 (hns : ZDh (e :: es) = true := by rfl) (hdb : (x == ("__debug__" : Str)) = false := by decide) : QE X (.Call (.Name x p) (e :: es) [] pos) (ZIG C sp dvs E t) := ⟨ZQI M F hr hg hm hb hd hx ha.h hdb (ZEW hns) (ZEH (ZEE hns))⟩
theorem ZH0 (M : Mk X.K C fa) (F : ZDI X.prog X.w X.K X.mg X.base CX k fa fd ps sp) (hr : Room (k + 1) X.A) (hg : Gl X x) (hm : X.mg x = some (.ref C)) (hb : ZDE X.K fd ps ds) (hd : ZDG dvs ds) (hx : ZED CX X E)
 (hdb : (x == ("__debug__" : Str)) = false := by decide) : QE X (.Call (.Name x p) [] [] pos) (ZIG C sp dvs E ZHl) := ⟨ZOR M F hr hg hm hb hd hx hdb⟩
end
end
section
variable {K : W.Frag} {σ : St} {H : Hp} {Q : VK} {D : ZDt} {f m : Str} {ta tv : TE} {t : TA} {C : Addr} {sp : Sp} {dvs : List V} {E : XK}
theorem ZQ1 (h : ta σ H fun x H1 => ZSz K f x H1 Q) : ZOM K ta f σ H Q := h
theorem ZEC {a dx : Addr} {fs : List (Str × V)} {v : V} (h1 : H a = some (.ins C dx fs)) (c : Cls K C) (n : ZDy K C f) (l : fs.lookup f = some v) (q : Q v H) : ZSz K f (.ref a) H Q := ⟨a, C, dx, fs, v, rfl, h1, c, n, l, q⟩
theorem ZO1 (h : tv σ H fun y H1 => ta σ H1 fun x H2 => ZPq K f y x H2 (D.nx σ)) : ZON K ta tv f D σ H := h
theorem ZEv {a dx : Addr} {fs : List (Str × V)} {y : V} {R : Hp → Prop} (h1 : H a = some (.ins C dx fs)) (c : Cls K C) (n : ZDy K C f) (l : fs.length < 1000) (q : ∀ H2, H2 a = some (.ins C dx (ZDc f y fs)) → Kp a H H2 → R H2) : ZPq K f y (.ref a) H R := ⟨a, C, dx, fs, rfl, h1, c, n, l, q _ ZDN Kp.upd⟩
def ZIW (C : Addr) (m : Str) (x : V) (H : Hp) (R : Prop) : Prop := ∃ a dx fs, x = .ref a ∧ H a = some (.ins C dx fs) ∧ fs.lookup m = none ∧ R
theorem ZO2 (h : ta σ H fun x H1 => ZIW C m x H1 (t σ H1 fun vs H2 => sp (x :: (vs ++ dvs)) H2 Q E)) : ZIF C m sp dvs E ta t σ H Q := h
theorem ZDl {a dx : Addr} {fs : List (Str × V)} {R : Prop} (h1 : H a = some (.ins C dx fs)) (l : fs.lookup m = none) (q : R) : ZIW C m (.ref a) H R := ⟨a, dx, fs, rfl, h1, l, q⟩
def ZPr (C : Addr) (sp : Sp) (dvs : List V) (E : XK) (vs : List V) (H : Hp) (Q : VK) : Prop := ∀ x dx, H x = none → H dx = none → dx ≠ x → sp (.ref x :: (vs ++ dvs)) (upd (upd H dx (.own x)) x (.ins C dx [])) (fun v H2 => v = .non ∧ Q (.ref x) H2) E
theorem ZO3 (h : t σ H fun vs H1 => ZPr C sp dvs E vs H1 Q) : ZIG C sp dvs E t σ H Q := h
theorem ZHQ {vs : List V} (h : ∀ x dx H2, H x = none → H2 x = some (.ins C dx []) → ZDC H H2 → sp (.ref x :: (vs ++ dvs)) H2 (fun v H3 => v = .non ∧ Q (.ref x) H3) E) : ZPr C sp dvs E vs H Q := fun x dx hx hdx hne =>
 h x dx _ hx ZDN fun b o e => by rw [ZDF (ZDR e hx), ZDF (ZDR e hdx)]; exact e
end
structure ZKJ (K : W.Frag) (x qual : Str) (st : Stmt) (f : Addr) (fd : FuncData) : Prop where
 ex : ∃ (oc : Value) (od : Option Addr) (dV kV doc pm : Value) (an : Option Addr) (cdv ct : Value) (osl : Array (Option Value)),
  fd = W.fnOf x qual (ZDr st) (ZDg st) (ZC9 st) dV kV doc pm an cdv ct ∧ K.lookup f = some ⟨oc, od, .func fd, osl⟩ ∧ W.codeIn K cdv qual = true
 kp : W.keepIn K (.ref f) = true
theorem ZKJ.ok {P : Program} {w : World} {K : W.Frag} {mg : Str → Option Value} {base : Heap} {x qual : Str} {st : Stmt} {f : Addr} {fd : FuncData} {N ps : List Str} {k : Nat} {sp : Sp} (F : ZKJ K x qual st f fd) (S : ZDL N ps (ZC9 st)) (len : ∀ vs H Q E, sp vs H Q E → vs.length = ps.length)
  (hbody : ∀ (cdv : Value) (A : Around) (outer : List Env) (s : Shared) (H : Hp) (vs : List V) (Q : VK) (E : XK), Room k (A.deeper (envOfC qual (ZC9 st) s.heap.objs.size f cdv)) → sp vs H Q E →
   ∃ t, PSs (ZFs CX0 P w K mg base N qual (ZC9 st) f cdv A outer s H E).nox (ZDg st) t ∧ t { nx := fun _ H' => Q .non H', rt := Q } (start N vs) H) : ZDI P w K mg base CX0 (k + 1) f fd ps sp := by
 obtain ⟨oc, od, dV, kV, doc, pm, an, cdv, ct, osl, rfl, lk, hcd⟩ := F.ex
 refine ZL3 lk hcd S len fun A outer s H vs Q E hr hsp => ?_
 obtain ⟨t, h, q⟩ := hbody cdv A outer s H vs Q E hr hsp
 exact ⟨t, h.nox, q⟩
section
variable {K : W.Frag} {σ : St} {H : Hp} {Q : VK} {f : Str} {tv td ty : TE} {C : Addr}
def ZGz (a : Addr) (y : V) (H : Hp) (Q : VK) : Prop := ∃ o, ZEK H a y o ∧ Q (o.getD .non) H
def ZKK (ty : TE) (σ : St) (Q : VK) (x : V) (H : Hp) : Prop := ∃ a, x = .ref a ∧ IsD H a ∧ ty σ H fun y H2 => ZGz a y H2 Q
theorem ZNN (h : td σ H fun x H1 => ZKK ty σ Q x H1) : ZJ5 td ty σ H Q := h
theorem ZJA {a : Addr} {kvs : List (List Key × V)} (h1 : H a = some (.dT kvs)) (q : ty σ H fun y H2 => ZGz a y H2 Q) : ZKK ty σ Q (.ref a) H := ⟨a, rfl, .inr ⟨kvs, .inl h1⟩, q⟩
theorem ZKL {a b : Addr} {kvs : List (List Key × V)} {k : List Key} (h1 : H a = some (.dT kvs)) (hb : H b = some (.tup (k.map kV))) (q : Q ((ZDY kvs k).getD .non) H) : ZGz a (.ref b) H Q := ⟨_, ZEK.t h1 hb, q⟩
theorem ZNO {a : Addr} {kvs : List (Key × V)} (h1 : H a = some (.dK kvs)) (q : ty σ H fun y H2 => ZGz a y H2 Q) : ZKK ty σ Q (.ref a) H := ⟨a, rfl, .inl ⟨kvs, .inl h1⟩, q⟩
theorem ZO4 {a : Addr} {m : PL} {i : Int} (h1 : H a = some (.dK (ZDW m))) (q : Q (((ZDi m i).map V.int).getD .non) H) : ZGz a (.int i) H Q := ⟨_, ZEK.k (k := Sum.inl i) h1, by rw [ZF8]; exact q⟩
theorem ZKM {a b : Addr} {kvs : List (List Key × V)} {k : List Key} {v : V} {R : Hp → Prop} (h1 : H a = some (.dT kvs)) (hb : H b = some (.tup (k.map kV))) (hz : kvs.length < sizeLine) (h : ∀ H2, H2 a = some (.dT (ZD6 kvs k v)) → Kp a H H2 → R H2) : ZJa v (.ref a) (.ref b) H R :=
 ⟨a, _, rfl, ZFt.t h1 hb hz, h _ ZDN Kp.upd⟩
end
section
variable {X : Cx} {o e : Expr} {apos cpos pos p : Pos} {td ty to : TE}
theorem ZH1 (hu : X.A.units + 1 < cLine) (ho : QE X o td) (he : QE X e ty) (m : M1 X o "get" apos e cpos := by exact ⟨rfl, rfl, rfl, rfl⟩) : QE X (.Call (.Attribute o "get" apos) [e] [] cpos) (ZJ5 td ty) := ⟨ZOv hu ho.h he.h m⟩
theorem ZO5 : QE X (.Dict [] [] pos) ZJ3 := ⟨ZOu⟩
def ZNP (H : Hp) (Q : VK) : Prop := ∀ p, H p = none → Q (.ref p) (upd H p (.dT []))
theorem ZNQ {σ : St} {H : Hp} {Q : VK} (h : ZNP H Q) : ZJ3 σ H Q := h
theorem ZO6 {H : Hp} {Q : VK} (h : ∀ p H2, H p = none → H2 p = some (.dT []) → ZDC H H2 → Q (.ref p) H2) : ZNP H Q := fun p hp => h p _ hp ZDN (ZDC.new hp)
theorem ZMP {pins : List (Addr × Obj)} {s : Shared} {σ : St} {H : Hp} {Q : VK} {a r : Addr} {m : PL} (hc : X.calm = true) (I : Inv X pins σ H s) (hd : H a = some (.dK (ZDW m))) (hv : s.heap.IsItemsView r a) (hz : m.length ≤ 1000)
  (q : ∀ (l : Addr) (vs : List V) (H' : Hp), H l = none → H' l = some (.lst vs) → ZDK H' vs m → ZDC H H' → Q (.ref l) H') :
  wpAny (model X.prog X.w) X.A (call (.type "list") [.ref r]) (EP X pins σ Q) X.xe s := by
 obtain ⟨z, hsm, kvs, rel, dd⟩ := ZGT I.hok hd
 obtain ⟨ep, dd⟩ := dd.dictAt
 obtain ⟨hkl, _⟩ := ZKE rel
 refine kdx_call (knd := ZDV X.prog X.w) (I.ok.hd hc) hv dd (by rw [sizeLine_eq]; omega) fun h' tk acc c as hk hS hl hG hacc => ?_
 have hasn : as.Nodup := List.nodup_iff_pairwise_ne.mpr (hG.rise.imp fun hab e => Nat.ne_of_lt hab e)
 have hlm : as.length = m.length := by omega
 have hT : ZEd h' s.heap.objs.size (as.map Value.ref) m := ZLd rel hl hG s.heap.objs.size fun b hb => Nat.ne_of_gt (hG.above b hb)
 have hat : ∀ (i : Nat) b p, as[i]? = some b → m[i]? = some p → ZEk H as m s.heap.objs.size (as.map V.ref) s.heap.objs.size b = some (.tup [.int p.1, .int p.2]) := fun i b p e1 e2 => by
  have hbl := hG.above b (List.mem_of_getElem? e1)
  unfold ZEk
  rw [if_neg (Nat.not_lt.mpr (Nat.le_of_lt hbl)), if_neg (Nat.ne_of_gt hbl), ZIV hasn e1 e2]
  rfl
 have hil : ZEk H as m s.heap.objs.size (as.map V.ref) s.heap.objs.size s.heap.objs.size = some (.lst (as.map V.ref)) := by
  unfold ZEk
  rw [if_neg (Nat.lt_irrefl _), if_pos rfl]
 have hSame : ZDC H (ZEk H as m s.heap.objs.size (as.map V.ref) s.heap.objs.size) := fun b u e => by
  unfold ZEk
  rw [if_pos (I.old e)]
  exact e
 refine ⟨.ref s.heap.objs.size, _, I.many (t' := tk) (h' := h') hk (fun b hb => by unfold ZEk; rw [if_pos hb]) (fun b ob hb e => ?_), rfl, q _ (as.map V.ref) _ (I.hok.fresh (Nat.le_refl _)) hil ?_ hSame⟩
 ·by_cases hbl : b = s.heap.objs.size
  ·subst hbl
   rw [hil] at e
   cases e
   refine ⟨by rw [List.length_map, sizeLine_eq]; omega, acc.toList, c, ?_, by rw [hS]⟩
   rw [hacc]
   clear hil hat hSame hT hacc hG hasn hlm hl
   induction as with
   | nil => exact .nil
   | cons b bs ih => exact .cons rfl ih
  ·unfold ZEk at e
   rw [if_neg (Nat.not_lt.mpr hb), if_neg hbl] at e
   cases hlk : (as.zip m).lookup b with
   | none => rw [hlk] at e; cases e
   | some p =>
    rw [hlk] at e
    cases e
    obtain ⟨i, e1, e2⟩ := ZGA hlk
    have hi : i < m.length := (List.getElem?_eq_some_iff.mp e2).1
    have g := hT.get (i := i) hi
    have e3 : (as.map Value.ref).getD i Value.none = .ref b := by simp [e1]
    have e4 : m.getD i (0, 0) = p := by simp [e2]
    rw [e3, e4] at g
    exact ZGx g
 ·refine ZFQ (by rw [List.length_map]; exact hlm) fun i v p e1 e2 => ?_
  rw [List.getElem?_map] at e1
  cases hi : as[i]? with
  | none => rw [hi] at e1; cases e1
  | some b =>
   rw [hi] at e1
   cases e1
   exact ⟨b, rfl, hat i b p hi e2⟩
def ZLe (a : Addr) (m : PL) (H : Hp) (Q : VK) : Prop := m.length ≤ 1000 ∧ ∀ (l : Addr) (vs : List V) (H' : Hp), H l = none → H' l = some (.lst vs) → ZDK H' vs m → ZDC H H' → Q (.ref l) H'
def ZLf (to : TE) : TE := fun σ H Q => ZHx to σ H fun a m H1 => ZLe a m H1 Q
theorem ZNR (hc : X.calm = true) (hg : Gl X "list") (hm : X.mg "list" = none) (ho : QE X o to)
  (hbase : attributeBase o "items" X.env (eval o X.env) = eval o X.env := by rfl) (hline : (apos.endLine == cpos.line) = true := by rfl) :
  QE X (.Call (.Name "list" p) [.Call (.Attribute o "items" apos) [] [] cpos] [] pos) (ZLf to) := by
 refine ⟨?_⟩
 intro pins s σ H Q I h
 refine wpAny_Call_Name_kw (ZFE I hg hm ZQP ?_ (by decide) (by decide))
 refine PyProof.Rows.callWith_type1 ?_ rfl rfl
 show wpAny _ _ (spliced ((false, eval (.Call (.Attribute o "items" apos) [] [] cpos) X.env) :: backTo pos (starEach [] X.env))) _ _ s
 refine Calls.spliced_cons (thn (ZIU ho.h I h hbase hline) fun u s1 ⟨r, a, m, H1, eu, hsz, hv, hd, I1, q⟩ => ?_)
 subst eu
 refine Calls.spliced_nil ?_
 exact ZMP hc I1 hd hv q.1 q.2
def ZLg (x : V) (H : Hp) (Q : VK) : Prop := ∃ a m, x = .ref a ∧ H a = some (.dK (ZDW m)) ∧ ZLe a m H Q
theorem ZMQ {σ : St} {H : Hp} {Q : VK} (h : to σ H fun x H1 => ZLg x H1 Q) : ZLf to σ H Q := h
theorem ZNS {H : Hp} {Q : VK} {a : Addr} {m : PL} (h1 : H a = some (.dK (ZDW m))) (hz : m.length ≤ 1000) (h : ∀ l H2, H l = none → PrL H2 l m → ZDC H H2 → Q (.ref l) H2) : ZLg (.ref a) H Q :=
 ⟨a, m, rfl, h1, hz, fun l vs H' n f hP S => h l H' n ⟨vs, f, hP⟩ S⟩
end
theorem ZLh {K : W.Frag} {x qual : Str} {st : Stmt} {f : Addr} {oc : Value} {od an : Option Addr} {osl : Array (Option Value)} {dV kV doc pm cdv ct : Value} (l : K.lookup f = some ⟨oc, od, .func (W.fnOf x qual (ZDr st) (ZDg st) (ZC9 st) dV kV doc pm an cdv ct), osl⟩)
 (c : W.codeIn K cdv qual = true) (k : W.keepIn K (.ref f) = true) : ZKJ K x qual st f (W.fnOf x qual (ZDr st) (ZDg st) (ZC9 st) dV kV doc pm an cdv ct) := ⟨⟨oc, od, dV, kV, doc, pm, an, cdv, ct, osl, rfl, l, c⟩, k⟩
def ZLi (K : W.Frag) (fd : FuncData) (ps : List Str) (x : Str) : Prop := ∀ (s : Shared) (u v : Value), K.In s.heap → BindsTo s fd ⟨[u], [(x, v)]⟩ (ps.zip [u, v])
theorem ZDS.there {P : Program} {w : World} {H : Hp} {h : Heap} {a : Addr} {o : HO} (x : ZDS P w H h a o) : ∃ ob, h.get? a = some ob := by
 cases o with
 | lst xs => obtain ⟨_, _, _, _, e⟩ := x; exact ⟨_, e⟩
 | tup xs => obtain ⟨_, _, _, p⟩ := x; obtain ⟨o, e, _⟩ := p; exact ⟨_, e⟩
 | dK kvs => obtain ⟨_, _, _, _, o, _, _, e, _⟩ := x; exact ⟨_, e⟩
 | dT kvs => obtain ⟨_, _, _, _, o, _, _, e, _⟩ := x; exact ⟨_, e⟩
 | set S n => obtain ⟨o, _, _, _, e, _⟩ := x; exact ⟨_, e⟩
 | ins C dx fs => obtain ⟨_, _, _, e, _⟩ := x; exact ⟨_, e⟩
 | own y => exact x
 | xd fs => obtain ⟨_, ⟨_, _, _, e, _⟩, _⟩ := x; exact ⟨_, e⟩
 | rng lo hi => obtain ⟨_, _, _, e⟩ := x; exact ⟨_, e⟩
 | frz ob u => obtain ⟨e, _⟩ := x; exact ⟨_, e⟩
 | tbl ps => exact ⟨_, (show h.get? a = some _ from x)⟩
 | met f y => exact ⟨_, (show h.get? a = some _ from x)⟩
 | ext φ => obtain ⟨_, e, _⟩ := x; exact e
def Cov (B : Heap) (H' : Hp) (h0 h' : Heap) (fs : List Addr) : Prop := ∀ b o, h'.get? b = some o → b ∉ fs → ((∃ u, H' b = some u) ∨ ∃ o0, h0.get? b = some o0) → B.get? b = some o
def CX1 (P : Program) (w : World) : CXT := fun l H s E ev s' => ∃ (e : Addr) (C a0 : Value) (B : Heap) (H' : Hp), ev = .ref e ∧ s'.os = s.os ∧ AllBare s'.gens ∧ Un (frs l) [] H H' s.heap s'.heap ∧ HOk P w H' s'.heap ∧
 s.heap.get? e = none ∧ H' e = none ∧ Heap.FlyingW B l e C a0 s'.heap ∧ Cov B H' s.heap s'.heap (frs l) ∧ E C none H'
section
variable {P : Program} {w : World} {H H' : Hp} {h0 h' h'' B : Heap} {fs : List Addr}
theorem ZH2 (hok : HOk P w H' h') (un : Un fs [] H H' h0 h') (cov : Cov B H' h0 h' fs) (st : B.StaysIn h'') (up : h'.UpToSlots h'') (fr : ∀ b ∈ fs, H' b = none ∧ ∃ o, h'.get? b = some o ∧ ∀ vs, o.data ≠ .fields vs) :
  HOk P w H' h'' ∧ Un fs [] H H' h0 h'' ∧ Cov B H' h0 h'' fs := by
 have trk : ∀ b u, H' b = some u → b ∉ fs := fun b u e hb => by rw [(fr b hb).1] at e; cases e
 have old : ∀ b o0, h0.get? b = some o0 → ∃ o', h''.get? b = some o' := fun b o0 e => by
  obtain ⟨o', e'⟩ := un.there b o0 e (by simp)
  by_cases hb : b ∈ fs
  ·obtain ⟨_, o, ho, hd⟩ := fr b hb
   obtain ⟨sl, q⟩ := up b o ho hd
   exact ⟨_, q⟩
  ·exact ⟨o', st _ _ (cov b o' e' hb (.inr ⟨o0, e⟩))⟩
 refine ⟨fun b u e => (hok b u e).stay (fun c v hc q => ?_) (fun _ q => q) fun _ _ q => q, ⟨fun b o e n hb hx => ?_, fun b o e n hb hx => ?_, un.free, fun b o e _ => old b o e, un.tups, un.frzs, un.tbls⟩, fun b o e hb ht => ?_⟩
 ·have hc' : ∃ u, H' c = some u := by
   rcases hc with rfl | hc
   ·exact ⟨_, e⟩
   ·exact ⟨_, hc⟩
  obtain ⟨u', hu'⟩ := hc'
  exact st _ _ (cov c v q (trk c u' hu') (.inl ⟨u', hu'⟩))
 ·exact st _ _ (cov b o (un.keep b o e n hb hx) hb (.inr ⟨o, e⟩))
 ·obtain ⟨sl, q⟩ := un.slot b o e n hb hx
  obtain ⟨_, o2, ho2, hd⟩ := fr b hb
  rw [q] at ho2
  cases ho2
  obtain ⟨sl2, q2⟩ := up b _ q hd
  exact ⟨sl2, q2⟩
 ·have : ∃ o1, h'.get? b = some o1 := by
   rcases ht with ⟨u, hu⟩ | ⟨o0, ho0⟩
   ·exact (hok b u hu).there
   ·exact un.there b o0 ho0 (by simp)
  obtain ⟨o1, h1⟩ := this
  have hB := cov b o1 h1 hb ht
  have := st _ _ hB
  rw [e] at this
  cases this
  exact hB
end
section
variable {P : Program} {w : World} {K : W.Frag} {mg : Str → Option Value} {base : Heap} {N : List Str} {qual : Str} {scope : Scope} {f : Addr} {cd : Value} {A : Around} {outer : List Env} {s : Shared} {H : Hp} {E : XK}
abbrev cxE (P : Program) (w : World) (K : W.Frag) (mg : Str → Option Value) (base : Heap) (N : List Str) (qual : Str) (scope : Scope) (f : Addr) (cd : Value) (A : Around) (outer : List Env) (s : Shared) (H : Hp) (E : XK) : Cx := ZFs (CX1 P w) P w K mg base N qual scope f cd A outer s H E
theorem ZKN {env : Env} {l : List Env} {L : Addr} (h : env.frame = some L) : frs (env :: l) = L :: frs l := by
 unfold frs
 rw [List.filterMap_cons, h]
theorem ZIm {X : Cx} {pins : List (Addr × Obj)} {σ : St} {H1 : Hp} {s1 : Shared} (I : Inv X pins σ H1 s1) {B h : Heap} {l : List Env} (hl : h.FunFrames B l) (hs : ∀ b ∈ frs l, b ∈ frs X.stack) : ∀ b ∈ frs l, H1 b = none ∧ ∃ o, h.get? b = some o ∧ ∀ vs, o.data ≠ .fields vs :=
 fun b hb => ⟨I.stkFree b (hs b hb), (hl.mem hb).2⟩
end
theorem ZHR {K : W.Frag} {h : Heap} {C : Addr} {bmB : List Value} {newId : String} (X : K.In h) (q : excIn K C bmB newId = true) :
  ∃ bm N nm q bs hdct sn sub ab col dd k0 k1 k2 k3 k5 mN, h.get? C = some (excClassObj nm q C N bs bm hdct sn sub ab col dd k0 k1 k2 k3 k5 newId) ∧ h.Ns N mN ∧ mN "__init__" = none ∧ OwnTail h bmB bm := by
 unfold excIn at q
 split at q
 ·rename_i dd cd sl ho
  split at q
  ·rename_i C' bm k0 k1 k2 k3 n k5 hm hs
   simp only [Bool.and_eq_true, beq_iff_eq, Bool.not_eq_true'] at q
   obtain ⟨⟨⟨⟨⟨rfl, rfl⟩, hdel⟩, ht⟩, hok⟩, hni⟩ := q
   obtain ⟨nm, bs, mro, ns, qn, hd, sn, sub, ab, col, del⟩ := cd
   dsimp only at hm hdel hok hni
   subst hm hdel
   have hsl : sl = #[k0, k1, k2, k3, some (.builtin n), k5] := by
    obtain ⟨l⟩ := sl
    simp only at hs
    rw [hs]
   subst hsl
   exact ⟨bm, ns, nm, qn, bs, hd, sn, sub, ab, col, dd, k0, k1, k2, k3, k5, _, X _ _ ho, .of_isNs (isNs_of_in X hok), nsMap_none_of_in X hok hni, tail_of_in X ht⟩
  ·cases q
 ·cases q
def ZEb (K : W.Frag) (C : Addr) : Prop := excIn K C [.type "ValueError", .type "Exception", .type "BaseException", .type "object"] "ValueError.__new__" = true
section
variable {P : Program} {w : World} {K : W.Frag} {mg : Str → Option Value} {base : Heap} {N : List Str} {qual : Str} {scope : Scope} {f : Addr} {cd : Value} {A : Around} {outer : List Env} {s : Shared} {H : Hp} {E : XK}
 {x : Str} {np cpos pos : Pos} {e₀ : Expr} {es : List Expr} {t : TA} {C : Addr}
def ZKO (E : XK) (C : Addr) (t : TA) : TS := fun _ σ H => t σ H fun vs H1 => vs.length ≤ sizeLine ∧ E (.ref C) none H1
theorem ZO7 (hC : ZEb K C) (hg : Gl (cxE P w K mg base N qual scope f cd A outer s H E) x) (hm : mg x = some (.ref C)) (ha : PA (cxE P w K mg base N qual scope f cd A outer s H E) (e₀ :: es) t)
  (hdb : (x == ("__debug__" : Str)) = false := by decide)
  (he : starEach (e₀ :: es) (cxE P w K mg base N qual scope f cd A outer s H E).env = (false, eval e₀ (cxE P w K mg base N qual scope f cd A outer s H E).env) :: starEach es (cxE P w K mg base N qual scope f cd A outer s H E).env := by rfl)
  (hpl : (backTo cpos (starEach es (cxE P w K mg base N qual scope f cd A outer s H E).env)).any (·.1) = false := by rfl) :
  PS (cxE P w K mg base N qual scope f cd A outer s H E) (.Raise (some (.Call (.Name x np) (e₀ :: es) [] cpos)) none pos) (ZKO E C t) := by
 intro pins s1 σ H1 D I h
 have hh : (cxE P w K mg base N qual scope f cd A outer s H E).A.handled = none := I.ok.hd rfl
 obtain ⟨bm, N', nm, qn, bs, hdct, sn, sub, ab, col, dd, k0, k1, k2, k3, k5, mN, hCo, hN, hni, TL⟩ := ZHR I.ok.mod.kin hC
 have FB := PySem.F.excBase_ValueError
 refine wpAny_Raise_call_subT (C := C) (nm := nm) (q := qn) (N := N') (bs := bs) (bm := bm) (hdct := hdct) (sn := sn) (sub := sub) (ab := ab) (col := col) (dd := dd) (k0 := k0) (k1 := k1) (k2 := k2) (k3 := k3) (k5 := k5)
  FB (mN := mN) (TL.hasType FB.hasBase) hh (by rw [he]; show (false || (backTo cpos (starEach es _)).any (·.1)) = false; rw [hpl]; rfl) hni (ZEh I hg hm ⟨rfl, ?_⟩ hdb)
 have hA := ha cpos pins s1 σ H1 _ I h
 rw [he] at hA ⊢
 refine Calls.evalArgs_plain (wpAny_mono hA (fun vs s2 ⟨xs, H2, I2, r, z, q⟩ => ⟨rfl, by rw [← r.length]; exact z, I2.bk _ _ hCo, hN.keeps I2.bk, TL.keeps I2.bk, fun h' e hx => ?_⟩) fun _ _ y => y)
 -- the exception is made: it leaves the frame
 have hfr : (cxE P w K mg base N qual scope f cd A outer s H E).A.frames = some ((cxE P w K mg base N qual scope f cd A outer s H E).env :: outer) := I.ok.frames
 have efr : frs ((cxE P w K mg base N qual scope f cd A outer s H E).env :: outer) = s.heap.objs.size :: frs outer := ZKN rfl
 have stk := I2.stack
 have hin : ∀ env ∈ ((cxE P w K mg base N qual scope f cd A outer s H E).env :: outer), ∀ b, env.frame = some b → b ∈ frs ((cxE P w K mg base N qual scope f cd A outer s H E).env :: outer) := fun env he b hb => List.mem_filterMap.mpr ⟨env, he, hb⟩
 show wpAny (model P w) _ (leaving _ (.ref e)) _ _ { s2 with heap := h' }
 refine wpAny_leaves_madeW (base := hideAll s2.heap (frs ((cxE P w K mg base N qual scope f cd A outer s H E).env :: outer))) (L := s.heap.objs.size) hfr rfl (fun b o q => of_hideAll _ q) (funFrames_hide stk hin) hx fun h'' t' fl2 htup hbt up => ?_
 have I3 : Inv (cxE P w K mg base N qual scope f cd A outer s H E) pins σ H2 { s2 with heap := h' } := I2.kept (h' := h') (t' := s2.toks) hx.keeps
 have cov : Cov (hideAll s2.heap (frs ((cxE P w K mg base N qual scope f cd A outer s H E).env :: outer))) H2 s.heap h' (frs outer) := fun b o hb hn ht => by
  have : ∃ o1, s2.heap.get? b = some o1 := by
   rcases ht with ⟨u, hu⟩ | ⟨o0, ho0⟩
   ·exact (I2.hok b u hu).there
   ·exact I2.base.there b o0 ho0 (show b ∉ ([] : List Addr) by simp)
  obtain ⟨o1, h1⟩ := this
  have h2 := hx.keeps _ _ h1
  rw [hb] at h2
  cases h2
  refine hideAll_get _ h1 fun z => ?_
  rw [efr] at z
  rcases List.mem_cons.mp z with rfl | z
  ·rcases ht with ⟨u, hu⟩ | ⟨o0, h0⟩
   ·have z3 : H2 s.heap.objs.size = none := I2.free
    rw [z3] at hu; cases hu
   ·exact Nat.lt_irrefl _ (Heap.lt_size h0)
  ·exact hn z
 have flo : h'.FunFrames (hideAll s2.heap (frs ((cxE P w K mg base N qual scope f cd A outer s H E).env :: outer))) outer := by
  obtain ⟨_, _, k⟩ := (funFrames_hide stk hin : s2.heap.FunFrames (hideAll s2.heap (frs ((cxE P w K mg base N qual scope f cd A outer s H E).env :: outer))) ((cxE P w K mg base N qual scope f cd A outer s H E).env :: outer))
  exact k.of_keeps fun b o hb _ => ⟨o, hx.keeps b o hb, rfl⟩
 obtain ⟨hok3, un3, cov3⟩ := ZH2 (I3.hok) (show Un (frs outer) [] H H2 s.heap h' from I3.base) cov fl2.1 up (ZIm I3 flo fun b hb => by
  show b ∈ frs ((cxE P w K mg base N qual scope f cd A outer s H E).env :: outer)
  rw [efr]; exact List.mem_cons_of_mem _ hb)
 refine ⟨e, .ref C, .ref t', _, H2, rfl, I2.os, I2.bare, un3, hok3, ?_, ?_, fl2, cov3, q⟩
 ·cases z : s.heap.get? e with
  | none => rfl
  | some o =>
   obtain ⟨o', e'⟩ := I2.base.there e o z (show e ∉ ([] : List Addr) by simp)
   rw [hx.new] at e'; cases e'
 ·cases z : H2 e with
  | none => rfl
  | some u =>
   obtain ⟨o', e'⟩ := (I2.hok e u z).there
   rw [hx.new] at e'; cases e'
end
section
variable {P : Program} {w : World} {K : W.Frag} {mg : Str → Option Value} {base : Heap}
theorem ZDI.lift {k : Nat} {f : Addr} {fd : FuncData} {ps : List Str} {sp : Sp} (F : ZDI P w K mg base CX0 k f fd ps sp) : ZDI P w K mg base (CX1 P w) k f fd ps sp :=
 ⟨F.len, fun A outer s H args us vs Q E hr he hb hv hs => codeAny_mono (F.run A outer s H args us vs Q E hr he hb hv hs) fun r s' h => by
  cases r with
  | error e => exact h.elim
  | ok fl => cases fl <;> exact h⟩
theorem ZDI.or {k : Nat} {CX : CXT} {f : Addr} {fd : FuncData} {ps : List Str} {sp sq : Sp} (F : ZDI P w K mg base CX k f fd ps sp) (G : ZDI P w K mg base CX k f fd ps sq) : ZDI P w K mg base CX k f fd ps (fun vs H Q E => sp vs H Q E ∨ sq vs H Q E) :=
 ⟨fun vs H Q E h => h.elim (F.len vs H Q E) (G.len vs H Q E), fun A outer s H args us vs Q E hr he hb hv hs => hs.elim (F.run A outer s H args us vs Q E hr he hb hv) (G.run A outer s H args us vs Q E hr he hb hv)⟩
theorem Fun.okx {x qual : Str} {st : Stmt} {f : Addr} {fd : FuncData} {N ps : List Str} {k : Nat} {sp : Sp} (F : Fun K x qual st f fd) (S : ZDL N ps (ZC9 st)) (len : ∀ vs H Q E, sp vs H Q E → vs.length = ps.length)
  (hbody : ∀ (cdv : Value) (A : Around) (outer : List Env) (s : Shared) (H : Hp) (vs : List V) (Q : VK) (E : XK), Room k (A.deeper (envOfC qual (ZC9 st) s.heap.objs.size f cdv)) → sp vs H Q E →
   ∃ t, PSs (cxE P w K mg base N qual (ZC9 st) f cdv A outer s H E) (ZDg st) t ∧ t { nx := fun _ H' => Q .non H', rt := Q } (start N vs) H) : ZDI P w K mg base (CX1 P w) (k + 1) f fd ps sp := by
 obtain ⟨oc, od, kV, doc, pm, an, cdv, ct, osl, rfl, lk, hcd⟩ := F.ex
 exact ZL3 lk hcd S len fun A outer s H vs Q E hr hsp => hbody cdv A outer s H vs Q E hr hsp
end
theorem ZGg {α : Type} (p : α → Bool) : ∀ (l : List α) (i : Nat), (∀ a, l[i]? = some a → p a = false) → (l.eraseIdx i).find? p = l.find? p
 | [], _, _ => by simp
 | a :: l, 0, h => by
  have := h a rfl
  rw [List.eraseIdx_cons_zero, List.find?_cons, this]
 | a :: l, i + 1, h => by
  rw [List.eraseIdx_cons_succ, List.find?_cons, List.find?_cons, ZGg p l i fun b hb => h b (by simpa using hb)]
theorem ZO8 {es : Array DictEntry} (hk : StrKeys es) {name : Str} {i : Nat} (hi : es.findIdx? (fun e => e.key.isStr name) = some i) (x : Str) (hx : x ≠ name) :
  nsFind (es.eraseIdxIfInBounds i) x = nsFind es x := by
 obtain ⟨l⟩ := es
 simp only [nsFind, findBy, List.eraseIdxIfInBounds_toArray, List.find?_toArray, List.findIdx?_toArray] at hi ⊢
 rw [ZGg]
 intro a ha
 obtain ⟨hlt, hp, _⟩ := List.findIdx?_eq_some_iff_getElem.mp hi
 have ea : l[i] = a := by
  rw [List.getElem?_eq_getElem hlt] at ha
  exact Option.some.inj ha
 rw [ea] at hp
 obtain ⟨n, t, h⟩ := hk a (by simpa using List.mem_of_getElem? ha)
 rw [h] at hp ⊢
 have e1 : n = name := by simpa [Value.isStr] using hp
 have e2 : n ≠ x := fun z => hx (z.symm.trans e1)
 simpa [Value.isStr] using e2
section
variable {M : Model} {A : Around} {E : Value → Shared → Prop} {s : Shared}
theorem ZO9 {a : Addr} {m : Str → Option Value} {name : Str} {Q : Bool → Shared → Prop} (hn : s.heap.Ns a m)
  (hQ : ∀ h' m', h'.Ns a m' → (∀ x, x ≠ name → m' x = m x) → Heap.SameBut a s.heap h' → Q (m name).isSome { s with heap := h' }) : wpAny M A (nsDel a name) Q E s := by
 obtain ⟨o, es, ep, ho, hd, hk, hm⟩ := id hn
 have hany : es.any (·.refKey) = false := by
  rw [Array.any_eq_false']; intro e he; obtain ⟨n, t, h⟩ := hk e he; simp [DictEntry.refKey, h]
 have hsome : (m name).isSome = es.any (·.key.isStr name) := by
  rw [← hm name]; simp only [nsFind, findBy, Option.isSome_map]
  rw [Bool.eq_iff_iff]; simp only [Array.find?_isSome, Array.any_eq_true]
  constructor
  ·rintro ⟨x, hx, hp⟩; obtain ⟨i, hi, rfl⟩ := Array.mem_iff_getElem.mp hx; exact ⟨i, hi, hp⟩
  ·rintro ⟨i, hi, hp⟩; exact ⟨_, Array.getElem_mem hi, hp⟩
 have hhas : nsHas name o = pure (es.any (·.key.isStr name)) := by
  rw [nsHas_eq]; unfold nsHasByArray; rw [hd]
  show (if (es.any fun x => x.key.isStr name) = true then _ else _) = _
  generalize (es.any fun x => x.key.isStr name) = b
  cases b <;> simp [hany]
 unfold nsDel
 refine wpAny_bind (wpAny_loadPart ho ?_)
 rw [hhas]
 refine wpAny_bind (wpAny_pure ?_)
 rw [← hsome]
 cases hmn : (m name).isSome
 ·have := hQ s.heap m hn (fun _ _ => rfl) (.refl ..)
  rw [hmn] at this
  exact wpAny_pure this
 ·refine wpAny_bind (wpAny_updatePart ho (wpAny_pure ?_))
  have key : ∃ m', (s.heap.update a (Obj.dropName name)).Ns a m' ∧ ∀ x, x ≠ name → m' x = m x := by
   obtain ⟨cl, d, dt, sl⟩ := o
   subst hd
   cases hi : es.findIdx? (·.key.isStr name) with
   | some i => exact ⟨_, ⟨_, _, ep + 1, Heap.get?_update_self _ ho (by simp only [Obj.dropName_eq, Obj.dropNameByArray, hi] <;> rfl), (by simp only [Obj.dropName_eq, Obj.dropNameByArray, hi] <;> rfl), hk.erase i, fun _ => rfl⟩, fun x hx => by rw [← hm x]; exact ZO8 hk hi x hx⟩
   | none => exact ⟨_, ⟨_, _, ep, Heap.get?_update_self _ ho (by simp only [Obj.dropName_eq, Obj.dropNameByArray, hi] <;> rfl), (by simp only [Obj.dropName_eq, Obj.dropNameByArray, hi] <;> rfl), hk, fun _ => rfl⟩, fun x _ => hm x⟩
  obtain ⟨m', hm', hx'⟩ := key
  have := hQ _ m' hm' hx' (Heap.SameBut.update ..)
  rw [hmn] at this
  exact this
theorem ZLC {env : Env} {n : Str} {pos : Pos} {m : Str → Option Value} {Q : Unit → Shared → Prop} (hl : env.kindOf n = some .local) (hn : s.heap.Ns env.locals m)
  (hp : (env.scope.kind == .class || (env.scope.kind == .module && env.locals != env.globals)) = false)
  (h : ∀ h' m', h'.Ns env.locals m' → (∀ x, x ≠ n → m' x = m x) → Heap.SameBut env.locals s.heap h' → Q () { s with heap := h', toks := s.toks + 1 }) :
  wpAny M A (do bindName env n .none; unbindBehindTheSuite env n pos) Q E s := by
 refine wpAny_bind (wpAny_bindName (wpAny_storeName_local hl hn (fun h₁ hn₁ hs₁ => ?_) hp))
 unfold unbindBehindTheSuite
 refine wpAny_onRaise ?_
 unfold unbindName
 refine wpAny_bind (wpAny_point (wpAny_bind ?_))
 unfold deleteName
 simp only [hl, hp]
 rw [if_neg (by decide)]
 refine wpAny_bind (ZO9 hn₁ fun h₂ m₂ hn₂ hm₂ hs₂ => ?_)
 simp only [if_true, Option.isSome_some, Bool.not_true, Bool.false_eq_true, if_false]
 exact wpAny_pure (wpAny_point (h h₂ m₂ hn₂ (fun x hx => by rw [hm₂ x hx, if_neg hx]) (hs₁.trans hs₂)))
end
section
variable {X : Cx} {pins : List (Addr × Obj)} {σ : St} {H : Hp} {s : Shared}
theorem ZHS {M : Model} {A : Around} {E : Value → Shared → Prop} {i : Nat} {n : Str} {pos : Pos} {Q : Unit → Shared → Prop} (I : Inv X pins σ H s) (hN : X.N.Nodup) (hi : X.N[i]? = some n) (hl : X.env.scope.names.lookup n = some .local)
  (h : ∀ s', Inv X pins (σ.set i none) H s' → Q () s') : wpAny M A (do bindName X.env n .none; unbindBehindTheSuite X.env n pos) Q E s := by
 obtain ⟨m, hn, hlk⟩ := id I.loc
 have hcls : (X.env.scope.kind == .class || (X.env.scope.kind == .module && X.env.locals != X.env.globals)) = false := by rw [I.ok.kind]; rfl
 obtain ⟨oL, _, _, hoL, _⟩ := id hn
 refine ZLC hl hn hcls fun h' m' hn' hm' hs => h _ ?_
 refine ⟨I.ok, I.os, I.bare, ⟨fun b o e n hb hx => ?_, fun b o e n hb hx => ?_, I.base.free, fun b o e hx => ?_, I.base.tups, I.base.frzs, I.base.tbls⟩, ⟨m', hn', fun j y v' e1 e2 e3 => ?_⟩, fun y c e => ?_, I.free, I.freeC, fun p hp => ?_, fun b ob e => ?_, by simpa using I.len⟩
 ·exact (hs.2 b (Nat.ne_of_lt (Nat.lt_of_lt_of_le (Heap.lt_size e) I.ok.above))).trans (I.base.keep b o e n hb hx)
 ·obtain ⟨sl, e1⟩ := I.base.slot b o e n hb hx
  exact ⟨sl, (hs.2 b (Nat.ne_of_lt (Nat.lt_of_lt_of_le (Heap.lt_size e) I.ok.above))).trans e1⟩
 ·obtain ⟨o', e1⟩ := I.base.there b o e hx
  exact ⟨o', (hs.2 b (Nat.ne_of_lt (Nat.lt_of_lt_of_le (Heap.lt_size e) I.ok.above))).trans e1⟩
 ·by_cases hj : j = i
  ·subst hj
   rw [List.getElem?_set] at e2
   split at e2
   ·split at e2 <;> cases e2
   ·rename_i z; exact absurd rfl z
  ·rw [List.getElem?_set_ne (Ne.symm hj)] at e2
   obtain ⟨u', r', q⟩ := hlk j y v' e1 e2 e3
   have hy : y ≠ n := fun e => hj (ZHh hN e1 (e ▸ hi))
   refine ⟨u', r', ?_⟩
   rcases q with ⟨k, e⟩ | ⟨k, c, e, z⟩
   ·exact .inl ⟨k, by rw [hm' y hy]; exact e⟩
   ·exact .inr ⟨k, c, e, z.sameBut hs (I.cne y c e)⟩
 ·obtain ⟨w', z⟩ := I.cell y c e
  exact ⟨w', z.sameBut hs (I.cne y c e)⟩
 ·obtain ⟨e, n, ne, nf, d⟩ := I.pin p hp
  exact ⟨(hs.2 p.1 ne).trans e, n, ne, nf, d⟩
 ·refine (I.hok b ob e).stay (fun c w' hc q => (hs.2 c ?_).trans q) (fun _ q => q) fun _ _ q => q
  rintro rfl
  rcases hc with z | hc
  ·have := I.free
   rw [z, e] at this; cases this
  ·have := I.free
   rw [hc] at this; cases this
end
def ZE8 (e : Addr) (C : Value) : HO := .ext fun h => ∃ oe, h.get? e = some oe ∧ oe.cls = C
abbrev Cx.suite (X : Cx) (e : Addr) : Cx := { X with A := X.A.mark (some (.ref e)), calm := false, xe := fun _ _ => False }
section
variable {X : Cx} {pins : List (Addr × Obj)} {σ : St} {H : Hp} {s : Shared} {e : Addr}
theorem Inv.around {A' : Around} {xe' : Value → Shared → Prop} (I : Inv X pins σ H s) (hf : A'.frames = X.A.frames) : Inv { X with A := A', calm := false, xe := xe' } pins σ H s :=
 ⟨⟨I.ok.mod, I.ok.kind, I.ok.glob, I.ok.blt, I.ok.above, I.ok.inj, I.ok.has, I.ok.cab, (fun z => nomatch z), hf.trans I.ok.frames, I.ok.stk, I.ok.exf, I.ok.bs, I.ok.bsz, I.ok.noex, I.ok.exfs, I.ok.funs, I.ok.frf⟩,
  I.os, I.bare, I.base, I.loc, I.cell, I.free, I.freeC, I.pin, I.hok, I.len⟩
theorem Inv.toSuite (I : Inv X pins σ H s) : Inv (X.suite e) pins σ H s := I.around rfl
theorem Inv.ofSuite (ok : X.Ok) (I : Inv (X.suite e) pins σ H s) : Inv X pins σ H s :=
 ⟨ok, I.os, I.bare, I.base, I.loc, I.cell, I.free, I.freeC, I.pin, I.hok, I.len⟩
theorem Inv.track {u : HO} (I : Inv X pins σ H s) (h1 : X.s₀.heap.get? e = none) (h2 : H e = none) (h3 : e ≠ X.env.locals) (h4 : ∀ x c, X.env.cells.lookup x = some c → c ≠ e) (h5 : ∀ p ∈ X.pn ++ pins, p.1 ≠ e) (new : ZDS X.prog X.w (upd H e u) s.heap e u) : Inv X pins σ (upd H e u) s := by
 have ne : ∀ b o, X.s₀.heap.get? b = some o → b ≠ e := fun b o q z => by rw [z, h1] at q; cases q
 refine ⟨I.ok, I.os, I.bare, ⟨I.base.keep, I.base.slot, fun b o q n hx => ?_, I.base.there, fun b xs q => ?_, fun b o xs q => ?_, fun b ps q => ?_⟩, I.loc, I.cell, ?_, fun x c q => ?_, fun p hp => ?_, fun b v q => ?_, I.len⟩
 ·rw [ZDF (ne b o q)]; exact I.base.free b o q n hx
 ·have := I.base.tups b xs q
  rw [ZDF (ZDR this h2)]; exact this
 ·have := I.base.frzs b o xs q
  rw [ZDF (ZDR this h2)]; exact this
 ·obtain ⟨m, z⟩ := I.base.tbls b ps q
  exact ⟨m, by rw [ZDF (ZDR z h2)]; exact z⟩
 ·rw [ZDF (Ne.symm h3)]; exact I.free
 ·rw [ZDF (h4 x c q)]; exact I.freeC x c q
 ·obtain ⟨a, b, c⟩ := I.pin p hp
  exact ⟨a, by rw [ZDF (h5 p hp)]; exact b, c⟩
 ·by_cases hb : b = e
  ·subst hb; rw [ZDN] at q; cases q; exact new
  ·rw [ZDF hb] at q
   exact (I.hok b v q).stay (fun _ _ _ q => q) (fun c r => by rw [ZDF (ZDR r h2)]; exact r) fun c xs r => by rw [ZDF (ZDR r h2)]; exact r
end
def Fl (X : Cx) (H1 : Hp) (s0 : Shared) (e : Addr) (C : Value) (H' : Hp) (s3 : Shared) : Prop := ∃ (a0 : Value) (B : Heap), s3.os = s0.os ∧ AllBare s3.gens ∧ Un (frs X.stack) [] H1 H' s0.heap s3.heap ∧ HOk X.prog X.w H' s3.heap ∧
 s0.heap.get? e = none ∧ H' e = none ∧ Heap.FlyingW B X.stack e C a0 s3.heap ∧ Cov B H' s0.heap s3.heap (frs X.stack)
section
variable {X : Cx} {pins : List (Addr × Obj)} {σ : St} {H1 H' : Hp} {s0 s3 : Shared} {e : Addr} {C : Value}
theorem Fl.inv (F : Fl X H1 s0 e C H' s3) (I : Inv X pins σ H1 s0) : Inv X pins σ H' s3 := by
 obtain ⟨a0, B, os, bare, un, hok, _⟩ := F
 exact I.call' (ch := []) os un hok bare (fun b z => absurd z (by simp))
theorem ZQ2 {P : Program} {w : World} {H : Hp} {h : Heap} {e : Addr} {oe : Obj} {C : Value} (he : h.get? e = some oe) (hc : oe.cls = C) : ZDS P w (upd H e (ZE8 e C)) h e (ZE8 e C) := ⟨⟨oe, he, hc⟩, ⟨oe, he⟩, fun h1 h2 ⟨o, q, c⟩ k => ⟨o, k o q, c⟩⟩
theorem Fl.suite (F : Fl X H1 s0 e C H' s3) (I : Inv X pins σ H1 s0) (hst : X.stack = X.env :: X.outer) (hfr : X.env.frame = some X.env.locals) (hex : X.ex = []) : ∃ oe, oe.cls = C ∧ s3.heap.get? e = some oe ∧ H' e = none ∧ Inv (X.suite e) pins σ (upd H' e (ZE8 e C)) s3 := by
 have I3 := F.inv I
 obtain ⟨a0, B, os, bare, un, hok, hen, heH, fl, cov⟩ := F
 obtain ⟨oe, vs, T, oT, ts, he, hc, hd, _⟩ := fl.2.2.2
 have nfr : e ∉ frs X.stack := fun z => by
  obtain ⟨_, o, ho, hn⟩ := fl.2.2.1.mem z
  rw [he] at ho; cases ho
  exact hn vs hd
 have efr : frs X.stack = X.env.locals :: X.fs := by rw [hst]; exact ZKN hfr
 rw [efr] at nfr
 refine ⟨oe, hc.1, he, heH, (I3.track (u := ZE8 e C) ?_ heH (fun z => nfr (by rw [z]; exact List.mem_cons_self)) (fun x c q z => ?_) (fun p hp z => ?_) (ZQ2 he hc.1)).toSuite⟩
 ·cases z : X.s₀.heap.get? e with
  | none => rfl
  | some o =>
   obtain ⟨o', e'⟩ := I.base.there e o z (by rw [hex]; simp)
   rw [hen] at e'; cases e'
 ·obtain ⟨v, o, ho, hdc⟩ := I3.cell x c q
  rw [z, he] at ho; cases ho
  rw [hd] at hdc; cases hdc
 ·have := (I.pin p hp).1
  rw [z, hen] at this; cases this
end
abbrev TX := St → Hp → VK → XK → Prop
def XP (X : Cx) (pins : List (Addr × Obj)) (σ : St) (E : XK) (ev : Value) (s' : Shared) : Prop := ∃ H1 s1 e C H', Inv X pins σ H1 s1 ∧ ev = .ref e ∧ Fl X H1 s1 e C H' s' ∧ E C none H'
structure QX (X : Cx) (e : Expr) (t : TX) : Prop where
 h : ∀ (pins : List (Addr × Obj)) (s : Shared) (σ : St) (H : Hp) (Q : VK) (E : XK), Inv X pins σ H s → t σ H Q E → wpAny (model X.prog X.w) X.A (eval e X.env) (EP X pins σ Q) (XP X pins σ E) s
section
variable {X : Cx} {k : Nat} {f C : Addr} {fd : FuncData} {ps : List Str} {sp : Sp} {dvs : List V} {ds : List Value} {E : XK} {x m : Str} {p pos apos : Pos} {e o : Expr} {es : List Expr} {ta : TE} {t : TA}
theorem ZQ3 {pins : List (Addr × Obj)} {σ : St} {H : Hp} {s : Shared} {Q : VK} {us : List Value} {vs : List V} (F : ZDI X.prog X.w X.K X.mg X.base (CX1 X.prog X.w) k f fd ps sp) (hr : Room k X.A) (hb : ZDE X.K fd ps ds) (hd : ZDG dvs ds)
  (I : Inv X pins σ H s) (r : ZDG vs us) (h : sp (vs ++ dvs) H Q E) : wpAny (model X.prog X.w) X.A (call (.ref f) us) (EP X pins σ Q) (XP X pins σ E) s := by
 have r2 : ZDG (vs ++ dvs) (us ++ ds) := r.append hd
 have hl : (us ++ ds).length = ps.length := by rw [← r2.length]; exact F.len _ _ _ _ h
 refine wpAny_call (codeAny_mono (F.run X.A X.stack s H ⟨us, []⟩ (us ++ ds) (vs ++ dvs) Q E hr I.env0 (hb s us I.kIn hl) r2 h) fun r s' hq => ?_)
 cases r with
 | error e =>
  obtain ⟨e, C, a0, B, H', rfl, q1, q2, q3, q4, q5, q6, q7, q8, q⟩ := hq
  exact ⟨H, s, e, C, H', I, rfl, ⟨a0, B, q1, q2, q3, q4, q5, q6, q7, q8⟩, q⟩
 | ok fl =>
  cases fl with
  | ret u => exact I.after hq
  | next => exact False.elim hq
  | brk => exact False.elim hq
  | cont => exact False.elim hq
def ZNT (C : Addr) (m : Str) (sp : Sp) (dvs : List V) (ta : TE) (t : TA) : TX := fun σ H Q E => ta σ H fun x H1 => ZIW C m x H1 (t σ H1 fun vs H2 => sp (x :: (vs ++ dvs)) H2 Q E)
theorem ZQ4 {pl : Sem Bool} (he : QE X.nox o ta) (c : Cls X.K C) (hm : ZDu X.K C m f) (F : ZDI X.prog X.w X.K X.mg X.base (CX1 X.prog X.w) k f fd ps sp) (hr : Room k X.A) (hb : ZDE X.K fd ps ds) (hd : ZDG dvs ds) (ha : QA X.nox (e :: es) t) (hns : ZDh (e :: es) = true := by rfl)
  (ht : eval (.Call (.Attribute o m apos) (e :: es) [] pos) X.env = (do
   let ov ← eval o X.env
   standAt apos.atName
   let (f, first) ← holding [ov] (getMethod ov m pl)
   callWith pos f first (backTo pos (starEach (e :: es) X.env)) (backToKw pos (keywordEach [] X.env))) := by rfl) :
  QX X (.Call (.Attribute o m apos) (e :: es) [] pos) (ZNT C m sp dvs ta t) := by
 refine ⟨?_⟩
 intro pins s σ H Q E I h
 refine PySem.W.methodCall_KW (pl := pl) (wpAny_mono (he.h pins s σ H _ (I.wish _) h) (fun u s1 ⟨x, H1, I1, rx, a, dx, fs, ex, ea, l, q⟩ => ?_) fun _ _ z => False.elim z) ht
 subst ex
 obtain rfl : u = Value.ref a := rx
 have I1' := I1.unwish
 refine ZGJ I1' ea c hm l ?_
 refine PySem.W.callWith_K (first := [.ref a]) (h₀ := X.base) I.ok.mod.kin hm.kp (wpAny_mono (ha.h pos pins s1 σ H1 _ I1 q) (fun us s2 ⟨vs, H2, I2, r, q2⟩ => ⟨I2.kIn, ?_⟩) fun _ _ z => False.elim z) (ZEW hns) (ZEH (ZEE hns))
 exact ZQ3 (us := .ref a :: us) (vs := .ref a :: vs) F hr hb hd I2.unwish (.cons rfl r) q2
end
abbrev TBX := ZDt → XK → St → Hp → Prop
structure QBX (X : Cx) (st : List Stmt) (t : TBX) : Prop where
 h : ∀ (pins : List (Addr × Obj)) (s : Shared) (σ : St) (H : Hp) (D : ZDt) (E : XK), Inv X pins σ H s → t D E σ H → wpAny (model X.prog X.w) X.A (execs st X.env) (SP X pins D) (XP X pins σ E) s
def ZNU (t : TX) : TBX := fun D E σ H => t σ H (fun _ H1 => D.nx σ H1) E
section
variable {X : Cx} {e : Expr} {t : TX} {pos pos' : Pos} {x : Str} {i : Nat}
theorem one_bx {st : Stmt} {E : Value → Shared → Prop} {pins : List (Addr × Obj)} {D : ZDt} {s : Shared} (h : wpAny (model X.prog X.w) X.A (exec st X.env) (SP X pins D) E s) : wpAny (model X.prog X.w) X.A (execs [st] X.env) (SP X pins D) E s := by
 refine wpAny_execs_cons (thn h fun f s1 q => ?_)
 cases f with
 | next => exact wpAny_execs_nil q
 | ret v => exact q
 | brk => exact q
 | cont => exact q
theorem ZPA (he : QX X e t) (hs : ZEX e = false := by rfl) : QBX X [.Expr e pos] (ZNU t) := ⟨fun pins s σ H D E I h =>
 one_bx (wpAny_Expr_any (thn (he.h pins s σ H _ E I h) fun v s1 ⟨x, H1, I1, r1, q1⟩ => ⟨σ, H1, I1, q1⟩) I.quiet (ZE3 hs))⟩
end
abbrev TH := Value → ZDt → St → Hp → Prop
structure QH (X : Cx) (hs : List ExceptHandler) (t : TH) : Prop where
 h : ∀ (pins : List (Addr × Obj)) (σ : St) (H1 : Hp) (s0 : Shared) (e : Addr) (C : Value) (H' : Hp) (s3 : Shared) (D : ZDt), Inv X pins σ H1 s0 → Fl X H1 s0 e C H' s3 → t C D σ H' → wpAny (model X.prog X.w) X.A (handleBy (.ref e) X.env hs) (SP X pins D) X.xe s3
section
variable {X : Cx}
def ZTz : TH := fun _ _ _ _ => False
theorem ZS0 : QH X [] ZTz := ⟨fun _ _ _ _ _ _ _ _ _ _ _ h => False.elim h⟩
theorem ZNV {M : Model} {A : Around} {E : Value → Shared → Prop} {s : Shared} {K : W.Frag} {T e : Addr} {oe : Obj} {b : Bool} {Q : Bool → Shared → Prop} (hK : K.In s.heap) (hT : ZEb K T) (he : s.heap.get? e = some oe) (hsub : subIn K oe.cls (.ref T) = some b) (hq : Q b s) : wpAny M A (excMatches (.ref e) (.ref T)) Q E s := by
 obtain ⟨bm, N', nm, qn, bs, hdct, sn, sub, ab, col, dd, k0, k1, k2, k3, k5, mN, hC, hN, hni, TL⟩ := ZHR hK hT
 obtain ⟨h, g, d, tk, os⟩ := s
 have hbase := TL.hasType PySem.F.excBase_ValueError.hasBase
 have hcB : (Value.ref T :: bm).contains (.type "BaseException") = true := by rw [List.contains_cons, hbase, Bool.or_true]
 have f := tc_notTuple
 have L := looks_subIn (M := M) hK hsub
 unfold excMatches
 repeat (first | with_reducible refine wpAny_loadPart_at he ?_ | with_reducible refine wpAny_loadPart_at hC ?_ | (with_reducible refine wpAny_isSubtype_exc hC ?_; rw [hcB]) | with_reducible refine L.at ?_ | wp_step)
 cases b <;> (wp_walk; exact hq)
abbrev ZDt.gone (D : ZDt) (i : Nat) : ZDt := { nx := fun σ H => D.nx (σ.set i none) H, rt := D.rt, bk := fun σ H => D.bk (σ.set i none) H, ct := fun σ H => D.ct (σ.set i none) H }
variable {x n : Str} {np pos : Pos} {T : Addr} {b₀ : Stmt} {suite : List Stmt} {ZEA : List ExceptHandler} {ts : Addr → TS} {tr : TH} {i : Nat}
def ZKP (C : Value) (H : Hp) (R : Addr → Hp → Prop) : Prop := ∀ e, H e = none → R e (upd H e (ZE8 e C))
def ZIn (K : W.Frag) (T : Addr) (C : Value) (A B : Prop) : Prop := ∃ b, subIn K C (.ref T) = some b ∧ if b = true then A else B
def tHN (K : W.Frag) (T : Addr) (i : Nat) (ts : Addr → TS) (tr : TH) : TH := fun C D σ H => ZIn K T C (ZKP C H fun e H2 => ts e (D.gone i) (σ.set i (some (.ref e))) H2) (tr C D σ H)
theorem ZPB (K : W.Frag) (hK : X.K = K) (hst : X.stack = X.env :: X.outer) (hfr : X.env.frame = some X.env.locals) (hex : X.ex = []) (hN : X.N.Nodup) (hi : X.N[i]? = some n) (hl : X.env.scope.names.lookup n = some .local) (hg : Gl X x) (hm : X.mg x = some (.ref T)) (hT : ZEb K T)
  (hs : ∀ e : Addr, QB (X.suite e) (b₀ :: suite) (ts e)) (hr : QH X ZEA tr) (hdb : (x == ("__debug__" : Str)) = false := by decide) :
  QH X (.ExceptHandler (some (.Name x np)) (some n) (b₀ :: suite) pos :: ZEA) (tHN K T i ts tr) := by
 subst hK
 refine ⟨?_⟩
 intro pins σ H1 s0 e C H' s3 D I F h
 obtain ⟨oe, rfl, he3, heH, IS⟩ := F.suite I hst hfr hex
 obtain ⟨b, hsub, h⟩ := h
 refine wpAny_handleBy_cons (codeAny_handlers_test ?_) (by intro q; cases q)
 refine ZEh IS hg hm ?_ hdb
 refine ZNV IS.kIn hT he3 hsub ?_
 cases b with
 | false => exact hr.h pins σ H1 s0 e _ H' s3 D I F h
 | true =>
  have okX := I.ok
  refine codeAny_handlers_suite_as ?_
  have F2 := F
  obtain ⟨a0, B, q1, q2, q3, q4, q5, q6, q7, q8⟩ := F2
  refine lands_againW q7 fun h' fl' up => ?_
  have I3 := F.inv I
  obtain ⟨hok3, un3, cov3⟩ := ZH2 q4 q3 q8 fl'.1 up (ZIm I3 q7.2.2.1 fun b hb => hb)
  have F3 : Fl X H1 s0 e oe.cls H' { s3 with heap := h' } := ⟨a0, B, q1, q2, un3, hok3, q5, q6, fl', cov3⟩
  obtain ⟨oe4, ec4, _, _, IS4⟩ := F3.suite I hst hfr hex
  have hf : (X.suite e).fn n = true ∨ (X.suite e).env.scope.names.lookup n = some .local := .inr hl
  refine ZHi (X := X.suite e) (v := .ref e) IS4 hN hi (.inl hl) rfl (fun s5 IS5 => ?_) hf
  have := (hs e).h pins _ _ _ (D.gone i) IS5 (h e q6)
  refine wpAny_mono this (fun f s6 hsp => ?_) fun _ _ z => False.elim z
  show wpAny (model X.prog X.w) X.A (do bindName X.env n .none; unbindBehindTheSuite X.env n pos) (fun _ s₃ => SP X pins D f s₃) X.xe s6
  cases f with
  | next => obtain ⟨σ', H', I, q⟩ := hsp; exact ZHS (I.ofSuite okX) hN hi hl fun s7 I7 => ⟨_, _, I7, q⟩
  | brk => obtain ⟨σ', H', I, q⟩ := hsp; exact ZHS (I.ofSuite okX) hN hi hl fun s7 I7 => ⟨_, _, I7, q⟩
  | cont => obtain ⟨σ', H', I, q⟩ := hsp; exact ZHS (I.ofSuite okX) hN hi hl fun s7 I7 => ⟨_, _, I7, q⟩
  | ret u => obtain ⟨v, σ', H', I, r, q⟩ := hsp; exact ZHS (I.ofSuite okX) hN hi hl fun s7 I7 => ⟨_, _, _, I7, r, q⟩
end
section
variable {X : Cx} {body : List Stmt} {h₀ : ExceptHandler} {hs : List ExceptHandler} {pos : Pos} {tb : TBX} {th : TH}
def ZS1 (tb : TBX) (th : TH) : TS := fun D σ H => tb D (fun C _ H' => th C D σ H') σ H
theorem ZS2 (hst : X.stack = X.env :: X.outer) (hfr : X.env.frame = some X.env.locals) (hb : QBX X body tb) (hh : QH X (h₀ :: hs) th) : QS X (.Try body (h₀ :: hs) [] [] pos) (ZS1 tb th) := by
 refine ⟨?_⟩
 intro pins s σ H D I h
 refine wpAny_Try_except (wpAny_mono (hb.h pins s σ H D _ I h) (fun f s1 q => ?_) fun ev s1 ⟨H1, s0, e, C, H', I1, eq, F, q⟩ => ?_)
 ·cases f with
  | next => exact wpAny_execs_nil q
  | brk => exact q
  | cont => exact q
  | ret u => exact q
 ·subst eq
  have I3 := F.inv I1
  have F2 := F
  obtain ⟨a0, B, q1, q2, q3, q4, q5, q6, q7, q8⟩ := F2
  have hfrs : X.A.frames = some (X.env :: X.outer) := by rw [← hst]; exact I.ok.frames
  have q7' : Heap.FlyingW B (X.env :: X.outer) e C a0 s1.heap := by rw [← hst]; exact q7
  refine wpAny_looks_onW hfrs hfr q7' fun h4 hheld up4 => ?_
  refine wpAny_landsW hheld fun h5 fl5 up5 => ?_
  have fl5' : Heap.FlyingW B X.stack e C a0 h5 := by rw [hst]; exact fl5
  obtain ⟨hok3, un3, cov3⟩ := ZH2 q4 q3 q8 fl5'.1 (up4.trans up5) (ZIm I3 q7.2.2.1 fun b hb => hb)
  exact hh.h pins σ H1 s0 e C H' { s1 with heap := h5 } D I1 ⟨a0, B, q1, q2, un3, hok3, q5, q6, fl5', cov3⟩ q
end
end L2
namespace L2
open PySem PySem.Spec PyProof.Rows PySem.W PySem.Builtin PySem.Builtin.ObjectAttr PySem.Builtin.Getset_descriptor
structure ZEM (K : W.Frag) (C : Addr) : Prop where
 ga : findIn K (.ref C) "__getattribute__" = some (some (.builtin "BaseException.__getattribute__"))
 gt : findIn K (.ref C) "__getattr__" = some none
 cl : findIn K (.ref C) "__class__" = some (some (.builtin "object.__class__"))
 ob : mroIn K C (.type "object") = some true
 be : mroIn K C (.type "BaseException") = some true
section
variable {prog : Program} {w : World} {A : Around} {E : Value → Shared → Prop} {h : Heap} {g : Array GenState} {d : Drawn} {t : Nat} {os : OsState} {a C : Addr} {o : Obj} {K : W.Frag}
theorem ZKQ {M : Model} (hx : h.get? a = some o) (hc : o.cls = .ref C) : Looks M h (typeOf (.ref a)) (.ref C) := hc ▸ (Looks.ld hx).andThen .now
theorem ZJR {R : Result → Shared → Prop} {tp : Value} (X : K.In h) (hx : h.get? a = some o) (hc : o.cls = .ref C) (F : ZEM K C) (hq : R (.ok (.ret (.ref C))) ⟨h, g, d, t, os⟩) :
  codeAny (model prog w) A (.call (.builtin "getset_descriptor.__get__") ⟨[.builtin "object.__class__", .ref a, tp], []⟩) R ⟨h, g, d, t, os⟩ := by
 have L0 := ZKQ (M := model prog w) hx hc
 have L1 := looks_mroIn (M := model prog w) X F.ob
 refine codeAny_call_builtin KF.slot_gs.plain KF.entry_gs (KF.slot_gs.check _ _ _ _ _ _ _ _ KF.type_class (KF.args_gs _ _ _) ?_)
 unfold Builtin.«getset_descriptor.__get__» descrGet
 rw [dga_obj]
 refine wpAny_bind (wpAny_pure ?_)
 unfold descrGetter descrCheckInstance descrNameAndClass isInstance
 simp only [KF.owner_class]
 repeat lk
 refine ⟨Code.quiet_builtin _ (by decide +kernel), codeAny_builtin KF.entry_class ?_⟩
 unfold Builtin.«object.__class__» shownTypeOf
 repeat lk
 exact hq
theorem ZKR {M : Model} {nameV : Value} {Q : Unit → Shared → Prop} (X : K.In h) (hx : h.get? a = some o) (hc : o.cls = .ref C) (F : ZEM K C) (hq : Q () ⟨h, g, d, t, os⟩) : wpAny M A (checkBuiltinCall "BaseException.__getattribute__" ⟨[.ref a, nameV], []⟩) Q E ⟨h, g, d, t, os⟩ := by
 have hk : builtinKind "BaseException.__getattribute__" = some .slot := by decide +kernel
 have hsplit : splitId "BaseException.__getattribute__" = some ("BaseException", "__getattribute__") := by decide +kernel
 have ha := PySem.F.args_bexc_ga (.ref a) nameV
 have L0 := ZKQ (M := M) hx hc
 have L1 := looks_mroIn (M := M) X F.be
 simp only [checkBuiltinCall, hk, hsplit]
 refine wpAny_bind ?_
 unfold isInstance
 repeat (first | with_reducible refine L0.at ?_ | with_reducible refine L1.at ?_ | wp_step)
 exact hq
theorem ZIX {tk : Tok} {Q : Fin → Shared → Prop} (X : K.In h) (hx : h.get? a = some o) (hc : o.cls = .ref C) (F : ZEM K C) (hq : Q (.done (.ret (.ref C))) ⟨h, g, d, t, os⟩) :
  wpAny (model prog w) A (Builtin.«object.__getattribute__» ⟨[.ref a, .str "__class__" tk], []⟩) Q E ⟨h, g, d, t, os⟩ := by
 have hT5 : (⟨h, g, d, t, os⟩ : Shared).TypeIs (.builtin "object.__class__") "getset_descriptor" := PySem.F.typeOf_object_class
 have f5 := PySem.F.typeOf_object_class
 have f6 := PySem.F.slot_gs_get.lookup
 have f7 := PySem.F.slot_gs_set.lookup
 have L2 := looks_findIn (M := model prog w) X F.cl
 repeat (any_goals (first | assumption | (with_reducible refine wpAny_loadPart_at hx ?_; rw [hc]) | with_reducible refine L2.at ?_ | wp_step))
 refine ZJR X hx hc F ?_
 repeat (any_goals (first | assumption | wp_step))
theorem ZIo {tk : Tok} {R : Result → Shared → Prop} (X : K.In h) (hx : h.get? a = some o) (hc : o.cls = .ref C) (F : ZEM K C) (hq : R (.ok (.ret (.ref C))) ⟨h, g, d, t, os⟩) :
  codeAny (model prog w) A (.call (.builtin "BaseException.__getattribute__") ⟨[.ref a, .str "__class__" tk], []⟩) R ⟨h, g, d, t, os⟩ :=
 codeAny_call_builtin PySem.F.attr_ValueError.ga.plain PySem.F.entry_bexc_ga (ZKR X hx hc F (ZIX X hx hc F hq))
theorem ZKS {tk : Tok} {Q : Value → Shared → Prop} (X : K.In h) (hx : h.get? a = some o) (hc : o.cls = .ref C) (F : ZEM K C) (hq : Q (.ref C) ⟨h, g, d, t, os⟩) :
  wpAny (model prog w) A (getAttrBy (.ref a) (.str "__class__" tk) false) Q E ⟨h, g, d, t, os⟩ := by
 have f3 := PySem.F.attr_ValueError.ga.bind (.ref a)
 have hx2 : (Value.builtin "BaseException.__getattribute__" == Value.builtin "object.__getattribute__") = false := by decide +kernel
 have hx1 : (onTheHeap (Value.ref C) && Value.builtin "BaseException.__getattribute__" == Value.builtin "object.__getattribute__") = false := by rw [hx2]; rfl
 have L1 := looks_findIn (M := model prog w) X F.ga
 have L2 := looks_findIn (M := model prog w) X F.gt
 repeat (any_goals (first | assumption | (with_reducible refine wpAny_loadPart_at hx ?_; rw [hc]) | with_reducible refine L1.at ?_ | with_reducible refine L2.at ?_ | wp_step))
 refine ZIo X hx hc F ?_
 repeat (any_goals (first | assumption | wp_step))
theorem ZIp {Q : Option Value → Shared → Prop} (X : K.In h) (hx : h.get? a = some o) (hc : o.cls = .ref C) (F : ZEM K C) (hq : Q (some (.ref C)) ⟨h, g, d, t + 1, os⟩) : wpAny (model prog w) A (getAttr? (.ref a) "__class__") Q E ⟨h, g, d, t, os⟩ := by
 unfold getAttr? getAttrBy?
 repeat (any_goals (first | assumption | with_reducible apply ZKS X hx hc F | wp_step))
end
section
variable {K : W.Frag}
theorem ZKT {e C : Addr} (hC : ZEb K C) (F : ZEM K C) : KitX K (.ref e) (.ref C) (fun h => ∃ oe, h.get? e = some oe ∧ oe.cls = .ref C) where
 ty := fun _ _ _ ⟨oe, h1, h2⟩ => ZKQ h1 h2
 it := fun _ h X _ => by
  obtain ⟨bm, N', nm, qn, bs, hdct, sn, sub, ab, col, dd, k0, k1, k2, k3, k5, mN, hCo, _⟩ := ZHR X hC
  intro A' Q' E' s' k q
  unfold isType loadHead
  exact wpAny_bind (wpAny_loadPart (k _ _ hCo) (wpAny_pure q))
 ne := fun h tp dd its n sl X htp => by
  obtain ⟨bm, N', nm, qn, bs, hdct, sn, sub, ab, col, dd', k0, k1, k2, k3, k5, mN, hCo, _⟩ := ZHR X hC
  refine Bool.eq_false_iff.mpr fun q => ?_
  have e : C = tp := Value.ref.inj (beq_iff_eq.mp q)
  subst e
  have z := congrArg Obj.data (Option.some.inj (hCo.symm.trans htp))
  unfold excClassObj at z
  cases z
 ca := fun {_ _ _ _ _ s} X ⟨oe, h1, h2⟩ k => by
  obtain ⟨h, g, d, t, os⟩ := s
  exact ZIp X h1 h2 F k
end
def ZIq : V → Value → Prop
 | .ref T, u => u = .ref T
 | .ty n, u => u = .type n
 | _, _ => False
def ZMR (K : W.Frag) : List V → Hp → VK → Prop := fun xs H Q => ∃ e C y u b, xs = [.ref e, y] ∧ H e = some (ZE8 e (.ref C)) ∧ ZEb K C ∧ ZEM K C ∧ ZIq y u ∧ W.kitOne K (.ref C) u = some b ∧ Q (.bl b) H
def ZMS (K : W.Frag) : List V → Hp → VK → Prop := fun xs H Q => ∃ e C tp ys us b, xs = [.ref e, .ref tp] ∧ H e = some (ZE8 e (.ref C)) ∧ ZEb K C ∧ ZEM K C ∧ H tp = some (.tup ys) ∧ Paired ZIq ys us ∧ W.kitAny K (.ref C) us = some b ∧ Q (.bl b) H
theorem ZKU {y : V} {u v : Value} (h : ZIq y u) (r : ZDH y v) : v = u := by
 cases y <;> first | exact False.elim h | (obtain rfl := h; exact r)
theorem ZKV : ∀ {ys : List V} {us its : List Value}, Paired ZIq ys us → ZDG ys its → its = us
 | _, _, _, .nil, .nil => rfl
 | _, _, _, .cons a hy, .cons b rb => by rw [ZKU a b, ZKV hy rb]
section
variable {X : Cx}
theorem ZNW : ZDb X (.builtin "isinstance") (ZMR X.K) := by
 intro pins s σ H xs us Q I r h
 obtain ⟨e, C, y, u, b, rfl, he, hC, F, hy, hk, q⟩ := h
 obtain ⟨v1, v2, rfl, r1, r2⟩ := r.two
 obtain rfl : v1 = Value.ref e := r1
 obtain rfl := ZKU hy r2
 obtain ⟨p, _⟩ := (show ZDS X.prog X.w H s.heap e (ZE8 e (.ref C)) from I.hok e _ he)
 exact PySem.W.kia_one (ZKT hC F) I.kIn p hk (fun z => nomatch z) fun tk => ⟨.bl b, H, I.tok _, rfl, q⟩
theorem ZNX : ZDb X (.builtin "isinstance") (ZMS X.K) := by
 intro pins s σ H xs us Q I r h
 obtain ⟨e, C, tp, ys, vs, b, rfl, he, hC, F, ht, hy, hk, q⟩ := h
 obtain ⟨v1, v2, rfl, r1, r2⟩ := r.two
 obtain rfl : v1 = Value.ref e := r1
 obtain rfl : v2 = Value.ref tp := r2
 obtain ⟨p, _⟩ := (show ZDS X.prog X.w H s.heap e (ZE8 e (.ref C)) from I.hok e _ he)
 obtain ⟨_, its, rv, o, ho, hc, n, hd⟩ := (show ZDS X.prog X.w H s.heap tp (.tup ys) from I.hok tp _ ht)
 have ev : its = vs := ZKV hy rv
 subst ev
 obtain ⟨oc, od, odt, osl⟩ := o
 obtain rfl : oc = Value.type "tuple" := hc
 obtain rfl : odt = Data.seq its.toArray n := hd
 exact PySem.W.kia_tup (ZKT hC F) I.kIn p ho hk (fun z => nomatch z) fun tk => ⟨.bl b, H, I.tok _, rfl, q⟩
theorem ZQ5 (K : W.Frag) (h : X.K = K) : ZDb X (.builtin "isinstance") (ZMR K) := h ▸ ZNW
theorem ZQ6 (K : W.Frag) (h : X.K = K) : ZDb X (.builtin "isinstance") (ZMS K) := h ▸ ZNX
end
structure ZMT (P : Program) (w : World) (K : W.Frag) (mg : Str → Option Value) (base : Heap) (k : Nat) (f : Addr) (fd : FuncData) (ps : List Str) (sp : Sp) : Prop where
 len : ∀ vs H Q E, sp vs H Q E → vs.length = ps.length
 run : ∀ (A : Around) (outer : List Env) (s : Shared) (H : Hp) (args : Args) (us : List Value) (vs : List V) (Q : VK) (E : XK), Room k { A with handled := none } → ZFJ P w K mg base A outer s H → BindsTo s fd args (ps.zip us) → ZDG vs us → sp vs H Q E →
  codeAny (model P w) A (.call (.ref f) args) (CR CX0 outer P w H s Q E) s
abbrev cxN (P : Program) (w : World) (K : W.Frag) (mg : Str → Option Value) (base : Heap) (N : List Str) (qual : Str) (scope : Scope) (f : Addr) (cd : Value) (A : Around) (outer : List Env) (s : Shared) (H : Hp) : Cx := { ZFs CX0 P w K mg base N qual scope f cd A outer s H E0 with calm := false, xe := fun _ _ => False }
section
variable {X : Cx} {k : Nat} {f : Addr} {fd : FuncData} {ps : List Str} {sp : Sp} {dvs : List V} {ds : List Value} {x : Str} {p pos : Pos} {e : Expr} {es : List Expr} {t : TA}
theorem ZPC (F : ZMT X.prog X.w X.K X.mg X.base k f fd ps sp) (hr : Room k { X.A with handled := none }) (hg : Gl X x) (hm : X.mg x = some (.ref f)) (hk : W.keepIn X.K (.ref f) = true) (hb : ZDE X.K fd ps ds) (hd : ZDG dvs ds)
  (ha : QA X (e :: es) t) (hns : ZDh (e :: es) = true := by rfl) (hdb : (x == ("__debug__" : Str)) = false := by decide) : QE X (.Call (.Name x p) (e :: es) [] pos) (ZHL sp dvs E0 t) := by
 refine ⟨?_⟩
 intro pins s σ H Q I h
 refine wpAny_Call_Name_kw (ZEh I hg hm ?_ hdb)
 refine PySem.W.callWith_K (h₀ := X.base) I.ok.mod.kin hk (thn (ha.h pos pins s σ H _ I h) fun us s1 ⟨vs, H1, I1, r, q⟩ => ⟨I1.kIn, ?_⟩) (ZEW hns) (ZEH (ZEE hns))
 have r2 : ZDG (vs ++ dvs) (us ++ ds) := r.append hd
 have hl : (us ++ ds).length = ps.length := by rw [← r2.length]; exact F.len _ _ _ _ q
 refine wpAny_call (codeAny_mono (F.run X.A X.stack s1 H1 ⟨us, []⟩ (us ++ ds) (vs ++ dvs) Q E0 hr I1.env0 (hb s1 us I1.kIn hl) r2 q) fun r s' hq => ?_)
 cases r with
 | error e => exact False.elim hq
 | ok fl =>
  cases fl with
  | ret u => exact I1.after hq
  | next => exact False.elim hq
  | brk => exact False.elim hq
  | cont => exact False.elim hq
end
section
variable {K : W.Frag} {σ : St} {H : Hp} {Q : VK} {D : ZDt} {E : XK} {C T e : Addr} {t : TA} {tb : TBX} {th : TH} {ts : Addr → TS} {tr : TH} {i : Nat}
def ZNY (E : XK) (C : Addr) (vs : List V) (H : Hp) : Prop := vs.length ≤ sizeLine ∧ E (.ref C) none H
theorem ZNZ (h : t σ H fun vs H1 => ZNY E C vs H1) : ZKO E C t D σ H := h
theorem ZKW {vs : List V} (h : vs.length ≤ 1000) (q : E (.ref C) none H) : ZNY E C vs H := ⟨Nat.le_trans h (by decide), q⟩
theorem ZS3 (h : tb D (fun C _ H' => th C D σ H') σ H) : ZS1 tb th D σ H := h
theorem ZPD {m : Str} {sp : Sp} {dvs : List V} {ta : TE} (h : ta σ H fun x H1 => ZIW C m x H1 (t σ H1 fun vs H2 => sp (x :: (vs ++ dvs)) H2 Q E)) : ZNT C m sp dvs ta t σ H Q E := h
theorem ZPE {u : TX} (h : u σ H (fun _ H1 => D.nx σ H1) E) : ZNU u D E σ H := h
theorem ZNa {C : Value} {A B : Prop} {b : Bool} (hs : subIn K C (.ref T) = some b) (h : if b = true then A else B) : ZIn K T C A B := ⟨b, hs, h⟩
theorem ZTj {C : Value} (h : ZIn K T C (ZKP C H fun e H2 => ts e (D.gone i) (σ.set i (some (.ref e))) H2) (tr C D σ H)) : tHN K T i ts tr C D σ H := h
theorem ZPF {C : Value} {R : Addr → Hp → Prop} (h : ∀ e H2, H e = none → H2 e = some (ZE8 e C) → ZDC H H2 → R e H2) : ZKP C H R := fun e he => h e _ he ZDN (ZDC.new he)
theorem ZQ7 {y : V} {u : Value} {b : Bool} (he : H e = some (ZE8 e (.ref C))) (hC : ZEb K C) (F : ZEM K C) (hy : ZIq y u) (hk : W.kitOne K (.ref C) u = some b) (q : Q (.bl b) H) : ZMR K [.ref e, y] H Q := ⟨e, C, y, u, b, rfl, he, hC, F, hy, hk, q⟩
theorem ZQ8 {tp : Addr} {ys : List V} {us : List Value} {b : Bool} (he : H e = some (ZE8 e (.ref C))) (hC : ZEb K C) (F : ZEM K C) (ht : H tp = some (.tup ys)) (hy : Paired ZIq ys us) (hk : W.kitAny K (.ref C) us = some b) (q : Q (.bl b) H) : ZMS K [.ref e, .ref tp] H Q := ⟨e, C, tp, ys, us, b, rfl, he, hC, F, ht, hy, hk, q⟩
end
theorem Room.clr {k : Nat} {A : Around} {v : Option Value} (r : Room k A) : Room k { A.mark v with handled := none } := ⟨rfl, r.dp, r.un, r.gd⟩
section
variable {P : Program} {w : World} {K : W.Frag} {mg : Str → Option Value} {base : Heap} {N : List Str} {qual : Str} {scope : Scope} {f : Addr} {cd : Value} {A : Around} {outer : List Env} {s : Shared} {H : Hp} {E : XK}
 {x : Str} {np cpos pos : Pos} {e₀ : Expr} {es : List Expr} {t : TA} {C : Addr}
theorem ZPG (hC : ZEb K C) (hg : Gl (cxE P w K mg base N qual scope f cd A outer s H E) x) (hm : mg x = some (.ref C)) (ha : QA (cxE P w K mg base N qual scope f cd A outer s H E) (e₀ :: es) t)
 (hns : ZDh (e₀ :: es) = true := by rfl) (hdb : (x == ("__debug__" : Str)) = false := by decide) :
 QS (cxE P w K mg base N qual scope f cd A outer s H E) (.Raise (some (.Call (.Name x np) (e₀ :: es) [] cpos)) none pos) (ZKO E C t) := ⟨ZO7 hC hg hm ha.h hdb (ZEW hns) (ZEH (ZEE hns))⟩
end
section
variable {X : Cx}
def ZS4 : R2 := fun x y H Q => ∃ (c : Nat) (z : Str), x = .str ⟨#[c]⟩ ∧ y = .str z ∧ Q (.bl (decide (c ∈ z.cps.toList))) H
theorem ZS5 : OpR X (compareOp .In) ZS4 := by
 intro pins s σ H x y v u Q I rx ry h
 obtain ⟨c, z, rfl, rfl, q⟩ := h
 obtain ⟨t, rfl⟩ := rx
 obtain ⟨t', rfl⟩ := ry
 exact in_str (ZDQ I q (StrLaws.found_one z c).symm)
theorem ZS6 {H : Hp} {Q : VK} {c : Nat} {z : Str} (q : Q (.bl (decide (c ∈ z.cps.toList))) H) : ZS4 (.str ⟨#[c]⟩) (.str z) H Q := ⟨c, z, rfl, rfl, q⟩
def Its (z : Str) : It := ⟨fun i _ => i < z.cps.size, fun i H x H' => H' = H ∧ ∃ c, z.cps.toList[i]? = some c ∧ x = .str ⟨#[c]⟩, fun i _ => z.cps.size ≤ i⟩
theorem ZKX {P : Program} {w : World} {K : W.Frag} {tg : Expr} (it : Addr) (z : Str) (t : Tok) (n : String) (hn : ["enumerate", "zip", "dict_itemiterator", "dict_reverseitemiterator", "odict_iterator", "itertools.zip_longest", "itertools.pairwise"].contains n = false)
  (W : ∀ A : Around, A.handled = none → Walks P w A it [it] [it] z.cps.size (SignAt z) (fun i h => h.IsStrIter it n z t i))
  (dn : ∀ (A : Around) (s : Shared) (i : Nat) (Q : Option Value → Shared → Prop) (E : Value → Shared → Prop), A.handled = none → s.heap.IsStrIter it n z t i → z.cps[i]? = none → (∀ h', Heap.ExtBut it s.heap h' → Q none { s with heap := h' }) → wpAny (model P w) A (pyNext (.ref it)) Q E s)
  (sf : ∀ (A : Around) (i : Nat) (s : Shared) (Q : Value → Shared → Prop) (E : Value → Shared → Prop), s.heap.IsStrIter it n z t i → Q (.ref it) s → wpAny (model P w) A (pyIter (.ref it)) Q E s) :
  ZIe P w K tg (Its z) [it] it (fun i h => h.IsStrIter it n z t i) where
 mem := by simp
 obj := fun i h st b hb => by
  have e : b = it := by simpa using hb
  subst e
  obtain ⟨o, e, c, d⟩ := st
  exact ⟨o, e, fun v z => by rw [d] at z; cases z⟩
 keep := fun i h h' st k => by
  obtain ⟨o, e, c, d⟩ := st
  exact ⟨o, k it (by simp) _ e, c, d⟩
 item := by
  intro X hP hw hK hc i pins s σ H E I hf st hg
  subst hP hw hK
  obtain ⟨f0, f1, f2, f3, f4, f5⟩ := hf it (by simp)
  refine (W X.A (I.ok.hd hc)).item i s _ _ hg st fun v h' tk hv st' kk => ?_
  obtain ⟨c, t2, ec, rfl⟩ := hv
  have I1 : Inv X pins σ H { s with heap := h', toks := tk } := I.turned (fun b o hb e => kk b o (by simpa using hb) e) f0 f1 f3 f4 f5
  obtain ⟨o, e, c', d⟩ := id st'
  exact ⟨_, rfl, ZIC (s := { s with heap := h', toks := tk }) e c' d hn ⟨.str ⟨#[c]⟩, H, I1, ⟨t2, rfl⟩, ⟨rfl, c, by rw [Array.getElem?_toList]; exact ec, rfl⟩, st', fun b hb => (hf b hb).1⟩⟩
 done := by
  intro X hP hw hK hc i pins s σ H E I hf st hg
  subst hP hw hK
  obtain ⟨f0, f1, f2, f3, f4, f5⟩ := hf it (by simp)
  exact dn X.A s i _ _ (I.ok.hd hc) st (Array.getElem?_eq_none hg) fun h' eb => ⟨rfl, I.turned (t' := s.toks) (fun b o hb e => eb b o hb e) f0 f1 f3 f4 f5⟩
 self := fun A i s Q E st h => sf A i s Q E st h
def ZKY (x : V) (H : Hp) (R : It → Hp → Prop) : Prop := ∃ z, x = .str z ∧ R (Its z) H
def ZS7 (tl : TE) : TI := fun σ H R => tl σ H fun x H1 => ZKY x H1 R
theorem ZS8 {tg l : Expr} {tl : TE} (hl : QE X l tl) : QI X tg l (ZS7 tl) := by
 refine ⟨?_⟩
 intro pins s σ H R I h
 refine thn (hl.h pins s σ H _ I h) fun v s1 ⟨x, H1, I1, r1, q1⟩ => ?_
 obtain ⟨z, e, q⟩ := q1
 subst e
 obtain ⟨t, rfl⟩ := r1
 have fin : ∀ b, b ∈ [s1.heap.objs.size] → ZER X pins H1 b := fun b hb => by
  have e : b = s1.heap.objs.size := by simpa using hb
  subst e
  exact I1.fpOk (Nat.le_refl _) (I1.hok.fresh (Nat.le_refl _))
 cases ha : z.cps.all (· < 128)
 ·exact wpAny_pyIter_wide ha ⟨s1.heap.objs.size, [s1.heap.objs.size], _, _, H1, rfl, I1.kept (t' := s1.toks) fun b o e => Heap.get?_push_of_some _ e,
   ZKX _ z t "str_iterator" (by decide) (fun A hA => Walks.strWide hA _ z t) (fun A s i Q E hh st hx hq => wpAny_pyNext_wide_end hh st hx hq) (fun A i s Q E st h => wpAny_pyIter_striter_wide st h), ⟨_, Heap.get?_push_size _ rfl, rfl, rfl⟩, fin, q⟩
 ·exact wpAny_pyIter_ascii ha ⟨s1.heap.objs.size, [s1.heap.objs.size], _, _, H1, rfl, I1.kept (t' := s1.toks) fun b o e => Heap.get?_push_of_some _ e,
   ZKX _ z t "str_ascii_iterator" (by decide) (fun A hA => Walks.strAscii hA _ z t) (fun A s i Q E hh st hx hq => wpAny_pyNext_ascii_end hh st hx hq) (fun A i s Q E st h => wpAny_pyIter_striter_ascii st h), ⟨_, Heap.get?_push_size _ rfl, rfl, rfl⟩, fin, q⟩
def ZS9 : V → Option Int → Option Int → Hp → VK → Prop := fun x lo hi H Q => ∃ z, x = .str z ∧ z.length ≤ sizeLine ∧ Q (.str (Txt.slice z lo hi)) H
theorem ZKZ {v : Value} {o : Option Int} (h : IsPart v o) : ∃ p : Option (Int × Tok), v = partValue p ∧ p.map (·.1) = o := by
 cases h with
 | none => exact ⟨none, rfl, rfl⟩
 | int i t => exact ⟨some (i, t), rfl, rfl⟩
theorem ZGB : SlR X ZS9 := by
 intro pins s σ H x v vl vu lo hi sl Q I rx hs pl pu h
 obtain ⟨z, rfl, hz, q⟩ := h
 obtain ⟨t, rfl⟩ := rx
 obtain ⟨l, rfl, el⟩ := ZKZ pl
 obtain ⟨u, rfl, eu⟩ := ZKZ pu
 subst el eu
 exact ⟨"str", _, F.slot_str_getitem.lookup, typeIs_str _ _ _, wpAny_getItem_str_slice (l := l) (u := u) (st := none) hs rfl
  (post_val_or_str ⟨Nat.le_trans (Txt.slice_le z _ _) hz, fun t' k => ⟨.str _, H, I.tok _, ⟨t', rfl⟩, q⟩⟩)⟩
end
section
variable {K : W.Frag} {H : Hp} {Q : VK} {σ : St}
theorem ZQ9 {tl : TE} {R : It → Hp → Prop} (h : tl σ H fun x H1 => ZKY x H1 R) : ZS7 tl σ H R := h
theorem ZPH {z : Str} {R : It → Hp → Prop} (h : R (Its z) H) : ZKY (.str z) H R := ⟨z, rfl, h⟩
theorem ZGC {z : Str} {lo hi : Option Int} (hz : z.length ≤ sizeLine) (h : Q (.str (Txt.slice z lo hi)) H) : ZS9 (.str z) lo hi H Q := ⟨z, rfl, hz, h⟩
theorem ZTA {z : Str} {i : Int} {c : Nat} (hz : z.length ≤ sizeLine) (he : atI z.cps.toList i = some c) (h : Q (.str ⟨#[c]⟩) H) : ZR6 (.str z) (.int i) H Q := ⟨z, i, c, rfl, rfl, hz, he, h⟩
variable {D : ZDt}
end
def fl (low tall : Int) (q : Int × Int) : Int := (q.1 - low * q.2) / (tall * q.2)
def ZMU (cv : PL) (b e : Int) : PL := cv.filter fun p => decide (b ≤ p.1) && decide (p.1 < e)
def InT (cv : PL) : Prop := ∀ p ∈ cv, (-(10 ^ 64) < p.1 ∧ p.1 < 10 ^ 64) ∧ -(10 ^ 64) < p.2 ∧ p.2 < 10 ^ 64
section
variable {X : Cx}
def ZPs : List V → Hp → VK → Prop := fun xs H Q => ∃ z, xs = [.str z] ∧ z.length ≤ sizeLine ∧ Q (.int z.length) H
theorem ZRA : ZDb X (.builtin "len") ZPs := ZJm
theorem ZRB {H : Hp} {Q : VK} {z : Str} (h : z.length ≤ sizeLine) (q : Q (.int z.length) H) : ZPs [.str z] H Q := ⟨z, rfl, h, q⟩
end
theorem ZIY {cv : PL} (h : Asc cv) {i j : Nat} (hi : i < cv.length) (hj : j < cv.length) (hij : i < j) : cv[i].1 < cv[j].1 := List.pairwise_iff_getElem.mp h i j hi hj hij
theorem ZNb {cv : PL} {b e : Int} {p : Int × Int} : p ∈ ZMU cv b e ↔ p ∈ cv ∧ b ≤ p.1 ∧ p.1 < e := by
 unfold ZMU
 rw [List.mem_filter]
 simp
def Is4 (cv : PL) (o : Option (PL)) : Prop :=
 (o = none ∧ cv = []) ∨ ∃ q0 q1 q2 q3 : Int × Int, o = some [q0, q1, q2, q3] ∧ q0 ∈ cv ∧ q1 ∈ cv ∧ q2 ∈ cv ∧ q3 ∈ cv ∧
  ∀ p ∈ cv, q0.1 ≤ p.1 ∧ p.1 ≤ q1.1 ∧ (q2.2 < p.2 ∨ (q2.2 = p.2 ∧ q2.1 ≤ p.1)) ∧ (p.2 < q3.2 ∨ (p.2 = q3.2 ∧ q3.1 ≤ p.1))
theorem Is4.join {c1 c2 : PL} {a0 a1 a2 a3 b0 b1 b2 b3 : Int × Int} (h : Is4 c1 (some [a0, a1, a2, a3])) (g : Is4 c2 (some [b0, b1, b2, b3])) (hlt : ∀ p ∈ c1, ∀ q ∈ c2, p.1 < q.1) :
  Is4 (c1 ++ c2) (some [a0, b1, if a2.2 ≤ b2.2 then a2 else b2, if b3.2 ≤ a3.2 then a3 else b3]) := by
 rcases h with ⟨e, _⟩ | ⟨q0, q1, q2, q3, e, m0, m1, m2, m3, hb⟩
 ·cases e
 rcases g with ⟨e', _⟩ | ⟨r0, r1, r2, r3, e', n0, n1, n2, n3, gb⟩
 ·cases e'
 cases e
 cases e'
 refine .inr ⟨_, _, _, _, rfl, List.mem_append_left _ m0, List.mem_append_right _ n1, ?_, ?_, fun p hp => ?_⟩
 ·split
  ·exact List.mem_append_left _ m2
  ·exact List.mem_append_right _ n2
 ·split
  ·exact List.mem_append_left _ m3
  ·exact List.mem_append_right _ n3
 ·rcases List.mem_append.mp hp with hp | hp
  ·have k1 := hb p hp
   have k2 := hlt p hp _ n1
   have k3 := hlt p hp _ n2
   have k4 := hlt p hp _ n3
   refine ⟨k1.1, by omega, ?_, ?_⟩
   ·split <;> omega
   ·split <;> omega
  ·have k1 := gb p hp
   have k2 := hlt _ m0 p hp
   have k3 := hlt _ m2 p hp
   have k4 := hlt _ m3 p hp
   refine ⟨by omega, k1.2.1, ?_, ?_⟩
   ·split <;> omega
   ·split <;> omega
theorem Is4.of_none {cv : PL} (h : Is4 cv none) : cv = [] := by
 rcases h with ⟨_, e⟩ | ⟨q0, q1, q2, q3, e, _⟩
 ·exact e
 ·cases e
theorem Is4.minmax {cv : PL} {p0 p1 p2 p3 : Int × Int} {i2 i3 : Nat} (ha : Asc cv) (e0 : cv[0]? = some p0) (e1 : cv[cv.length - 1]? = some p1) (e2 : cv[i2]? = some p2) (e3 : cv[i3]? = some p3)
  (h2 : ∀ j, j < cv.length → (cv.getD i2 (0, 0)).2 ≤ (cv.getD j (0, 0)).2 ∧ (j < i2 → (cv.getD i2 (0, 0)).2 < (cv.getD j (0, 0)).2))
  (h3 : ∀ j, j < cv.length → (cv.getD i3 (0, 0)).2 ≥ (cv.getD j (0, 0)).2 ∧ (j < i3 → (cv.getD i3 (0, 0)).2 > (cv.getD j (0, 0)).2)) : Is4 cv (some [p0, p1, p2, p3]) := by
 obtain ⟨z0, y0⟩ := List.getElem?_eq_some_iff.mp e0
 obtain ⟨z1, y1⟩ := List.getElem?_eq_some_iff.mp e1
 obtain ⟨z2, y2⟩ := List.getElem?_eq_some_iff.mp e2
 obtain ⟨z3, y3⟩ := List.getElem?_eq_some_iff.mp e3
 have d : ∀ {j : Nat} (hj : j < cv.length), cv.getD j (0, 0) = cv[j] := fun {j} hj => by simp [hj]
 refine .inr ⟨p0, p1, p2, p3, rfl, List.mem_of_getElem? e0, List.mem_of_getElem? e1, List.mem_of_getElem? e2, List.mem_of_getElem? e3, fun p hp => ?_⟩
 obtain ⟨j, hj, rfl⟩ := List.getElem_of_mem hp
 have k2 := h2 j hj
 have k3 := h3 j hj
 rw [d z2, d hj, y2] at k2
 rw [d z3, d hj, y3] at k3
 refine ⟨?_, ?_, ?_, ?_⟩
 ·by_cases h : j = 0
  ·subst h; rw [y0]; exact Int.le_refl _
  ·have := ZIY ha z0 hj (by omega)
   rw [y0] at this
   omega
 ·by_cases h : j = cv.length - 1
  ·subst h; rw [y1]; exact Int.le_refl _
  ·have := ZIY ha hj z1 (by omega)
   rw [y1] at this
   omega
 ·by_cases h : i2 < j
  ·have := ZIY ha z2 hj h
   rw [y2] at this
   omega
  ·by_cases h' : j = i2
   ·subst h'; rw [y2]; omega
   ·have := k2.2 (by omega)
    omega
 ·by_cases h : i3 < j
  ·have := ZIY ha z3 hj h
   rw [y3] at this
   omega
  ·by_cases h' : j = i3
   ·subst h'; rw [y3]; omega
   ·have := k3.2 (by omega)
    omega
theorem ZRC {b y t i : Int} (hy : 0 < y) : (b + i * y ≤ t ∧ t < b + i * y + y) ↔ (t - b) / y = i := by
 have h1 := Int.emod_add_mul_ediv (t - b) y
 have h2 := Int.emod_nonneg (t - b) (show y ≠ 0 by omega)
 have h3 := Int.emod_lt_of_pos (t - b) hy
 constructor
 ·rintro ⟨g1, g2⟩
  refine (Int.ediv_emod_unique hy (r := t - b - i * y) (q := i)).mpr ⟨?_, by omega, by omega⟩ |>.1
  rw [Int.mul_comm y i]
  omega
 ·intro e
  rw [e, Int.mul_comm y i] at h1
  constructor <;> omega
theorem ZIr (k : Nat) : (0 : Int) < 2 ^ k := Int.pow_pos (by decide)
theorem Is4.congr {a b : PL} {o : Option (PL)} (h : Is4 a o) (e : ∀ p, p ∈ a ↔ p ∈ b) : Is4 b o := by
 rcases h with ⟨h1, h2⟩ | ⟨q0, q1, q2, q3, h1, m0, m1, m2, m3, hb⟩
 ·refine .inl ⟨h1, ?_⟩
  cases b with
  | nil => rfl
  | cons p ps =>
   have := (e p).mpr List.mem_cons_self
   rw [h2] at this
   cases this
 ·exact .inr ⟨q0, q1, q2, q3, h1, (e _).mp m0, (e _).mp m1, (e _).mp m2, (e _).mp m3, fun p hp => hb p ((e p).mpr hp)⟩
def inS (sm : PL) (l : Nat) (s : Int) : PL := ZMU sm (s * 2 ^ l) (s * 2 ^ l + 2 ^ l)
theorem ZEi {sm : PL} {l : Nat} {s : Int} {p : Int × Int} : p ∈ inS sm l s ↔ p ∈ sm ∧ p.1 / 2 ^ l = s := by
 unfold inS
 rw [ZNb]
 have := ZRC (b := 0) (t := p.1) (i := s) (ZIr l)
 rw [Int.sub_zero, Int.zero_add] at this
 rw [this]
theorem ZKa (x : Int) (l : Nat) : x / 2 ^ (l + 1) = x / 2 ^ l / 2 := by
 rw [Int.pow_succ, ← Int.ediv_ediv_of_nonneg (Int.le_of_lt (ZIr l))]
theorem ZPI {sm : PL} {l : Nat} {s : Int} {p : Int × Int} : p ∈ inS sm l (2 * s) ++ inS sm l (2 * s + 1) ↔ p ∈ inS sm (l + 1) s := by
 rw [List.mem_append, ZEi, ZEi, ZEi, ZKa]
 constructor
 ·rintro (⟨h1, h2⟩ | ⟨h1, h2⟩)
  ·exact ⟨h1, by omega⟩
  ·exact ⟨h1, by omega⟩
 ·rintro ⟨h1, h2⟩
  have : p.1 / 2 ^ l = 2 * s ∨ p.1 / 2 ^ l = 2 * s + 1 := by omega
  rcases this with h | h
  ·exact .inl ⟨h1, h⟩
  ·exact .inr ⟨h1, h⟩
theorem ZTB {sm : PL} {l : Nat} {a b : Int} (hab : a < b) : ∀ p ∈ inS sm l a, ∀ q ∈ inS sm l b, p.1 < q.1 := by
 intro p hp q hq
 have h1 := (ZEi.mp hp).2
 have h2 := (ZEi.mp hq).2
 by_cases h : p.1 < q.1
 ·exact h
 ·have := Int.ediv_le_ediv (ZIr l) (show q.1 ≤ p.1 by omega)
  omega
theorem ZGZ {m : PL} (hn : (m.map (·.1)).Nodup) {t h : Int} {q : Int × Int} : q ∈ ZDo m t h ↔ (q.1 ≠ t ∧ q ∈ m) ∨ q = (t, h) := by
 obtain ⟨a, b⟩ := q
 rw [← ZEp (ZGV hn), ZKA, ← ZEp hn]
 by_cases e : a = t
 ·subst e
  simp only [if_true, Option.some.injEq, ne_eq, not_true_eq_false, false_and, false_or, Prod.mk.injEq, true_and]
  exact eq_comm
 ·simp [e]
def kOf (l : Nat) (s : Int) : List Key := [Sum.inl (l : Int), Sum.inl s]
theorem ZRD {l l' : Nat} {s s' : Int} (h : kOf l s = kOf l' s') : l = l' ∧ s = s' := by
 unfold kOf at h
 simp only [List.cons.injEq, Sum.inl.injEq, and_true] at h
 exact ⟨by omega, h.2⟩
def ZD4 (H : Hp) (kvs : List (List Key × V)) (sm : PL) (G : Nat → Int → Prop) : Prop := ∀ (l : Nat) (s : Int), l ≤ 40 → G l s → ∃ o, ZD9 H ((ZDY kvs (kOf l s)).getD .non) o ∧ Is4 (inS sm l s) o
theorem ZD4.same {H H' : Hp} {kvs : List (List Key × V)} {sm : PL} {G : Nat → Int → Prop} (h : ZD4 H kvs sm G) (s : ZDC H H') : ZD4 H' kvs sm G := fun l s' hl g => by
 obtain ⟨o, h1, h2⟩ := h l s' hl g
 exact ⟨o, h1.same s, h2⟩
theorem PrT.kpX {H H' : Hp} {a d : Addr} {cv : PL} {ob : HO} (h : PrT H a cv) (k : Kp d H H') (hd : H d = some ob) (hn : ∀ xs, ob ≠ .tup xs) : PrT H' a cv := by
 obtain ⟨us, g, p⟩ := h
 have ne : ∀ {b : Addr} {xs : List V}, H b = some (.tup xs) → H' b = some (.tup xs) := fun {b xs} e => k _ _ e fun z => by
  subst z
  rw [hd] at e
  exact hn _ (Option.some.inj e)
 exact ⟨us, ne g, Paired.mapP p fun _ _ ⟨a, e, z⟩ => ⟨a, e, ne z⟩⟩
theorem ZD9.kpX {H H' : Hp} {d : Addr} {v : V} {o : Option (PL)} {ob : HO} (h : ZD9 H v o) (k : Kp d H H') (hd : H d = some ob) (hn : ∀ xs, ob ≠ .tup xs) : ZD9 H' v o := by
 cases h with
 | non => exact .non
 | pr e hl => exact .pr (e.kpX k hd hn) hl
theorem ZD4.kpX {H H' : Hp} {kvs : List (List Key × V)} {sm : PL} {G : Nat → Int → Prop} {d : Addr} {ob : HO} (h : ZD4 H kvs sm G) (k : Kp d H H') (hd : H d = some ob) (hn : ∀ xs, ob ≠ .tup xs) : ZD4 H' kvs sm G := fun l s' hl g => by
 obtain ⟨o, h1, h2⟩ := h l s' hl g
 exact ⟨o, h1.kpX k hd hn, h2⟩
theorem ZD4.other {H : Hp} {kvs : List (List Key × V)} {sm sm' : PL} {t : Int} (h : ZD4 H kvs sm fun _ _ => True) (e : ∀ q : Int × Int, q.1 ≠ t → (q ∈ sm ↔ q ∈ sm')) : ZD4 H kvs sm' fun l s => s ≠ t / 2 ^ l := fun l s hl g => by
 obtain ⟨o, h1, h2⟩ := h l s hl trivial
 refine ⟨o, h1, h2.congr fun p => ?_⟩
 rw [ZEi, ZEi]
 constructor
 ·rintro ⟨g1, g2⟩
  exact ⟨(e p fun z => g (by rw [← g2, z])).mp g1, g2⟩
 ·rintro ⟨g1, g2⟩
  exact ⟨(e p fun z => g (by rw [← g2, z])).mpr g1, g2⟩
theorem ZD4.put {H' : Hp} {kvs : List (List Key × V)} {sm : PL} {G : Nat → Int → Prop} {t : Int} {i : Nat} {v : V} {o : Option (PL)} (h : ZD4 H' kvs sm G) (hv : ZD9 H' v o) (ho : Is4 (inS sm i (t / 2 ^ i)) o) :
  ZD4 H' (ZD6 kvs (kOf i (t / 2 ^ i)) v) sm fun l s => G l s ∨ (l = i ∧ s = t / 2 ^ l) := fun l s hl g => by
 by_cases e : kOf l s = kOf i (t / 2 ^ i)
 ·obtain ⟨rfl, rfl⟩ := ZRD e
  refine ⟨o, ?_, ho⟩
  rw [ZHs, if_pos rfl]
  exact hv
 ·rcases g with g | ⟨rfl, rfl⟩
  ·obtain ⟨o', h1, h2⟩ := h l s hl g
   refine ⟨o', ?_, h2⟩
   rw [ZHs, if_neg e]
   exact h1
  ·exact absurd rfl e
theorem ZD4.mono {H : Hp} {kvs : List (List Key × V)} {sm : PL} {G G' : Nat → Int → Prop} (h : ZD4 H kvs sm G) (g : ∀ l s, l ≤ 40 → G' l s → G l s) : ZD4 H kvs sm G' := fun l s hl hg => h l s hl (g l s hl hg)
theorem ZD4.tups {H H' : Hp} {kvs : List (List Key × V)} {sm : PL} {G : Nat → Int → Prop} (h : ZD4 H kvs sm G) (t : ∀ b xs, H b = some (.tup xs) → H' b = some (.tup xs)) : ZD4 H' kvs sm G := fun l s hl g => by
 obtain ⟨o, h1, h2⟩ := h l s hl g
 refine ⟨o, ?_, h2⟩
 generalize (ZDY kvs (kOf l s)).getD .non = v at h1
 cases h1 with
 | non => exact .non
 | pr e hl =>
  obtain ⟨us, g, p⟩ := e
  exact .pr ⟨us, t _ _ g, Paired.mapP p fun _ _ ⟨a, e, z⟩ => ⟨a, e, t _ _ z⟩⟩ hl
def ZEn (m : PL) (t : Int) : PL := m.filter fun p => decide (p.1 ≠ t)
theorem ZRE (m : PL) (t : Int) : ZFl (ZDW m) (.inl t) = ZDW (ZEn m t) := by
 unfold ZFl ZDW ZEn
 rw [List.filter_map]
 congr 1
 apply List.filter_congr
 intro p _
 simp [dkE, Function.comp]
theorem ZJB {m : PL} {t : Int} {q : Int × Int} : q ∈ ZEn m t ↔ q.1 ≠ t ∧ q ∈ m := by
 unfold ZEn
 rw [List.mem_filter, decide_eq_true_iff, and_comm]
theorem ZLD {m : PL} {t : Int} (n : (m.map (·.1)).Nodup) : ((ZEn m t).map (·.1)).Nodup := n.sublist ((List.filter_sublist).map _)
section
variable {X : Cx} {o e : Expr} {apos cpos pos p : Pos} {td ty to : TE}
theorem ZPJ (ho : QE X o td) (he : QE X e ty) (m : M1 X o "pop" apos e cpos := by exact ⟨rfl, rfl, rfl, rfl⟩) : QE X (.Call (.Attribute o "pop" apos) [e] [] cpos) (ZJ6 td ty) := ⟨ZOw ho.h he.h m⟩
def ZKb : R2 := fun y x H Q => ∃ a o, x = .ref a ∧ ZEK H a y o ∧ Q (.bl (!o.isSome)) H
theorem ZMV (hu : X.A.units + 1 < cLine) : OpR X (compareOp .NotIn) ZKb := by
 intro pins s σ H x y v u Q I rx ry h
 obtain ⟨a, ov, rfl, g, q⟩ := h
 obtain rfl : u = Value.ref a := ry
 exact ZQs hu I g rx fun s3 I3 => ⟨.bl (!ov.isSome), H, I3, rfl, q⟩
end
section
variable {K : W.Frag} {σ : St} {H : Hp} {Q : VK} {td ty : TE} {a b : Addr} {m m' : PL} {i v : Int}
def ZKc (a : Addr) (y : V) (H : Hp) (Q : VK) : Prop := ∃ kvs k v, H a = some (.dK kvs) ∧ y = kV k ∧ ZDY kvs k = some v ∧ Q v (upd H a (.dK (ZFl kvs k)))
def ZNc (ty : TE) (σ : St) (Q : VK) (x : V) (H : Hp) : Prop := ∃ a, x = .ref a ∧ IsD H a ∧ ty σ H fun y H2 => ZKc a y H2 Q
theorem ZPK (h : td σ H fun x H1 => ZNc ty σ Q x H1) : ZJ6 td ty σ H Q := h
theorem ZPL {kvs : List (Key × V)} (h1 : H a = some (.dK kvs)) (q : ty σ H fun y H2 => ZKc a y H2 Q) : ZNc ty σ Q (.ref a) H := ⟨a, rfl, .inl ⟨kvs, .inl h1⟩, q⟩
theorem ZPM (h1 : H a = some (.dK (ZDW m))) (l : ZDi m i = some v) (q : ∀ H2, H2 a = some (.dK (ZDW (ZEn m i))) → Kp a H H2 → Q (.int v) H2) : ZKc a (.int i) H Q :=
 ⟨ZDW m, .inl i, .int v, h1, rfl, by rw [ZF8, l]; rfl, by rw [ZRE]; exact q _ ZDN Kp.upd⟩
end
end L2
namespace L2
end L2
namespace L2
open PySem PySem.Spec PyProof.Rows PySem.W
def FrL (l : List Addr) (H H' : Hp) : Prop := ∀ b o, H b = some o → b ∉ l → H' b = some o
theorem FrL.trans {l : List Addr} {H H1 H2 : Hp} (h : FrL l H H1) (g : FrL l H1 H2) : FrL l H H2 := fun b o e n => g b o (h b o e n) n
theorem FrL.same {l : List Addr} {H H' : Hp} (h : ZDC H H') : FrL l H H' := fun b o e _ => h b o e
theorem FrL.kp {l : List Addr} {H H' : Hp} {q : Addr} (h : Kp q H H') (m : q ∈ l) : FrL l H H' := fun b o e n => h b o e fun z => n (z ▸ m)
theorem FrL.fresh {l : List Addr} {H0 H H' : Hp} (f : FrL l H H') (s : ZDC H0 H) (n : ∀ b ∈ l, H0 b = none) : ZDC H0 H' := fun b o e => f _ _ (s _ _ e) fun z => by rw [n b z] at e; cases e
theorem ZEj {H0 H : Hp} {b : Addr} (s : ZDC H0 H) (e : H b = none) : H0 b = none := by
 cases e2 : H0 b with
 | none => rfl
 | some o => rw [s _ _ e2] at e; cases e
end L2
namespace L2
theorem ZNd {c : TT} {t u : TS} {D : ZDt} {σ : St} {H : Hp} (h : ZJf c t u D σ H) : ZJf c t u D σ H := h
end L2
namespace L2
open PySem PySem.Spec PyProof.Rows PySem.W
def Itk (d : Addr) (o : Obj) (kvs : List (Key × V)) : It := ⟨fun i H => H d = some (.frz o (.dK kvs)) ∧ i < kvs.length, fun i H x H' => H' = H ∧ ∃ p, kvs[i]? = some p ∧ x = kV p.1, fun i H => H d = some (.frz o (.dK kvs)) ∧ kvs.length ≤ i⟩
theorem ZNe {P : Program} {w : World} {k : Key} {u : Value} (h : (ZDV P w).is k u = true) : ZDH (kV k) u := by
 rcases ZDf h with ⟨i, t, rfl, rfl⟩ | ⟨x, t, rfl, rfl⟩
 ·exact ⟨t, rfl⟩
 ·exact ⟨t, rfl⟩
theorem ZTk {kvs : List (Key × V)} {vs : List (Key × Value)} (h : KV kvs vs) : ∀ {i : Nat} {p : Key × V}, kvs[i]? = some p → ∃ q, vs[i]? = some q ∧ q.1 = p.1 := by
 unfold KV at h
 induction h with
 | nil => intro i p e; simp at e
 | @cons a b as bs h t ih =>
  intro i p e
  cases i with
  | zero =>
   simp at e
   subst e
   exact ⟨b, rfl, h.1.symm⟩
  | succ i =>
   obtain ⟨q, h1, h2⟩ := ih (i := i) (p := p) (by simpa using e)
   exact ⟨q, by simpa using h1, h2⟩
theorem ZNf {P : Program} {w : World} {K : W.Frag} {tg : Expr} (d it : Addr) (o : Obj) (kvs : List (Key × V)) (es : Array DictEntry) (ep : Nat) (ho : o.data = .dict es ep) : ZIe P w K tg (Itk d o kvs) [it] it (fun i h => h.IsKeyIter it d i kvs.length ep) where
 mem := by simp
 obj := fun i h st b hb => by
  have e : b = it := by simpa using hb
  subst e
  obtain ⟨o, e, c, d⟩ := st
  exact ⟨o, e, fun v z => by rw [d] at z; cases z⟩
 keep := fun i h h' st k => st.at fun o e => k it (by simp) o e
 item := by
  intro X hP hw hK hc i pins s σ H E I hf st hg
  subst hP hw hK
  obtain ⟨hd, hi⟩ := hg
  obtain ⟨f0, f1, f2, f3, f4, f5⟩ := hf it (by simp)
  obtain ⟨hob, z, hsm, vs, rel, dd⟩ := (show ZDS X.prog X.w H s.heap d (.frz o (.dK kvs)) from I.hok d _ hd)
  obtain ⟨ep', dd⟩ := dd.dictAt
  obtain ⟨o2, es2, g1, g2, g3, g4⟩ := id dd
  rw [hob] at g1
  cases g1
  rw [ho] at g3
  cases g3
  have hlen : kvs.length = vs.length := rel.length
  obtain ⟨q, hq, eq⟩ := ZTk rel (List.getElem?_eq_getElem hi)
  rw [hlen] at st
  refine wpAny_pyNext_dict_item (knd := ZDV X.prog X.w) (k := q.1) (v := q.2) st dd hq fun key h' hkey hit' hs' => ?_
  have I1 : Inv X pins σ H { s with heap := h' } := I.turned (t' := s.toks) (fun b o hb e => (hs'.2 b hb).trans e) f0 f1 f3 f4 f5
  obtain ⟨o3, e3, c3, d3⟩ := id hit'
  refine ⟨key, rfl, ZIC (s := { s with heap := h' }) e3 c3 d3 (by decide) ⟨kV kvs[i].1, H, I1, ?_, ⟨rfl, _, List.getElem?_eq_getElem hi, rfl⟩, ?_, fun b hb => (hf b hb).1⟩⟩
  ·rw [← eq]; exact ZNe hkey
  ·rw [hlen]; exact hit'
 done := by
  intro X hP hw hK hc i pins s σ H E I hf st hg
  subst hP hw hK
  obtain ⟨hd, hi⟩ := hg
  obtain ⟨f0, f1, f2, f3, f4, f5⟩ := hf it (by simp)
  obtain ⟨hob, z, hsm, vs, rel, dd⟩ := (show ZDS X.prog X.w H s.heap d (.frz o (.dK kvs)) from I.hok d _ hd)
  obtain ⟨ep', dd⟩ := dd.dictAt
  obtain ⟨o2, es2, g1, g2, g3, g4⟩ := id dd
  rw [hob] at g1
  cases g1
  rw [ho] at g3
  cases g3
  have hlen : kvs.length = vs.length := rel.length
  rw [hlen] at st
  exact wpAny_pyNext_dict_end (knd := ZDV X.prog X.w) (I.ok.hd hc) st dd (List.getElem?_eq_none (by omega)) fun h' eb => ⟨rfl, I.turned (t' := s.toks) (fun b o hb e => eb b o hb e) f0 f1 f3 f4 f5⟩
 self := fun _ _ _ _ _ st h => wpAny_pyIter_keyiter st h
def ZHT (X : Cx) (d : Addr) : Prop := ∀ o u, X.H₀ d ≠ some (.frz o u)
def ZKd (X : Cx) (R : It → Hp → Prop) (v : V) (H : Hp) : Prop := ∃ d kvs, v = .ref d ∧ H d = some (.dK kvs) ∧ ∀ o, ZHT X d → R (Itk d o kvs) (upd H d (.frz o (.dK kvs)))
def ZPt (X : Cx) (te : TE) : TI := fun σ H R => te σ H fun v H1 => ZKd X R v H1
section
variable {X : Cx} {tg e : Expr} {te t : TE}
theorem ZRF (he : QE X e te) : QI X tg e (ZPt X te) := by
 refine ⟨?_⟩
 intro pins s σ H R I h
 refine thn (he.h pins s σ H _ I h) fun u s1 ⟨x, H1, I1, rx, d, kvs, ex, hd, q⟩ => ?_
 subst ex
 obtain rfl : u = Value.ref d := rx
 obtain ⟨z, hsm, vs, rel, dd⟩ := ZGT I1.hok hd
 obtain ⟨ep, dda⟩ := dd.dictAt
 obtain ⟨o, es, ho, hx, hdat, hk, hpr, hn⟩ := id dda
 have hnf : ZHT X d := fun o u e => by
  have := I1.base.frzs d o u e
  rw [hd] at this
  cases this
 have hlen : kvs.length = vs.length := rel.length
 -- frozen
 have I2 : Inv X pins σ (upd H1 d (.frz o (.dK kvs))) s1 := by
  have := ZF6 (h' := s1.heap) (t' := s1.toks) (ob := .frz o (.dK kvs)) I1 (by rw [hd]; exact True.intro) (Heap.SameBut.refl _ _) ⟨o, ho⟩ ⟨ho, ZIQ z hsm rel dd⟩
  exact this
 refine wpAny_pyIter_dict (knd := ZDV X.prog X.w) hsm dda ?_
 refine ⟨s1.heap.objs.size, [s1.heap.objs.size], _, _, _, rfl, I2.kept (t' := s1.toks) fun b o e => Heap.get?_push_of_some _ e, ZNf d _ o kvs es ep hdat, ?_, fun b hb => ?_, q o hnf⟩
 ·rw [hlen]
  exact ⟨_, Heap.get?_push_size _ rfl, rfl, rfl⟩
 ·have e : b = s1.heap.objs.size := by simpa using hb
  subst e
  exact I2.fpOk (Nat.le_refl _) (I2.hok.fresh (Nat.le_refl _))
theorem Inv.thaw {pins : List (Addr × Obj)} {σ : St} {H : Hp} {s : Shared} {d : Addr} {o : Obj} {u : HO} (I : Inv X pins σ H s) (hd : H d = some (.frz o u)) (nf : ZHT X d) (hu : Mut (some u)) : Inv X pins σ (upd H d u) s := by
 have hne : ∀ b ob, H b = some ob → (∀ o u, ob ≠ .frz o u) → b ≠ d := fun b ob e n z => by rw [z, hd] at e; cases e; exact n _ _ rfl
 have hnn : ∀ b, H b = none → b ≠ d := fun b e z => by rw [z, hd] at e; cases e
 obtain ⟨ho, hou⟩ := (show ZDS X.prog X.w H s.heap d (.frz o u) from I.hok d _ hd)
 have base := I.base
 refine ⟨I.ok, I.os, I.bare, ⟨base.keep, base.slot, fun b ob e n hx => ?_, base.there, fun b xs e => ?_, fun b ob v e => ?_, fun b ps e => ?_⟩, I.loc, I.cell, ?_, fun x c e => ?_, fun p hp => ?_, fun b ob e => ?_, I.len⟩
 ·have := base.free b ob e n hx
  rw [ZDF (hnn b this)]; exact this
 ·have := base.tups b xs e
  rw [ZDF (hne b _ this fun _ _ z => by cases z)]; exact this
 ·have h1 := base.frzs b ob v e
  have : b ≠ d := fun z => by subst z; exact nf _ _ e
  rw [ZDF this]; exact h1
 ·obtain ⟨more, h1⟩ := base.tbls b ps e
  exact ⟨more, by rw [ZDF (hne b _ h1 fun _ _ z => by cases z)]; exact h1⟩
 ·rw [ZDF (hnn _ I.free)]; exact I.free
 ·rw [ZDF (hnn _ (I.freeC x c e))]; exact I.freeC x c e
 ·obtain ⟨h1, h2, h3⟩ := I.pin p hp
  exact ⟨h1, by rw [ZDF (hnn _ h2)]; exact h2, h3⟩
 ·by_cases hb : b = d
  ·subst hb
   rw [ZDN] at e
   cases e
   exact hou.stay (fun c v _ r => r) (fun c r => by rw [ZDF (hne c _ r fun _ _ z => by cases z)]; exact r) fun c xs r => by rw [ZDF (hne c _ r fun _ _ z => by cases z)]; exact r
  ·rw [ZDF hb] at e
   exact (I.hok b _ e).stay (fun c v _ r => r) (fun c r => by rw [ZDF (hne c _ r fun _ _ z => by cases z)]; exact r) fun c xs r => by rw [ZDF (hne c _ r fun _ _ z => by cases z)]; exact r
end
section
variable {X : Cx} {σ : St} {H : Hp} {Q : VK} {R : It → Hp → Prop} {te t : TE} {d : Addr} {m : PL}
theorem ZKe (h : te σ H fun v H1 => ZKd X R v H1) : ZPt X te σ H R := h
end
structure ZGa (K : Frag) (x : Str) (C : Addr) : Prop where
 a : nsIn K mainGlobals x = some (some (.ref C))
 ex : excIn K C [.type "ValueError", .type "Exception", .type "BaseException", .type "object"] "ValueError.__new__" = true
 ga : findIn K (.ref C) "__getattribute__" = some (some (.builtin "BaseException.__getattribute__"))
 gt : findIn K (.ref C) "__getattr__" = some none
 cl : findIn K (.ref C) "__class__" = some (some (.builtin "object.__class__"))
 ob : mroIn K C (.type "object") = some true
 be : mroIn K C (.type "BaseException") = some true
structure ZPN (K : Frag) (x : Str) (C : Addr) : Prop where
 a : nsIn K mainGlobals x = some (some (.ref C))
 pg : plainGet K C Str.empty = true
 hd : hasDictIn K C = true
 po : plainOver K C = true
 sa : findIn K (.ref C) "__setattr__" = some (some (.builtin "object.__setattr__"))
 mi : makesIn K C = true
 kc : keepIn K (.ref C) = true
section
variable {K : Frag} {x qual : Str} {st : Stmt} {f : Addr} {fd : FuncData}
theorem Fun.b1 {p : Str} (F : Fun K x qual st f fd) (h : ∀ (kV doc pm : Value) (an : Option Addr) (cdv ct u : Value), bindArgs (fnOf x qual (ZDr st) (ZDg st) (ZC9 st) .none kV doc pm an cdv ct) ⟨[u], []⟩ = pure ([p].zip [u])) : ZDE K fd [p] [] := F.binds fun _ _ _ _ _ _ us hl => match us, hl with | [_], _ => h _ _ _ _ _ _ _
theorem Fun.b2 {p q : Str} (F : Fun K x qual st f fd) (h : ∀ (kV doc pm : Value) (an : Option Addr) (cdv ct u v : Value), bindArgs (fnOf x qual (ZDr st) (ZDg st) (ZC9 st) .none kV doc pm an cdv ct) ⟨[u, v], []⟩ = pure ([p, q].zip [u, v])) : ZDE K fd [p, q] [] := F.binds fun _ _ _ _ _ _ us hl => match us, hl with | [_, _], _ => h _ _ _ _ _ _ _ _
theorem Fun.b3 {p q r : Str} (F : Fun K x qual st f fd) (h : ∀ (kV doc pm : Value) (an : Option Addr) (cdv ct u v y : Value), bindArgs (fnOf x qual (ZDr st) (ZDg st) (ZC9 st) .none kV doc pm an cdv ct) ⟨[u, v, y], []⟩ = pure ([p, q, r].zip [u, v, y])) : ZDE K fd [p, q, r] [] := F.binds fun _ _ _ _ _ _ us hl => match us, hl with | [_, _, _], _ => h _ _ _ _ _ _ _ _ _
end
def leS (a b : Str) : Prop := ¬ b.cps.toList < a.cps.toList
theorem ZKf {a b : Str} (h1 : leS a b) (h2 : leS b a) : a = b := by
 have : a.cps.toList = b.cps.toList := List.le_antisymm (List.not_lt.mp h1) (List.not_lt.mp h2)
 cases a; cases b
 congr
 exact Array.toList_inj.mp this
theorem ZNg {a b c : Str} (h1 : leS a b) (h2 : leS b c) : leS a c := List.not_lt.mpr (List.le_trans (List.not_lt.mp h1) (List.not_lt.mp h2))
theorem ZJC : ∀ (l : List Str) (p : Str), risingS p l = true → (p :: l).Pairwise leS
 | [], p, _ => List.pairwise_singleton _ _
 | x :: r, p, h => by
  simp only [risingS, Bool.and_eq_true, Bool.not_eq_true', ltCps_eq, decide_eq_false_iff_not] at h
  have ih := ZJC r x h.2
  rw [List.pairwise_cons]
  refine ⟨fun y hy => ?_, ih⟩
  rcases List.mem_cons.mp hy with rfl | hy
  ·exact h.1
  ·exact ZNg h.1 ((List.pairwise_cons.mp ih).1 y hy)
theorem ZMW {l : List Str} (h : sortedS l = true) : l.Pairwise leS := by
 cases l with
 | nil => exact .nil
 | cons p l => exact ZJC l p h
theorem ZG0 {l m : List Str} (hp : l.Perm m) (h1 : l.Pairwise leS) (h2 : m.Pairwise leS) : l = m := List.Perm.eq_of_pairwise (le := leS) (fun _ _ _ _ h g => ZKf h g) h1 h2 hp
section
variable {prog : Program} {w : World} {A : Around} {E : Value → Shared → Prop} {s : Shared} {κ : Type} [DecidableEq κ] {knd : KeyKind prog w κ}
theorem ZKg {d : Addr} {kvs : List (κ × Value)} {ep : Nat} {Q : Value → Shared → Prop} (hh : A.handled = none) (hd : (d == sysModules) = false) (hm : s.heap.DictAt knd d kvs ep) (h64 : kvs.length < 64)
  (hI : ∀ acc : Array Value, ItemsOf (fun i v => ∃ k x, kvs[i]? = some (k, x) ∧ knd.is k v = true) acc kvs.length → ∃ ss, StrsAre acc.toList ss ∧ ∀ (s' : Shared) (l : Addr) (out : Array Value) (ss' : List Str) (e : Nat), s.heap.objs.size ≤ l → (∀ b o, s.heap.get? b = some o → s'.heap.get? b = some o) → s'.gens = s.gens → s'.drawn = s.drawn → s'.os = s.os →
   s'.heap.get? l = some (seqObj "list" out e) → StrsAre out.toList ss' → ss'.Perm ss → sortedS ss' = true → Q (.ref l) s') :
  wpAny (model prog w) A (call (.builtin "sorted") [.ref d]) Q E s := by
 refine Calls.call_function_entry kind_sorted plain_sorted entry_sorted (args_sorted1 _) ?_
 unfold Builtin.«sorted»
 refine wpAny_bind (m := checkCount "sorted" 1 1 _) (wpAny_pure ?_)
 refine wpAny_bind (ZGu (knd := knd) hh hd hm (by rw [sizeLine_eq]; omega) fun s1 acc hk e1 e2 e3 hlt hacc => ?_)
 obtain ⟨ss, hns, hQ⟩ := hI acc hacc
 refine wpAny_bind (wpAny_newList (hsz := by rw [Array.length_toList, hacc.1, sizeLine_eq]; omega) ?_)
 have hoL : (s1.heap.push (seqObj "list" acc.toList.toArray 0)).get? s1.heap.objs.size = some (seqObj "list" acc.toList.toArray 0) := Heap.get?_push_size _ rfl
 show wpAny _ _ _ _ _ { s1 with heap := s1.heap.push (seqObj "list" acc.toList.toArray 0) }
 refine wpAny_bind (wpAny_holding (wpAny_call_entry slot_list_sort ⟨_, hoL, rfl⟩ entry_list_sort (list_sort_treeK strKind_oneLt hoL hns.keysOf (fun v₁ v₂ ZEA e => keyKind_strs (by rw [← e]; exact hns)) (by rw [Array.length_toList, hacc.1]; exact h64) fun st' hp hs => ⟨_, rfl, ?_⟩) (args_list_sort _)))
 obtain ⟨ss', a1, a2, a3⟩ := sorted_out_str hns hp hs
 refine wpAny_pure ⟨_, rfl, ?_⟩
 obtain ⟨e, he⟩ := sortedHeap_at (out := (arrOf st').map (·.2)) hoL
 have hle : s.heap.objs.size ≤ s1.heap.objs.size := Nat.le_of_lt hlt
 refine hQ _ _ _ ss' e hle (fun b o eb => ?_) e1 e2 e3 he a1 a2 a3
 have hb := Heap.lt_size (hk _ _ eb)
 exact (sortedHeap_old (Nat.ne_of_lt hb) (by rw [Heap.size_push]; exact Nat.lt_succ_of_lt hb)).trans (Heap.get?_push_of_some _ (hk _ _ eb))
end
theorem ZJD : ∀ (vs : List (Key × Value)) (ns : List Str) (l : List Value), vs.map (·.1) = ns.map Sum.inr → l.length = vs.length → (∀ (j : Nat) (v : Value), l[j]? = some v → ∃ k x, vs[j]? = some (k, x) ∧ ZFg k v = true) → StrsAre l ns
 | [], [], [], _, _, _ => .nil
 | [], [], _ :: _, _, h, _ => by simp at h
 | [], _ :: _, _, h, _, _ => by simp at h
 | _ :: _, [], _, h, _, _ => by simp at h
 | _ :: _, _ :: _, [], _, h, _ => by simp at h
 | (k, x) :: vs, n :: ns, v :: l, h1, h2, h3 => by
  simp only [List.map_cons, List.cons.injEq] at h1
  obtain ⟨rfl, h1⟩ := h1
  obtain ⟨k', x', e, hk⟩ := h3 0 v rfl
  simp only [List.getElem?_cons_zero, Option.some.injEq, Prod.mk.injEq] at e
  obtain ⟨rfl, rfl⟩ := e
  rcases ZDf hk with ⟨i, t, e1, e2⟩ | ⟨y, t, e1, e2⟩
  ·cases e1
  ·cases e1; cases e2
   refine .cons _ _ (ZJD vs ns l h1 (by simpa using h2) fun j v e => ?_)
   have := h3 (j + 1) v (by simpa using e)
   simpa using this
theorem ZG1 : ∀ {vs : List Value} {ss : List Str}, StrsAre vs ss → ZDG (ss.map V.str) vs
 | _, _, .nil => .nil
 | _, _, .cons _ t h => .cons ⟨t, rfl⟩ (ZG1 h)
def ZJE : List V → Hp → VK → Prop := fun xs H Q => ∃ (p : Addr) (kvs : List (Key × V)) (ss : List Str), xs = [.ref p] ∧ Rd H p (.dK kvs) ∧ kvs.map (·.1) = ss.map Sum.inr ∧ kvs.length < 64 ∧ ∀ (l : Addr) (ss' : List Str), H l = none → ss'.Perm ss → ss'.Pairwise leS → Q (.ref l) (upd H l (.lst (ss'.map V.str)))
theorem ZFu {X : Cx} (hc : X.calm = true) : ZDb X (.builtin "sorted") ZJE := by
 intro pins s σ H xs us Q I r h
 obtain ⟨p, kvs, ss, rfl, hd, hns, h64, q⟩ := h
 obtain ⟨u, rfl, ru⟩ := r.one
 cases ru
 obtain ⟨z, hd, vs, rel, dd⟩ := ZFP I.hok hd
 obtain ⟨ep, dd⟩ := dd.dictAt
 have hlen : vs.length = kvs.length := rel.length.symm
 refine ZKg (I.ok.hd hc) hd dd (by rw [hlen]; exact h64) fun acc hacc => ⟨ss, ?_, fun s' l out ss' e hl hk e1 e2 e3 he a1 a2 a3 => ?_⟩
 ·exact ZJD vs ss acc.toList (by rw [KV.keysEq rel]; exact hns) (by rw [Array.length_toList]; exact hacc.1) fun j v e => hacc.2 j v (by simpa using e)
 ·obtain ⟨h', g', d', tk, os'⟩ := s'
  simp only at e1 e2 e3
  subst e1 e2 e3
  refine ⟨.ref l, upd H l (.lst (ss'.map V.str)), I.laid (t' := tk) hk hl ?_, rfl, q l ss' (I.hok.fresh hl) a2 (ZMW a3)⟩
  refine ⟨?_, out.toList, e, ZG1 a1, he⟩
  have l1 := a2.length_eq
  have l2 := congrArg List.length hns
  simp only [List.length_map] at l2 ⊢
  rw [sizeLine_eq]
  omega
section
variable {α : Type}
def ZDJ (m : List (Str × α)) (k : Str) : Option α := (m.find? fun p => decide (p.1 = k)).map (·.2)
def ZEe (m : List (Str × α)) (k : Str) (v : α) : List (Str × α) := if (m.any fun p => decide (p.1 = k)) = true then m.map fun p => if p.1 = k then (p.1, v) else p else m ++ [(k, v)]
def dkS (m : List (Str × V)) : List (Key × V) := m.map fun p => (.inr p.1, p.2)
theorem ZNh {a b : Str} : ((Sum.inr a : Key) = Sum.inr b) ↔ a = b := ⟨fun h => Sum.inr.inj h, fun h => h ▸ rfl⟩
theorem ZFW (k : Str) : ∀ m : List (Str × V), ZDY (dkS m) (.inr k) = ZDJ m k
 | [] => rfl
 | p :: m => by
  have ih := ZFW k m
  by_cases e : p.1 = k
  ·have : ZDY (dkS (p :: m)) (.inr k) = some p.2 := ZD0 (p := (Sum.inr p.1, p.2)) (by simp [e])
   rw [this]
   simp [ZDJ, List.find?_cons, e]
  ·have : ZDY (dkS (p :: m)) (.inr k) = ZDY (dkS m) (.inr k) := ZD1 (p := (Sum.inr p.1, p.2)) (by simp [e])
   rw [this, ih]
   simp [ZDJ, List.find?_cons, e]
theorem ZLj (m : List (Str × V)) (k : Str) (v : V) : ZD6 (dkS m) (.inr k) v = dkS (ZEe m k v) := by
 have ha : ((dkS m).any fun kv => decide (kv.1 = Sum.inr k)) = m.any fun p => decide (p.1 = k) := by
  unfold dkS
  rw [List.any_map]
  congr 1
  funext p
  simp only [Function.comp, ZNh]
 unfold ZD6 ZEe
 rw [ha]
 by_cases c : (m.any fun p => decide (p.1 = k)) = true
 ·rw [if_pos c, if_pos c]
  unfold dkS
  rw [List.map_map, List.map_map]
  refine List.map_congr_left fun p _ => ?_
  simp only [Function.comp, ZNh]
  split <;> simp
 ·rw [if_neg c, if_neg c]
  simp [dkS]
theorem ZFo {k : Str} : ∀ {m : List (Str × α)}, ZDJ m k = none ↔ k ∉ m.map (·.1)
 | [] => by simp [ZDJ]
 | p :: m => by
  have ih := ZFo (k := k) (m := m)
  by_cases e : p.1 = k
  ·simp [ZDJ, List.find?_cons, e]
  ·have e' : ¬ k = p.1 := fun z => e z.symm
   have : ZDJ (p :: m) k = ZDJ m k := by simp [ZDJ, List.find?_cons, e]
   rw [this, ih]
   simp [e']
theorem ZKh {m : List (Str × α)} {k : Str} {v : α} (e : ZDJ m k = none) : ZEe m k v = m ++ [(k, v)] := by
 unfold ZEe
 rw [if_neg]
 intro z
 obtain ⟨q, hq, e2⟩ := List.any_eq_true.mp z
 rw [decide_eq_true_iff] at e2
 rw [ZFo] at e
 exact e (List.mem_map.mpr ⟨q, hq, e2⟩)
theorem ZPO {β : Type} (f : α → β) (m : List (Str × α)) (k : Str) : ZDJ (m.map fun p => (p.1, f p.2)) k = (ZDJ m k).map f := by
 induction m with
 | nil => rfl
 | cons p m ih =>
  by_cases e : p.1 = k
  ·simp [ZDJ, List.find?_cons, e]
  ·have h1 : ZDJ (p :: m) k = ZDJ m k := by simp [ZDJ, List.find?_cons, e]
   have h2 : ZDJ ((p :: m).map fun p => (p.1, f p.2)) k = ZDJ (m.map fun p => (p.1, f p.2)) k := by simp [ZDJ, List.find?_cons, e]
   rw [h1, h2, ih]
theorem ZEf {k : Str} {v : α} : ∀ {m : List (Str × α)}, ZDJ m k = some v → (k, v) ∈ m
 | [], h => by simp [ZDJ] at h
 | p :: m, h => by
  by_cases e : p.1 = k
  ·have : ZDJ (p :: m) k = some p.2 := by simp [ZDJ, List.find?_cons, e]
   rw [this] at h
   cases h
   rw [← e]
   exact List.mem_cons_self
  ·have : ZDJ (p :: m) k = ZDJ m k := by simp [ZDJ, List.find?_cons, e]
   rw [this] at h
   exact List.mem_cons_of_mem _ (ZEf h)
theorem ZFX {k : Str} {v : α} : ∀ {m : List (Str × α)}, (m.map (·.1)).Nodup → (k, v) ∈ m → ZDJ m k = some v
 | [], _, h => by cases h
 | p :: m, n, h => by
  simp only [List.map_cons, List.nodup_cons] at n
  by_cases e : p.1 = k
  ·have : ZDJ (p :: m) k = some p.2 := by simp [ZDJ, List.find?_cons, e]
   rw [this]
   rcases List.mem_cons.mp h with h | h
   ·rw [← h]
   ·exact absurd (List.mem_map.mpr ⟨_, h, rfl⟩) (by rw [← e] at *; exact n.1)
  ·have : ZDJ (p :: m) k = ZDJ m k := by simp [ZDJ, List.find?_cons, e]
   rw [this]
   rcases List.mem_cons.mp h with h | h
   ·exact absurd (by rw [← h]) e
   ·exact ZFX n.2 h
end
section
variable {X : Cx} {σ : St} {H : Hp} {Q : VK} {R : Hp → Prop} {RI : It → Hp → Prop} {p d : Addr} {m : List (Str × V)} {k : Str} {v : V} {te : TE}
theorem ZH3 (h1 : H p = some (.dK (dkS m))) (h2 : ZDJ m k = some v) (h : Q v H) : ZJZ (.ref p) (.str k) H Q :=
 ⟨p, v, rfl, by
  have := ZEK.k (k := Sum.inr k) h1
  rw [ZFW, h2] at this
  exact this, h⟩
theorem ZNi {o : Obj} (h1 : H d = some (.frz o (.dK (dkS m)))) (h2 : ZDJ m k = some v) (h : Q v H) : ZJZ (.ref d) (.str k) H Q :=
 ⟨d, _, rfl, .inl ⟨dkS m, .inr k, .inr ⟨o, h1⟩, rfl, by rw [ZFW, h2]⟩, h⟩
theorem ZPP (h1 : H p = some (.dK (dkS m))) (hz : m.length < sizeLine) (h : ∀ H2, H2 p = some (.dK (dkS (ZEe m k v))) → Kp p H H2 → R H2) : ZJa v (.ref p) (.str k) H R :=
 ⟨p, _, rfl, ZFt.k (k := Sum.inr k) h1 (by simpa [dkS] using hz), by
  rw [ZLj]
  exact h _ ZDN Kp.upd⟩
theorem ZH4 (h : ∀ p H2, H p = none → H2 p = some (.dK (dkS [])) → ZDC H H2 → Q (.ref p) H2) : ZJb H Q := ZLb h
theorem ZMX (h1 : H p = some (.dK (dkS m))) (q : Q (.bl (!(ZDJ m k).isSome)) H) : ZKb (.str k) (.ref p) H Q := ⟨p, _, rfl, ZEK.k (k := Sum.inr k) h1, by rw [ZFW]; exact q⟩
theorem ZGb (h1 : H p = some (.dK (dkS m))) (hz : m.length < 64) (h : ∀ l H2 (ss : List Str), H l = none → H2 l = some (.lst (ss.map V.str)) → ss.Perm (m.map (·.1)) → ss.Pairwise leS → ZDC H H2 → Q (.ref l) H2) : ZJE [.ref p] H Q :=
 ⟨p, _, m.map (·.1), rfl, .inl h1, by simp [dkS], by simpa [dkS] using hz, fun l ss hl hp hs => h l _ ss hl ZDN hp hs (ZDC.new hl)⟩
theorem ZRG (h1 : H d = some (.dK (dkS m))) (h : ∀ o H2, ZHT X d → H2 d = some (.frz o (.dK (dkS m))) → Kp d H H2 → RI (Itk d o (dkS m)) H2) : ZKd X RI (.ref d) H := ⟨d, _, rfl, h1, fun o nf => h o _ nf ZDN Kp.upd⟩
end
theorem ZG2 {K : W.Frag} {H : Hp} : ∀ ns : List Str, ZEa K H (ns.map V.str) (ns.map PyData.str)
 | [] => .nil
 | n :: ns => .cons (.str n) (ZG2 ns)
theorem ZKi : ∀ l m : List Str, PyData.eqvAll (l.map PyData.str) (m.map PyData.str) = decide (l = m)
 | [], [] => rfl
 | [], q :: m => by simp [PyData.eqvAll]
 | p :: l, [] => by simp [PyData.eqvAll]
 | p :: l, q :: m => by
  show (PyData.eqv (PyData.str p) (PyData.str q) && PyData.eqvAll (l.map PyData.str) (m.map PyData.str)) = _
  rw [ZKi l m, show PyData.eqv (PyData.str p) (PyData.str q) = (p == q) from rfl]
  by_cases h1 : p = q <;> by_cases h2 : l = m <;> simp [h1, h2]
theorem ZIZ : ∀ l : List Str, PyData.depthAll (l.map PyData.str) ≤ 50
 | [] => by decide
 | p :: l => by
  have ih := ZIZ l
  show PyData.depthAll (PyData.str p :: l.map PyData.str) ≤ 50
  simp only [PyData.depthAll, PyData.depth]
  omega
theorem ZLE (l : List Str) : (PyData.list (l.map PyData.str)).depth ≤ 60 := by
 have := ZIZ l
 simp only [PyData.depth]
 omega
theorem ZKj (l : List Str) (g : ∀ x ∈ l, PyData.canLay0 (.str x) = true) : (PyData.list (l.map PyData.str)).canLay0 = true := by
 have h : ∀ l : List Str, (∀ x ∈ l, PyData.canLay0 (.str x) = true) → PyData.canLayAll0 (l.map PyData.str) = true := fun l => by
  induction l with
  | nil => exact fun _ => rfl
  | cons p l ih =>
   intro g
   show (PyData.canLay0 (.str p) && PyData.canLayAll0 (l.map PyData.str)) = true
   rw [g p List.mem_cons_self, ih fun x hx => g x (List.mem_cons_of_mem _ hx)]
   rfl
 exact h l g
section
variable {K : W.Frag} {H : Hp} {Q : VK} {a b : Addr} {l m : List Str}
theorem ZIs (h1 : SqL K H a (l.map V.str)) (h2 : SqL K H b (m.map V.str)) (g1 : ∀ x ∈ l, PyData.canLay0 (.str x) = true) (g2 : ∀ x ∈ m, PyData.canLay0 (.str x) = true) (h : Q (.bl (!decide (l = m))) H) : ZJ0 K (.ref a) (.ref b) H Q := by
 refine ZNC (.lst h1 (ZG2 l)) (.lst h2 (ZG2 m)) (ZKj l g1) (ZKj m g2) (ZLE l) ?_
 rw [show PyData.eqv (.list (l.map PyData.str)) (.list (m.map PyData.str)) = decide (l = m) from ZKi l m]
 exact h
end
theorem Fun.okNU {P : Program} {w : World} {K : W.Frag} {mg : Str → Option Value} {base : Heap} {x qual : Str} {st : Stmt} {f : Addr} {fd : FuncData} {N ps : List Str} {k : Nat} {sp : Sp} (F : Fun K x qual st f fd) (S : ZDL N ps (ZC9 st)) (len : ∀ vs H Q E, sp vs H Q E → vs.length = ps.length)
  (hbody : ∀ (cdv : Value) (A : Around) (outer : List Env) (s : Shared) (H : Hp) (vs : List V) (Q : VK) (E : XK), (A.deeper (envOfC qual (ZC9 st) s.heap.objs.size f cdv)).units + 64 < cLine → sp vs H Q E →
   ∃ t, PSs (cxN P w K mg base N qual (ZC9 st) f cdv A outer s H) (ZDg st) t ∧ t { nx := fun _ H' => Q .non H', rt := Q } (start N vs) H) : ZMT P w K mg base (k + 1) f fd ps sp := by
 obtain ⟨oc, od, kV, doc, pm, an, cdv, ct, osl, rfl, lk, hcd⟩ := F.ex
 refine ⟨len, fun A outer s H args us vs Q E hr e0 hb r hsp => ?_⟩
 have hl := len _ _ _ _ hsp
 have KX : K.In s.heap := e0.mod.kin.keeps fun b o e => (e0.bs b o e).1
 have lim : s.heap.NoLimit := e0.mod.nolimit.keeps fun b o e => (e0.bs b o e).1
 have hkind : ∀ y ∈ ps.zip us, (ZC9 st).names.lookup y.1 = some .local ∨ ((ZC9 st).names.lookup y.1 = some .cell ∧ ((cellsFrom (s.heap.objs.size + 1) (ZC9 st).names []).lookup y.1).isSome = true) := fun ⟨n, v⟩ hy => by
  rcases S.par n (List.of_mem_zip hy).1 with q | q
  ·exact .inl q
  ·exact .inr ⟨q, PySem.W.cellsFrom_some _ _ _ (.inl q)⟩
 refine codeAny_call_function (show A.depth < recursionLimit from hr.depth) (KX _ _ lk) rfl S.co S.gen rfl (PySem.W.codeRec_of KX hcd) (hb _ _ _ _ ?_)
 refine wpAny_newFunctionEnv_cells S.kind hkind fun env he s1 x => ?_
 subst he
 refine ⟨lim.keeps x.toInCall.keep, codeAny_func ?_⟩
 obtain ⟨t, ht, hq⟩ := hbody cdv A outer s H vs Q E (hr.deeper (envOfC qual (ZC9 st) s.heap.objs.size f cdv)).units hsp
 have e0' : ZFJ P w K mg base { A with handled := none } outer s H := ⟨e0.frames, e0.mod, e0.bs, e0.bsz, e0.funs, e0.frf, e0.hok, e0.bare⟩
 have I0 : Inv (ZFs CX0 P w K mg base N qual (ZC9 st) f cdv { A with handled := none } outer s H E0) [] (start N vs) H s1 := ZI2 S rfl e0' hl r x
 have I : Inv (cxN P w K mg base N qual (ZC9 st) f cdv A outer s H) [] (start N vs) H s1 := I0.around (A' := A.deeper (envOfC qual (ZC9 st) s.heap.objs.size f cdv)) (xe' := fun _ _ => False) rfl
 refine wpAny_mono (ht [] s1 (start N vs) H _ I hq) (fun fl s' hs => ?_) fun e s' hs => False.elim hs
 have fin : ∀ {σ' : St} {H' : Hp} {v : V} {u : Value}, Inv (cxN P w K mg base N qual (ZC9 st) f cdv A outer s H) [] σ' H' s' → ZDH v u → Q v H' → CE outer P w H s Q u s' :=
  fun {σ' H' v u} J rv q => ⟨v, H', J.os, J.bare, J.base, J.hok, rv, q⟩
 cases fl with
 | ret u =>
  obtain ⟨v, σ', H', J, rv, q⟩ := hs
  exact fin J rv q
 | next =>
  obtain ⟨σ', H', J, q⟩ := hs
  exact fin (v := V.non) (u := Value.none) J rfl q
 | brk =>
  obtain ⟨_, _, _, q⟩ := hs
  exact False.elim q
 | cont =>
  obtain ⟨_, _, _, q⟩ := hs
  exact False.elim q
section
variable {X : Cx} {pins : List (Addr × Obj)} {σ : St} {H : Hp} {s : Shared} {a : Addr} {kvs : List (Key × V)} {k : Key} {A : Around} {E : Value → Shared → Prop}
theorem ZTC {z : V} {u r : Value} {Q : Value → Shared → Prop} (I : Inv X pins σ H s) (e : H a = some (.dK kvs)) (ry : ZDH (kV k) u) (rz : ZDH z r) (hl : kvs.length < sizeLine)
  (h1 : ∀ v, ZDY kvs k = some v → ∀ w' s', Inv X pins σ H s' → ZDH v w' → Q w' s') (h2 : ZDY kvs k = none → ∀ s', Inv X pins σ (upd H a (.dK (ZD6 kvs k z))) s' → Q r s') :
  wpAny (model X.prog X.w) A (call (.builtin "dict.setdefault") [.ref a, u, r]) Q E s := by
 obtain ⟨hz, hd, vs, rel, dd⟩ := ZGT I.hok e
 refine call_meetsIn PySem.F.slot_dict_setdefault dd.typeIs PySem.F.entry_dict_setdefault (PySem.F.args_dict_setdefault_3 _ _ _) (kt_meets_setdefault (ZDV X.prog X.w) a (ZGS ry) hd r) ⟨vs, dd, by rw [← rel.length]; exact hz, fun w' hw => ?_, fun hn h' dd' hs => ?_⟩
 ·have hv := rel.val k
  rw [hw] at hv
  cases hk : ZDY kvs k with
  | none => rw [hk] at hv; exact hv.elim
  | some v =>
   rw [hk] at hv
   exact h1 v hk w' _ (I.tok _) hv
 ·have hv := rel.val k
  rw [hn] at hv
  cases hk : ZDY kvs k with
  | some v => rw [hk] at hv; exact hv.elim
  | none =>
   have he : ∃ q, h'.get? a = some q := let ⟨q, _, _, hq, _⟩ := dd'; ⟨q, hq⟩
   have hl' : (ZD6 kvs k z).length ≤ sizeLine := by have := ZEm kvs k z; omega
   exact h2 hk _ (ZF6 I (by rw [e]; exact True.intro) hs he (ZIQ hl' hd (rel.put k rz) dd'))
end
def ZJc (a : Addr) (y z : V) (H : Hp) (Q : VK) : Prop := ∃ kvs k, H a = some (.dK kvs) ∧ y = kV k ∧ kvs.length < sizeLine ∧ (∀ v, ZDY kvs k = some v → Q v H) ∧ (ZDY kvs k = none → Q z (upd H a (.dK (ZD6 kvs k z))))
def ZKk (ty tx : TE) (σ : St) (Q : VK) (x : V) (H : Hp) : Prop := ∃ a, x = .ref a ∧ IsD H a ∧ ty σ H fun y H2 => tx σ H2 fun z H3 => ZJc a y z H3 Q
def ZPu (td ty tx : TE) : TE := fun σ H Q => td σ H fun x H1 => ZKk ty tx σ Q x H1
section
variable {X : Cx} {o e f : Expr} {apos cpos pos p : Pos} {td ty tx : TE}
theorem ZLk (ho : QE X o td) (he : QE X e ty) (hf : QE X f tx) (m : M2 X o "setdefault" apos e f cpos := by exact ⟨rfl, rfl, rfl, rfl⟩) : QE X (.Call (.Attribute o "setdefault" apos) [e, f] [] cpos) (ZPu td ty tx) := by
 refine ⟨?_⟩
 intro pins s σ H Q I h
 refine wpAny_Call_method m.base m.few m.line PySem.F.plainAttrs_dict PySem.F.slot_dict_setdefault PySem.F.type_dict_setdefault (thn (ho.h pins s σ H _ I h) fun u s1 ⟨x, H1, I1, rx, a, ex, d, q1⟩ => ?_)
 subst ex
 obtain rfl : u = Value.ref a := rx
 obtain ⟨t1, t2, _⟩ := ZJ4 I1 d
 refine ⟨t1, t2, ?_⟩
 rw [m.trees]
 refine Calls.callWith_builtin rfl (Calls.evalArgs_plain (Calls.spliced_cons (thn (he.h pins s1 σ H1 _ I1 q1) fun iv s2 ⟨y, H2, I2, ry, q2⟩ =>
  Calls.spliced_cons (thn (hf.h pins s2 σ H2 _ I2 q2) fun fv s3 ⟨z, H3, I3, rz, kvs, k, ea, ey, hl, q3, q4⟩ => Calls.spliced_nil ?_))))
 subst ey
 exact ZTC I3 ea ry rz hl (fun v l w' s4 I4 rw' => ⟨v, _, I4, rw', q3 v l⟩) fun l s4 I4 => ⟨z, _, I4, rz, q4 l⟩
variable {σ : St} {H : Hp} {Q : VK} {a : Addr} {m : List (Str × V)} {k : Str} {z : V}
theorem ZKl (h : td σ H fun x H1 => ZKk ty tx σ Q x H1) : ZPu td ty tx σ H Q := h
theorem ZKm (h1 : H a = some (.dK (dkS m))) (q : ty σ H fun y H2 => tx σ H2 fun z H3 => ZJc a y z H3 Q) : ZKk ty tx σ Q (.ref a) H := ⟨a, rfl, .inl ⟨_, .inl h1⟩, q⟩
theorem ZRH (h1 : H a = some (.dK (dkS m))) (hl : m.length < sizeLine) (q1 : ∀ v, ZDJ m k = some v → Q v H) (q2 : ZDJ m k = none → ∀ H2, H2 a = some (.dK (dkS (m ++ [(k, z)]))) → Kp a H H2 → Q z H2) : ZJc a (.str k) z H Q :=
 ⟨dkS m, .inr k, h1, rfl, by simpa [dkS] using hl, fun v e => q1 v (by rw [← ZFW]; exact e), fun e => by
  have e' : ZDJ m k = none := by rw [← ZFW]; exact e
  rw [ZLj, ZKh e']
  exact q2 e' _ ZDN Kp.upd⟩
def ZE9 (m : List (Str × V)) (k : Str) (z : V) : List (Str × V) := match ZDJ m k with
 | some _ => m
 | none => m ++ [(k, z)]
theorem ZKn (h1 : H a = some (.dK (dkS m))) (hl : m.length < sizeLine) (q : ∀ H2, H2 a = some (.dK (dkS (ZE9 m k z))) → Kp a H H2 → Q ((ZDJ m k).getD z) H2) : ZJc a (.str k) z H Q := by
 refine ZRH h1 hl (fun v e => ?_) fun e H2 f2 K2 => ?_
 ·have := q H (by unfold ZE9; rw [e]; exact h1) fun _ _ e _ => e
  rw [e] at this
  exact this
 ·have := q H2 (by unfold ZE9; rw [e]; exact f2) K2
  rw [e] at this
  exact this
theorem ZTD : ∀ c ∈ ("abcdefghijklmnopqrstuvwxyz" : Str).cps.toList, Unicode.upperOf c = [c - 32] := by decide +kernel
def upS (z : Str) : Str := ⟨(z.cps.toList.map (· - 32)).toArray⟩
theorem ZNj {z : Str} (h : ∀ c ∈ z.cps.toList, c ∈ ("abcdefghijklmnopqrstuvwxyz" : Str).cps.toList) : (⟨placed z fun _ c => Unicode.upperOf c⟩ : Str) = upS z := by
 unfold upS placed
 congr 1
 apply Array.toList_inj.mp
 rw [Array.toList_flatten, Array.toList_mapIdx]
 obtain ⟨⟨l⟩⟩ := z
 simp only [List.toList_toArray] at *
 have : (l.mapIdx fun i c => (Unicode.upperOf c).toArray) = l.map fun c => #[c - 32] := by
  rw [List.mapIdx_eq_iff]
  intro i
  rw [List.getElem?_map]
  cases hi : l[i]? with
  | none => rfl
  | some c => simp [ZTD c (h c (List.mem_of_getElem? hi))]
 rw [this]
 clear this h
 induction l with
 | nil => rfl
 | cons c l ih => simp only [List.map_cons, List.flatten_cons, ih]; rfl
def ZNk : V → List V → Hp → VK → Prop := fun x vs H Q => ∃ z : Str, x = .str z ∧ vs = [] ∧ (∀ c ∈ z.cps.toList, c ∈ ("abcdefghijklmnopqrstuvwxyz" : Str).cps.toList) ∧ z.length ≤ 1000 ∧ Q (.str (upS z)) H
theorem ZPQ : MtR X "str.upper" ZNk := by
 intro pins s σ H x vs v us Q I rx rv h
 obtain ⟨z, rfl, rfl, hz, hl, q⟩ := h
 obtain ⟨t, rfl⟩ := rx
 cases rv
 have e := ZNj hz
 have hs : (placed z fun _ c => Unicode.upperOf c).size = z.length := by
  have := congrArg (fun s : Str => s.cps.size) e
  simp only [upS] at this
  rw [this]
  simp
  rfl
 have hf : Builtin.Str.tooLong (placed z fun _ c => Unicode.upperOf c).size = false := by
  rw [hs]
  unfold Builtin.Str.tooLong
  have := sizeLine_eq
  simp only [gt_iff_lt, decide_eq_false_iff_not]
  omega
 refine call_gives F.slot_str_upper (typeIs_str _ _ _) F.entry_str_upper (F.args_str_upper_1 _) (gives_str_upper z t hf) ⟨fit_le hf, ?_⟩
 rw [e]
 exact ⟨.str _, H, I.tok _, ⟨_, rfl⟩, q⟩
theorem ZPR {z : Str} (hz : ∀ c ∈ z.cps.toList, c ∈ ("abcdefghijklmnopqrstuvwxyz" : Str).cps.toList) (hl : z.length ≤ 1000) (q : Q (.str (upS z)) H) : ZNk (.str z) [] H Q := ⟨z, rfl, rfl, hz, hl, q⟩
end
section
variable {X : Cx} {σ : St} {H : Hp} {D : ZDt} {d : Addr} {o : Obj} {kvs : List (Key × V)}
theorem ZRI {g : TG} {tb : TS} (Pv : Nat → St → Hp → Prop) (h0 : Pv 0 σ H) (hf : ∀ i σ H, i ≤ kvs.length → Pv i σ H → H d = some (.frz o (.dK kvs)))
  (hs : ∀ i p σ H, kvs[i]? = some p → Pv i σ H → g (kV p.1) σ H fun σ2 H2 => tb { D with nx := Pv (i + 1), ct := Pv (i + 1), bk := D.nx } σ2 H2) (hd : ∀ σ H, Pv kvs.length σ H → D.nx σ H) :
  rFor (Itk d o kvs) g tb D σ H := by
 refine ⟨fun i m σ H => m = kvs.length - i ∧ i ≤ kvs.length ∧ Pv i σ H, ⟨_, rfl, Nat.zero_le _, h0⟩, ?_⟩
 rintro i m σ H ⟨rfl, hi, p⟩
 by_cases hlt : i < kvs.length
 ·refine .inr ⟨⟨hf i σ H hi p, hlt⟩, Pv (i + 1), fun σ' H' p' => ⟨kvs.length - (i + 1), by omega, rfl, hlt, p'⟩, ?_⟩
  rintro x H' ⟨rfl, q, hq, rfl⟩
  exact hs i q σ H' hq p
 ·have e : i = kvs.length := by omega
  subst e
  exact .inl ⟨⟨hf _ σ H hi p, Nat.le_refl _⟩, hd σ H p⟩
def ZKo (X : Cx) (D : ZDt) (σ : St) (H : Hp) : Prop := ∃ d o u, ZHT X d ∧ H d = some (.frz o u) ∧ Mut (some u) ∧ D.nx σ (upd H d u)
def ZPv (X : Cx) (t : TS) : TS := fun D σ H => t { D with nx := fun σ' H' => ZKo X D σ' H' } σ H
theorem ZRJ {st : Stmt} {t : TS} (h : QS X st t) : QS X st (ZPv X t) := by
 refine ⟨?_⟩
 intro pins s σ H D I hq
 refine thn (h.h pins s σ H _ I hq) fun fl s1 hs => ?_
 cases fl with
 | next =>
  obtain ⟨σ', H', I1, d, o, u, nf, hd, hm, q⟩ := hs
  exact ⟨σ', _, I1.thaw hd nf hm, q⟩
 | ret u => exact hs
 | brk => exact hs
 | cont => exact hs
theorem ZKp {t : TS} (h : t { D with nx := fun σ' H' => ZKo X D σ' H' } σ H) : ZPv X t D σ H := h
theorem ZNl {u : HO} (nf : ZHT X d) (hd : H d = some (.frz o u)) (hm : Mut (some u)) (q : ∀ H2, H2 d = some u → Kp d H H2 → D.nx σ H2) : ZKo X D σ H := ⟨d, o, u, nf, hd, hm, q _ ZDN Kp.upd⟩
end
end L2
namespace My
open PySem L2
theorem ZDv {N P : List Str} {sc : Scope} (a : sc.kind = .function := by rfl) (b : sc.isCoroutine = false := by rfl) (c : sc.isGenerator = false := by rfl) (d : N.Nodup := by decide +kernel) (e : N.take P.length = P := by rfl) (f : ∀ x ∈ P, sc.names.lookup x = some .local ∨ sc.names.lookup x = some .cell := by decide +kernel) (g : ∀ y ∈ sc.names, y.2 ≠ .free := by decide +kernel) : ZDL N P sc := ⟨a, b, c, d, e, f, g⟩
theorem qsS {X : Cx} {x : Str} {e : Expr} {te : TE} {pos pos' : Pos} {i : Nat} (hN : X.N.Nodup) (he : QE X e te) (hi : X.N[i]? = some x := by rfl) (hx : Loc X.env.scope x := by first | exact Or.inl rfl | exact Or.inr rfl) (hs : ZEX e = false := by rfl) (hf : X.fn x = true ∨ X.env.scope.names.lookup x = some .local := by first | exact .inl rfl | exact .inr rfl | assumption) : QS X (.Assign [.Name x pos'] e pos) (ZHj te (ZFh i)) := ZQq hN hi hx he hs hf
theorem qgN {X : Cx} {x : Str} {pos : Pos} {i : Nat} (hN : X.N.Nodup) (hi : X.N[i]? = some x := by rfl) (hx : Loc X.env.scope x := by first | exact Or.inl rfl | exact Or.inr rfl) (hf : X.fn x = true ∨ X.env.scope.names.lookup x = some .local := by first | exact .inl rfl | exact .inr rfl | assumption) : QG X (.Name x pos) (ZFh i) := ZIj hN hi hx hf
theorem qcS {X : Cx} {e : Expr} {es : List Expr} {t : TA} {pos p : Pos} {x : Str} {k : Nat} {f : Addr} {fd : FuncData} {ps : List Str} {sp : Sp} (F : ZDI X.prog X.w X.K X.mg X.base CX0 k f fd ps sp) (hr : Room k X.A) (hm : X.mg x = some (.ref f)) (hk : W.keepIn X.K (.ref f) = true) (hb : ZDE X.K fd ps []) (ha : QA X (e :: es) t) (hg : Gl X x := by rfl) (hns : ZDh (e :: es) = true := by rfl) (hdb : (x == ("__debug__" : Str)) = false := by decide) : QE X (.Call (.Name x p) (e :: es) [] pos) (ZHL sp [] E0 t) := ZOo F hr hg hm hk hb .nil ZD2 ha hns hdb
theorem _root_.L2.Room.m {j k : Nat} {A : Around} (r : Room k A) (h : j ≤ k := by decide) : Room j A := r.mono h
local macro_rules | `(tactic| walk_at "l") => `(tactic| (intro vs H Q E h; (repeat (obtain ⟨_, h⟩ := h)); all_goals (subst_vars; rfl)))
local macro_rules | `(tactic| walk_at "w") => `(tactic| repeat walk_at "rd")
local macro_rules | `(tactic| walk_at "s") => `(tactic| simp only [L2.start, List.length_cons, List.length_nil, List.map_cons, List.map_nil, Nat.reduceAdd, Nat.reduceSub, List.replicate_succ, List.replicate_zero, List.cons_append, List.nil_append])
local macro_rules | `(tactic| walk_at "o") => `(tactic| first | exact Or.inl rfl | exact Or.inr rfl)
def top (i : Nat) : Stmt := PySem.Challenge.pw_fourpoints_k81_stores_by_names.main.body.getD i (.Pass ⟨0, 0, 0, 0⟩)
abbrev ZLl : Stmt := top 0
abbrev ZGc : Stmt := top 12
abbrev ZFR : Stmt := top 14
abbrev ZFv : Stmt := top 16
abbrev ZG3 : Stmt := top 17
abbrev ZH5 : Stmt := top 18
abbrev ZFw : Stmt := top 22
abbrev ZFp : Stmt := top 23
abbrev ZFb : Stmt := top 24
abbrev ZHd : Stmt := top 25
abbrev ZJF : Stmt := top 26
abbrev ZDj : Stmt := ZDU (top 27) 0
abbrev ZGd : Stmt := ZDU (top 27) 1
abbrev ZFx : Stmt := ZDU (top 27) 2
abbrev ZFc : Stmt := ZDU (top 27) 3
abbrev ZHe : Stmt := ZDU (top 27) 4
abbrev ZG4 : Stmt := ZDU (top 27) 5
abbrev ZFy : Stmt := ZDU (top 27) 6
abbrev ZDd : Stmt := ZDU (top 29) 0
abbrev ZFz : Stmt := ZDU (top 29) 1
abbrev ZG5 : Stmt := ZDU (top 29) 2
abbrev ZGD : Stmt := ZDU (top 29) 3
abbrev ZEz : Stmt := ZDU (top 29) 4
abbrev ZGe : Stmt := ZDU (top 29) 5
abbrev ZFK : Stmt := ZDU (top 29) 6
abbrev ZG6 : Stmt := ZDU (top 29) 7
abbrev ZGh : Stmt := ZDU (top 29) 8
abbrev ZG7 : Stmt := ZDU (top 29) 9
abbrev ZGi : Stmt := ZDU (top 29) 10
abbrev ZFd : Stmt := ZDU (top 29) 11
abbrev ZGj : Stmt := ZDU (top 29) 12
abbrev ZG8 : Stmt := ZDU (top 29) 13
abbrev ZFq : Stmt := top 33
abbrev ZEq : Stmt := ZDU (top 34) 0
abbrev ZFL : Stmt := ZDU (top 34) 1
abbrev ZFM : Stmt := ZDU (top 34) 2
abbrev ZFr : Stmt := ZDU (top 34) 3
abbrev ZG9 : Stmt := ZDU (top 34) 4
abbrev ZH6 : Stmt := top 36
abbrev ZHA : Stmt := top 37
abbrev ZH7 : Stmt := top 38
abbrev ZHB : Stmt := top 39
abbrev ZF0 : Stmt := top 40
abbrev ZHC : Stmt := top 41
abbrev ZF1 : Stmt := top 42
abbrev ZEo : Stmt := top 43
set_option genInjectivity false in
set_option genSizeOf false in
set_option genSizeOfSpec false in
structure Ad where
 ZBI : Addr
 ZBH : FuncData
 JL : Addr
 JM : FuncData
 JJ : Addr
 JK : FuncData
 Y5 : Addr
 Y3 : FuncData
 Jd : Addr
 Jm : FuncData
 ZAQ : Addr
 ZAL : FuncData
 Y8 : Addr
 Y7 : FuncData
 Yy : Addr
 Yu : FuncData
 Yk : Addr
 Yn : FuncData
 ZAD : Addr
 ZAG : FuncData
 ZAb : Addr
 ZAc : FuncData
 Z2 : Addr
 ZR : FuncData
 JN : Addr
 JP : FuncData
 Y0 : Addr
 Yz : FuncData
 Yi : Addr
 Yl : FuncData
 ZAJ : Addr
 ZAI : FuncData
 J8 : Addr
 JZ : FuncData
 JB : Addr
 Y6 : FuncData
 Zq : Addr
 ZP : FuncData
 JD : Addr
 JC : FuncData
 Jc : Addr
 Js : FuncData
 JG : Addr
 JF : FuncData
 Z6 : Addr
 Z9 : FuncData
 JO : Addr
 JI : FuncData
 YY : Addr
 YV : FuncData
 Jl : Addr
 Jb : FuncData
 JR : Addr
 JW : FuncData
 Ju : Addr
 J6 : FuncData
 JT : Addr
 JS : FuncData
 Yr : Addr
 Yq : FuncData
 JY : Addr
 JX : FuncData
 J5 : Addr
 Jn : FuncData
 Jt : Addr
 Jw : FuncData
 Zs : Addr
 Zp : FuncData
 ZY : Addr
 Za : FuncData
 YZ : Addr
 YS : FuncData
 Yt : Addr
 Yw : FuncData
 Jy : Addr
 Jx : FuncData
 ZAM : Addr
 ZAP : FuncData
 Jq : Addr
 Je : FuncData
 ZAS : Addr
 ZAK : FuncData
 Jh : Addr
 J7 : FuncData
 Y2 : Addr
 Y4 : FuncData
 Ji : Addr
 Jz : FuncData
 Y9 : Addr
 Y1 : FuncData
 ZBV : Addr
 ZBX : FuncData
 ZF : Addr
 ZE : Addr
 ZL : Addr
 ZD : Addr
 ZK : Addr
 ZH : Addr
 ZI : Addr
 ZA : Addr
 ZB : Addr
 ZJ : Addr
 ZC : Addr
 ZG : Addr
 ZBA : Tok
 ZAz : Tok
 ZBf : Tok
 ZAa : Tok
structure Txt (K : W.Frag) (mg : Str → Option Value) (a : Ad) : Prop where
 ZC4 : Fun K "_wall" "_wall" ZLl a.ZBI a.ZBH
 ZC2 : ZDE K a.ZBH ["k"] []
 ZC3 : mg "_wall" = some (.ref a.ZBI)
 ZAW : Fun K "is_whole" "is_whole" ZGc a.JL a.JM
 ZBS : ZDE K a.JM ["thing"] []
 ZBP : mg "is_whole" = some (.ref a.JL)
 ZAT : Fun K "curve_of" "curve_of" ZFR a.JJ a.JK
 ZBa : ZDE K a.JK ["samples"] []
 ZBc : mg "curve_of" = some (.ref a.JJ)
 Zn : Fun K "height_of" "height_of" ZFv a.Y5 a.Y3
 Zc : ZDE K a.Y3 ["sample"] []
 Zb : mg "height_of" = some (.ref a.Y5)
 ZAd : Fun K "four_of" "four_of" ZG3 a.Jd a.Jm
 ZBo : ZDE K a.Jm ["curve"] []
 ZBm : mg "four_of" = some (.ref a.Jd)
 ZAy : Fun K "joined" "joined" ZH5 a.ZAQ a.ZAL
 ZBs : ZDE K a.ZAL ["one", "other"] []
 ZBw : mg "joined" = some (.ref a.ZAQ)
 ZAF : Fun K "is_border" "is_border" ZFw a.Y8 a.Y7
 ZA1 : ZDE K a.Y7 ["thing"] []
 ZBD : mg "is_border" = some (.ref a.Y8)
 ZB6 : Fun K "check_borders" "check_borders" ZFp a.Yy a.Yu
 ZB4 : ZDE K a.Yu ["begin", "end"] []
 ZB2 : mg "check_borders" = some (.ref a.Yy)
 Ym : Fun K "check_time" "check_time" ZFb a.Yk a.Yn
 Jp : ZDE K a.Yn ["t"] []
 Jg : mg "check_time" = some (.ref a.Yk)
 ZCg : Fun K "stretches" "stretches" ZHd a.ZAD a.ZAG
 ZCl : ZDE K a.ZAG ["begin", "end"] []
 ZCh : mg "stretches" = some (.ref a.ZAD)
 ZCz : Fun K "longest" "longest" ZJF a.ZAb a.ZAc
 ZCw : ZDE K a.ZAc ["first", "end"] []
 ZCu : mg "longest" = some (.ref a.ZAb)
 ZAU : ZKJ K "__init__" "Tree.__init__" ZDj a.Z2 a.ZR
 ZAY : ZDE K a.ZR ["self", "curve"] []
 ZBu : ZDE K a.ZR ["self", "curve"] [Value.none]
 ZBx : ZLi K a.ZR ["self", "curve"] "curve"
 ZBd : Fun K "put" "Tree.put" ZGd a.JN a.JP
 ZAX : ZDE K a.JP ["self", "t", "h"] []
 ZAV : ZDu K a.ZF "put" a.JN
 ZA5 : Fun K "take" "Tree.take" ZFx a.Y0 a.Yz
 ZA2 : ZDE K a.Yz ["self", "t"] []
 ZA8 : ZDu K a.ZF "take" a.Y0
 ZAq : Fun K "renew" "Tree.renew" ZFc a.Yi a.Yl
 Ja : ZDE K a.Yl ["self", "t", "four"] []
 Jo : ZDu K a.ZF "renew" a.Yi
 ZCj : Fun K "four" "Tree.four" ZHe a.ZAJ a.ZAI
 ZCi : ZDE K a.ZAI ["self", "begin", "end"] []
 ZCk : ZDu K a.ZF "four" a.ZAJ
 ZCN : Fun K "fours" "Tree.fours" ZG4 a.J8 a.JZ
 ZCW : ZDE K a.JZ ["self", "window"] []
 ZCb : ZDu K a.ZF "fours" a.J8
 ZA9 : Fun K "told" "Tree.told" ZFy a.JB a.Y6
 ZA0 : ZDE K a.Y6 ["self"] []
 ZBC : ZDu K a.ZF "told" a.JB
 ZAN : ZKJ K "__init__" "Store.__init__" ZDd a.Zq a.ZP
 ZBv : ZDE K a.ZP ["self", "curve"] []
 ZAB : ZDE K a.ZP ["self", "curve"] [Value.none]
 ZBr : ZLi K a.ZP ["self", "curve"] "curve"
 ZA4 : Fun K "put" "Store.put" ZFz a.JD a.JC
 ZA3 : ZDE K a.JC ["self", "t", "h"] []
 ZA6 : ZDu K a.ZE "put" a.JD
 ZCQ : Fun K "take" "Store.take" ZG5 a.Jc a.Js
 ZCc : ZDE K a.Js ["self", "t"] []
 ZCO : ZDu K a.ZE "take" a.Jc
 ZB9 : Fun K "height" "Store.height" ZGD a.JG a.JF
 ZCB : ZDE K a.JF ["self", "t"] []
 ZB7 : ZDu K a.ZE "height" a.JG
 ZBO : Fun K "check_sample" "Store.check_sample" ZEz a.Z6 a.Z9
 ZBU : ZDE K a.Z9 ["self", "t"] []
 ZBR : ZDu K a.ZE "check_sample" a.Z6
 ZBW : Fun K "do" "Store.do" ZGe a.JO a.JI
 ZBL : ZDE K a.JI ["self", "t", "h"] []
 ZBK : ZDu K a.ZE "do" a.JO
 ZAk : Fun K "bring" "Store.bring" ZFK a.YY a.YV
 ZAl : ZDE K a.YV ["self", "t", "h"] []
 ZAm : ZDu K a.ZE "bring" a.YY
 ZCT : Fun K "undo" "Store.undo" ZG6 a.Jl a.Jb
 ZCR : ZDE K a.Jb ["self"] []
 ZCf : ZDu K a.ZE "undo" a.Jl
 ZCC : Fun K "times" "Store.times" ZGh a.JR a.JW
 ZCJ : ZDE K a.JW ["self"] []
 ZCE : ZDu K a.ZE "times" a.JR
 ZCe : Fun K "four" "Store.four" ZG7 a.Ju a.J6
 ZCV : ZDE K a.J6 ["self", "begin", "end"] []
 ZCU : ZDu K a.ZE "four" a.Ju
 ZCF : Fun K "fours" "Store.fours" ZGi a.JT a.JS
 ZCK : ZDE K a.JS ["self", "window"] []
 ZCD : ZDu K a.ZE "fours" a.JT
 ZAw : Fun K "told" "Store.told" ZFd a.Yr a.Yq
 Jj : ZDE K a.Yq ["self"] []
 Jk : ZDu K a.ZE "told" a.Yr
 ZCI : Fun K "watch" "Store.watch" ZGj a.JY a.JX
 ZCG : ZDE K a.JX ["self", "window"] []
 ZCH : ZDu K a.ZE "watch" a.JY
 ZCd : Fun K "news" "Store.news" ZG8 a.J5 a.Jn
 ZCP : ZDE K a.Jn ["self", "number"] []
 ZCZ : ZDu K a.ZE "news" a.J5
 J9 : Fun K "is_name" "is_name" ZFq a.Jt a.Jw
 ZAg : ZDE K a.Jw ["thing"] []
 ZAe : mg "is_name" = some (.ref a.Jt)
 ZAR : Fun K "__init__" "Board.__init__" ZEq a.Zs a.Zp
 Yo : ZDE K a.Zp ["self"] []
 JU : Fun K "store" "Board.store" ZFL a.ZY a.Za
 YX : ZDE K a.Za ["self", "name"] []
 YT : ZDu K a.ZL "store" a.ZY
 ZAj : Fun K "names" "Board.names" ZFM a.YZ a.YS
 YW : ZDE K a.YS ["self"] []
 YU : ZDu K a.ZL "names" a.YZ
 ZB1 : Fun K "picture" "Board.picture" ZFr a.Yt a.Yw
 ZB5 : ZDE K a.Yw ["self", "window", "heights"] []
 ZB3 : ZDu K a.ZL "picture" a.Yt
 ZCX : Fun K "kept" "Board.kept" ZG9 a.Jy a.Jx
 ZCL : ZDE K a.Jx ["self", "window"] []
 ZCY : ZDu K a.ZL "kept" a.Jy
 ZAr : Fun K "_law_cell" "_law_cell" ZH6 a.ZAM a.ZAP
 ZBt : ZDE K a.ZAP ["_law_script", "_law_k"] []
 ZBz : mg "_law_cell" = some (.ref a.ZAM)
 ZAh : Fun K "_law_purse" "_law_purse" ZHA a.Jq a.Je
 ZBj : ZDE K a.Je ["_law_cell_here", "_law_k"] []
 ZBp : mg "_law_purse" = some (.ref a.Jq)
 ZW : Fun K "_law_draw" "_law_draw" ZH7 a.ZAS a.ZAK
 Ze : ZDE K a.ZAK ["_law_purse_here", "_law_many"] []
 Zg : mg "_law_draw" = some (.ref a.ZAS)
 ZAf : Fun K "_law_named" "_law_named" ZHB a.Jh a.J7
 ZBh : ZDE K a.J7 ["_law_purse_here"] []
 ZBg : mg "_law_named" = some (.ref a.Jh)
 ZAH : Fun K "_law_no_name" "_law_no_name" ZF0 a.Y2 a.Y4
 ZA7 : ZDE K a.Y4 ["_law_purse_here", "_law_name"] []
 ZBG : mg "_law_no_name" = some (.ref a.Y2)
 ZAi : Fun K "_law_other" "_law_other" ZHC a.Ji a.Jz
 ZBl : ZDE K a.Jz ["_law_e"] []
 ZBn : mg "_law_other" = some (.ref a.Ji)
 ZAE : Fun K "_law_refused" "_law_refused" ZF1 a.Y9 a.Y1
 ZBE : ZDE K a.Y1 ["_law_board", "_law_thing"] []
 ZBB : mg "_law_refused" = some (.ref a.Y9)
 ZCm : Fun K "law" "law" ZEo a.ZBV a.ZBX
 ZC5 : ZDE K a.ZBX ["_law_script"] []
 ZC6 : mg "law" = some (.ref a.ZBV)
 ZM : Cls K a.ZF
 ZCa : mg "Tree" = some (.ref a.ZF)
 ZB8 : Mk K a.ZF a.Z2
 Z3 : ZDy K a.ZF "looks"
 ZU : ZDy K a.ZF "samples"
 ZS : ZDy K a.ZF "kept_fours"
 ZN : Cls K a.ZE
 ZCA : mg "Store" = some (.ref a.ZE)
 ZBy : Mk K a.ZE a.Zq
 Jf : ZDy K a.ZE "tree"
 JV : ZDy K a.ZE "deeds"
 Jr : ZDy K a.ZE "done"
 Yv : ZDy K a.ZE "watches"
 Z1 : Cls K a.ZL
 ZBJ : mg "Board" = some (.ref a.ZL)
 ZAx : Mk K a.ZL a.Zs
 JH : ZDy K a.ZL "stores"
 ZAC : ZEb K a.ZD
 ZBq : ZEM K a.ZD
 ZAA : mg "FourPointsError" = some (.ref a.ZD)
 ZC0 : ZEb K a.ZK
 ZC1 : ZEM K a.ZK
 ZB0 : mg "NoText" = some (.ref a.ZK)
 ZCn : ZEb K a.ZH
 ZCr : ZEM K a.ZH
 ZBZ : mg "NoColumn" = some (.ref a.ZH)
 ZCv : ZEb K a.ZI
 ZCy : ZEM K a.ZI
 ZBe : mg "NotHalf" = some (.ref a.ZI)
 ZCM : ZEb K a.ZA
 ZCS : ZEM K a.ZA
 ZAu : mg "OutOfTimes" = some (.ref a.ZA)
 ZCo : ZEb K a.ZB
 ZCq : ZEM K a.ZB
 ZBM : mg "NoSample" = some (.ref a.ZB)
 ZCx : ZEb K a.ZJ
 ZCt : ZEM K a.ZJ
 ZBi : mg "NoWatch" = some (.ref a.ZJ)
 ZAO : ZEb K a.ZC
 ZAs : ZEM K a.ZC
 ZAp : mg "NoName" = some (.ref a.ZC)
 ZCs : ZEb K a.ZG
 ZCp : ZEM K a.ZG
 ZBT : mg "NotApart" = some (.ref a.ZG)
 ZT : W.subIn K (.ref a.ZA) (.ref a.ZD) = some true
 ZV : W.kitOne K (.ref a.ZA) (.ref a.ZD) = some true
 YI : W.subIn K (.ref a.ZA) (.ref a.ZK) = some false
 YE : W.kitOne K (.ref a.ZA) (.ref a.ZK) = some false
 Zv : W.subIn K (.ref a.ZA) (.ref a.ZH) = some false
 Zw : W.kitOne K (.ref a.ZA) (.ref a.ZH) = some false
 Z5 : W.subIn K (.ref a.ZA) (.ref a.ZI) = some false
 YA : W.kitOne K (.ref a.ZA) (.ref a.ZI) = some false
 Zj : W.subIn K (.ref a.ZA) (.ref a.ZA) = some true
 Zi : W.kitOne K (.ref a.ZA) (.ref a.ZA) = some true
 Zt : W.subIn K (.ref a.ZA) (.ref a.ZB) = some false
 Zu : W.kitOne K (.ref a.ZA) (.ref a.ZB) = some false
 Z8 : W.subIn K (.ref a.ZA) (.ref a.ZJ) = some false
 Z7 : W.kitOne K (.ref a.ZA) (.ref a.ZJ) = some false
 YF : W.subIn K (.ref a.ZA) (.ref a.ZC) = some false
 YG : W.kitOne K (.ref a.ZA) (.ref a.ZC) = some false
 Zz : W.subIn K (.ref a.ZA) (.ref a.ZG) = some false
 Zy : W.kitOne K (.ref a.ZA) (.ref a.ZG) = some false
 ZZ : W.subIn K (.ref a.ZB) (.ref a.ZD) = some true
 ZX : W.kitOne K (.ref a.ZB) (.ref a.ZD) = some true
 Yf : W.subIn K (.ref a.ZB) (.ref a.ZK) = some false
 Yd : W.kitOne K (.ref a.ZB) (.ref a.ZK) = some false
 YC : W.subIn K (.ref a.ZB) (.ref a.ZH) = some false
 YK : W.kitOne K (.ref a.ZB) (.ref a.ZH) = some false
 YO : W.subIn K (.ref a.ZB) (.ref a.ZI) = some false
 YR : W.kitOne K (.ref a.ZB) (.ref a.ZI) = some false
 Zx : W.subIn K (.ref a.ZB) (.ref a.ZA) = some false
 Z0 : W.kitOne K (.ref a.ZB) (.ref a.ZA) = some false
 YL : W.subIn K (.ref a.ZB) (.ref a.ZB) = some true
 YH : W.kitOne K (.ref a.ZB) (.ref a.ZB) = some true
 YN : W.subIn K (.ref a.ZB) (.ref a.ZJ) = some false
 YQ : W.kitOne K (.ref a.ZB) (.ref a.ZJ) = some false
 Yc : W.subIn K (.ref a.ZB) (.ref a.ZC) = some false
 Ye : W.kitOne K (.ref a.ZB) (.ref a.ZC) = some false
 YM : W.subIn K (.ref a.ZB) (.ref a.ZG) = some false
 YJ : W.kitOne K (.ref a.ZB) (.ref a.ZG) = some false
 ZQ : W.subIn K (.ref a.ZC) (.ref a.ZD) = some true
 Zh : W.kitOne K (.ref a.ZC) (.ref a.ZD) = some true
 Yx : W.subIn K (.ref a.ZC) (.ref a.ZK) = some false
 YB : W.kitOne K (.ref a.ZC) (.ref a.ZK) = some false
 Yg : W.subIn K (.ref a.ZC) (.ref a.ZH) = some false
 Zl : W.kitOne K (.ref a.ZC) (.ref a.ZH) = some false
 Yp : W.subIn K (.ref a.ZC) (.ref a.ZI) = some false
 Zr : W.kitOne K (.ref a.ZC) (.ref a.ZI) = some false
 YD : W.subIn K (.ref a.ZC) (.ref a.ZA) = some false
 Zd : W.kitOne K (.ref a.ZC) (.ref a.ZA) = some false
 Yb : W.subIn K (.ref a.ZC) (.ref a.ZB) = some false
 Zm : W.kitOne K (.ref a.ZC) (.ref a.ZB) = some false
 Yj : W.subIn K (.ref a.ZC) (.ref a.ZJ) = some false
 Zo : W.kitOne K (.ref a.ZC) (.ref a.ZJ) = some false
 Ys : W.subIn K (.ref a.ZC) (.ref a.ZC) = some true
 Z4 : W.kitOne K (.ref a.ZC) (.ref a.ZC) = some true
 Ya : W.subIn K (.ref a.ZC) (.ref a.ZG) = some false
 Zk : W.kitOne K (.ref a.ZC) (.ref a.ZG) = some false
 ZBF : mg "TOP_LEVEL" = some (.int 40 a.ZBA)
 JA : mg "TIMES_END" = some (.int 1099511627776 a.ZAz)
 ZBk : mg "LETTERS" = some (.str "abcdefghijklmnopqrstuvwxyz" a.ZBf)
 ZAZ : mg "LONGEST_NAME" = some (.int 8 a.ZAa)
 Jv : mg "ValueError" = none
 ZBb : mg "abs" = none
 ZBY : mg "all" = none
 ZAv : mg "bool" = none
 ZBQ : mg "int" = none
 ZO : mg "isinstance" = none
 JQ : mg "len" = none
 ZAt : mg "list" = none
 ZAo : mg "max" = none
 ZAn : mg "min" = none
 Yh : mg "range" = none
 Zf : mg "sorted" = none
 ZBN : mg "str" = none
 JE : mg "tuple" = none
local macro_rules | `(tactic| walk_at "sd") => `(tactic| first
 | (show (0 : Int) < _; omega)
 | decide
 | exact ZTq (by omega) (by omega)
 | exact ZTr (by omega) (by omega)
 | exact ZHN.of (k := 250) (by omega) (by omega) (by decide)
 | exact Or.inr ⟨by omega, by omega⟩
 | exact Or.inl ⟨by omega, by omega⟩
 | exact ZJr (by omega) (by omega) (by decide))
local macro_rules | `(tactic| walk_at "hp") => `(tactic| first
 | assumption
 | exact ZDN
 | (rw [ZDF (by assumption)]; assumption)
 | (rw [ZDF (Ne.symm (by assumption))]; assumption)
 | (rw [ZDF (by assumption)]; rw [ZDF (by assumption)]; assumption))
local macro_rules | `(tactic| walk_at "rd") => `(tactic| first
 | with_reducible first | refine ZSP ?_ | refine ZQ9 ?_ | refine ZPH ?_ | refine ZNZ ?_ | refine ZS3 ?_ | refine ZPE ?_ | refine ZPD ?_ | refine ZTj ?_ | refine ZPK ?_ | refine ZOx ?_ | refine ZQ1 ?_ | refine ZO1 ?_ | refine ZO2 ?_ | refine ZO3 ?_ | refine ZNN ?_ | refine ZNQ ?_ | refine ZMQ ?_ | refine ZLA ?_ | refine ZLB ?_ | refine ZKG ?_ | refine ZSw ?_ | refine ZQx ?_ | refine ZOy ?_ | refine ZOz ?_ | refine ZSQ ?_ | refine ZQS ?_ | refine ZQT ?_ | refine ZSR ?_ | refine ZOj ?_ | refine ZQU ?_ | refine ZOk ?_ | refine ZQV ?_ | refine ZSS ?_ | refine ZQW ?_ | refine ZTt ?_ | refine ZST ?_ | refine ZTZ ?_ | refine ZSU ?_ | refine ZQX ?_ | refine ZQY ?_ | refine ZTa ?_
 | ((with_reducible refine' ZSV ?e ?_); (case e => rfl))
 | with_reducible first | refine ZTu ?_ | refine ZTb ?_ | refine ZTc ?_ | refine ZTd ?_
 | ((with_reducible refine ZSW (C := ZOH) ?c ?_); (case c => exact ZJr (by decide) (by decide) (by decide)); (simp only [Int.reduceToNat, Int.reducePow]))
 | ((with_reducible refine ZSW ?c ?_); (case c => walk_at "sd"))
 | with_reducible first | refine ZTv ?_ | refine ZSX ?_ | refine ZTe ?_ | refine ZQZ ?_ | refine ZQa ?_ | refine ZSY ?_ | refine ZSZ ?_ | refine ZSa ?_ | refine ZOm ?_ | refine ZQl ?_ | refine ZHq ?_ | refine ZSc ?_ | refine ZSd ?_ | refine ZSe ?_ | refine ZTw ?_ | refine ZTf ?_ | refine ZM8 ?_ | refine ZQh ?_ | refine ZSg ?_ | refine ZQf ?_
 | ((with_reducible refine' ZQd ?s ?_); (case s => first | assumption | exact SqL.of (by assumption)))
 | ((with_reducible refine' ZQe ?s ?_); (case s => first | assumption | exact SqT.of (by assumption)))
 | with_reducible first | refine ZSb ?_ | refine ZQc ?_ | refine ZQj ?_ | refine ZTg ?_ | refine ZQk ?_ | refine ZOn ?_
 | ((with_reducible refine' ZSk ?s ?_); (case s => first | assumption | exact SqT.of (by assumption)))
 | ((with_reducible refine' ZSl ?s ?_); (case s => first | assumption | exact SqL.of (by assumption)))
 | ((with_reducible refine' ZIL ?s ?e ?_); (case s => exact SqL.of (by assumption)); (case e => rfl))
 | ((with_reducible refine' ZJs ?s ?e ?_); (case s => first | assumption | exact SqT.of (by assumption)); (case e => rfl))
 | ((with_reducible refine' ZQg ?s ?e ?_); (case s => first | assumption | exact SqT.of (by assumption)); (case e => rfl)))
local macro_rules | `(tactic| walk_at "ri") => `(tactic| ((fail_if_success with_reducible refine ZNd ?_); walk_at "rd"))
theorem ZNm (K : W.Frag) : W.kitOne K (.type "int") (.type "int") = some true := by kernel_rfl
theorem ZMY (K : W.Frag) : W.kitOne K (.type "int") (.type "bool") = some false := by kernel_rfl
def Pur (H : Hp) (p : Addr) : Prop := ∃ x n c : Int, H p = some (.lst [.int x, .int n, .int c]) ∧ 0 ≤ x ∧ 0 ≤ c ∧ c < 4294967296
theorem Pur.same {H H' : Hp} {p : Addr} (h : Pur H p) (s : ZDC H H') : Pur H' p := by
 obtain ⟨x, n, c, h, r⟩ := h
 exact ⟨x, n, c, s _ _ h, r⟩
theorem Pur.neN {H : Hp} {p l : Addr} (h : Pur H p) (hl : H l = none) : l ≠ p := by
 obtain ⟨x, n, c, h, r⟩ := h
 exact (ZDR h hl).symm
theorem Pur.ne_dk {H : Hp} {p l : Addr} {kvs : List (Key × V)} (h : Pur H p) (hl : H l = some (.dK kvs)) : l ≠ p := by
 obtain ⟨x, n, c, h, r⟩ := h
 intro e; subst e; rw [h] at hl; cases hl
def ZTE (K : W.Frag) : Sp := fun vs H Q _ => ∃ (s : Addr) (ns : List Int) (k : Int), vs = [.ref s, .int k] ∧ SqL K H s (ns.map V.int) ∧ 0 ≤ k ∧ Q (.int (ns.getD k.toNat 0)) H
def ZRK : Sp := fun vs H Q _ => ∃ c k : Int, vs = [.int c, .int k] ∧ 0 ≤ k ∧ k ≤ 100 ∧ ∀ (p : Addr) (H' : Hp), H p = none → Pur H' p → ZDC H H' → Q (.ref p) H'
def ZTF : Sp := fun vs H Q _ => ∃ (p : Addr) (n : Int), vs = [.ref p, .int n] ∧ Pur H p ∧ 0 < n ∧ n < 2 ^ 250 ∧ ∀ (d : Int) (H' : Hp), 0 ≤ d → d < n → Pur H' p → Kp p H H' → Q (.int d) H'
section
variable {P : Program} {w : World} {K : W.Frag} {mg : Str → Option Value} {base : Heap} {a : Ad}
theorem ZNn : ZDL ["_law_script", "_law_k"] ["_law_script", "_law_k"] (ZC9 ZH6) := ZDv
theorem ZNo (T : Txt K mg a) : ZDI P w K mg base CX0 1 a.ZAM a.ZAP ["_law_script", "_law_k"] (ZTE K) := by
 refine T.ZAr.ok ZNn (by walk_at "l") (fun cdv A outer s H vs Q E hr h => ?_)
 ·obtain ⟨p, ns, k, rfl, hS, hk, q⟩ := h
  refine ⟨_, QB.h (ZDD (ZDT (ZGN (ZDm (ZTV) (qv 1) (ZDX (ZIP K rfl) rfl T.JQ ZGp (ZC7 (qv 0) ZC8)) (ZDx _)) (ZDn (ZEJ K rfl) (qv 0) (qv 1)) ZDB))), ?_⟩
  walk_at "s"
  walk_at "w"
  rw [List.length_map]
  refine ZEZ (fun h => ?_) (fun h => ?_)
  ·walk_at "w"
   obtain ⟨n, rfl⟩ : ∃ n : Nat, k = (n : Int) := ⟨k.toNat, by omega⟩
   have hk2 : n < ns.length := by omega
   refine ZIL (v := .int (ns.getD n 0)) hS (ZF4 ?_) q
   rw [List.getElem?_map, List.getElem?_eq_getElem hk2]
   simp [List.getD, hk2]
  ·walk_at "w"
   have e : ns.getD k.toNat 0 = 0 := by
    rw [List.getD, List.getElem?_eq_none (by omega)]
    rfl
   rw [e] at q
   exact q
theorem ZMZ : ZDL ["_law_cell_here", "_law_k"] ["_law_cell_here", "_law_k"] (ZC9 ZHA) := ZDv
theorem ZMa (T : Txt K mg a) : ZDI P w K mg base CX0 1 a.Jq a.Je ["_law_cell_here", "_law_k"] ZRK := by
 refine T.ZAh.ok ZMZ (by walk_at "l") (fun cdv A outer s H vs Q E hr h => ?_)
 ·obtain ⟨c, n, rfl, hn, hn2, k⟩ := h
  refine ⟨_, QB.h (ZDA (ZEF (ZDm (ZPf) (qv 0) (ZDP ZMq ZDB ZDB) (ZDx _)) (ZDD (ZDT (ZEl (ZC7 (qv 0) (ZC7 ZDB (ZC7 (ZDP ZEw (ZDP ZEV ZDB (qv 1)) ZDB) ZC8)))))) ZDw) (ZDD (ZDT (ZEl (ZC7 ZDB (ZC7 ZDB (ZC7 (ZDP ZF2 (ZDP ZEw (ZDP ZEw (ZDP ZEw (ZDP ZEV (ZDP ZF2 (ZDX ZSL rfl T.ZBb ZSE (ZC7 (qv 0) ZC8)) (ZDP ZMq ZDB ZDB)) ZDB) (ZDP ZEV (ZDP ZEV ZDB (qv 1)) (qv 1))) (ZDP ZEV ZDB (qv 1))) ZDB) ZDB) ZC8))))))), ?_⟩
  walk_at "s"
  walk_at "w"
  refine ZEZ (fun h => ?_) (fun h => ?_)
  ·walk_at "w"
   refine ZDZ (by show 3 ≤ sizeLine; decide) fun p H2 hp f2 S2 => ?_
   exact k p H2 hp ⟨_, _, _, f2, by omega, by omega, by omega⟩ S2
  ·walk_at "w"
   refine ZDZ (by show 3 ≤ sizeLine; decide) fun p H2 hp f2 S2 => ?_
   refine k p H2 hp ⟨_, _, _, f2, by omega, Int.emod_nonneg _ (by decide), ?_⟩ S2
   exact Int.lt_of_lt_of_le (Int.emod_lt_of_pos _ (by decide)) (by decide)
theorem ZJG : ZDL ["_law_purse_here", "_law_many", "_law_digit"] ["_law_purse_here", "_law_many"] (ZC9 ZH7) := ZDv
theorem ZEP (T : Txt K mg a) : ZDI P w K mg base CX0 1 a.ZAS a.ZAK ["_law_purse_here", "_law_many"] ZTF := by
 refine T.ZW.ok ZJG (by walk_at "l") (fun cdv A outer s H vs Q E hr h => ?_)
 ·obtain ⟨p, n, rfl, ⟨x, m, y, hp, hx, hy, hy2⟩, hn, hn2, k⟩ := h
  have hdiv : ∀ i : Int, ZHN i n := fun i => ZHN.of (k := 250) hn hn2 (by decide)
  refine ⟨_, QB.h (ZDA (ZEF (ZDm (ZTW) (ZDn (ZEJ K rfl) (qv 0) ZDB) ZDB (ZDx _)) (ZDA (qsS (i := 2) ZJG.nd (ZDP ZF2 (ZDn (ZEJ K rfl) (qv 0) ZDB) (qv 1))) (ZDA (ZJy (ZDP ZHo (ZDn (ZEJ K rfl) (qv 0) ZDB) (qv 1)) (ZJx (qv 0) ZDB ZHm)) (ZDD (ZDT (qv 2))))) ZDw) (ZDA (ZJy (ZDP ZEw (ZDn (ZEJ K rfl) (qv 0) ZDB) ZDB) (ZJx (qv 0) ZDB ZHm)) (ZDA (ZJy (ZDP ZF2 (ZDP ZEw (ZDP ZEV (ZDn (ZEJ K rfl) (qv 0) ZDB) ZDB) (ZDP ZEV ZDB (ZDn (ZEJ K rfl) (qv 0) ZDB))) ZDB) (ZJx (qv 0) ZDB ZHm)) (ZDD (ZDT (ZDP ZF2 (ZDP ZHo (ZDP ZF2 (ZDP ZEV (ZDn (ZEJ K rfl) (qv 0) ZDB) (ZDn (ZEJ K rfl) (qv 0) ZDB)) ZDB) ZDB) (qv 1))))))), ?_⟩
  walk_at "s"
  walk_at "w"
  refine ZEZ (fun h => ?_) (fun h => ?_)
  ·walk_at "w"
   refine ZQb hp (by rfl) ?_
   walk_at "w"
   exact k _ _ (Int.emod_nonneg _ (by omega)) (Int.emod_lt_of_pos _ hn) ⟨_, _, _, ZDN, Int.ediv_nonneg hx (by omega), hy, hy2⟩ Kp.upd
  ·walk_at "w"
   refine ZLW hp (by rfl) fun H2 f2 K2 => ?_
   have f2 : H2 p = some (.lst [V.int x, V.int (m + 1), V.int y]) := f2
   walk_at "w"
   refine ZLW f2 (by rfl) fun H3 f3 K3 => ?_
   generalize hz : (y * 39373 + 8191 * (m + 1)) % 2147483587 = z at f3
   have h0 : 0 ≤ z := by rw [← hz]; exact Int.emod_nonneg _ (by decide)
   have h1 : z < 2147483587 := by rw [← hz]; exact Int.emod_lt_of_pos _ (by decide)
   have f3 : H3 p = some (.lst [V.int x, V.int (m + 1), V.int z]) := f3
   walk_at "w"
   refine k _ _ (Int.emod_nonneg _ (by omega)) (Int.emod_lt_of_pos _ hn) ⟨_, _, _, f3, hx, h0, by omega⟩ ?_
   exact fun q o e nq => K3 q o (K2 q o e nq) nq
def ZNp (K : W.Frag) : Sp := fun vs H Q _ => ∃ (b : Bool) (l : Addr) (us : List V) (prs : PL), vs = [.ref l] ∧ SQ b H l us ∧ ZDK H us prs ∧ prs.length < 64 ∧
 ∀ (t : Addr) (cv : PL) (H' : Hp), PrT H' t cv → ZIk (ZES prs) cv → cv.length ≤ prs.length → ZDC H H' → Q (.ref t) H'
theorem ZJH (l : PL) (p : Int × Int) : ZES (l ++ [p]) = ZDo (ZES l) p.1 p.2 := by
 unfold ZES
 rw [List.foldl_append]
 rfl
theorem ZFC : ZDL ["samples", "heights", "t", "h"] ["samples"] (ZC9 ZFR) := ZDv
theorem ZLF (T : Txt K mg a) : ZDI P w K mg base CX0 1 a.JJ a.JK ["samples"] (ZNp K) := by
 refine T.ZAT.ok ZFC (by walk_at "l") (fun cdv A outer s H vs Q E hr h => ?_)
 ·obtain ⟨b, l, us, prs, rfl, hL, hP, hlen, k⟩ := h
  have hu := ZHM hr
  have hm := ZKB prs
  refine ⟨_, QB.h (ZDA (qsS (i := 1) ZFC.nd ZE5) (ZDA (ZFa PassesOwn.never rfl (ZSy K rfl (qv 0)) (ZNB (n := 2) K rfl rfl (ZGP (qgN (i := 2) ZFC.nd) (ZGP (qgN (i := 3) ZFC.nd) ZLZ))) (ZDD (ZFV hu (qv 3) (qv 1) (qv 2)))) (ZDD (ZDT (ZGO (ZHr K rfl) rfl T.JE ZHp (ZC7 (ZLa (N := ["samples", "heights", "t", "h"]) (sc := ZC9 ZFR) (own := ["t"]) (caps := ["heights"]) (ks := [1]) rfl rfl rfl ⟨rfl, by decide +kernel, by decide +kernel, by decide +kernel, by decide +kernel, rfl, by decide +kernel⟩ (ZQr K rfl (ZDX (ZMG rfl) rfl T.Zf ZFF (ZC7 (qv 1) ZC8))) (fun _ _ _ _ _ => ZIj (i := 0) (show List.Nodup (α := Str) ["t", "heights"] from by decide +kernel) rfl (by walk_at "o") (.inr rfl)) (fun _ _ _ _ _ => ZJw) (fun _ _ _ _ _ => ZEI (ZC7 (qv 0) (ZC7 (ZF7 hu (qv 1) (qv 0)) ZC8)))) ZC8)))))), ?_⟩
  walk_at "s"
  walk_at "w"
  refine ZHu fun d H0 n0 f0 S0 => ?_
  walk_at "w"
  refine ZQy (b := b) (xs := us) (fun i σ H' => (∃ v2 v3, σ = [some (.ref l), some (.ref d), v2, v3]) ∧ ZDC H H' ∧ H' d = some (.dK (ZDW (ZES (prs.take i))))) (hL.same S0) ?_ (fun i σ H' _ h => hL.same h.2.1) ?_ ?_
  ·exact ⟨⟨_, _, rfl⟩, S0, f0⟩
  ·rintro i x σ H1 hx ⟨⟨v2, v3, rfl⟩, S1, f1⟩
   obtain ⟨c, p, rfl, hp, hc⟩ := (hP.same S1).at hx
   have e3 : prs.take (i + 1) = prs.take i ++ [p] := by
    rw [List.take_succ, hp]
    rfl
   walk_at "w"
   refine ZHt f1 ?_ fun H2 f2 K2 => ?_
   ·exact Nat.lt_of_le_of_lt (ZKB _) (Nat.lt_of_le_of_lt (by rw [List.length_take]; exact Nat.min_le_right _ _) (Nat.lt_of_lt_of_le hlen (by decide)))
   walk_at "w"
   refine ⟨⟨_, _, rfl⟩, S1.kpN n0 K2, ?_⟩
   rw [e3, ZJH]
   exact f2
  ·rintro σ H1 ⟨⟨v2, v3, rfl⟩, S1, f1⟩
   rw [hP.length, List.take_length] at f1
   walk_at "w"
   refine ZMH f1 (by omega) fun l2 H2 ns n2 f2 hp hs S2 => ?_
   have hnl : ns.length = (ZES prs).length := by have := hp.length_eq; simpa using this
   walk_at "w"
   intro l3 n3
   have S23 : ZDC H2 (upd H2 l3 (.lst [])) := ZDC.new n3
   refine ZLY ns.length (fun i σ' H' => (∃ o, σ' = [o, some (.ref d)]) ∧ ZDC H2 H' ∧ ∃ vs, H' l3 = some (.lst vs) ∧ ZDK H' vs ((ZEL (ZES prs) ns).take i)) ?_ ?_ ?_
   ·exact ⟨⟨none, rfl⟩, S23, [], ZDN, .nil⟩
   ·rintro σ H' ⟨_, s, vs, f3, hPc⟩
    refine ⟨⟨_, SqL.of (s _ _ f2), by simp⟩, ?_⟩
    walk_at "w"
    refine ZIh (SqL.of f3) fun t H4 n4 f4 S4 => ?_
    have ecv : (ZEL (ZES prs) ns).take ns.length = ZEL (ZES prs) ns := List.take_of_length_le (by simp [ZEL])
    rw [ecv] at hPc
    exact k t _ H4 ⟨vs, f4, hPc.same S4⟩ (ZMI (ZGW prs) hp hs) (by unfold ZEL; rw [List.length_map, hnl]; exact hm) (((S1.trans S2).trans s).trans S4)
   ·rintro i σ H' hi ⟨⟨o, rfl⟩, s, vs, f3, hPc⟩
    have hi2 : i < (ns.map V.int).length := by simpa using hi
    refine ⟨⟨_, _, SqL.of (s _ _ f2), List.getElem?_eq_getElem hi2⟩, ?_⟩
    rintro u H'' ⟨rfl, hu'⟩
    have hu' := hu' _ (SqL.of (s _ _ f2))
    have eu : u = .int ns[i] := by
     rw [List.getElem?_map, List.getElem?_eq_getElem hi] at hu'
     simpa using hu'.symm
    subst eu
    walk_at "w"
    refine ZE1 ?_
    walk_at "w"
    have hmem : ns[i] ∈ (ZES prs).map (·.1) := hp.mem_iff.mp (List.getElem_mem hi)
    obtain ⟨x, hx⟩ : ∃ x, ZDi (ZES prs) ns[i] = some x := by
     cases hg : ZDi (ZES prs) ns[i] with
     | none => exact absurd hmem (ZFm.mp hg)
     | some x => exact ⟨x, rfl⟩
    refine ZJ9 (s _ _ (S2 _ _ f1)) hx ?_
    walk_at "w"
    refine ZDZ (by show 2 ≤ sizeLine; decide) fun t H4 n4 f4 S4 => ?_
    have f34 := S4 _ _ f3
    refine ⟨vs, f34, ?_, ⟨_, rfl⟩, ?_, ?_⟩
    ·have e := hPc.length
     rw [e, List.length_take]
     exact Nat.lt_of_le_of_lt (Nat.min_le_left _ _) (Nat.lt_of_lt_of_le hi (by rw [hnl]; exact Nat.le_of_lt (Nat.lt_of_le_of_lt hm (Nat.lt_of_lt_of_le hlen (by decide)))))
    ·exact (s.trans S4).kpN (l := l3) n3 Kp.upd
    ·refine ⟨_, ZDN, ?_⟩
     have e3 : (ZEL (ZES prs) ns).take (i + 1) = (ZEL (ZES prs) ns).take i ++ [(ns[i], x)] := by
      rw [List.take_succ]
      congr 1
      simp [ZEL, List.getElem?_eq_getElem hi, hx]
     rw [e3]
     exact ZDK.kpL Kp.upd f34 ((hPc.same S4).snoc f4)
def ZKq : Sp := fun vs H Q _ => ∃ (c : Addr) (x y : Int), vs = [.ref c] ∧ H c = some (.tup [.int x, .int y]) ∧ Q (.int y) H
theorem ZKr : ZDL ["sample"] ["sample"] (ZC9 ZFv) := ZDv
theorem ZEN (T : Txt K mg a) : ZDI P w K mg base CX0 1 a.Y5 a.Y3 ["sample"] ZKq := by
 refine T.Zn.ok ZKr (by walk_at "l") (fun cdv A outer s H vs Q E hr h => ?_)
 ·obtain ⟨c, x, y, rfl, hc, q⟩ := h
  refine ⟨_, QB.h (ZDD (ZDT (ZDn (ZEB K rfl) (qv 0) ZDB))), ?_⟩
  walk_at "s"
  walk_at "w"
  exact q
def ZPS (K : W.Frag) : Sp := fun vs H Q _ => ∃ (v1 v2 : V) (o1 o2 : Option (PL)) (c1 c2 : PL), vs = [v1, v2] ∧ ZD9 H v1 o1 ∧ Is4 c1 o1 ∧ ZD9 H v2 o2 ∧ Is4 c2 o2 ∧ (∀ p ∈ c1, ∀ q ∈ c2, p.1 < q.1) ∧
 ∀ (v : V) (o : Option (PL)) (H' : Hp), ZD9 H' v o → Is4 (c1 ++ c2) o → ZDC H H' → Q v H'
theorem ZJI {H : Hp} {v : V} {c : PL} {qs : PL} (h : ZD9 H v (some qs)) (g : Is4 c (some qs)) : ∃ (l : Addr) (q0 q1 q2 q3 : Int × Int) (a0 a1 a2 a3 : Addr), v = .ref l ∧ qs = [q0, q1, q2, q3] ∧ H l = some (.tup [.ref a0, .ref a1, .ref a2, .ref a3]) ∧
  H a0 = some (.tup [.int q0.1, .int q0.2]) ∧ H a1 = some (.tup [.int q1.1, .int q1.2]) ∧ H a2 = some (.tup [.int q2.1, .int q2.2]) ∧ H a3 = some (.tup [.int q3.1, .int q3.2]) := by
 cases h with
 | @pr l qs h hl =>
  obtain ⟨us, f, hP⟩ := h
  rcases g with ⟨e, _⟩ | ⟨q0, q1, q2, q3, e, _⟩
  ·cases e
  ·cases e
   cases hP with
   | cons h0 t => cases t with
    | cons h1 t => cases t with
     | cons h2 t => cases t with
      | cons h3 t =>
       cases t
       obtain ⟨a0, rfl, e0⟩ := h0
       obtain ⟨a1, rfl, e1⟩ := h1
       obtain ⟨a2, rfl, e2⟩ := h2
       obtain ⟨a3, rfl, e3⟩ := h3
       exact ⟨l, q0, q1, q2, q3, a0, a1, a2, a3, rfl, rfl, f, e0, e1, e2, e3⟩
theorem ZHD : ZDL ["one", "other", "lowest", "highest"] ["one", "other"] (ZC9 ZH5) := ZDv
theorem ZNq (T : Txt K mg a) : ZDI P w K mg base CX0 2 a.ZAQ a.ZAL ["one", "other"] (ZPS K) := by
 refine T.ZAy.ok ZHD (by walk_at "l") (fun cdv A outer s H vs Q E hr h => ?_)
 ·obtain ⟨v1, v2, o1, o2, c1, c2, rfl, h1, g1, h2, g2, hlt, k⟩ := h
  refine ⟨_, QB.h (ZDA (ZEF (ZDm (ZJq) (qv 0) ZFZ (ZDx _)) (ZDD (ZDT (qv 1))) ZDw) (ZDA (ZEF (ZDm (ZJq) (qv 1) ZFZ (ZDx _)) (ZDD (ZDT (qv 0))) ZDw) (ZDA (qsS (i := 2) ZHD.nd (ZGN (ZDm (ZIE) (qcS (ZEN T) hr T.Zb T.Zn.kp T.Zc (ZC7 (ZDn (ZEB K rfl) (qv 0) ZDB) ZC8)) (qcS (ZEN T) hr T.Zb T.Zn.kp T.Zc (ZC7 (ZDn (ZEB K rfl) (qv 1) ZDB) ZC8)) (ZDx _)) (ZDn (ZEB K rfl) (qv 0) ZDB) (ZDn (ZEB K rfl) (qv 1) ZDB))) (ZDA (qsS (i := 3) ZHD.nd (ZGN (ZDm (ZPf) (qcS (ZEN T) hr T.Zb T.Zn.kp T.Zc (ZC7 (ZDn (ZEB K rfl) (qv 0) ZDB) ZC8)) (qcS (ZEN T) hr T.Zb T.Zn.kp T.Zc (ZC7 (ZDn (ZEB K rfl) (qv 1) ZDB) ZC8)) (ZDx _)) (ZDn (ZEB K rfl) (qv 0) ZDB) (ZDn (ZEB K rfl) (qv 1) ZDB))) (ZDD (ZDT (ZEI (ZC7 (ZDn (ZEB K rfl) (qv 0) ZDB) (ZC7 (ZDn (ZEB K rfl) (qv 1) ZDB) (ZC7 (qv 2) (ZC7 (qv 3) ZC8))))))))))), ?_⟩
  walk_at "s"
  walk_at "w"
  cases o1 with
  | none =>
   cases h1
   refine ZEZ (fun _ => ?_) (fun h => absurd rfl h)
   walk_at "w"
   refine k v2 o2 H h2 ?_ (ZDC.refl H)
   rw [g1.of_none, List.nil_append]
   exact g2
  | some qs1 =>
   obtain ⟨l1, q0, q1, q2, q3, a0, a1, a2, a3, rfl, rfl, f1, e0, e1, e2, e3⟩ := ZJI h1 g1
   refine ZEZ (fun h => by cases h) (fun _ => ?_)
   walk_at "w"
   cases o2 with
   | none =>
    cases h2
    refine ZEZ (fun _ => ?_) (fun h => absurd rfl h)
    walk_at "w"
    refine k (.ref l1) _ H h1 ?_ (ZDC.refl H)
    rw [g2.of_none, List.append_nil]
    exact g1
   | some qs2 =>
    obtain ⟨l2, r0, r1, r2, r3, b0, b1, b2, b3, rfl, rfl, f2, d0, d1, d2, d3⟩ := ZJI h2 g2
    refine ZEZ (fun h => by cases h) (fun _ => ?_)
    walk_at "w"
    refine ⟨a2, _, _, rfl, e2, ?_⟩
    walk_at "w"
    refine ⟨b2, _, _, rfl, d2, ?_⟩
    walk_at "w"
    have J := g1.join g2 hlt
    have fin : ∀ (x y : Addr) (p2 p3 : Int × Int), H x = some (.tup [.int p2.1, .int p2.2]) → H y = some (.tup [.int p3.1, .int p3.2]) → Is4 (c1 ++ c2) (some [q0, r1, p2, p3]) → ∀ l H', H l = none → H' l = some (.tup [.ref a0, .ref b1, .ref x, .ref y]) → ZDC H H' → Q (.ref l) H' := fun x y p2 p3 hx hy J l H' n' f' S' =>
     k (.ref l) _ H' (.pr ⟨_, f', .cons ⟨a0, rfl, S' _ _ e0⟩ (.cons ⟨b1, rfl, S' _ _ d1⟩ (.cons ⟨x, rfl, S' _ _ hx⟩ (.cons ⟨y, rfl, S' _ _ hy⟩ .nil)))⟩ rfl) J S'
    have part2 : ∀ (x : Addr) (p2 : Int × Int), True := fun _ _ => trivial
    refine ZEZ (fun hl => ?_) (fun hl => ?_)
    ·walk_at "w"
     refine ⟨a3, _, _, rfl, e3, ?_⟩
     walk_at "w"
     refine ⟨b3, _, _, rfl, d3, ?_⟩
     walk_at "w"
     refine ZEZ (fun hh => ?_) (fun hh => ?_)
     ·walk_at "w"
      rw [if_pos hl, if_pos hh] at J
      exact ZDZ (by show 4 ≤ sizeLine; decide) fun l H' n' f' S' => fin _ _ _ _ e2 e3 J l H' n' f' S'
     ·walk_at "w"
      rw [if_pos hl, if_neg hh] at J
      exact ZDZ (by show 4 ≤ sizeLine; decide) fun l H' n' f' S' => fin _ _ _ _ e2 d3 J l H' n' f' S'
    ·walk_at "w"
     refine ⟨a3, _, _, rfl, e3, ?_⟩
     walk_at "w"
     refine ⟨b3, _, _, rfl, d3, ?_⟩
     walk_at "w"
     refine ZEZ (fun hh => ?_) (fun hh => ?_)
     ·walk_at "w"
      rw [if_neg hl, if_pos hh] at J
      exact ZDZ (by show 4 ≤ sizeLine; decide) fun l H' n' f' S' => fin _ _ _ _ d2 e3 J l H' n' f' S'
     ·walk_at "w"
      rw [if_neg hl, if_neg hh] at J
      exact ZDZ (by show 4 ≤ sizeLine; decide) fun l H' n' f' S' => fin _ _ _ _ d2 d3 J l H' n' f' S'
theorem ZRL {xs : List V} {v : V} (h : xs[xs.length - 1]? = some v) : atI xs (-1) = some v := by
 have hlt := (List.getElem?_eq_some_iff.mp h).1
 unfold atI ixN
 rw [if_neg (by decide), if_pos (by omega)]
 have : ((-1 : Int) + (xs.length : Int)).toNat = xs.length - 1 := by omega
 rw [this]
 exact h
def ZPT (K : W.Frag) : Sp := fun vs H Q _ => ∃ (l : Addr) (cv : PL), vs = [.ref l] ∧ PrT H l cv ∧ Asc cv ∧
 ∀ (v : V) (o : Option (PL)) (H' : Hp), ZD9 H' v o → Is4 cv o → ZDC H H' → Q v H'
theorem ZMb : ZDL ["curve"] ["curve"] (ZC9 ZG3) := ZDv
theorem ZMc (T : Txt K mg a) : ZDI P w K mg base CX0 3 a.Jd a.Jm ["curve"] (ZPT K) := by
 refine T.ZAd.ok ZMb (by walk_at "l") (fun cdv A outer s H vs Q E hr h => ?_)
 ·obtain ⟨l, cv, rfl, ⟨us, gL, pL⟩, hasc, k⟩ := h
  have hul : us.length = cv.length := pL.length
  refine ⟨_, QB.h (ZDA (ZEF (ZDm (ZLw) (ZDX (ZIP K rfl) rfl T.JQ ZGp (ZC7 (qv 0) ZC8)) ZDB (ZDx _)) (ZDD (ZDT ZFZ)) ZDw) (ZDD (ZDT (ZEI (ZC7 (ZDn (ZEB K rfl) (qv 0) ZDB) (ZC7 (ZDn (ZEB K rfl) (qv 0) (ZPm ZMr ZDB)) (ZC7 (ZML K rfl rfl (ZEN T) hr rfl T.ZAn rfl T.Zb T.Zc (ZC7 (qv 0) ZC8)) (ZC7 (ZMN K rfl rfl (ZEN T) hr rfl T.ZAo rfl T.Zb T.Zc (ZC7 (qv 0) ZC8)) ZC8)))))))), ?_⟩
  walk_at "s"
  walk_at "w"
  refine ZEZ (fun h => ?_) (fun h => ?_)
  ·walk_at "w"
   have : cv = [] := List.length_eq_zero_iff.mp (by have h := V.int.inj h; omega)
   exact k _ none H .non (.inl ⟨rfl, this⟩) (ZDC.refl H)
  ·have hpos : 0 < us.length := by
    rcases Nat.eq_zero_or_pos us.length with z | z
    ·exact absurd (by rw [z]; rfl) h
    ·exact z
   have hne : us ≠ [] := List.length_pos_iff.mp hpos
   obtain ⟨c0, q0, ec0, hq0, hc0⟩ := pL.at (List.getElem?_eq_getElem hpos)
   obtain ⟨c1, q1, ec1, hq1, hc1⟩ := pL.at (List.getElem?_eq_getElem (show us.length - 1 < us.length by omega))
   have hx0 : us[0]? = some (.ref c0) := by rw [List.getElem?_eq_getElem hpos, ec0]
   have hx1 : us[us.length - 1]? = some (.ref c1) := by rw [List.getElem?_eq_getElem (show us.length - 1 < us.length by omega), ec1]
   have turn : ∀ i v, us[i]? = some v → ∀ Q : VK, Q (.int (cv.getD i (0, 0)).2) H → ZKq [v] H Q E0 := fun i v hv Q q => by
    obtain ⟨c, p, rfl, hp, hc⟩ := pL.at hv
    have e : cv.getD i (0, 0) = p := by simp [hp]
    rw [e] at q
    exact ⟨c, p.1, p.2, rfl, hc, q⟩
   walk_at "w"
   refine ZJs (SqT.of gL) (ZF4 (j := 0) hx0) ?_
   walk_at "w"
   refine ZJs (SqT.of gL) (ZRL hx1) ?_
   walk_at "w"
   refine ZMM (fun i => (cv.getD i (0, 0)).2) (SqT.of gL) hne turn fun i2 v2 hv2 hb2 => ?_
   walk_at "w"
   refine ZMO (fun i => (cv.getD i (0, 0)).2) (SqT.of gL) hne turn fun i3 v3 hv3 hb3 => ?_
   obtain ⟨c2, q2, rfl, hq2, hc2⟩ := pL.at hv2
   obtain ⟨c3, q3, rfl, hq3, hc3⟩ := pL.at hv3
   walk_at "w"
   refine ZDZ (by show 4 ≤ sizeLine; decide) fun c4 H4 n4 f4 S4 => ?_
   have hP4 : ZDK H4 [.ref c0, .ref c1, .ref c2, .ref c3] [q0, q1, q2, q3] := .cons ⟨c0, rfl, S4 _ _ hc0⟩ (.cons ⟨c1, rfl, S4 _ _ hc1⟩ (.cons ⟨c2, rfl, S4 _ _ hc2⟩ (.cons ⟨c3, rfl, S4 _ _ hc3⟩ .nil)))
   rw [hul] at hq1 hb2 hb3
   exact k _ (some [q0, q1, q2, q3]) H4 (.pr ⟨_, f4, hP4⟩ rfl) (Is4.minmax hasc hq0 hq1 hq2 hq3 hb2 hb3) S4
def InT (x : Int) : Prop := -1099511627776 ≤ x ∧ x ≤ 1099511627776
def ZRM : Sp := fun vs H Q _ => ∃ i : Int, vs = [.int i] ∧ Q (.bl true) H
theorem ZLG : ZDL ["thing"] ["thing"] (ZC9 ZGc) := ZDv
theorem ZLH (T : Txt K mg a) : ZDI P w K mg base CX0 1 a.JL a.JM ["thing"] ZRM := by
 refine T.ZAW.ok ZLG (by walk_at "l") (fun cdv A outer s H vs Q E hr h => ?_)
 ·obtain ⟨i, rfl, q⟩ := h
  refine ⟨_, QB.h (ZDD (ZDT (ZIN (ZDX (ZJz K rfl) rfl T.ZO ZET (ZC7 (qv 0) (ZC7 (ZIi (v := .ty "int") rfl T.ZBQ ZSC rfl) ZC8))) (ZJu (ZSn (ZDX (ZJz K rfl) rfl T.ZO ZET (ZC7 (qv 0) (ZC7 (ZIi (v := .ty "bool") rfl T.ZAv ZQO rfl) ZC8)))))))), ?_⟩
  walk_at "s"
  walk_at "w"
  refine ZFH (.int i) (ZNm _) (ZHq (ZE1 ?_))
  walk_at "w"
  refine ZFH (.int i) (ZMY _) ?_
  walk_at "w"
  exact q
def ZPU : Sp := fun vs H Q _ => ∃ i : Int, vs = [.int i] ∧ ((InT i ∧ Q (.bl true) H) ∨ (¬ InT i ∧ Q (.bl false) H))
theorem ZKs : ZDL ["thing"] ["thing"] (ZC9 ZFw) := ZDv
theorem ZKt (T : Txt K mg a) : ZDI P w K mg base CX0 2 a.Y8 a.Y7 ["thing"] ZPU := by
 refine T.ZAF.ok ZKs (by walk_at "l") (fun cdv A outer s H vs Q E hr h => ?_)
 ·obtain ⟨i, rfl, h⟩ := h
  refine ⟨_, QB.h (ZDD (ZDT (ZIN (qcS (ZLH T) hr T.ZBP T.ZAW.kp T.ZBS (ZC7 (qv 0) ZC8)) (ZJu (ZJv ZIE ZIE (ZPm ZMr (ZD5 (v := .int 1099511627776) rfl T.JA ⟨_, rfl⟩)) (qv 0) (ZD5 (v := .int 1099511627776) rfl T.JA ⟨_, rfl⟩)))))), ?_⟩
  walk_at "s"
  walk_at "w"
  refine ⟨i, rfl, ?_⟩
  walk_at "w"
  refine ZE1 ?_
  walk_at "w"
  unfold InT at h
  refine ZEZ (fun h1 => ?_) (fun h1 => ?_)
  ·walk_at "w"
   rcases h with ⟨hi, q⟩ | ⟨hi, q⟩
   ·rw [decide_eq_true hi.2]
    exact q
   ·rw [decide_eq_false fun z => hi ⟨by omega, z⟩]
    exact q
  ·rcases h with ⟨hi, q⟩ | ⟨hi, q⟩
   ·exact absurd hi.1 (by omega)
   ·walk_at "w"
    exact q
end
def tfl (n : Int) (d1 d2 : Addr) : List (Str × V) := [("looks", V.int n), ("samples", V.ref d1), ("kept_fours", V.ref d2)]
theorem sn1 : (("samples" : Str) == "looks") = false := by decide +kernel
theorem sn2 : (("kept_fours" : Str) == "looks") = false := by decide +kernel
theorem sn3 : (("kept_fours" : Str) == "samples") = false := by decide +kernel
theorem ZHE {n : Int} {d1 d2 : Addr} : (tfl n d1 d2).lookup ("looks" : Str) = some (.int n) := by
 unfold tfl
 rw [List.lookup_cons, beq_self_eq_true]
theorem ZFD {n : Int} {d1 d2 : Addr} : (tfl n d1 d2).lookup ("samples" : Str) = some (.ref d1) := by
 unfold tfl
 rw [List.lookup_cons, sn1, List.lookup_cons, beq_self_eq_true]
theorem ZH8 {n : Int} {d1 d2 : Addr} : (tfl n d1 d2).lookup ("kept_fours" : Str) = some (.ref d2) := by
 unfold tfl
 rw [List.lookup_cons, sn2, List.lookup_cons, sn3, List.lookup_cons, beq_self_eq_true]
theorem ZGE {n : Int} {d1 d2 : Addr} {m : Str} (h1 : (m == ("looks" : Str)) = false := by decide +kernel) (h2 : (m == ("samples" : Str)) = false := by decide +kernel) (h3 : (m == ("kept_fours" : Str)) = false := by decide +kernel) : (tfl n d1 d2).lookup m = none := by
 unfold tfl
 rw [List.lookup_cons, h1, List.lookup_cons, h2, List.lookup_cons, h3]
 rfl
theorem ZRN {d1 d2 : Addr} : ZDc "kept_fours" (.ref d2) (ZDc "samples" (.ref d1) (ZDc "looks" (.int 0) [])) = tfl 0 d1 d2 := by
 have e1 : ¬ ("looks" : Str) = "samples" := by decide +kernel
 have e2 : ¬ ("looks" : Str) = "kept_fours" := by decide +kernel
 have e3 : ¬ ("samples" : Str) = "kept_fours" := by decide +kernel
 show ZDc "kept_fours" (.ref d2) (ZDc "samples" (.ref d1) [(("looks" : Str), V.int 0)]) = _
 rw [show ZDc "samples" (.ref d1) [(("looks" : Str), V.int 0)] = (if ("looks" : Str) = "samples" then [(("looks" : Str), V.ref d1)] else (("looks" : Str), V.int 0) :: ZDc "samples" (.ref d1) []) from rfl, if_neg e1]
 show (if ("looks" : Str) = "kept_fours" then _ else (("looks" : Str), V.int 0) :: (if ("samples" : Str) = "kept_fours" then _ else (("samples" : Str), V.ref d1) :: ZDc "kept_fours" (.ref d2) [])) = _
 rw [if_neg e2, if_neg e3]
 rfl
def ZDa (C : Addr) (H : Hp) (p : Addr) (n : Int) (d1 d2 : Addr) (sm : PL) (c : Nat) : Prop :=
 ∃ dx kvs, H p = some (.ins C dx (tfl n d1 d2)) ∧ H d1 = some (.dK (ZDW sm)) ∧ H d2 = some (.dT kvs) ∧ (sm.map (·.1)).Nodup ∧ ZD4 H kvs sm (fun _ _ => True) ∧ kvs.length ≤ 41 * c
theorem ZDa.same {C : Addr} {H H' : Hp} {p d1 d2 : Addr} {n : Int} {sm : PL} {c : Nat} (h : ZDa C H p n d1 d2 sm c) (s : ZDC H H') : ZDa C H' p n d1 d2 sm c := by
 obtain ⟨dx, kvs, h1, h2, h3, h4, h5, h6⟩ := h
 exact ⟨dx, kvs, s _ _ h1, s _ _ h2, s _ _ h3, h4, h5.same s, h6⟩
def Fr3 (p d1 d2 : Addr) (H H' : Hp) : Prop := ∀ b o, H b = some o → b ≠ p → b ≠ d1 → b ≠ d2 → H' b = some o
section
variable {P : Program} {w : World} {K : W.Frag} {mg : Str → Option Value} {base : Heap} {a : Ad}
local macro_rules | `(tactic| walk_at "rd") => `(tactic| first
 | with_reducible first | refine ZEC (by assumption) (‹Txt _ _ _›).ZM (‹Txt _ _ _›).Z3 ZHE ?_ | refine ZEC (by assumption) (‹Txt _ _ _›).ZM (‹Txt _ _ _›).ZU ZFD ?_ | refine ZEC (by assumption) (‹Txt _ _ _›).ZM (‹Txt _ _ _›).ZS ZH8 ?_)
def Tm (t : Int) : Prop := -1099511627776 ≤ t ∧ t < 1099511627776
def ZPV : Sp := fun vs H Q _ => ∃ t : Int, vs = [.int t] ∧ Tm t ∧ Q .non H
theorem ZJS : ZDL ["t"] ["t"] (ZC9 ZFb) := ZDv
theorem ZGk (T : Txt K mg a) : ZDI P w K mg base CX0 3 a.Yk a.Yn ["t"] ZPV := by
 refine T.Ym.ok ZJS (by walk_at "l") (fun cdv A outer s H vs Q E hr h => ?_)
 ·obtain ⟨t, rfl, ht, q⟩ := h
  unfold Tm at ht
  refine ⟨_, QB.h (ZDD (ZEF (QW.pt (ZPn (ZIO (ZGq (qcS (ZKt T) hr T.ZBD T.ZAF.kp T.ZA1 (ZC7 (qv 0) ZC8)))) (ZM9 (ZDm (ZLw) (qv 0) (ZD5 (v := .int 1099511627776) rfl T.JA ⟨_, rfl⟩) (ZDx _))))) (ZDD ZGQ) ZDw)), ?_⟩
  walk_at "s"
  walk_at "w"
  refine ⟨t, rfl, .inl ⟨⟨by omega, by omega⟩, ?_⟩⟩
  walk_at "w"
  refine ZEc ?_
  walk_at "w"
  rw [ZPk]
  refine ZEZ (fun h => ?_) (fun h => ?_)
  ·exfalso
   omega
  ·walk_at "w"
   exact q
def ZRO (C : Addr) : Sp := fun vs H Q _ => ∃ (p d1 d2 dx : Addr) (n t : Int) (v : V) (o : Option (PL)) (sm : PL) (kvs : List (List Key × V)) (c : Nat), vs = [.ref p, .int t, v] ∧ H p = some (.ins C dx (tfl n d1 d2)) ∧ H d1 = some (.dK (ZDW sm)) ∧ H d2 = some (.dT kvs) ∧ (sm.map (·.1)).Nodup ∧
 ZD4 H kvs sm (fun l s => s ≠ t / 2 ^ l) ∧ kvs.length ≤ 41 * c ∧ c ≤ 1000 ∧ ZD9 H v o ∧ Is4 (inS sm 0 t) o ∧ ∀ H', ZDa C H' p n d1 d2 sm (c + 1) → Kp d2 H H' → Q .non H'
theorem ZEU : ZDL ["self", "t", "four", "s", "level", "halves"] ["self", "t", "four"] (ZC9 ZFc) := ZDv
theorem ZGl (T : Txt K mg a) : ZDI P w K mg base CX0 3 a.Yi a.Yl ["self", "t", "four"] (ZRO a.ZF) := by
 refine T.ZAq.ok ZEU (by walk_at "l") (fun cdv A outer s H vs Q E hr h => ?_)
 ·obtain ⟨p, d1, d2, dx, n, t, v, o, sm, kvs, c, rfl, hp, h1, h2, hnd, hkf, hlen, hc, hv, ho, k⟩ := h
  have hu := ZHM hr
  have np2 : p ≠ d2 := fun z => by subst z; rw [hp] at h2; cases h2
  have n12 : d1 ≠ d2 := fun z => by subst z; rw [h1] at h2; cases h2
  refine ⟨_, QB.h (ZDA (ZFV hu (qv 2) (ZDz K rfl (qv 0)) (ZEI (ZC7 ZDB (ZC7 (qv 1) ZC8)))) (ZDA (qsS (i := 3) ZEU.nd (qv 1)) (ZDD (ZFa PassesOwn.never rfl (ZFj rfl T.Yh (ZC7 (ZD5 (v := .int 40) rfl T.ZBF ⟨_, rfl⟩) ZC8)) (qgN (i := 4) ZEU.nd) (ZDA (qsS (i := 3) ZEU.nd (ZDP ZHo (qv 3) ZDB)) (ZDA (qsS (i := 5) ZEU.nd (ZEI (ZC7 (ZH1 hu (ZDz K rfl (qv 0)) (ZEI (ZC7 (qv 4) (ZC7 (ZDP ZEV ZDB (qv 3)) ZC8)))) (ZC7 (ZH1 hu (ZDz K rfl (qv 0)) (ZEI (ZC7 (qv 4) (ZC7 (ZDP ZEw (ZDP ZEV ZDB (qv 3)) ZDB) ZC8)))) ZC8)))) (ZDD (ZFV hu (qcS (ZNq T) hr T.ZBw T.ZAy.kp T.ZBs (ZC7 (ZDn (ZEB K rfl) (qv 5) ZDB) (ZC7 (ZDn (ZEB K rfl) (qv 5) ZDB) ZC8))) (ZDz K rfl (qv 0)) (ZEI (ZC7 (ZDP ZEw (qv 4) ZDB) (ZC7 (qv 3) ZC8))))))))))), ?_⟩
  walk_at "s"
  walk_at "w"
  refine ZDZ (by show 2 ≤ sizeLine; decide) fun b3 H3 n3 f3 S3 => ?_
  walk_at "w"
  refine ZKM (k := kOf 0 t) (S3 _ _ h2) f3 (Nat.lt_of_le_of_lt (show kvs.length ≤ 41000 by omega) (by decide)) fun H4 f4 K4 => ?_
  have K04 : Kp d2 H H4 := (Kp.same S3).trans K4
  have nt : ∀ (l : List (List Key × V)) (xs : List V), HO.dT l ≠ .tup xs := fun l xs z => by cases z
  have e0 : t / 2 ^ 0 = t := by simp
  have hk4 : ZD4 H4 (ZD6 kvs (kOf 0 t) v) sm (fun l s => s ≠ t / 2 ^ l ∨ l ≤ 0) := by
   have h := ((hkf.same S3).put (i := 0) (t := t) (hv.same S3) (by rw [e0]; exact ho)).kpX K4 (S3 _ _ h2) (nt _)
   rw [e0] at h
   refine h.mono fun l s hl g => ?_
   rcases g with g | g
   ·exact .inl g
   ·have : l = 0 := by omega
    subst this
    by_cases e : s = t / 2 ^ 0
    ·exact .inr ⟨rfl, e⟩
    ·exact .inl e
  have hl4 : (ZD6 kvs (kOf 0 t) v).length ≤ 41 * c + 1 := Nat.le_trans (ZEm _ _ _) (by omega)
  walk_at "w"
  refine ZIM (by decide) (by decide) (ZHO (fun i σ H' => (∃ v4 v5, σ = [some (.ref p), some (.int t), some v, some (.int (t / 2 ^ i)), v4, v5]) ∧ Kp d2 H H' ∧ ∃ kvs', H' d2 = some (.dT kvs') ∧ ZD4 H' kvs' sm (fun l s => s ≠ t / 2 ^ l ∨ l ≤ i) ∧ kvs'.length ≤ 41 * c + 1 + i) ?_ ?_ ?_)
  ·exact ⟨⟨none, none, by rw [e0]; rfl⟩, K04, _, f4, hk4, hl4⟩
  ·rintro i σ H5 hi ⟨⟨v4, v5, rfl⟩, K5, kv5, f5, hk5, hl5⟩
   have hi40 : i < 40 := hi
   have hp5 := K5 _ _ hp np2
   have ez : (0 + (i : Int)) = (i : Int) := by omega
   rw [ez]
   walk_at "w"
   generalize hs : t / 2 ^ i / 2 = s
   have hs1 : t / 2 ^ (i + 1) = s := by rw [ZKa, hs]
   refine ZJA f5 ?_
   walk_at "w"
   refine ZDZ (by show 2 ≤ sizeLine; decide) fun b6 H6 n6 f6 S6 => ?_
   refine ZKL (k := kOf i (2 * s)) (S6 _ _ f5) f6 ?_
   have hp6 := S6 _ _ hp5
   have f56 := S6 _ _ f5
   walk_at "w"
   refine ZJA f56 ?_
   walk_at "w"
   refine ZDZ (by show 2 ≤ sizeLine; decide) fun b7 H7 n7 f7 S7 => ?_
   refine ZKL (k := kOf i (2 * s + 1)) (S7 _ _ f56) f7 ?_
   have S57 := S6.trans S7
   walk_at "w"
   refine ZDZ (by show 2 ≤ sizeLine; decide) fun b8 H8 n8 f8 S8 => ?_
   have S58 := S57.trans S8
   have hk8 := hk5.same S58
   obtain ⟨oa, ha1, ha2⟩ := hk8 i (2 * s) (by omega) (.inr (Nat.le_refl _))
   obtain ⟨ob, hb1, hb2⟩ := hk8 i (2 * s + 1) (by omega) (.inr (Nat.le_refl _))
   walk_at "w"
   refine ⟨_, _, oa, ob, _, _, rfl, ha1, ha2, hb1, hb2, ZTB (by omega), fun v9 o9 H9 h9 g9 S9 => ?_⟩
   have g9 : Is4 (inS sm (i + 1) s) o9 := g9.congr fun q => ZPI
   have S59 := S58.trans S9
   have hp9 := S59 _ _ hp5
   walk_at "w"
   refine ZDZ (by show 2 ≤ sizeLine; decide) fun b10 H10 n10 f10 S10 => ?_
   have S510 := S59.trans S10
   have f510 := S510 _ _ f5
   refine ZKM (k := kOf (i + 1) s) f510 ?_ (Nat.lt_of_le_of_lt (show kv5.length ≤ 42000 by omega) (by decide)) fun H11 f11 K11 => ?_
   ·rw [f10]
    show some (HO.tup [V.int ((i : Int) + 1), V.int s]) = some (HO.tup [V.int ((i + 1 : Nat) : Int), V.int s])
    rw [show ((i + 1 : Nat) : Int) = (i : Int) + 1 by omega]
   walk_at "w"
   refine ⟨⟨some (.int i), some (.ref b8), by rw [hs1]; rfl⟩, (K5.then S510).trans K11, _, f11, ?_, Nat.le_trans (ZEm _ _ _) (by omega)⟩
   have h := ((hk5.same S510).put (i := i + 1) (t := t) (h9.same S10) (by rw [hs1]; exact g9)).kpX K11 f510 (nt _)
   rw [hs1] at h
   refine h.mono fun l s' hl g => ?_
   rcases g with g | g
   ·exact .inl (.inl g)
   ·by_cases e : l = i + 1
    ·by_cases e2 : s' = t / 2 ^ l
     ·exact .inr ⟨e, e2⟩
     ·exact .inl (.inl e2)
    ·exact .inl (.inr (by omega))
  ·rintro σ H5 ⟨⟨v4, v5, rfl⟩, K5, kv5, f5, hk5, hl5⟩
   walk_at "w"
   refine k H5 ⟨dx, kv5, K5 _ _ hp np2, K5 _ _ h1 n12, f5, hnd, hk5.mono fun l s hl _ => .inr hl, ?_⟩ K5
   have : kv5.length ≤ 41 * c + 1 + 40 := hl5
   omega
def ZTG (C : Addr) : Sp := fun vs H Q _ => ∃ (p d1 d2 : Addr) (n t h : Int) (sm : PL) (c : Nat), vs = [.ref p, .int t, .int h] ∧ ZDa C H p n d1 d2 sm c ∧ Tm t ∧ c ≤ 1000 ∧ sm.length ≤ 1000 ∧
 ∀ H', ZDa C H' p n d1 d2 (ZDo sm t h) (c + 1) → Fr3 p d1 d2 H H' → Q .non H'
theorem ZLI : ZDL ["self", "t", "h"] ["self", "t", "h"] (ZC9 ZGd) := ZDv
theorem ZHf (T : Txt K mg a) : ZDI P w K mg base CX0 4 a.JN a.JP ["self", "t", "h"] (ZTG a.ZF) := by
 refine T.ZBd.ok ZLI (by walk_at "l") (fun cdv A outer s H vs Q E hr h => ?_)
 ·obtain ⟨p, d1, d2, n, t, x, sm, c, rfl, ⟨dx, kvs, hp, h1, h2, hnd, hkf, hlen⟩, ht, hc, hsl, k⟩ := h
  have hu := ZHM hr
  have np1 : p ≠ d1 := fun z => by subst z; rw [hp] at h1; cases h1
  have n21 : d2 ≠ d1 := fun z => by subst z; rw [h1] at h2; cases h2
  refine ⟨_, QB.h (ZDA (ZDq (qcS (ZGk T) hr T.Jg T.Ym.kp T.Jp (ZC7 (qv 1) ZC8))) (ZDA (ZFV hu (qv 2) (ZDz K rfl (qv 0)) (qv 1)) (ZDD (ZDq (ZEY (qv 0) T.ZM T.Jo (ZGl T) hr T.Ja .nil ZD2 (ZC7 (qv 1) (ZC7 (qcS (ZMc T) hr T.ZBm T.ZAd.kp T.ZBo (ZC7 (ZEI (ZC7 (ZEI (ZC7 (qv 1) (ZC7 (qv 2) ZC8))) ZC8)) ZC8)) ZC8))))))), ?_⟩
  walk_at "s"
  walk_at "w"
  refine ⟨t, rfl, ht, ?_⟩
  walk_at "w"
  refine ZHt h1 (Nat.lt_of_le_of_lt hsl (by decide)) fun H3 f3 K3 => ?_
  have hp3 := K3 _ _ hp np1
  have h23 := K3 _ _ h2 n21
  have hk3 : ZD4 H3 kvs (ZDo sm t x) (fun l s => s ≠ t / 2 ^ l) := (ZD4.other hkf fun q hq => by
   rw [ZGZ hnd]
   constructor
   ·exact fun z => .inl ⟨hq, z⟩
   ·rintro (z | z)
    ·exact z.2
    ·exact absurd (by rw [z]) hq).kpX K3 h1 (fun xs z => by cases z)
  walk_at "w"
  refine ZDl hp3 ZGE ?_
  walk_at "w"
  refine ZDZ (by show 2 ≤ sizeLine; decide) fun b4 H4 n4 f4 S4 => ?_
  walk_at "w"
  refine ZDZ (by show 1 ≤ sizeLine; decide) fun b5 H5 n5 f5 S5 => ?_
  walk_at "w"
  refine ⟨b5, [(t, x)], rfl, ⟨_, f5, .cons ⟨b4, rfl, S5 _ _ f4⟩ .nil⟩, List.pairwise_singleton _ _, fun v6 o6 H6 h6 g6 S6 => ?_⟩
  have S36 := S4.trans (S5.trans S6)
  walk_at "w"
  refine ⟨p, d1, d2, dx, n, t, v6, o6, ZDo sm t x, kvs, c, rfl, S36 _ _ hp3, S36 _ _ f3, S36 _ _ h23, ZGV hnd, hk3.same S36, hlen, hc, h6, g6.congr fun q => ?_, fun H7 hT7 K7 => ?_⟩
  ·rw [List.mem_singleton, ZEi, ZGZ hnd]
   simp only [Int.pow_zero, Int.ediv_one]
   constructor
   ·rintro rfl
    exact ⟨.inr rfl, rfl⟩
   ·rintro ⟨h1 | h1, h2⟩
    ·exact absurd h2 h1.1
    ·exact h1
  ·walk_at "w"
   exact k H7 hT7 fun b o e e1 e2 e3 => K7 _ _ (S36 _ _ (K3 _ _ e e2)) e3
def ZRP (C : Addr) : Sp := fun vs H Q _ => ∃ (p dx : Addr) (x : V) (cv : PL), vs = [.ref p, x] ∧ H p = some (.ins C dx []) ∧ ((x = .non ∧ cv = []) ∨ ∃ t, x = .ref t ∧ PrT H t cv) ∧ (cv.map (·.1)).Nodup ∧ (∀ q ∈ cv, Tm q.1) ∧ cv.length ≤ 100 ∧
 ∀ (d1 d2 : Addr) (sm : PL) (H' : Hp), H d1 = none → H d2 = none → ZDa C H' p 0 d1 d2 sm cv.length → (∀ q, q ∈ sm ↔ q ∈ cv) → sm.length ≤ cv.length → Kp p H H' → Q .non H'
theorem ZEr : ZDL ["self", "curve", "t", "h"] ["self", "curve"] (ZC9 ZDj) := ZDv
theorem ZH9 (T : Txt K mg a) : ZDI P w K mg base CX0 5 a.Z2 a.ZR ["self", "curve"] (ZRP a.ZF) := by
 refine T.ZAU.ok ZEr (by walk_at "l") (fun cdv A outer s H vs Q E hr h => ?_)
 ·obtain ⟨p, dx, x, cv, rfl, hp, hx, hnd, htm, hlen, k⟩ := h
  refine ⟨_, QB.h (ZDA (ZFI K rfl (qv 0) ZDB) (ZDA (ZFI K rfl (qv 0) ZE5) (ZDA (ZFI K rfl (qv 0) ZO5) (ZDD (ZEF (ZDm (ZQR) (qv 1) ZFZ (ZDx _)) (ZDD (ZFa PassesOwn.never rfl (ZSs K rfl (qv 1)) (ZNB (n := 2) K rfl rfl (ZGP (qgN (i := 2) ZEr.nd) (ZGP (qgN (i := 3) ZEr.nd) ZLZ))) (ZDD (ZDq (ZEY (qv 0) T.ZM T.ZAV (ZHf T) hr T.ZAX .nil ZD2 (ZC7 (qv 2) (ZC7 (qv 3) ZC8))))))) ZDw))))), ?_⟩
  walk_at "s"
  walk_at "w"
  refine ZEv hp T.ZM T.Z3 (by show 0 < 1000; decide) fun H1 f1 K1 => ?_
  walk_at "w"
  refine ZHu fun d1 H2 n2 f2 S2 => ?_
  have hp2 := S2 _ _ f1
  have nd1 : d1 ≠ p := fun z => by rw [z, f1] at n2; cases n2
  walk_at "w"
  refine ZEv hp2 T.ZM T.ZU (by show 1 < 1000; decide) fun H3 f3 K3 => ?_
  have f23 := K3 _ _ f2 nd1
  walk_at "w"
  refine ZO6 fun d2 H4 n4 f4 S4 => ?_
  have hp4 := S4 _ _ f3
  have nd2 : d2 ≠ p := fun z => by rw [z, f3] at n4; cases n4
  walk_at "w"
  refine ZEv hp4 T.ZM T.ZS (by show 2 < 1000; decide) fun H5 f5 K5 => ?_
  have f5 : H5 p = some (.ins a.ZF dx (tfl 0 d1 d2)) := by rw [f5, ZRN]
  have K05 : Kp p H H5 := (((K1.then S2).trans K3).then S4).trans K5
  have f25 := K5 _ _ (S4 _ _ f23) nd1
  have f45 := K5 _ _ f4 nd2
  have hn1 : H d1 = none := by
   cases e : H d1 with
   | none => rfl
   | some o =>
    have := K1 _ _ e nd1
    rw [n2] at this
    cases this
  have hn2 : H d2 = none := by
   cases e : H d2 with
   | none => rfl
   | some o =>
    have := ((K1.then S2).trans K3) _ _ e nd2
    rw [n4] at this
    cases this
  have hT5 : ZDa a.ZF H5 p 0 d1 d2 [] 0 := ⟨dx, [], f5, f25, f45, List.nodup_nil, fun l s hl _ => ⟨none, .non, .inl ⟨rfl, rfl⟩⟩, Nat.le_refl _⟩
  walk_at "w"
  rcases hx with ⟨rfl, rfl⟩ | ⟨t, rfl, hT⟩
  ·refine ZPj (fun h => absurd rfl h) (fun _ => ?_)
   walk_at "w"
   exact k d1 d2 [] H5 hn1 hn2 hT5 (fun q => Iff.rfl) (Nat.le_refl _) K05
  ·refine ZPj (fun _ => ?_) (fun h => by cases h)
   obtain ⟨us, g, hP⟩ := hT
   have ntp : ∀ {b : Addr} {xs : List V}, H b = some (.tup xs) → b ≠ p := fun e z => by rw [z, hp] at e; cases e
   have g5 := K05 _ _ g (ntp g)
   walk_at "w"
   refine ZLX (xs := us) (fun i σ H' => (∃ v2 v3, σ = [some (.ref p), some (.ref t), v2, v3]) ∧ Kp p H H' ∧ ∃ sm, ZDa a.ZF H' p 0 d1 d2 sm i ∧ (∀ q, q ∈ sm ↔ q ∈ cv.take i) ∧ sm.length ≤ i) ?_ ?_ ?_ ?_
   ·exact ⟨⟨_, _, rfl⟩, K05, [], hT5, fun q => by rw [List.take_zero], Nat.le_refl _⟩
   ·rintro i σ H6 _ ⟨_, K6, _⟩
    exact SqT.of (K6 _ _ g (ntp g))
   ·rintro i x σ H6 hx ⟨⟨v2, v3, rfl⟩, K6, sm, hT6, hm6, hl6⟩
    obtain ⟨cc, q, rfl, hq, hc⟩ := hP.at hx
    have hc6 := K6 _ _ hc (ntp hc)
    obtain ⟨dx6, kv6, hp6, h16, h26, hnd6, hkf6, hlen6⟩ := id hT6
    have hi : i < cv.length := (List.getElem?_eq_some_iff.mp hq).1
    walk_at "w"
    refine ZDl hp6 ZGE ?_
    walk_at "w"
    refine ⟨p, d1, d2, 0, q.1, q.2, sm, i, rfl, hT6, htm q (List.mem_of_getElem? hq), by omega, by omega, fun H7 hT7 Fr7 => ?_⟩
    walk_at "w"
    refine ⟨⟨_, _, rfl⟩, fun b o e nb => Fr7 _ _ (K6 _ _ e nb) nb (fun z => by rw [z, hn1] at e; cases e) (fun z => by rw [z, hn2] at e; cases e), ZDo sm q.1 q.2, hT7, fun r => ?_, Nat.le_trans (ZHv _ _ _) (by omega)⟩
    rw [ZGZ hnd6, List.take_succ, hq, List.mem_append, hm6]
    have hne : ∀ r ∈ cv.take i, r.1 ≠ q.1 := fun r hr e => by
     obtain ⟨j, hj, rfl⟩ := List.getElem_of_mem hr
     rw [List.length_take] at hj
     rw [List.getElem_take] at e
     obtain ⟨z2, y2⟩ := List.getElem?_eq_some_iff.mp hq
     have : (cv.map (·.1))[j]'(by rw [List.length_map]; omega) = (cv.map (·.1))[i]'(by rw [List.length_map]; omega) := by
      rw [List.getElem_map, List.getElem_map, y2]
      exact e
     have := (List.getElem_inj hnd).mp this
     omega
    constructor
    ·rintro (h | h)
     ·exact .inl h.2
     ·exact .inr (by rw [h]; exact List.mem_cons_self)
    ·rintro (h | h)
     ·exact .inl ⟨hne r h, h⟩
     ·exact .inr (by simpa using h)
   ·rintro σ H6 ⟨⟨v2, v3, rfl⟩, K6, sm, hT6, hm6, hl6⟩
    rw [hP.length] at hT6 hm6 hl6
    rw [List.take_length] at hm6
    walk_at "w"
    exact k d1 d2 sm H6 hn1 hn2 hT6 hm6 hl6 K6
end
theorem ZDa.kpX {C : Addr} {H H' : Hp} {p d1 d2 l : Addr} {n : Int} {sm : PL} {c : Nat} {xs : List V} (h : ZDa C H p n d1 d2 sm c) (k : Kp l H H') (hl : H l = some (.lst xs)) : ZDa C H' p n d1 d2 sm c := by
 obtain ⟨dx, kvs, h1, h2, h3, h4, h5, h6⟩ := h
 exact ⟨dx, kvs, k _ _ h1 (fun z => by rw [z, hl] at h1; cases h1), k _ _ h2 (fun z => by rw [z, hl] at h2; cases h2), k _ _ h3 (fun z => by rw [z, hl] at h3; cases h3), h4, h5.kpX k hl (fun _ z => by cases z), h6⟩
theorem ZDa.keepT {C : Addr} {H H' : Hp} {p d1 d2 : Addr} {n : Int} {sm : PL} {c : Nat} (g : ZDa C H p n d1 d2 sm c) (f : Fr3 p d1 d2 H H') {b : Addr} {xs : List V} (e : H b = some (.tup xs)) : H' b = some (.tup xs) := by
 obtain ⟨dy, kws, g1, g2, g3, _⟩ := g
 exact f _ _ e (fun z => by rw [z, g1] at e; cases e) (fun z => by rw [z, g2] at e; cases e) (fun z => by rw [z, g3] at e; cases e)
theorem ZDa.keepL {C : Addr} {H H' : Hp} {p d1 d2 : Addr} {n : Int} {sm : PL} {c : Nat} (g : ZDa C H p n d1 d2 sm c) (f : Fr3 p d1 d2 H H') {b : Addr} {xs : List V} (e : H b = some (.lst xs)) : H' b = some (.lst xs) := by
 obtain ⟨dy, kws, g1, g2, g3, _⟩ := g
 exact f _ _ e (fun z => by rw [z, g1] at e; cases e) (fun z => by rw [z, g2] at e; cases e) (fun z => by rw [z, g3] at e; cases e)
theorem ZDa.nd {C : Addr} {H : Hp} {p d1 d2 : Addr} {n : Int} {sm : PL} {c : Nat} (g : ZDa C H p n d1 d2 sm c) : (sm.map (·.1)).Nodup := by
 obtain ⟨dy, kws, g1, g2, g3, g4, _⟩ := g
 exact g4
section
variable {P : Program} {w : World} {K : W.Frag} {mg : Str → Option Value} {base : Heap} {a : Ad}
local macro_rules | `(tactic| walk_at "rd") => `(tactic| first
 | with_reducible first | refine ZEC (by assumption) (‹Txt _ _ _›).ZM (‹Txt _ _ _›).Z3 ZHE ?_ | refine ZEC (by assumption) (‹Txt _ _ _›).ZM (‹Txt _ _ _›).ZU ZFD ?_ | refine ZEC (by assumption) (‹Txt _ _ _›).ZM (‹Txt _ _ _›).ZS ZH8 ?_)
end
theorem ZPW {m : PL} (hn : (m.map (·.1)).Nodup) : ∀ q, q ∈ ZES m ↔ q ∈ m := by
 have main : ∀ i : Nat, i ≤ m.length → ∀ q, q ∈ ZES (m.take i) ↔ q ∈ m.take i := by
  intro i
  induction i with
  | zero => intro _ q; rw [List.take_zero]; exact Iff.rfl
  | succ i ih =>
   intro hi q
   have hp : m[i]? = some m[i] := List.getElem?_eq_getElem (by omega)
   have e : m.take (i + 1) = m.take i ++ [m[i]] := by rw [List.take_succ, hp]; rfl
   rw [e, ZJH, ZGZ (ZGW _), ih (by omega), List.mem_append, List.mem_singleton]
   have hne : ∀ r ∈ m.take i, r.1 ≠ m[i].1 := fun r hr z => by
    obtain ⟨j, hj, rfl⟩ := List.getElem_of_mem hr
    rw [List.length_take] at hj
    rw [List.getElem_take] at z
    have : (m.map (·.1))[j]'(by rw [List.length_map]; omega) = (m.map (·.1))[i]'(by rw [List.length_map]; omega) := by
     rw [List.getElem_map, List.getElem_map]
     exact z
    have := (List.getElem_inj hn).mp this
    omega
   constructor
   ·rintro (h | h)
    ·exact .inl h.2
    ·exact .inr h
   ·rintro (h | h)
    ·exact .inl ⟨hne q h, h⟩
    ·exact .inr h
 intro q
 have := main m.length (Nat.le_refl _) q
 rwa [List.take_length] at this
section
variable {P : Program} {w : World} {K : W.Frag} {mg : Str → Option Value} {base : Heap} {a : Ad}
local macro_rules | `(tactic| walk_at "rd") => `(tactic| first
 | with_reducible first | refine ZEC (by assumption) (‹Txt _ _ _›).ZM (‹Txt _ _ _›).Z3 ZHE ?_ | refine ZEC (by assumption) (‹Txt _ _ _›).ZM (‹Txt _ _ _›).ZU ZFD ?_ | refine ZEC (by assumption) (‹Txt _ _ _›).ZM (‹Txt _ _ _›).ZS ZH8 ?_)
def ZRQ (C : Addr) : Sp := fun vs H Q _ => ∃ (p d1 d2 : Addr) (n : Int) (sm : PL) (c : Nat), vs = [.ref p] ∧ ZDa C H p n d1 d2 sm c ∧ sm.length < 64 ∧
 ∀ (t : Addr) (cv : PL) (H' : Hp), PrT H' t cv → Asc cv → (∀ q, q ∈ cv ↔ q ∈ sm) → ZDC H H' → Q (.ref t) H'
theorem ZKu : ZDL ["self"] ["self"] (ZC9 ZFy) := ZDv
theorem ZKv (T : Txt K mg a) : ZDI P w K mg base CX0 2 a.JB a.Y6 ["self"] (ZRQ a.ZF) := by
 refine T.ZA9.ok ZKu (by walk_at "l") (fun cdv A outer s H vs Q E hr h => ?_)
 ·obtain ⟨p, d1, d2, n, sm, c, rfl, hTr, hl, k⟩ := h
  obtain ⟨dx, kvs, hp, h1, h2, hnd, hkf, hlen⟩ := id hTr
  refine ⟨_, QB.h (ZDD (ZDT (qcS (ZLF T) hr T.ZBc T.ZAT.kp T.ZBa (ZC7 (ZNR rfl rfl T.ZAt (ZDz K rfl (qv 0))) ZC8)))), ?_⟩
  walk_at "s"
  walk_at "w"
  refine ZNS h1 (by omega) fun l H1 n1 hL1 S1 => ?_
  obtain ⟨vs, f1, hP1⟩ := hL1
  walk_at "w"
  refine ⟨true, l, vs, sm, rfl, f1, hP1, hl, fun t cv H2 hT2 hC _ S2 => ?_⟩
  refine k t cv H2 hT2 hC.1 (fun q => ?_) (S1.trans S2)
  obtain ⟨x, y⟩ := q
  rw [hC.2, ZEp (ZGW _), ZPW hnd]
end
def sfl (tr dd dn wt : Addr) : List (Str × V) := [("tree", V.ref tr), ("deeds", V.ref dd), ("done", V.ref dn), ("watches", V.ref wt)]
section
variable {tr dd dn wt : Addr}
theorem sg1 : (("deeds" : Str) == "tree") = false := by decide +kernel
theorem sg2 : (("done" : Str) == "tree") = false := by decide +kernel
theorem sg3 : (("done" : Str) == "deeds") = false := by decide +kernel
theorem sg4 : (("watches" : Str) == "tree") = false := by decide +kernel
theorem sg5 : (("watches" : Str) == "deeds") = false := by decide +kernel
theorem sg6 : (("watches" : Str) == "done") = false := by decide +kernel
theorem ZPX : (sfl tr dd dn wt).lookup ("tree" : Str) = some (.ref tr) := by
 unfold sfl
 rw [List.lookup_cons, beq_self_eq_true]
theorem ZNr : (sfl tr dd dn wt).lookup ("deeds" : Str) = some (.ref dd) := by
 unfold sfl
 rw [List.lookup_cons, sg1, List.lookup_cons, beq_self_eq_true]
theorem ZPY : (sfl tr dd dn wt).lookup ("done" : Str) = some (.ref dn) := by
 unfold sfl
 rw [List.lookup_cons, sg2, List.lookup_cons, sg3, List.lookup_cons, beq_self_eq_true]
theorem ZLJ : (sfl tr dd dn wt).lookup ("watches" : Str) = some (.ref wt) := by
 unfold sfl
 rw [List.lookup_cons, sg4, List.lookup_cons, sg5, List.lookup_cons, sg6, List.lookup_cons, beq_self_eq_true]
theorem ZHF {m : Str} (h1 : (m == ("tree" : Str)) = false := by decide +kernel) (h2 : (m == ("deeds" : Str)) = false := by decide +kernel) (h3 : (m == ("done" : Str)) = false := by decide +kernel) (h4 : (m == ("watches" : Str)) = false := by decide +kernel) : (sfl tr dd dn wt).lookup m = none := by
 unfold sfl
 rw [List.lookup_cons, h1, List.lookup_cons, h2, List.lookup_cons, h3, List.lookup_cons, h4]
 rfl
theorem ZRR : ZDc "watches" (.ref wt) (ZDc "done" (.ref dn) (ZDc "deeds" (.ref dd) (ZDc "tree" (.ref tr) []))) = sfl tr dd dn wt := by
 have e1 : ¬ ("tree" : Str) = "deeds" := by decide +kernel
 have e2 : ¬ ("tree" : Str) = "done" := by decide +kernel
 have e3 : ¬ ("deeds" : Str) = "done" := by decide +kernel
 have e4 : ¬ ("tree" : Str) = "watches" := by decide +kernel
 have e5 : ¬ ("deeds" : Str) = "watches" := by decide +kernel
 have e6 : ¬ ("done" : Str) = "watches" := by decide +kernel
 show ZDc "watches" (.ref wt) (ZDc "done" (.ref dn) (ZDc "deeds" (.ref dd) [(("tree" : Str), V.ref tr)])) = _
 rw [show ZDc "deeds" (.ref dd) [(("tree" : Str), V.ref tr)] = (if ("tree" : Str) = "deeds" then _ else (("tree" : Str), V.ref tr) :: ZDc "deeds" (.ref dd) []) from rfl, if_neg e1]
 rw [show ZDc "done" (.ref dn) ((("tree" : Str), V.ref tr) :: ZDc "deeds" (.ref dd) []) = (if ("tree" : Str) = "done" then _ else (("tree" : Str), V.ref tr) :: (if ("deeds" : Str) = "done" then _ else (("deeds" : Str), V.ref dd) :: ZDc "done" (.ref dn) [])) from rfl, if_neg e2, if_neg e3]
 show (if ("tree" : Str) = "watches" then _ else (("tree" : Str), V.ref tr) :: (if ("deeds" : Str) = "watches" then _ else (("deeds" : Str), V.ref dd) :: (if ("done" : Str) = "watches" then _ else (("done" : Str), V.ref dn) :: ZDc "watches" (.ref wt) []))) = _
 rw [if_neg e4, if_neg e5, if_neg e6]
 rfl
theorem ZTH {n : Int} {d1 d2 : Addr} : sfl tr dd dn wt ≠ tfl n d1 d2 := fun h => by
 have := congrArg List.length h
 simp [sfl, tfl] at this
end
structure SA where
 p : Addr
 tr : Addr
 d1 : Addr
 d2 : Addr
 dd : Addr
 dn : Addr
 wt : Addr
def SA.ls (S : SA) : List Addr := [S.dd, S.dn, S.wt]
def SA.own (S : SA) : List Addr := [S.tr, S.d1, S.d2, S.dd, S.dn, S.wt]
def ZHG : Option Int → V
 | none => .non
 | some i => .int i
theorem ZPZ (o : Option Int) : (o.map V.int).getD .non = ZHG o := by cases o <;> rfl
def ZEO (H : Hp) (vs : List V) (ds : List (Int × Option Int)) : Prop := Paired (fun v (q : Int × Option Int) => ∃ b, v = .ref b ∧ H b = some (.tup [.int q.1, ZHG q.2])) vs ds
theorem ZEO.tups {H H' : Hp} {vs : List V} {ds : List (Int × Option Int)} (h : ZEO H vs ds) (t : ∀ b xs, H b = some (.tup xs) → H' b = some (.tup xs)) : ZEO H' vs ds := Paired.mapP h fun _ _ ⟨b, e, z⟩ => ⟨b, e, t _ _ z⟩
theorem ZEO.snoc {H : Hp} : ∀ {vs : List V} {ds : List (Int × Option Int)}, ZEO H vs ds → ∀ {b : Addr} {q : Int × Option Int}, H b = some (.tup [.int q.1, ZHG q.2]) → ZEO H (vs ++ [.ref b]) (ds ++ [q])
 | _, _, .nil, _, _, e => .cons ⟨_, rfl, e⟩ .nil
 | _, _, .cons h t, _, _, e => .cons h (ZEO.snoc t e)
theorem ZEO.len {H : Hp} {vs : List V} {ds : List (Int × Option Int)} (h : ZEO H vs ds) : vs.length = ds.length := Paired.length h
def ZDM (a : Ad) (H : Hp) (S : SA) (n : Int) (sm : PL) (c : Nat) (ds : List (Int × Option Int)) (ts : List Int) (ws : List V) : Prop :=
 ∃ dx vs, H S.p = some (.ins a.ZE dx (sfl S.tr S.dd S.dn S.wt)) ∧ ZDa a.ZF H S.tr n S.d1 S.d2 sm c ∧ H S.dd = some (.lst vs) ∧ ZEO H vs ds ∧ H S.dn = some (.lst (ts.map V.int)) ∧ H S.wt = some (.lst ws) ∧ S.dd ≠ S.dn ∧ S.dd ≠ S.wt ∧ S.dn ≠ S.wt
def FrS (S : SA) (H H' : Hp) : Prop := ∀ b o, H b = some o → b ∉ S.own → H' b = some o
theorem FrS.trans {S : SA} {H H1 H2 : Hp} (h : FrS S H H1) (g : FrS S H1 H2) : FrS S H H2 := fun b o e n => g b o (h b o e n) n
theorem FrS.same {S : SA} {H H' : Hp} (h : ZDC H H') : FrS S H H' := fun b o e _ => h b o e
theorem FrS.kp {S : SA} {H H' : Hp} {q : Addr} (h : Kp q H H') (m : q ∈ S.own) : FrS S H H' := fun b o e n => h b o e fun z => n (z ▸ m)
theorem FrS.fr3 {S : SA} {H H' : Hp} (h : Fr3 S.tr S.d1 S.d2 H H') : FrS S H H' := fun b o e n => h b o e (fun z => n (by simp [SA.own, z])) (fun z => n (by simp [SA.own, z])) (fun z => n (by simp [SA.own, z]))
section
variable {a : Ad} {H H' : Hp} {S : SA} {n : Int} {sm : PL} {c : Nat} {ds : List (Int × Option Int)} {ts : List Int} {ws : List V}
theorem ZDM.tree (h : ZDM a H S n sm c ds ts ws) : ZDa a.ZF H S.tr n S.d1 S.d2 sm c := let ⟨_, _, _, h, _⟩ := h; h
theorem ZDM.nd (h : ZDM a H S n sm c ds ts ws) : (sm.map (·.1)).Nodup := h.tree.nd
theorem ZDM.same (h : ZDM a H S n sm c ds ts ws) (s : ZDC H H') : ZDM a H' S n sm c ds ts ws := by
 obtain ⟨dx, vs, h1, h2, h3, h4, h5, h6, h7⟩ := h
 exact ⟨dx, vs, s _ _ h1, h2.same s, s _ _ h3, h4.tups fun b xs e => s _ _ e, s _ _ h5, s _ _ h6, h7⟩
theorem ZDM.nown (h : ZDM a H S n sm c ds ts ws) {b : Addr} {o : HO} (e : H b = some o) (h1 : ∀ C dx fs, o ≠ .ins C dx fs) (h2 : (∃ m, o = .dK m) → b ≠ S.d1) (h3 : ∀ m, o ≠ .dT m) (h4 : (∃ m, o = .lst m) → b ∉ S.ls) : b ∉ S.own := by
 obtain ⟨dx, vs, g1, ⟨dy, kvs, t1, t2, t3, _⟩, g3, g4, g5, g6, _⟩ := h
 intro z
 simp only [SA.own, List.mem_cons, List.not_mem_nil, or_false] at z
 rcases z with z | z | z | z | z | z
 ·rw [z, t1] at e; exact h1 _ _ _ (Option.some.inj e).symm
 ·exact h2 ⟨_, (by rw [z, t2] at e; exact (Option.some.inj e).symm)⟩ z
 ·rw [z, t3] at e; exact h3 _ (Option.some.inj e).symm
 ·exact h4 ⟨_, (by rw [z, g3] at e; exact (Option.some.inj e).symm)⟩ (by simp [SA.ls, z])
 ·exact h4 ⟨_, (by rw [z, g5] at e; exact (Option.some.inj e).symm)⟩ (by simp [SA.ls, z])
 ·exact h4 ⟨_, (by rw [z, g6] at e; exact (Option.some.inj e).symm)⟩ (by simp [SA.ls, z])
theorem ZDM.fr3 (h : ZDM a H S n sm c ds ts ws) {n' : Int} {sm' : PL} {c' : Nat} (f : Fr3 S.tr S.d1 S.d2 H H') (t : ZDa a.ZF H' S.tr n' S.d1 S.d2 sm' c') : ZDM a H' S n' sm' c' ds ts ws := by
 obtain ⟨dx, vs, h1, h2, h3, h4, h5, h6, h7⟩ := h
 refine ⟨dx, vs, ?_, t, h2.keepL f h3, h4.tups (fun b xs e => h2.keepT f e), h2.keepL f h5, h2.keepL f h6, h7⟩
 obtain ⟨dy, kvs, t1, t2, t3, _⟩ := h2
 exact f _ _ h1 (fun z => by rw [z, t1] at h1; injection h1 with h1; injection h1 with _ _ h3; exact ZTH h3.symm) (fun z => by rw [z, t2] at h1; cases h1) (fun z => by rw [z, t3] at h1; cases h1)
theorem ZDM.kpDone (h : ZDM a H S n sm c ds ts ws) {ts' : List Int} (k : Kp S.dn H H') (f : H' S.dn = some (.lst (ts'.map V.int))) : ZDM a H' S n sm c ds ts' ws := by
 obtain ⟨dx, vs, h1, h2, h3, h4, h5, h6, h7, h8, h9⟩ := h
 exact ⟨dx, vs, k _ _ h1 (fun z => by rw [z, h5] at h1; cases h1), h2.kpX k h5, k _ _ h3 h7, h4.tups (fun b xs e => k _ _ e (fun z => by rw [z, h5] at e; cases e)), f, k _ _ h6 (Ne.symm h9), h7, h8, h9⟩
theorem ZDM.kpDeeds (h : ZDM a H S n sm c ds ts ws) {ds' : List (Int × Option Int)} {vs' : List V} (k : Kp S.dd H H') (f : H' S.dd = some (.lst vs')) (g : ZEO H' vs' ds') : ZDM a H' S n sm c ds' ts ws := by
 obtain ⟨dx, vs, h1, h2, h3, h4, h5, h6, h7, h8, h9⟩ := h
 exact ⟨dx, vs', k _ _ h1 (fun z => by rw [z, h3] at h1; cases h1), h2.kpX k h3, f, g, k _ _ h5 (Ne.symm h7), k _ _ h6 (Ne.symm h8), h7, h8, h9⟩
end
def ZIa (m : PL) (t : Int) : Option Int → PL
 | none => ZEn m t
 | some h => ZDo m t h
section
variable {P : Program} {w : World} {K : W.Frag} {mg : Str → Option Value} {base : Heap} {a : Ad}
local macro_rules | `(tactic| walk_at "rd") => `(tactic| first
 | with_reducible first | refine ZEC (by assumption) (‹Txt _ _ _›).ZM (‹Txt _ _ _›).ZU ZFD ?_ | refine ZEC (by assumption) (‹Txt _ _ _›).ZN (‹Txt _ _ _›).Jf ZPX ?_ | refine ZEC (by assumption) (‹Txt _ _ _›).ZN (‹Txt _ _ _›).JV ZNr ?_ | refine ZEC (by assumption) (‹Txt _ _ _›).ZN (‹Txt _ _ _›).Jr ZPY ?_ | refine ZEC (by assumption) (‹Txt _ _ _›).ZN (‹Txt _ _ _›).Yv ZLJ ?_)
def ZRS (C : Addr) : Sp := fun vs H Q _ => ∃ (p d1 d2 : Addr) (n t v : Int) (sm : PL) (c : Nat), vs = [.ref p, .int t] ∧ ZDa C H p n d1 d2 sm c ∧ ZDi sm t = some v ∧ c ≤ 1000 ∧
 ∀ H', ZDa C H' p n d1 d2 (ZEn sm t) (c + 1) → Fr3 p d1 d2 H H' → Q .non H'
theorem ZKw : ZDL ["self", "t"] ["self", "t"] (ZC9 ZFx) := ZDv
theorem ZKx (T : Txt K mg a) : ZDI P w K mg base CX0 4 a.Y0 a.Yz ["self", "t"] (ZRS a.ZF) := by
 refine T.ZA5.ok ZKw (by walk_at "l") (fun cdv A outer s H vs Q E hr h => ?_)
 ·obtain ⟨p, d1, d2, n, t, v, sm, c, rfl, ⟨dx, kvs, hp, h1, h2, hnd, hkf, hlen⟩, hg, hc, k⟩ := h
  have np1 : p ≠ d1 := fun z => by subst z; rw [hp] at h1; cases h1
  have n21 : d2 ≠ d1 := fun z => by subst z; rw [h1] at h2; cases h2
  refine ⟨_, QB.h (ZDA (ZDq (ZPJ (ZDz K rfl (qv 0)) (qv 1))) (ZDD (ZDq (ZEY (qv 0) T.ZM T.Jo (ZGl T) hr T.Ja .nil ZD2 (ZC7 (qv 1) (ZC7 ZFZ ZC8)))))), ?_⟩
  walk_at "s"
  walk_at "w"
  refine ZPL h1 ?_
  walk_at "w"
  refine ZPM h1 hg fun H3 f3 K3 => ?_
  have hp3 := K3 _ _ hp np1
  have h23 := K3 _ _ h2 n21
  have hk3 : ZD4 H3 kvs (ZEn sm t) (fun l s => s ≠ t / 2 ^ l) := (ZD4.other hkf fun q hq => by
   rw [ZJB]
   exact ⟨fun z => ⟨hq, z⟩, fun z => z.2⟩).kpX K3 h1 (fun xs z => by cases z)
  walk_at "w"
  refine ZDl hp3 ZGE ?_
  walk_at "w"
  refine ⟨p, d1, d2, dx, n, t, .non, none, ZEn sm t, kvs, c, rfl, hp3, f3, h23, ZLD hnd, hk3, hlen, hc, .non, .inl ⟨rfl, ?_⟩, fun H7 hT7 K7 => ?_⟩
  ·cases e : inS (ZEn sm t) 0 t with
   | nil => rfl
   | cons q qs =>
    have hq : q ∈ inS (ZEn sm t) 0 t := by rw [e]; exact List.mem_cons_self
    rw [ZEi, ZJB] at hq
    simp only [Int.pow_zero, Int.ediv_one] at hq
    exact absurd hq.2 hq.1.1
  ·walk_at "w"
   exact k H7 hT7 fun b o e e1 e2 e3 => K7 _ _ (K3 _ _ e e2) e3
def ZRT (a : Ad) : Sp := fun vs H Q _ => ∃ (p dx : Addr) (x : V) (cv : PL), vs = [.ref p, x] ∧ H p = some (.ins a.ZE dx []) ∧ ((x = .non ∧ cv = []) ∨ ∃ t, x = .ref t ∧ PrT H t cv) ∧ (cv.map (·.1)).Nodup ∧ (∀ q ∈ cv, Tm q.1) ∧ cv.length ≤ 100 ∧
 ∀ (S : SA) (sm : PL) (H' : Hp), S.p = p → (∀ b ∈ S.own, H b = none) → ZDM a H' S 0 sm cv.length [] [] [] → (∀ q, q ∈ sm ↔ q ∈ cv) → sm.length ≤ cv.length → Kp p H H' → Q .non H'
theorem ZHU : ZDL ["self", "curve"] ["self", "curve"] (ZC9 ZDd) := ZDv
theorem ZHV (T : Txt K mg a) : ZDI P w K mg base CX0 7 a.Zq a.ZP ["self", "curve"] (ZRT a) := by
 refine T.ZAN.ok ZHU (by walk_at "l") (fun cdv A outer s H vs Q E hr h => ?_)
 ·obtain ⟨p, dx, x, cv, rfl, hp, hx, hnd, htm, hlen, k⟩ := h
  refine ⟨_, QB.h (ZDA (ZFI K rfl (qv 0) (ZQ0 T.ZB8 (ZH9 T) hr rfl T.ZCa T.ZAY .nil ZD2 (ZC7 (qv 1) ZC8))) (ZDA (ZFI K rfl (qv 0) (ZEl ZC8)) (ZDA (ZFI K rfl (qv 0) (ZEl ZC8)) (ZDD (ZFI K rfl (qv 0) (ZEl ZC8)))))), ?_⟩
  walk_at "s"
  walk_at "w"
  refine ZHQ fun tr dt H1 n1 f1 S1 => ?_
  refine ⟨tr, dt, x, cv, rfl, f1, ?_, hnd, htm, hlen, fun d1 d2 sm H2 m1 m2 hT2 hm hl K2 => ⟨rfl, ?_⟩⟩
  ·rcases hx with h | ⟨t, h1, h2⟩
   ·exact .inl h
   ·exact .inr ⟨t, h1, h2.same S1⟩
  have S02 : ZDC H H2 := fun b o e => K2 _ _ (S1 _ _ e) (ZDR e n1)
  have hp2 := S02 _ _ hp
  have nt : tr ≠ p := fun z => by rw [z, hp] at n1; cases n1
  have free : ∀ {b : Addr}, H1 b = none → H b = none := fun {b} e => by
   cases e2 : H b with
   | none => rfl
   | some o => rw [S1 _ _ e2] at e; cases e
  have free2 : ∀ {b : Addr}, H2 b = none → H b = none := fun {b} e => by
   cases e2 : H b with
   | none => rfl
   | some o => rw [S02 _ _ e2] at e; cases e
  walk_at "w"
  refine ZEv hp2 T.ZN T.Jf (by show 0 < 1000; decide) fun H3 f3 K3 => ?_
  walk_at "w"
  refine ZDZ (by show 0 ≤ sizeLine; decide) fun dd H4 n4 f4 S4 => ?_
  have np4 : dd ≠ p := fun z => by rw [z, f3] at n4; cases n4
  walk_at "w"
  refine ZEv (S4 _ _ f3) T.ZN T.JV (by show 1 < 1000; decide) fun H5 f5 K5 => ?_
  walk_at "w"
  refine ZDZ (by show 0 ≤ sizeLine; decide) fun dn H6 n6 f6 S6 => ?_
  have np6 : dn ≠ p := fun z => by rw [z, f5] at n6; cases n6
  walk_at "w"
  refine ZEv (S6 _ _ f5) T.ZN T.Jr (by show 2 < 1000; decide) fun H7 f7 K7 => ?_
  walk_at "w"
  refine ZDZ (by show 0 ≤ sizeLine; decide) fun wt H8 n8 f8 S8 => ?_
  have np8 : wt ≠ p := fun z => by rw [z, f7] at n8; cases n8
  walk_at "w"
  refine ZEv (S8 _ _ f7) T.ZN T.Yv (by show 3 < 1000; decide) fun H9 f9 K9 => ?_
  rw [ZRR] at f9
  have K29 : Kp p H2 H9 := (((((K3.then S4).trans K5).then S6).trans K7).then S8).trans K9
  have K24 : Kp p H2 H5 := (K3.then S4).trans K5
  have K26 : Kp p H2 H7 := (K24.then S6).trans K7
  have g4 : H9 dd = some (.lst []) := K9 _ _ (S8 _ _ (K7 _ _ (S6 _ _ (K5 _ _ f4 np4)) np4)) np4
  have g6 : H9 dn = some (.lst []) := K9 _ _ (S8 _ _ (K7 _ _ f6 np6)) np6
  have g8 : H9 wt = some (.lst []) := K9 _ _ f8 np8
  have e46 : dd ≠ dn := fun z => by rw [← z, K5 _ _ f4 np4] at n6; cases n6
  have e48 : dd ≠ wt := fun z => by rw [← z, K7 _ _ (S6 _ _ (K5 _ _ f4 np4)) np4] at n8; cases n8
  have e68 : dn ≠ wt := fun z => by rw [← z, K7 _ _ f6 np6] at n8; cases n8
  have hT9 : ZDa a.ZF H9 tr 0 d1 d2 sm cv.length := by
   obtain ⟨dy, kvs, t1, t2, t3, t4, t5, t6⟩ := hT2
   have nt2 : ∀ {b : Addr} {xs : List V}, H2 b = some (.tup xs) → H9 b = some (.tup xs) := fun e => K29 _ _ e (fun z => by rw [z, hp2] at e; cases e)
   exact ⟨dy, kvs, K29 _ _ t1 nt, K29 _ _ t2 (fun z => by rw [z, hp2] at t2; cases t2), K29 _ _ t3 (fun z => by rw [z, hp2] at t3; cases t3), t4, t5.tups (fun b xs e => nt2 e), t6⟩
  have fr4 : H dd = none := by
   cases e : H dd with
   | none => rfl
   | some o => rw [K3 _ _ (S02 _ _ e) np4] at n4; cases n4
  have fr6 : H dn = none := by
   cases e : H dn with
   | none => rfl
   | some o => rw [K24 _ _ (S02 _ _ e) np6] at n6; cases n6
  have fr8 : H wt = none := by
   cases e : H wt with
   | none => rfl
   | some o => rw [K26 _ _ (S02 _ _ e) np8] at n8; cases n8
  walk_at "w"
  refine k ⟨p, tr, d1, d2, dd, dn, wt⟩ sm H9 rfl (fun b hb => ?_) ⟨dx, [], f9, hT9, g4, .nil, g6, g8, e46, e48, e68⟩ hm hl ((Kp.same S02).trans K29)
  simp only [SA.own, List.mem_cons, List.not_mem_nil, or_false] at hb
  rcases hb with rfl | rfl | rfl | rfl | rfl | rfl
  ·exact n1
  ·exact free m1
  ·exact free m2
  ·exact fr4
  ·exact fr6
  ·exact fr8
def ZPa (a : Ad) : Sp := fun vs H Q _ => ∃ (S : SA) (n t : Int) (o : Option Int) (sm : PL) (c : Nat) (ds : List (Int × Option Int)) (ts : List Int) (ws : List V), vs = [.ref S.p, .int t, ZHG o] ∧ ZDM a H S n sm c ds ts ws ∧
 Tm t ∧ (o = none → (ZDi sm t).isSome = true) ∧ c ≤ 900 ∧ sm.length ≤ 900 ∧ ts.length ≤ 900 ∧
 ∀ H', ZDM a H' S n (ZIa sm t o) (c + 1) ds (ts ++ [t]) ws → FrS S H H' → Q .non H'
theorem ZIt : ZDL ["self", "t", "h"] ["self", "t", "h"] (ZC9 ZFK) := ZDv
theorem ZIu (T : Txt K mg a) : ZDI P w K mg base CX0 5 a.YY a.YV ["self", "t", "h"] (ZPa a) := by
 refine T.ZAk.ok ZIt (by walk_at "l") (fun cdv A outer s H vs Q E hr h => ?_)
 ·obtain ⟨S, n, t, o, sm, c, ds, ts, ws, rfl, hS, ht, ho, hc, hsl, htl, k⟩ := h
  refine ⟨_, QB.h (ZDA (ZEF (ZDm (ZJq) (qv 2) ZFZ (ZDx _)) (ZDD (ZDq (ZEY (ZDz K rfl (qv 0)) T.ZM T.ZA8 (ZKx T) hr T.ZA2 .nil ZD2 (ZC7 (qv 1) ZC8)))) (ZDD (ZDq (ZEY (ZDz K rfl (qv 0)) T.ZM T.ZAV (ZHf T) hr T.ZAX .nil ZD2 (ZC7 (qv 1) (ZC7 (qv 2) ZC8)))))) (ZDD (ZDq (ZMD PySem.F.plainAttrs_list PySem.F.slot_list_append PySem.F.type_list_append ZFi (ZDz K rfl (qv 0)) (ZC7 (qv 1) ZC8))))), ?_⟩
  walk_at "s"
  have fin : ∀ H1, ZDa a.ZF H1 S.tr n S.d1 S.d2 (ZIa sm t o) (c + 1) → Fr3 S.tr S.d1 S.d2 H H1 → ZDM a H1 S n (ZIa sm t o) (c + 1) ds ts ws := fun H1 hT F => hS.fr3 F hT
  obtain ⟨dx, vs, hp, hT, _⟩ := id hS
  obtain ⟨dy, kvs, hq, _⟩ := id hT
  walk_at "w"
  cases o with
  | none =>
   obtain ⟨v, hv⟩ := Option.isSome_iff_exists.mp (ho rfl)
   refine ZEZ (fun _ => ?_) (fun h => absurd rfl h)
   walk_at "w"
   refine ZDl hq ZGE ?_
   walk_at "w"
   refine ⟨S.tr, S.d1, S.d2, n, t, v, sm, c, rfl, hT, hv, by omega, fun H1 hT1 F1 => ?_⟩
   have hS1 := fin H1 hT1 F1
   obtain ⟨dx1, vs1, hp1, hT1', hd1, hD1, hn1, hw1, hne⟩ := id hS1
   walk_at "w"
   refine ⟨tyL hn1, ?_⟩
   walk_at "w"
   refine ZFk hn1 (by rw [List.length_map]; exact Nat.lt_of_le_of_lt htl (by decide)) fun H2 f2 K2 => ?_
   walk_at "w"
   exact k H2 (hS1.kpDone K2 (by rw [List.map_append]; exact f2)) ((FrS.fr3 F1).trans (.kp K2 (by simp [SA.own])))
  | some h =>
   refine ZEZ (fun h => by simp [ZHG] at h) (fun _ => ?_)
   walk_at "w"
   refine ZDl hq ZGE ?_
   walk_at "w"
   refine ⟨S.tr, S.d1, S.d2, n, t, h, sm, c, rfl, hT, ht, by omega, by omega, fun H1 hT1 F1 => ?_⟩
   have hS1 := fin H1 hT1 F1
   obtain ⟨dx1, vs1, hp1, hT1', hd1, hD1, hn1, hw1, hne⟩ := id hS1
   walk_at "w"
   refine ⟨tyL hn1, ?_⟩
   walk_at "w"
   refine ZFk hn1 (by rw [List.length_map]; exact Nat.lt_of_le_of_lt htl (by decide)) fun H2 f2 K2 => ?_
   walk_at "w"
   exact k H2 (hS1.kpDone K2 (by rw [List.map_append]; exact f2)) ((FrS.fr3 F1).trans (.kp K2 (by simp [SA.own])))
def ZTl (a : Ad) : Sp := fun vs H Q _ => ∃ (S : SA) (n t : Int) (o : Option Int) (sm : PL) (c : Nat) (ds : List (Int × Option Int)) (ts : List Int) (ws : List V), vs = [.ref S.p, .int t, ZHG o] ∧ ZDM a H S n sm c ds ts ws ∧
 Tm t ∧ (o = none → (ZDi sm t).isSome = true) ∧ c ≤ 900 ∧ sm.length ≤ 900 ∧ ts.length ≤ 900 ∧ ds.length ≤ 900 ∧
 ∀ H', ZDM a H' S n (ZIa sm t o) (c + 1) (ds ++ [(t, ZDi sm t)]) (ts ++ [t]) ws → FrS S H H' → Q (ZHG (ZDi sm t)) H'
theorem ZHg : ZDL ["self", "t", "h", "before"] ["self", "t", "h"] (ZC9 ZGe) := ZDv
theorem ZLK (T : Txt K mg a) : ZDI P w K mg base CX0 6 a.JO a.JI ["self", "t", "h"] (ZTl a) := by
 refine T.ZBW.ok ZHg (by walk_at "l") (fun cdv A outer s H vs Q E hr h => ?_)
 ·obtain ⟨S, n, t, o, sm, c, ds, ts, ws, rfl, hS, ht, ho, hc, hsl, htl, hdl, k⟩ := h
  have hu := ZHM hr
  refine ⟨_, QB.h (ZDA (qsS (i := 3) ZHg.nd (ZH1 hu (ZDz K rfl (ZDz K rfl (qv 0))) (qv 1))) (ZDA (ZDq (ZEY (qv 0) T.ZN T.ZAm (ZIu T) hr T.ZAl .nil ZD2 (ZC7 (qv 1) (ZC7 (qv 2) ZC8)))) (ZDA (ZDq (ZMD PySem.F.plainAttrs_list PySem.F.slot_list_append PySem.F.type_list_append ZFi (ZDz K rfl (qv 0)) (ZC7 (ZEI (ZC7 (qv 1) (ZC7 (qv 3) ZC8))) ZC8))) (ZDD (ZDT (qv 3)))))), ?_⟩
  walk_at "s"
  obtain ⟨dx, vs, hp, hT, _⟩ := id hS
  obtain ⟨dy, kvs, hq, hd1, _⟩ := id hT
  walk_at "w"
  refine ZNO hd1 ?_
  walk_at "w"
  refine ZO4 hd1 ?_
  rw [ZPZ]
  walk_at "w"
  refine ZDl hp ZHF ?_
  walk_at "w"
  refine ⟨S, n, t, o, sm, c, ds, ts, ws, rfl, hS, ht, ho, hc, hsl, htl, fun H1 hS1 F1 => ?_⟩
  obtain ⟨dx1, vs1, hp1, hT1, hd1, hD1, _⟩ := id hS1
  walk_at "w"
  refine ⟨tyL hd1, ?_⟩
  walk_at "w"
  refine ZDZ (by show 2 ≤ sizeLine; decide) fun b H2 n2 f2 S2 => ?_
  walk_at "w"
  refine ZFk (S2 _ _ hd1) (by rw [hD1.len]; exact Nat.lt_of_le_of_lt hdl (by decide)) fun H3 f3 K3 => ?_
  have nt : ∀ {b : Addr} {xs : List V}, H2 b = some (.tup xs) → H3 b = some (.tup xs) := fun e => K3 _ _ e (fun z => by rw [z, S2 _ _ hd1] at e; cases e)
  walk_at "w"
  exact k H3 ((hS1.same S2).kpDeeds K3 f3 (((hD1.tups fun b xs e => S2 _ _ e).tups fun b xs e => nt e).snoc (q := (t, ZDi sm t)) (nt f2))) ((F1.trans (.same S2)).trans (.kp K3 (by simp [SA.own])))
def ZTI (a : Ad) : Sp := fun vs H Q _ => ∃ (S : SA) (n t h : Int) (sm : PL) (c : Nat) (ds : List (Int × Option Int)) (ts : List Int) (ws : List V), vs = [.ref S.p, .int t, .int h] ∧ ZDM a H S n sm c ds ts ws ∧
 Tm t ∧ c ≤ 900 ∧ sm.length ≤ 900 ∧ ts.length ≤ 900 ∧ ds.length ≤ 900 ∧
 ∀ H', ZDM a H' S n (ZDo sm t h) (c + 1) (ds ++ [(t, ZDi sm t)]) (ts ++ [t]) ws → FrS S H H' → Q (ZHG (ZDi sm t)) H'
theorem ZKy : ZDL ["self", "t", "h"] ["self", "t", "h"] (ZC9 ZFz) := ZDv
theorem ZKz (T : Txt K mg a) : ZDI P w K mg base CX0 7 a.JD a.JC ["self", "t", "h"] (ZTI a) := by
 refine T.ZA4.ok ZKy (by walk_at "l") (fun cdv A outer s H vs Q E hr h => ?_)
 ·obtain ⟨S, n, t, h, sm, c, ds, ts, ws, rfl, hS, ht, hc, hsl, htl, hdl, k⟩ := h
  refine ⟨_, QB.h (ZDA (ZDq (qcS (ZGk T) hr.m T.Jg T.Ym.kp T.Jp (ZC7 (qv 1) ZC8))) (ZDD (ZDT (ZEY (qv 0) T.ZN T.ZBK (ZLK T) hr T.ZBL .nil ZD2 (ZC7 (qv 1) (ZC7 (qv 2) ZC8)))))), ?_⟩
  walk_at "s"
  obtain ⟨dx, vs, hp, hT, _⟩ := id hS
  walk_at "w"
  refine ⟨t, rfl, ht, ?_⟩
  walk_at "w"
  refine ZDl hp ZHF ?_
  walk_at "w"
  exact ⟨S, n, t, some h, sm, c, ds, ts, ws, rfl, hS, ht, (fun z => by cases z), hc, hsl, htl, hdl, fun H1 hS1 F1 => k H1 hS1 F1⟩
def ZRU (a : Ad) : Sp := fun vs H Q _ => ∃ (S : SA) (n : Int) (sm : PL) (c : Nat) (ds : List (Int × Option Int)) (ts : List Int) (ws : List V), vs = [.ref S.p] ∧ ZDM a H S n sm c ds ts ws ∧ sm.length < 64 ∧
 ∀ (t : Addr) (cv : PL) (H' : Hp), PrT H' t cv → Asc cv → (∀ q, q ∈ cv ↔ q ∈ sm) → ZDC H H' → Q (.ref t) H'
theorem ZJT : ZDL ["self"] ["self"] (ZC9 ZFd) := ZDv
theorem ZGm (T : Txt K mg a) : ZDI P w K mg base CX0 3 a.Yr a.Yq ["self"] (ZRU a) := by
 refine T.ZAw.ok ZJT (by walk_at "l") (fun cdv A outer s H vs Q E hr h => ?_)
 ·obtain ⟨S, n, sm, c, ds, ts, ws, rfl, hS, hl, k⟩ := h
  refine ⟨_, QB.h (ZDD (ZDT (ZE7 (ZDz K rfl (qv 0)) T.ZM T.ZBC (ZKv T) hr T.ZA0 .nil ZD2))), ?_⟩
  walk_at "s"
  obtain ⟨dx, vs, hp, hT, _⟩ := id hS
  obtain ⟨dy, kvs, hq, hd1, _⟩ := id hT
  walk_at "w"
  refine ZDl hq ZGE ?_
  walk_at "w"
  exact ⟨S.tr, S.d1, S.d2, n, sm, c, rfl, hT, hl, k⟩
end
section
variable {a : Ad} {H H' : Hp} {S : SA} {n : Int} {sm : PL} {c : Nat} {ds : List (Int × Option Int)} {ts : List Int} {ws : List V}
theorem ZDM.live (h : ZDM a H S n sm c ds ts ws) : ∀ b ∈ S.p :: S.own, ∃ o, H b = some o := by
 obtain ⟨dx, vs, h1, ⟨dy, kvs, t1, t2, t3, _⟩, h3, h4, h5, h6, h7⟩ := h
 intro b hb
 simp only [SA.own, List.mem_cons, List.not_mem_nil, or_false] at hb
 rcases hb with rfl | rfl | rfl | rfl | rfl | rfl | rfl
 ·exact ⟨_, h1⟩
 ·exact ⟨_, t1⟩
 ·exact ⟨_, t2⟩
 ·exact ⟨_, t3⟩
 ·exact ⟨_, h3⟩
 ·exact ⟨_, h5⟩
 ·exact ⟨_, h6⟩
theorem ZDM.noTup (h : ZDM a H S n sm c ds ts ws) : ∀ b ∈ S.own, ∀ xs, H b ≠ some (.tup xs) := by
 obtain ⟨dx, vs, h1, ⟨dy, kvs, t1, t2, t3, _⟩, h3, h4, h5, h6, h7⟩ := h
 intro b hb xs e
 simp only [SA.own, List.mem_cons, List.not_mem_nil, or_false] at hb
 rcases hb with rfl | rfl | rfl | rfl | rfl | rfl
 ·rw [t1] at e; cases e
 ·rw [t2] at e; cases e
 ·rw [t3] at e; cases e
 ·rw [h3] at e; cases e
 ·rw [h5] at e; cases e
 ·rw [h6] at e; cases e
theorem ZDM.frL (h : ZDM a H S n sm c ds ts ws) {l : List Addr} (f : FrL l H H') (d : ∀ b ∈ l, b ∉ S.p :: S.own) (nt : ∀ b ∈ l, ∀ xs, H b ≠ some (.tup xs)) : ZDM a H' S n sm c ds ts ws := by
 obtain ⟨dx, vs, h1, ⟨dy, kvs, t1, t2, t3, t4, t5, t6⟩, h3, h4, h5, h6, h7⟩ := h
 have k : ∀ b o, H b = some o → b ∈ S.p :: S.own → H' b = some o := fun b o e m => f _ _ e fun z => d b z m
 have kt : ∀ b xs, H b = some (.tup xs) → H' b = some (.tup xs) := fun b xs e => f _ _ e fun z => nt b z xs e
 exact ⟨dx, vs, k _ _ h1 (by simp), ⟨dy, kvs, k _ _ t1 (by simp [SA.own]), k _ _ t2 (by simp [SA.own]), k _ _ t3 (by simp [SA.own]), t4, t5.tups kt, t6⟩, k _ _ h3 (by simp [SA.own]), h4.tups kt, k _ _ h5 (by simp [SA.own]), k _ _ h6 (by simp [SA.own]), h7⟩
end
def bfl (d : Addr) : List (Str × V) := [("stores", V.ref d)]
theorem ZMd {d : Addr} : (bfl d).lookup ("stores" : Str) = some (.ref d) := by
 unfold bfl
 rw [List.lookup_cons, beq_self_eq_true]
theorem ZGF {d : Addr} {m : Str} (h1 : (m == ("stores" : Str)) = false) : (bfl d).lookup m = none := by
 unfold bfl
 rw [List.lookup_cons, h1]
 rfl
structure SS where
 S : SA
 sm : PL
 c : Nat
 ds : List (Int × Option Int)
 ts : List Int
 ws : List V
def SS.At (a : Ad) (H : Hp) (q : SS) : Prop := ∃ n, ZDM a H q.S n q.sm q.c q.ds q.ts q.ws
def SS.all (q : SS) : List Addr := q.S.p :: q.S.own
def ZDs (m : List (Str × SS)) : List (Str × V) := m.map fun q => (q.1, V.ref q.2.S.p)
theorem ZHH (m : List (Str × SS)) : (ZDs m).length = m.length := by simp [ZDs]
theorem ZGf (m : List (Str × SS)) : (ZDs m).map (·.1) = m.map (·.1) := by simp [ZDs, List.map_map, Function.comp_def]
theorem ZEg (m : List (Str × SS)) (k : Str) : ZDJ (ZDs m) k = (ZDJ m k).map fun q => V.ref q.S.p := ZPO (fun q : SS => V.ref q.S.p) m k
structure BIn (a : Ad) (H : Hp) (p d : Addr) (m : List (Str × SS)) : Prop where
 nd : (m.map (·.1)).Nodup
 st : ∀ q ∈ m, q.2.At a H
 pw : m.Pairwise fun x y => ∀ b ∈ x.2.all, b ∉ y.2.all
 ap : ∀ q ∈ m, p ∉ q.2.all ∧ d ∉ q.2.all
def ZDO (a : Ad) (H : Hp) (p d : Addr) (m : List (Str × SS)) : Prop := (∃ dx, H p = some (.ins a.ZL dx (bfl d))) ∧ H d = some (.dK (dkS (ZDs m))) ∧ BIn a H p d m
def BL (p d : Addr) (m : List (Str × SS)) : List Addr := p :: d :: m.flatMap fun q => q.2.all
theorem ZDe {p d b : Addr} {m : List (Str × SS)} : b ∈ BL p d m ↔ b = p ∨ b = d ∨ ∃ q ∈ m, b ∈ q.2.all := by simp [BL, List.mem_flatMap]
theorem ZPw {α : Type} {R : α → α → Prop} (sy : ∀ x y, R x y → R y x) : ∀ {l : List α}, l.Pairwise R → ∀ {x y : α}, x ∈ l → y ∈ l → x ≠ y → R x y
 | [], _, _, _, h, _, _ => by cases h
 | z :: l, h, x, y, hx, hy, n => by
  rw [List.pairwise_cons] at h
  rcases List.mem_cons.mp hx with e1 | hx <;> rcases List.mem_cons.mp hy with e2 | hy
  ·exact absurd (e1.trans e2.symm) n
  ·rw [e1]; exact h.1 y hy
  ·rw [e2]; exact sy _ _ (h.1 x hx)
  ·exact ZPw sy h.2 hx hy n
section
variable {a : Ad} {H H' : Hp} {p d : Addr} {m : List (Str × SS)} {l : List Addr}
theorem SS.At.frL {q : SS} (h : q.At a H) (f : FrL l H H') (n : ∀ b ∈ l, b ∉ q.all) (nt : ∀ b ∈ l, ∀ xs, H b ≠ some (.tup xs)) : q.At a H' := by
 obtain ⟨x, h⟩ := h
 exact ⟨x, h.frL f n nt⟩
theorem SS.At.same {q : SS} (h : q.At a H) (s : ZDC H H') : q.At a H' := by
 obtain ⟨x, h⟩ := h
 exact ⟨x, h.same s⟩
theorem BIn.frL (h : BIn a H p d m) (f : FrL l H H') (n : ∀ q ∈ m, ∀ b ∈ l, b ∉ q.2.all) (nt : ∀ b ∈ l, ∀ xs, H b ≠ some (.tup xs)) : BIn a H' p d m := ⟨h.nd, fun q hq => (h.st q hq).frL f (n q hq) nt, h.pw, h.ap⟩
theorem BIn.same (h : BIn a H p d m) (s : ZDC H H') : BIn a H' p d m := ⟨h.nd, fun q hq => (h.st q hq).same s, h.pw, h.ap⟩
theorem BIn.apart (h : BIn a H p d m) {x y : Str × SS} (hx : x ∈ m) (hy : y ∈ m) (n : x ≠ y) : ∀ b ∈ x.2.all, b ∉ y.2.all := ZPw (fun _ _ h b hb z => h b z hb) h.pw hx hy n
theorem ZDO.bin (h : ZDO a H p d m) : BIn a H p d m := h.2.2
theorem ZDO.frL (h : ZDO a H p d m) (f : FrL l H H') (n : ∀ b ∈ l, b ∉ BL p d m) (nt : ∀ b ∈ l, ∀ xs, H b ≠ some (.tup xs)) : ZDO a H' p d m := by
 obtain ⟨⟨dx, h1⟩, h2, h3⟩ := h
 exact ⟨⟨dx, f _ _ h1 fun z => n _ z (ZDe.mpr (.inl rfl))⟩, f _ _ h2 fun z => n _ z (ZDe.mpr (.inr (.inl rfl))), h3.frL f (fun q hq b hb z => n b hb (ZDe.mpr (.inr (.inr ⟨q, hq, z⟩)))) nt⟩
theorem ZDO.same (h : ZDO a H p d m) (s : ZDC H H') : ZDO a H' p d m := by
 obtain ⟨⟨dx, h1⟩, h2, h3⟩ := h
 exact ⟨⟨dx, s _ _ h1⟩, s _ _ h2, h3.same s⟩
theorem ZDO.live (h : ZDO a H p d m) : ∀ b ∈ BL p d m, ∃ o, H b = some o := fun b hb => by
 obtain ⟨⟨dx, h1⟩, h2, h3⟩ := h
 rcases ZDe.mp hb with rfl | rfl | ⟨q, hq, z⟩
 ·exact ⟨_, h1⟩
 ·exact ⟨_, h2⟩
 ·obtain ⟨n, hS⟩ := h3.st q hq
  exact hS.live b z
theorem ZDO.fresh (h : ZDO a H p d m) {b : Addr} (e : H b = none) : b ∉ BL p d m := fun z => by
 obtain ⟨o, e2⟩ := h.live b z
 rw [e] at e2; cases e2
theorem ZDO.kpL (h : ZDO a H p d m) {q : Addr} {xs : List V} (k : Kp q H H') (hq : H q = some (.lst xs)) (nq : q ∉ BL p d m) : ZDO a H' p d m :=
 h.frL (l := [q]) (FrL.kp k (by simp)) (fun b hb => by rw [List.mem_singleton.mp hb]; exact nq) fun b hb ys => by rw [List.mem_singleton.mp hb, hq]; intro z; cases z
theorem ZDO.pur (h : ZDO a H p d m) {q : Addr} (hp : Pur H q) (k : Kp q H H') (nq : q ∉ BL p d m) : ZDO a H' p d m := by
 obtain ⟨x, n, c, e, _⟩ := hp
 exact h.kpL k e nq
theorem ZJJ {k : Str} {q q' : SS} (nd : (m.map (·.1)).Nodup) (hg : ZDJ m k = some q) (e : q'.S = q.S) : ZDs (ZEe m k q') = ZDs m ∧ (ZEe m k q').map (·.1) = m.map (·.1) := by
 have ha : (m.any fun p => decide (p.1 = k)) = true := by
  rw [List.any_eq_true]
  exact ⟨_, ZEf hg, by simp⟩
 unfold ZEe
 rw [if_pos ha]
 unfold ZDs
 constructor
 ·rw [List.map_map]
  refine List.map_congr_left fun x hx => ?_
  simp only [Function.comp]
  split
  ·rename_i c
   have h1 : ZDJ m k = some x.2 := ZFX nd (by rw [← c]; exact hx)
   rw [hg] at h1
   rw [e, Option.some.inj h1]
  ·rfl
 ·rw [List.map_map]
  refine List.map_congr_left fun x hx => ?_
  simp only [Function.comp]
  split <;> rfl
theorem ZFe {k : Str} {q q' : SS} (n : (m.map (·.1)).Nodup) (hg : ZDJ m k = some q) {x : Str × SS} (hx : x ∈ ZEe m k q') : x = (k, q') ∨ (x ∈ m ∧ x.1 ≠ k) := by
 have ha : (m.any fun p => decide (p.1 = k)) = true := by
  rw [List.any_eq_true]
  exact ⟨_, ZEf hg, by simp⟩
 unfold ZEe at hx
 rw [if_pos ha] at hx
 obtain ⟨z, hz, e⟩ := List.mem_map.mp hx
 by_cases c : z.1 = k
 ·rw [if_pos c] at e
  left; rw [← e, c]
 ·rw [if_neg c] at e
  right; rw [← e]; exact ⟨hz, c⟩
theorem ZRV {k : Str} {q q' : SS} (nd : (m.map (·.1)).Nodup) (hg : ZDJ m k = some q) (e : q'.S = q.S) (h : m.Pairwise fun x y => ∀ b ∈ x.2.all, b ∉ y.2.all) : (ZEe m k q').Pairwise fun x y => ∀ b ∈ x.2.all, b ∉ y.2.all := by
 have ha : (m.any fun p => decide (p.1 = k)) = true := by
  rw [List.any_eq_true]
  exact ⟨_, ZEf hg, by simp⟩
 have hal : ∀ x ∈ m, (if x.1 = k then (x.1, q') else x).2.all = x.2.all := fun x hx => by
  split
  ·rename_i c
   have h1 : ZDJ m k = some x.2 := ZFX nd (by rw [← c]; exact hx)
   rw [hg] at h1
   unfold SS.all
   rw [e, Option.some.inj h1]
  ·rfl
 unfold ZEe
 rw [if_pos ha, List.pairwise_map]
 exact h.imp_of_mem fun {x y} hx hy g b hb => by
  rw [hal x hx] at hb
  rw [hal y hy]
  exact g b hb
theorem ZDO.deed (h : ZDO a H p d m) {k : Str} {q q' : SS} (hg : ZDJ m k = some q) (e : q'.S = q.S) (g : q'.At a H') (f : FrS q.S H H') : ZDO a H' p d (ZEe m k q') := by
 obtain ⟨⟨dx, h1⟩, h2, h3⟩ := h
 have hq := ZEf hg
 obtain ⟨n, hS⟩ := h3.st _ hq
 have apq := h3.ap _ hq
 obtain ⟨e1, e2⟩ := ZJJ h3.nd hg e
 refine ⟨⟨dx, f _ _ h1 fun z => apq.1 (List.mem_cons_of_mem _ z)⟩, by rw [e1]; exact f _ _ h2 fun z => apq.2 (List.mem_cons_of_mem _ z), by rw [e2]; exact h3.nd, fun x hx => ?_, ZRV h3.nd hg e h3.pw, fun x hx => ?_⟩
 ·rcases ZFe h3.nd hg hx with rfl | ⟨hx, nx⟩
  ·exact g
  ·have hA := h3.apart hq hx fun z => nx (by rw [← z])
   exact (h3.st x hx).frL (l := q.S.own) (fun b o eb nb => f _ _ eb nb) (fun b hb => hA b (List.mem_cons_of_mem _ hb)) hS.noTup
 ·rcases ZFe h3.nd hg hx with rfl | ⟨hx, nx⟩
  ·unfold SS.all
   rw [e]
   exact apq
  ·exact h3.ap x hx
theorem ZDO.more (h : ZDO a H p d m) {k : Str} {S : SA} (hg : ZDJ m k = none) {H1 : Hp} (hfr : ∀ b ∈ S.p :: S.own, H b = none) (s : ZDC H H1) (g : (SS.mk S [] 0 [] [] []).At a H1) (kp : Kp d H1 H') (f : H' d = some (.dK (dkS (ZDs (m ++ [(k, ⟨S, [], 0, [], [], []⟩)]))))) : ZDO a H' p d (m ++ [(k, ⟨S, [], 0, [], [], []⟩)]) := by
 have hl := h.live
 obtain ⟨⟨dx, h1⟩, h2, h3⟩ := h
 have npd : p ≠ d := fun z => by rw [z, h2] at h1; cases h1
 have nt : ∀ xs, H1 d ≠ some (.tup xs) := fun xs z => by rw [s _ _ h2] at z; cases z
 have fa : ∀ b ∈ BL p d m, b ∉ S.p :: S.own := fun b hb z => by
  obtain ⟨o, e⟩ := hl b hb
  rw [hfr b z] at e; cases e
 have nd' : d ∉ S.p :: S.own := fa d (ZDe.mpr (.inr (.inl rfl)))
 refine ⟨⟨dx, kp _ _ (s _ _ h1) npd⟩, f, ?_, fun x hx => ?_, ?_, fun x hx => ?_⟩
 ·rw [List.map_append, List.nodup_append]
  refine ⟨h3.nd, by simp, fun y hy z hz e => ?_⟩
  simp only [List.map_cons, List.map_nil, List.mem_singleton] at hz
  rw [ZFo] at hg
  exact hg (by rw [← hz, ← e]; exact hy)
 ·have aux : ∀ q : SS, q.At a H1 → d ∉ q.all → q.At a H' := fun q hq nq => hq.frL (l := [d]) (FrL.kp kp (by simp)) (fun b hb => by rw [List.mem_singleton.mp hb]; exact nq) fun b hb => by rw [List.mem_singleton.mp hb]; exact nt
  rcases List.mem_append.mp hx with hx | hx
  ·exact aux _ ((h3.st x hx).same s) (h3.ap x hx).2
  ·rw [List.mem_singleton.mp hx]
   exact aux _ g nd'
 ·rw [List.pairwise_append]
  refine ⟨h3.pw, List.pairwise_singleton _ _, fun x hx y hy b hb => ?_⟩
  rw [List.mem_singleton.mp hy]
  exact fa b (ZDe.mpr (.inr (.inr ⟨x, hx, hb⟩)))
 ·rcases List.mem_append.mp hx with hx | hx
  ·exact h3.ap x hx
  ·rw [List.mem_singleton.mp hx]
   exact ⟨fa p (ZDe.mpr (.inl rfl)), nd'⟩
end
def ZD7 (k : Str) : Bool := decide (1 ≤ k.length) && decide (k.length ≤ 8) && k.cps.toList.all fun c => decide (c ∈ ("abcdefghijklmnopqrstuvwxyz" : Str).cps.toList)
theorem ZNs (K : W.Frag) : W.kitOne K (.type "str") (.type "str") = some true := by kernel_rfl
section
variable {P : Program} {w : World} {K : W.Frag} {mg : Str → Option Value} {base : Heap} {a : Ad}
local macro_rules | `(tactic| walk_at "rd") => `(tactic| first
 | with_reducible refine ZEC (by assumption) (‹Txt _ _ _›).Z1 (‹Txt _ _ _›).JH ZMd ?_)
inductive ZIA (H : Hp) : V → Prop where
 | non : ZIA H .non
 | bl (b : Bool) : ZIA H (.bl b)
 | int (i : Int) : ZIA H (.int i)
 | tup {p : Addr} {xs : List V} (e : H p = some (.tup xs)) : ZIA H (.ref p)
 | lst {p : Addr} {xs : List V} (e : H p = some (.lst xs)) : ZIA H (.ref p)
theorem ZNt (K : W.Frag) : W.kitOne K (.type "NoneType") (.type "str") = some false := by kernel_rfl
theorem ZPb (K : W.Frag) : W.kitOne K (.type "bool") (.type "str") = some false := by kernel_rfl
theorem ZNu (K : W.Frag) : W.kitOne K (.type "int") (.type "str") = some false := by kernel_rfl
theorem ZNv (K : W.Frag) : W.kitOne K (.type "tuple") (.type "str") = some false := by kernel_rfl
theorem ZNw (K : W.Frag) : W.kitOne K (.type "list") (.type "str") = some false := by kernel_rfl
def ZPc : Sp := fun vs H Q _ => ∃ v : V, vs = [v] ∧ ((∃ k : Str, v = .str k ∧ k.length ≤ 1000 ∧ ∀ H', ZDC H H' → Q (.bl (ZD7 k)) H') ∨ (ZIA H v ∧ Q (.bl false) H))
theorem ZMe : ZDL ["thing"] ["thing"] (ZC9 ZFq) := ZDv
theorem ZIb (T : Txt K mg a) : ZDI P w K mg base CX0 1 a.Jt a.Jw ["thing"] ZPc := by
 refine T.J9.ok ZMe (by walk_at "l") (fun cdv A outer s H vs Q E hr h => ?_)
 ·obtain ⟨v, rfl, hv⟩ := h
  refine ⟨_, QB.h (ZDD (ZDT (ZIN (ZDX (ZJz K rfl) rfl T.ZO ZET (ZC7 (qv 0) (ZC7 (ZIi (v := .ty "str") rfl T.ZBN ZSD rfl) ZC8))) (ZIN (ZJv ZIE ZIE ZDB (ZDX ZRA rfl T.JQ ZGp (ZC7 (qv 0) ZC8)) (ZD5 (v := .int 8) rfl T.ZAZ ⟨_, rfl⟩)) (ZJu (ZDX (ZSr K rfl rfl) rfl T.ZBY ZSF (ZC7 (ZLa (N := ["thing"]) (sc := ZC9 ZFq) (own := ["sign"]) (caps := []) (ks := []) rfl rfl rfl ⟨rfl, by decide +kernel, by decide +kernel, by decide +kernel, by decide +kernel, rfl, by decide +kernel⟩ (ZS8 (qv 0)) (fun _ _ _ _ _ => ZIj (i := 0) (show List.Nodup (α := Str) ["sign"] from by decide +kernel) rfl (by walk_at "o") (.inr rfl)) (fun _ _ _ _ _ => ZJw) (fun _ _ _ _ _ => ZQn (ZS5) (qv 0) (ZD5 (v := .str "abcdefghijklmnopqrstuvwxyz") rfl T.ZBk ⟨_, rfl⟩) (by with_unfolding_all rfl))) ZC8))))))), ?_⟩
  walk_at "s"
  walk_at "w"
  rcases hv with ⟨z, rfl, hl, k⟩ | ⟨hv, q⟩
  case inr =>
   cases hv with
   | non => exact ZFH .non (ZNt _) (ZHq (ZEc q))
   | bl b => exact ZFH (.bl b) (ZPb _) (ZHq (ZEc q))
   | int i => exact ZFH (.int i) (ZNu _) (ZHq (ZEc q))
   | tup e => exact ZFH (.tup e) (ZNv _) (ZHq (ZEc q))
   | lst e => exact ZFH (.lst e) (ZNw _) (ZHq (ZEc q))
  have hzl : z.length = z.cps.toList.length := by rw [Array.length_toList]; rfl
  refine ZFH (.str z) (ZNs _) ?_
  walk_at "w"
  refine ZE1 ?_
  walk_at "w"
  refine ZRB (Nat.le_trans hl (by decide)) ?_
  walk_at "w"
  have e1 : ZD7 z = (decide (1 ≤ z.length) && (decide (z.length ≤ 8) && z.cps.toList.all fun c => decide (c ∈ ("abcdefghijklmnopqrstuvwxyz" : Str).cps.toList))) := by unfold ZD7; rw [Bool.and_assoc]
  refine ZEZ (fun h1 => ?_) (fun h1 => ?_)
  ·walk_at "w"
   refine ZEZ (fun h2 => ?_) (fun h2 => ?_)
   ·walk_at "w"
    intro l hl1
    refine ZLY z.cps.toList.length (fun i σ' H' => (∃ o, σ' = [o]) ∧ ZDC H H' ∧ H' l = some (.lst (((z.cps.toList.take i).map fun c => decide (c ∈ ("abcdefghijklmnopqrstuvwxyz" : Str).cps.toList)).map V.bl))) ?_ ?_ ?_
    ·exact ⟨⟨none, rfl⟩, ZDC.new hl1, ZDN⟩
    ·rintro σ H' ⟨_, s, f⟩
     refine ⟨by show z.cps.size ≤ _; rw [Array.length_toList]; exact Nat.le_refl _, ?_⟩
     rw [List.take_length] at f
     walk_at "w"
     refine ZSf (SqL.of f) ?_
     have e2 : ((z.cps.toList.map fun c => decide (c ∈ ("abcdefghijklmnopqrstuvwxyz" : Str).cps.toList)).all id) = ZD7 z := by
      rw [e1, decide_eq_true (by omega), decide_eq_true (by omega), Bool.true_and, Bool.true_and, List.all_map]
      rfl
     rw [e2]
     exact k H' s
    ·rintro i σ H' hi ⟨⟨o, rfl⟩, s, f⟩
     refine ⟨by show i < z.cps.size; rw [Array.length_toList] at hi; exact hi, ?_⟩
     rintro x H'' ⟨rfl, c, hc, rfl⟩
     walk_at "w"
     refine ZE1 ?_
     walk_at "w"
     refine ZS6 ?_
     refine ⟨_, f, ?_, ⟨_, rfl⟩, s.kpN hl1 Kp.upd, ?_⟩
     ·rw [List.length_map, List.length_map, List.length_take]
      exact Nat.lt_of_le_of_lt (Nat.min_le_right _ _) (Nat.lt_of_le_of_lt (show z.cps.toList.length ≤ 1000 by omega) (by decide))
     ·rw [ZDN, List.take_succ, hc, List.map_append, List.map_append]
      rfl
   ·have := k H (ZDC.refl _)
    rw [e1, decide_eq_false (show ¬ z.length ≤ 8 by simp at h2; omega), Bool.false_and, Bool.and_false] at this
    exact this
  ·refine ⟨_, rfl, ZEc ?_⟩
   have := k H (ZDC.refl _)
   rw [e1, decide_eq_false (show ¬ 1 ≤ z.length by simp at h1; omega), Bool.false_and] at this
   exact this
def ZRW (a : Ad) : Sp := fun vs H Q _ => ∃ p dx : Addr, vs = [.ref p] ∧ H p = some (.ins a.ZL dx []) ∧ ∀ (d : Addr) (H' : Hp), H d = none → ZDO a H' p d [] → Kp p H H' → Q .non H'
theorem ZHW : ZDL ["self"] ["self"] (ZC9 ZEq) := ZDv
theorem ZFN (T : Txt K mg a) : ZDI P w K mg base CX0 1 a.Zs a.Zp ["self"] (ZRW a) := by
 refine T.ZAR.ok ZHW (by walk_at "l") (fun cdv A outer s H vs Q E hr h => ?_)
 ·obtain ⟨p, dx, rfl, hp, k⟩ := h
  refine ⟨_, QB.h (ZDD (ZFI K rfl (qv 0) ZE5)), ?_⟩
  walk_at "s"
  walk_at "w"
  refine ZH4 fun d H1 n1 f1 S1 => ?_
  have nd : d ≠ p := fun z => by rw [z, hp] at n1; cases n1
  walk_at "w"
  refine ZEv (S1 _ _ hp) T.Z1 T.JH (by show 0 < 1000; decide) fun H2 f2 K2 => ?_
  walk_at "w"
  exact k d H2 n1 ⟨⟨dx, f2⟩, K2 _ _ f1 nd, by simp, fun q hq => (by cases hq), .nil, fun q hq => by cases hq⟩ ((Kp.same S1).trans K2)
def ZIB (a : Ad) : Sp := fun vs H Q _ => ∃ (p d : Addr) (m : List (Str × SS)) (k : Str), vs = [.ref p, .str k] ∧ ZD7 k = true ∧ ZDO a H p d m ∧ m.length ≤ 60 ∧
 (∀ q, ZDJ m k = some q → ∀ H', ZDC H H' → Q (.ref q.S.p) H') ∧
 (ZDJ m k = none → ∀ (S : SA) (H' : Hp), (∀ b ∈ S.p :: S.own, H b = none) → ZDO a H' p d (m ++ [(k, ⟨S, [], 0, [], [], []⟩)]) → Kp d H H' → Q (.ref S.p) H')
theorem ZGG : ZDL ["self", "name"] ["self", "name"] (ZC9 ZFL) := ZDv
theorem ZFA (T : Txt K mg a) : ZDI P w K mg base CX0 9 a.ZY a.Za ["self", "name"] (ZIB a) := by
 refine T.JU.ok ZGG (by walk_at "l") (fun cdv A outer s H vs Q E hr h => ?_)
 ·obtain ⟨p, d, m, z, rfl, hz, hB, hml, k1, k2⟩ := h
  have hu := ZHM hr
  have hzl : z.length ≤ 1000 := by
   unfold ZD7 at hz
   simp only [Bool.and_eq_true, decide_eq_true_eq] at hz
   omega
  refine ⟨_, QB.h (ZDA (ZEF (ZIO (ZGq (qcS (ZIb T) hr.m T.ZAe T.J9.kp T.ZAg (ZC7 (qv 1) ZC8)))) (ZDD ZGQ) ZDw) (ZDA (ZEF (ZDm (ZMV hu) (qv 1) (ZDz K rfl (qv 0)) (by with_unfolding_all rfl)) (ZDD (ZFV hu (ZH0 (dvs := [V.non]) T.ZBy (ZHV T) hr rfl T.ZCA T.ZAB (.cons rfl .nil) ZD2) (ZDz K rfl (qv 0)) (qv 1))) ZDw) (ZDD (ZDT (ZF7 hu (ZDz K rfl (qv 0)) (qv 1)))))), ?_⟩
  walk_at "s"
  walk_at "w"
  refine ⟨_, rfl, .inl ⟨z, rfl, hzl, fun H1 S1 => ?_⟩⟩
  rw [hz]
  have hB1 := hB.same S1
  obtain ⟨⟨dx, hp1⟩, hd1, hI1⟩ := id hB1
  walk_at "w"
  refine ZEc ?_
  walk_at "w"
  refine ZMX hd1 ?_
  rw [ZEg]
  walk_at "w"
  cases hg : ZDJ m z with
  | some q =>
   refine ZEc ?_
   walk_at "w"
   refine ZH3 (v := .ref q.S.p) hd1 (by rw [ZEg, hg]; rfl) ?_
   exact k1 q hg H1 S1
  | none =>
   refine ZE1 ?_
   walk_at "w"
   refine ZHQ fun x dx2 H2 n2 f2 S2 => ?_
   refine ⟨x, dx2, .non, [], rfl, f2, .inl ⟨rfl, rfl⟩, List.nodup_nil, (fun q hq => by cases hq), Nat.zero_le _, fun S sm H3 eS hfr hSt hsm hsl K3 => ⟨rfl, ?_⟩⟩
   subst eS
   obtain rfl : sm = [] := List.eq_nil_iff_forall_not_mem.mpr fun r hr => by have := (hsm r).mp hr; cases this
   have S13 : ZDC H1 H3 := S2.kpN n2 K3
   have hB3 := hB1.same S13
   obtain ⟨⟨dx3, hp3⟩, hd3, hI3⟩ := id hB3
   walk_at "w"
   refine ZPP hd3 (Nat.lt_of_le_of_lt (show (ZDs m).length ≤ 60 by simpa [ZDs] using hml) (by decide)) fun H4 f4 K4 => ?_
   have e4 : ZEe (ZDs m) z (.ref S.p) = ZDs (m ++ [(z, ⟨S, [], 0, [], [], []⟩)]) := by
    rw [ZKh (by rw [ZEg, hg]; rfl)]
    simp [ZDs]
   rw [e4] at f4
   have fr1 : ∀ b ∈ S.p :: S.own, H1 b = none := fun b hb => by
    rcases List.mem_cons.mp hb with rfl | hb
    ·exact n2
    ·exact ZEj S2 (hfr b hb)
   have hB4 := hB1.more hg fr1 S13 ⟨0, hSt⟩ K4 f4
   obtain ⟨⟨dx4, hp4⟩, hd4, hI4⟩ := id hB4
   walk_at "w"
   refine ZH3 (v := .ref S.p) hd4 ?_ ?_
   ·rw [ZEg, ZFX hI4.nd (v := ⟨S, [], 0, [], [], []⟩) (by simp)]
    rfl
   ·exact k2 hg S H4 (fun b hb => ZEj S1 (fr1 b hb)) hB4 (((Kp.same S1).trans (Kp.same S13)).trans K4)
def ZPd (a : Ad) : Sp := fun vs H Q _ => ∃ (p d : Addr) (m : List (Str × SS)), vs = [.ref p] ∧ ZDO a H p d m ∧ m.length ≤ 60 ∧ ∀ (l : Addr) (ss : List Str) (H' : Hp), H l = none → H' l = some (.lst (ss.map V.str)) → ss.Perm (m.map (·.1)) → ss.Pairwise leS → ZDC H H' → Q (.ref l) H'
theorem ZIv : ZDL ["self"] ["self"] (ZC9 ZFM) := ZDv
theorem ZFB (T : Txt K mg a) : ZDI P w K mg base CX0 1 a.YZ a.YS ["self"] (ZPd a) := by
 refine T.ZAj.ok ZIv (by walk_at "l") (fun cdv A outer s H vs Q E hr h => ?_)
 ·obtain ⟨p, d, m, rfl, hB, hml, k⟩ := h
  refine ⟨_, QB.h (ZDD (ZDT (ZDX (ZFu rfl) rfl T.Zf ZFF (ZC7 (ZDz K rfl (qv 0)) ZC8)))), ?_⟩
  walk_at "s"
  obtain ⟨⟨dx, hp⟩, hd, hI⟩ := id hB
  walk_at "w"
  refine ZGb hd (by rw [ZHH]; omega) fun l H1 ss n1 f1 hp1 hs1 S1 => ?_
  rw [ZGf] at hp1
  exact k l ss H1 n1 f1 hp1 hs1 S1
def ZNx (a : Ad) : Sp := fun vs H Q _ => ∃ (p d : Addr) (m : List (Str × SS)) (k : Str), vs = [.ref p, .str k] ∧ ZD7 k = true ∧ ZDO a H p d m ∧ m.length ≤ 60 ∧
 ∀ (q : SS) (m' : List (Str × SS)) (H' : Hp), ZDJ m' k = some q → ((m' = m ∧ ZDC H H') ∨ (ZDJ m k = none ∧ q = ⟨q.S, [], 0, [], [], []⟩ ∧ m' = m ++ [(k, q)] ∧ ∀ b ∈ q.all, H b = none)) → ZDO a H' p d m' → Kp d H H' → Q (.ref q.S.p) H'
theorem ZNy {a : Ad} {vs : List V} {H : Hp} {Q : VK} {E : XK} (h : ZNx a vs H Q E) : ZIB a vs H Q E := by
 obtain ⟨p, d, m, k, e, hk, hB, hl, h⟩ := h
 refine ⟨p, d, m, k, e, hk, hB, hl, fun q hq H' s => h q m H' hq (.inl ⟨rfl, s⟩) (hB.same s) (Kp.same s), fun hn S H' hf hB' K' => ?_⟩
 refine h ⟨S, [], 0, [], [], []⟩ _ H' (ZFX hB'.bin.nd (by simp)) (.inr ⟨hn, rfl, rfl, hf⟩) hB' K'
end
def ZT0 : List Nat := ("abcdefghijklmnopqrstuvwxyz" : Str).cps.toList
theorem ZHI {k : Str} (h : ZD7 k = true) : 1 ≤ k.length ∧ k.length ≤ 8 ∧ ∀ c ∈ k.cps.toList, c ∈ ("abcdefghijklmnopqrstuvwxyz" : Str).cps.toList := by
 unfold ZD7 at h
 simp only [Bool.and_eq_true, List.all_eq_true, decide_eq_true_eq] at h
 exact ⟨h.1.1, h.1.2, h.2⟩
theorem ZMf {k : Str} {c : Nat} (h : c ∈ k.cps.toList) (n : c ∉ ("abcdefghijklmnopqrstuvwxyz" : Str).cps.toList) : ZD7 k = false := by
 cases e : ZD7 k with
 | false => rfl
 | true => exact absurd ((ZHI e).2.2 c h) n
theorem ZIw (x y : Str) : (x ++ y).cps.toList = x.cps.toList ++ y.cps.toList := by
 show (x.cps ++ y.cps).toList = _
 exact Array.toList_append
theorem ZHJ {x y : Str} {c : Nat} (h : c ∈ y.cps.toList) (n : c ∉ ("abcdefghijklmnopqrstuvwxyz" : Str).cps.toList) : ZD7 (x ++ y) = false := ZMf (by rw [ZIw]; exact List.mem_append_right _ h) n
theorem ZTJ {x y : Str} {c : Nat} (h : c ∈ x.cps.toList) (n : c ∉ ("abcdefghijklmnopqrstuvwxyz" : Str).cps.toList) : ZD7 (x ++ y) = false := ZMf (by rw [ZIw]; exact List.mem_append_left _ h) n
theorem ZRX {x : Str} (h : 1 ≤ x.length) : ZD7 (x ++ "abcdefgh") = false := by
 cases e : ZD7 (x ++ "abcdefgh") with
 | false => rfl
 | true =>
  have := (ZHI e).2.1
  rw [ZF9] at this
  have e8 : ("abcdefgh" : Str).length = 8 := rfl
  omega
theorem ZTm {x : Str} (h : ZD7 x = true) : ZD7 (upS x) = false := by
 obtain ⟨h1, _, h3⟩ := ZHI h
 obtain ⟨⟨l⟩⟩ := x
 cases l with
 | nil => exact absurd h1 (by decide)
 | cons c l =>
  refine ZMf (c := c - 32) (by simp [upS]) ?_
  have : ∀ c ∈ ("abcdefghijklmnopqrstuvwxyz" : Str).cps.toList, c - 32 ∉ ("abcdefghijklmnopqrstuvwxyz" : Str).cps.toList := by decide +kernel
  exact this c (h3 c (by simp))
theorem ZTK (x : Str) : (upS x).length = x.length := by
 show (upS x).cps.size = x.cps.size
 simp [upS]
section
variable {P : Program} {w : World} {K : W.Frag} {mg : Str → Option Value} {base : Heap} {a : Ad}
local macro_rules | `(tactic| walk_at "rd") => `(tactic| first
 | with_reducible first | refine ZKl ?_ | refine ZKp ?_ | refine ZKe ?_)
def ZRY : Sp := fun vs H Q _ => ∃ p : Addr, vs = [.ref p] ∧ Pur H p ∧ ∀ (k : Str) (H' : Hp), ZD7 k = true → Pur H' p → Kp p H H' → Q (.str k) H'
theorem ZFS : ZDL ["_law_purse_here", "_law_name", "_law_k"] ["_law_purse_here"] (ZC9 ZHB) := ZDv
theorem ZMg (T : Txt K mg a) : ZDI P w K mg base CX0 2 a.Jh a.J7 ["_law_purse_here"] ZRY := by
 refine T.ZAf.ok ZFS (by walk_at "l") (fun cdv A outer s H vs Q E hr h => ?_)
 ·obtain ⟨p, rfl, hp, k⟩ := h
  refine ⟨_, QB.h (ZDA (ZEF (ZDm (ZLw) (qcS (ZEP T) hr T.Zg T.ZW.kp T.Ze (ZC7 (qv 0) (ZC7 ZDB ZC8))) ZDB (ZDx _)) (ZDD (ZDT (ZDn (ZEJ K rfl) (ZEl (ZC7 ZDk (ZC7 ZDk (ZC7 ZDk (ZC7 ZDk (ZC7 ZDk (ZC7 ZDk ZC8))))))) (qcS (ZEP T) hr T.Zg T.ZW.kp T.Ze (ZC7 (qv 0) (ZC7 ZDB ZC8)))))) ZDw) (ZDA (qsS (i := 1) ZFS.nd ZDk) (ZDA (ZFa PassesOwn.never rfl (ZFj rfl T.Yh (ZC7 (ZDP ZEw ZDB (qcS (ZEP T) hr T.Zg T.ZW.kp T.Ze (ZC7 (qv 0) (ZC7 ZDB ZC8)))) ZC8)) (qgN (i := 2) ZFS.nd) (ZDD (qsS (i := 1) ZFS.nd (ZDP ZEt (qv 1) (ZDn ZR8 ZDk (qcS (ZEP T) hr T.Zg T.ZW.kp T.Ze (ZC7 (qv 0) (ZC7 ZDB ZC8)))))))) (ZDD (ZDT (qv 1)))))), ?_⟩
  walk_at "s"
  walk_at "w"
  refine ⟨p, _, rfl, hp, by decide, by decide, fun d1 H1 h1 h1' P1 K1 => ?_⟩
  walk_at "w"
  rw [ZPk]
  refine ZEZ (fun _ => ?_) (fun _ => ?_)
  ·walk_at "w"
   refine ZDZ (by show 6 ≤ sizeLine; decide) fun l2 H2 n2 f2 S2 => ?_
   walk_at "w"
   refine ⟨p, _, rfl, P1.same S2, by decide, by decide, fun d3 H3 h3 h3' P3 K3 => ?_⟩
   have f3 := K3 _ _ f2 (P1.neN n2)
   walk_at "w"
   obtain ⟨n3, rfl⟩ : ∃ n : Nat, d3 = (n : Int) := ⟨d3.toNat, by omega⟩
   have h6 : n3 < 6 := by omega
   have hx : ∃ x : Str, [V.str "a", .str "b", .str "aa", .str "ab", .str "zz", .str "zzzzzzzz"][n3]? = some (.str x) ∧ ZD7 x = true := by
    match n3, h6 with
    | 0, _ => exact ⟨_, rfl, by decide +kernel⟩
    | 1, _ => exact ⟨_, rfl, by decide +kernel⟩
    | 2, _ => exact ⟨_, rfl, by decide +kernel⟩
    | 3, _ => exact ⟨_, rfl, by decide +kernel⟩
    | 4, _ => exact ⟨_, rfl, by decide +kernel⟩
    | 5, _ => exact ⟨_, rfl, by decide +kernel⟩
   obtain ⟨x, hx, hn⟩ := hx
   refine ZIL (SqL.of f3) (ZF4 hx) ?_
   exact k x H3 hn P3 ((K1.then S2).trans K3)
  ·walk_at "w"
   refine ⟨p, _, rfl, P1, by decide, by decide, fun d2 H2 h2 h2' P2 K2 => ?_⟩
   walk_at "w"
   refine ZIM (by omega) (by omega) (ZHO (fun i σ H' => (∃ v2, ∃ z : Str, σ = [some (.ref p), some (.str z), v2] ∧ z.length = i ∧ ∀ c ∈ z.cps.toList, c ∈ ("abcdefghijklmnopqrstuvwxyz" : Str).cps.toList) ∧ Pur H' p ∧ Kp p H H') ?_ ?_ ?_)
   ·exact ⟨⟨_, "", rfl, rfl, fun c hc => by cases hc⟩, P2, K1.trans K2⟩
   ·rintro i σ H3 hi ⟨⟨v2, z, rfl, hz, hc⟩, P3, K3⟩
    walk_at "w"
    refine ⟨p, _, rfl, P3, by decide, by decide, fun d4 H4 h4 h4' P4 K4 => ?_⟩
    walk_at "w"
    obtain ⟨n4, rfl⟩ : ∃ n : Nat, d4 = (n : Int) := ⟨d4.toNat, by omega⟩
    have hl26 : ("abcdefghijklmnopqrstuvwxyz" : Str).cps.toList.length = 26 := by decide +kernel
    have hn4 : n4 < ("abcdefghijklmnopqrstuvwxyz" : Str).cps.toList.length := by omega
    refine ZTA (by decide +kernel) (ZF4 (List.getElem?_eq_getElem hn4)) ?_
    walk_at "w"
    have hz8 : z.length ≤ 8 := by omega
    refine ZEu ?_ ?_
    ·rw [sizeLine_eq]
     show z.length + 1 ≤ _
     omega
    walk_at "w"
    refine ⟨⟨_, _, rfl, ?_, fun c hc' => ?_⟩, P4, K3.trans K4⟩
    ·rw [ZF9, hz]; rfl
    ·rw [ZIw] at hc'
     rcases List.mem_append.mp hc' with hc' | hc'
     ·exact hc c hc'
     ·rw [show c = ("abcdefghijklmnopqrstuvwxyz" : Str).cps.toList[n4] by simpa using hc']
      exact List.getElem_mem hn4
   ·rintro σ H3 ⟨⟨v2, z, rfl, hz, hc⟩, P3, K3⟩
    walk_at "w"
    refine k z H3 ?_ P3 K3
    unfold ZD7
    simp only [Bool.and_eq_true, List.all_eq_true, decide_eq_true_eq]
    exact ⟨⟨by omega, by omega⟩, hc⟩
def ZJd (H : Hp) (v : V) : Prop := (∃ k : Str, v = .str k ∧ ZD7 k = false ∧ k.length ≤ 1000) ∨ ZIA H v
def ZPe : Sp := fun vs H Q _ => ∃ (p : Addr) (k : Str), vs = [.ref p, .str k] ∧ ZD7 k = true ∧ Pur H p ∧ ∀ (v : V) (H' : Hp), ZJd H' v → Pur H' p → Kp p H H' → Q v H'
theorem ZFf : ZDL ["_law_purse_here", "_law_name", "_law_some"] ["_law_purse_here", "_law_name"] (ZC9 ZF0) := ZDv
theorem ZK0 (T : Txt K mg a) : ZDI P w K mg base CX0 2 a.Y2 a.Y4 ["_law_purse_here", "_law_name"] ZPe := by
 refine T.ZAH.ok ZFf (by walk_at "l") (fun cdv A outer s H vs Q E hr h => ?_)
 ·obtain ⟨p, z, rfl, hz, hp, k⟩ := h
  obtain ⟨z1, z2, z3⟩ := ZHI hz
  have hsl : z.length ≤ sizeLine := Nat.le_trans z2 (by decide)
  generalize hy : Txt.slice z none (some 7) = y
  have hyl : y.length ≤ 8 := by rw [← hy]; exact Nat.le_trans (Txt.slice_le z _ _) z2
  have add1 : ∀ (x : Str), x.length = 1 → y.length + x.length ≤ sizeLine := fun x e => by rw [e, sizeLine_eq]; omega
  refine ⟨_, QB.h (ZDA (qsS (i := 2) ZFf.nd (ZEl (ZC7 ZDk (ZC7 (ZDP ZEt (qv 1) ZDk) (ZC7 (ZNI PySem.F.plainAttrs_str PySem.F.slot_str_upper PySem.F.type_str_upper ZPQ (qv 1)) (ZC7 (ZDP ZEt (ZE4 ZGB (qv 1) ZFT (ZFU ZDB)) ZDk) (ZC7 (ZDP ZEt ZDk (ZE4 ZGB (qv 1) ZFT (ZFU ZDB))) (ZC7 (ZDP ZEt (ZE4 ZGB (qv 1) ZFT (ZFU ZDB)) ZDk) (ZC7 (ZDP ZEt (ZE4 ZGB (qv 1) ZFT (ZFU ZDB)) ZDk) ZC8))))))))) (ZDA (qsS (i := 2) ZFf.nd (ZDP ZSB (qv 2) (ZEl (ZC7 (ZDP ZEt (ZE4 ZGB (qv 1) ZFT (ZFU ZDB)) ZDk) (ZC7 (ZDP ZEt (ZE4 ZGB (qv 1) ZFT (ZFU ZDB)) ZDk) (ZC7 ZDk (ZC7 ZFZ (ZC7 ZDB (ZC7 ZGM (ZC7 (ZEI (ZC7 (qv 1) ZC8)) (ZC7 (ZEl (ZC7 (qv 1) ZC8)) ZC8))))))))))) (ZDD (ZDT (ZDn (ZEJ K rfl) (qv 2) (qcS (ZEP T) hr T.Zg T.ZW.kp T.Ze (ZC7 (qv 0) (ZC7 (ZDX (ZIP K rfl) rfl T.JQ ZGp (ZC7 (qv 2) ZC8)) ZC8)))))))), ?_⟩
  walk_at "s"
  walk_at "w"
  refine ZEu (by rw [sizeLine_eq]; show z.length + 8 ≤ _; omega) ?_
  walk_at "w"
  refine ⟨tyS, ?_⟩
  walk_at "w"
  refine ZPR z3 (by omega) ?_
  walk_at "w"
  refine ZGC hsl ?_
  rw [hy]
  walk_at "w"
  refine ZEu (add1 _ rfl) ?_
  walk_at "w"
  refine ZGC hsl ?_
  rw [hy]
  walk_at "w"
  refine ZEu (by rw [sizeLine_eq]; show 1 + y.length ≤ _; omega) ?_
  walk_at "w"
  refine ZGC hsl ?_
  rw [hy]
  walk_at "w"
  refine ZEu (add1 _ rfl) ?_
  walk_at "w"
  refine ZGC hsl ?_
  rw [hy]
  walk_at "w"
  refine ZEu (add1 _ rfl) ?_
  walk_at "w"
  refine ZDZ (by show 7 ≤ sizeLine; decide) fun l1 H1 n1 f1 S1 => ?_
  walk_at "w"
  refine ZGC hsl ?_
  rw [hy]
  walk_at "w"
  refine ZEu (add1 _ rfl) ?_
  walk_at "w"
  refine ZGC hsl ?_
  rw [hy]
  walk_at "w"
  refine ZEu (add1 _ rfl) ?_
  walk_at "w"
  refine ZDZ (by show 1 ≤ sizeLine; decide) fun t2 H2 n2 f2 S2 => ?_
  walk_at "w"
  refine ZDZ (by show 1 ≤ sizeLine; decide) fun t3 H3 n3 f3 S3 => ?_
  walk_at "w"
  refine ZDZ (by show 8 ≤ sizeLine; decide) fun l4 H4 n4 f4 S4 => ?_
  walk_at "w"
  refine ZSh (S4 _ _ (S3 _ _ (S2 _ _ f1))) f4 (by show 15 ≤ sizeLine; decide) fun l5 H5 n5 f5 S5 => ?_
  have S25 := S3.trans (S4.trans S5)
  have S05 : ZDC H H5 := S1.trans (S2.trans S25)
  walk_at "w"
  refine ⟨p, _, rfl, hp.same S05, by show (0 : Int) < 15; decide, by show (15 : Int) < 2 ^ 250; decide, fun d6 H6 h6 h6' P6 K6 => ?_⟩
  have g2 := K6 _ _ (S25 _ _ f2) ((hp.same S1).neN n2)
  have g3 := K6 _ _ ((S4.trans S5) _ _ f3) ((hp.same (S1.trans S2)).neN n3)
  have g5 := K6 _ _ f5 ((hp.same (S1.trans (S2.trans (S3.trans S4)))).neN n5)
  walk_at "w"
  obtain ⟨n7, rfl⟩ : ∃ n : Nat, d6 = (n : Int) := ⟨d6.toNat, by omega⟩
  have h15 : n7 < 15 := by
   have : (n7 : Int) < 15 := h6'
   omega
  have yl : ∀ x : Str, x.length = 1 → (y ++ x).length ≤ 1000 := fun x e => by rw [ZF9, e]; omega
  have hx : ∃ x, ([V.str "", .str (z ++ "abcdefgh"), .str (upS z), .str (y ++ "1"), .str (" " ++ y), .str (y ++ " "), .str (y ++ "\n")] ++ [.str (y ++ "{"), .str (y ++ "`"), .str "_", .non, .int 7, .bl true, .ref t2, .ref t3])[n7]? = some x ∧ ZJd H6 x := by
   match n7, h15 with
   | 0, _ => exact ⟨_, rfl, .inl ⟨_, rfl, by decide +kernel, by decide +kernel⟩⟩
   | 1, _ => exact ⟨_, rfl, .inl ⟨_, rfl, ZRX z1, by rw [ZF9]; show z.length + 8 ≤ 1000; omega⟩⟩
   | 2, _ => exact ⟨_, rfl, .inl ⟨_, rfl, ZTm hz, by rw [ZTK]; omega⟩⟩
   | 3, _ => exact ⟨_, rfl, .inl ⟨_, rfl, ZHJ (c := 49) (by decide +kernel) (by decide +kernel), yl _ rfl⟩⟩
   | 4, _ => exact ⟨_, rfl, .inl ⟨_, rfl, ZTJ (c := 32) (by decide +kernel) (by decide +kernel), by rw [ZF9]; show 1 + y.length ≤ 1000; omega⟩⟩
   | 5, _ => exact ⟨_, rfl, .inl ⟨_, rfl, ZHJ (c := 32) (by decide +kernel) (by decide +kernel), yl _ rfl⟩⟩
   | 6, _ => exact ⟨_, rfl, .inl ⟨_, rfl, ZHJ (c := 10) (by decide +kernel) (by decide +kernel), yl _ rfl⟩⟩
   | 7, _ => exact ⟨_, rfl, .inl ⟨_, rfl, ZHJ (c := 123) (by decide +kernel) (by decide +kernel), yl _ rfl⟩⟩
   | 8, _ => exact ⟨_, rfl, .inl ⟨_, rfl, ZHJ (c := 96) (by decide +kernel) (by decide +kernel), yl _ rfl⟩⟩
   | 9, _ => exact ⟨_, rfl, .inl ⟨_, rfl, by decide +kernel, by decide +kernel⟩⟩
   | 10, _ => exact ⟨_, rfl, .inr .non⟩
   | 11, _ => exact ⟨_, rfl, .inr (.int _)⟩
   | 12, _ => exact ⟨_, rfl, .inr (.bl _)⟩
   | 13, _ => exact ⟨_, rfl, .inr (.tup g2)⟩
   | 14, _ => exact ⟨_, rfl, .inr (.lst g3)⟩
  obtain ⟨x, hx, hB⟩ := hx
  refine ZIL (SqL.of g5) (ZF4 hx) ?_
  exact k x H6 hB P6 ((Kp.same S05).trans K6)
def ZK1 (a : Ad) : Sp := fun vs H _ E => ∃ (x : V) (v : V), vs = [x, v] ∧ ZJd H v ∧ ∀ H', ZDC H H' → E (.ref a.ZC) none H'
theorem ZIc (T : Txt K mg a) : ZDI P w K mg base (CX1 P w) 9 a.ZY a.Za ["self", "name"] (ZK1 a) := by
 refine T.JU.okx ZGG (by walk_at "l") (fun cdv A outer s H vs Q E hr h => ?_)
 ·obtain ⟨x, v, rfl, hv, k⟩ := h
  refine ⟨_, QB.h (ZDA (ZEF (ZIO (ZGq (qcS (ZIb T) hr.m T.ZAe T.J9.kp T.ZAg (ZC7 (qv 1) ZC8)))) (ZDD (ZPG T.ZAO rfl T.ZAp (ZC7 ZDk ZC8))) ZDw) (ZDA ZGQ (ZDD ZGQ))), ?_⟩
  walk_at "s"
  walk_at "w"
  rcases hv with ⟨z, rfl, hz, hl⟩ | hv
  ·refine ⟨_, rfl, .inl ⟨z, rfl, hl, fun H1 S1 => ?_⟩⟩
   rw [hz]
   walk_at "w"
   refine ZE1 ?_
   walk_at "w"
   exact ZKW (by decide) (k H1 S1)
  ·refine ⟨_, rfl, .inr ⟨hv, ?_⟩⟩
   walk_at "w"
   refine ZE1 ?_
   walk_at "w"
   exact ZKW (by decide) (k H (ZDC.refl _))
theorem ZId (T : Txt K mg a) : ZDI P w K mg base (CX1 P w) 9 a.ZY a.Za ["self", "name"] (fun vs H Q E => ZIB a vs H Q E ∨ ZK1 a vs H Q E) := (ZFA T).lift.or (ZIc T)
theorem ZRZ (T : Txt K mg a) : W.kitAny K (.ref a.ZC) [.ref a.ZH, .ref a.ZB, .ref a.ZK, .ref a.ZJ, .ref a.ZG, .ref a.ZI, .ref a.ZA] = some false := by
 simp only [W.kitAny, T.Zl, T.Zm, T.YB, T.Zo, T.Zk, T.Zr, T.Zd]
def ZRa (a : Ad) : Sp := fun vs H Q _ => ∃ e : Addr, vs = [.ref e] ∧ H e = some (ZE8 e (.ref a.ZC)) ∧ ∀ H', ZDC H H' → Q (.bl false) H'
theorem ZMh : ZDL ["_law_e"] ["_law_e"] (ZC9 ZHC) := ZDv
theorem ZLL (T : Txt K mg a) : ZMT P w K mg base 1 a.Ji a.Jz ["_law_e"] (ZRa a) := by
 refine T.ZAi.okNU ZMh (fun vs H Q E h => ?_) (fun cdv A outer s H vs Q E hu64 h => ?_)
 ·obtain ⟨e, rfl, _⟩ := h
  rfl
 ·obtain ⟨e, rfl, he, k⟩ := h
  refine ⟨_, QB.h (ZDD (ZDT (ZDX (ZQ6 K rfl) rfl T.ZO ZET (ZC7 (qv 0) (ZC7 (ZEI (ZC7 (ZD5 (v := V.ref a.ZH) rfl T.ZBZ rfl) (ZC7 (ZD5 (v := V.ref a.ZB) rfl T.ZBM rfl) (ZC7 (ZD5 (v := V.ref a.ZK) rfl T.ZB0 rfl) (ZC7 (ZD5 (v := V.ref a.ZJ) rfl T.ZBi rfl) (ZC7 (ZD5 (v := V.ref a.ZG) rfl T.ZBT rfl) (ZC7 (ZD5 (v := V.ref a.ZI) rfl T.ZBe rfl) (ZC7 (ZD5 (v := V.ref a.ZA) rfl T.ZAu rfl) ZC8)))))))) ZC8))))), ?_⟩
  walk_at "s"
  walk_at "w"
  refine ZDZ (by show 7 ≤ sizeLine; decide) fun t1 H1 n1 f1 S1 => ?_
  walk_at "w"
  refine ZQ8 (S1 _ _ he) T.ZAO T.ZAs f1 (.cons rfl (.cons rfl (.cons rfl (.cons rfl (.cons rfl (.cons rfl (.cons rfl .nil))))))) (ZRZ T) ?_
  exact k H1 S1
def ZNz (a : Ad) : Sp := fun vs H Q _ => ∃ (p d dx : Addr) (v : V), vs = [.ref p, v] ∧ H p = some (.ins a.ZL dx (bfl d)) ∧ ZJd H v ∧ ∀ H', ZDC H H' → Q (.str "refused") H'
theorem ZE0 : ZDL ["_law_board", "_law_thing", "_law_word", "_law_e"] ["_law_board", "_law_thing"] (ZC9 ZF1) := ZDv
theorem ZK2 (T : Txt K mg a) : ZDI P w K mg base CX0 10 a.Y9 a.Y1 ["_law_board", "_law_thing"] (ZNz a) := by
 refine T.ZAE.ok ZE0 (by walk_at "l") (fun cdv A outer s H vs Q E hr h => ?_)
 ·obtain ⟨p, d, dx, v, rfl, hp, hv, k⟩ := h
  refine ⟨_, QB.h (ZDA (qsS (i := 2) ZE0.nd ZDk) (ZDA (ZS2 rfl rfl (ZPA (ZQ4 (qv 0) T.Z1 T.YT (ZId T) hr.m T.YX .nil (ZC7 (qv 1) ZC8))) (ZPB (i := 3) K rfl rfl rfl rfl ZE0.nd rfl rfl rfl T.ZAA T.ZAC (fun _ => ZDD (qsS (i := 2) ZE0.nd (ZGN (QW.pt (ZSo (ZGq (ZDX (ZQ5 K rfl) rfl T.ZO ZET (ZC7 (qv 3) (ZC7 (ZD5 (v := V.ref a.ZC) rfl T.ZAp rfl) ZC8)))) (ZQo (ZIO (ZGq (ZPC (ZLL T) (Room.clr hr.m) rfl T.ZBn T.ZAi.kp T.ZBl .nil (ZC7 (qv 3) ZC8))))))) ZDk ZDk))) ZS0)) (ZDD (ZDT (qv 2))))), ?_⟩
  walk_at "s"
  walk_at "w"
  refine ZDl hp (ZGF (by decide +kernel)) ?_
  walk_at "w"
  refine .inr ⟨_, v, rfl, hv, fun H1 S1 => ?_⟩
  walk_at "w"
  refine ZNa T.ZQ (ZE1 ?_)
  refine ZPF fun e H2 n2 f2 S2 => ?_
  walk_at "w"
  refine ZQ7 f2 T.ZAO T.ZAs rfl T.Z4 ?_
  walk_at "w"
  refine ZE1 ?_
  walk_at "w"
  refine ⟨e, rfl, f2, fun H3 S3 => ?_⟩
  walk_at "w"
  refine ZE1 ?_
  walk_at "w"
  exact k H3 (S1.trans (S2.trans S3))
end
theorem ZTL {k : Str} (h : ZD7 k = true) : PyData.canLay0 (.str k) = true := by
 show PyData.strOk k = true
 have h2 := (ZHI h).2.2
 unfold PyData.strOk
 rw [Array.all_eq_true_iff_forall_mem]
 intro c hc
 have : ∀ c ∈ ("abcdefghijklmnopqrstuvwxyz" : Str).cps.toList, c < 0x110000 := by decide +kernel
 simpa using this c (h2 c (Array.mem_toList_iff.mpr hc))
def crv (m : List (Str × SS)) (hs : Str → Addr) : List (Str × V) := m.map fun q => (q.1, V.ref (hs q.1))
theorem ZGH (m : List (Str × SS)) (hs : Str → Addr) (k : Str) : ZDJ (crv m hs) k = (ZDJ m k).map fun _ => V.ref (hs k) := by
 induction m with
 | nil => rfl
 | cons x m ih =>
  by_cases e : x.1 = k
  ·simp [crv, ZDJ, List.find?_cons, e]
  ·have h1 : ZDJ (x :: m) k = ZDJ m k := by simp [ZDJ, List.find?_cons, e]
   have h2 : ZDJ (crv (x :: m) hs) k = ZDJ (crv m hs) k := by simp [crv, ZDJ, List.find?_cons, e]
   rw [h1, h2, ih]
structure LI (a : Ad) (Hb H : Hp) (p x d sd cd : Addr) (m : List (Str × SS)) (hs : Str → Addr) (i : Nat) : Prop where
 bd : ZDO a H x d m
 ln : m.length ≤ i
 fs : H sd = some (.dK (dkS (ZDs m)))
 fc : H cd = some (.dK (dkS (crv m hs)))
 hd : ∀ q ∈ m, H (hs q.1) = some (.dK (ZDW q.2.sm))
 hi : ∀ q ∈ m, ∀ q' ∈ m, hs q.1 = hs q'.1 → q.1 = q'.1
 hb : ∀ q ∈ m, hs q.1 ∉ BL x d m ∧ hs q.1 ≠ sd ∧ hs q.1 ≠ cd ∧ Hb (hs q.1) = none
 fr : ∀ q ∈ m, ∀ b ∈ q.2.all, Hb b = none
 nb : sd ∉ BL x d m ∧ cd ∉ BL x d m ∧ sd ≠ cd ∧ Hb sd = none ∧ Hb cd = none
 nm : ∀ q ∈ m, ZD7 q.1 = true ∧ q.2.sm.length ≤ i ∧ q.2.c ≤ i ∧ q.2.ts.length ≤ i ∧ q.2.ds.length ≤ i
 pu : Pur H p
 pb : p ∉ BL x d m
 kp : FrL [p, d] Hb H
section
variable {a : Ad} {Hb H H' : Hp} {p x d sd cd : Addr} {m : List (Str × SS)} {hs : Str → Addr} {i : Nat}
theorem LI.same (h : LI a Hb H p x d sd cd m hs i) (s : ZDC H H') : LI a Hb H' p x d sd cd m hs i :=
 ⟨h.bd.same s, h.ln, s _ _ h.fs, s _ _ h.fc, fun q hq => s _ _ (h.hd q hq), h.hi, h.hb, h.fr, h.nb, h.nm, h.pu.same s, h.pb, h.kp.trans (FrL.same s)⟩
theorem LI.pur (h : LI a Hb H p x d sd cd m hs i) (k : Kp p H H') (P' : Pur H' p) : LI a Hb H' p x d sd cd m hs i :=
 ⟨h.bd.pur h.pu k h.pb, h.ln, k _ _ h.fs (h.pu.ne_dk h.fs), k _ _ h.fc (h.pu.ne_dk h.fc), fun q hq => k _ _ (h.hd q hq) (h.pu.ne_dk (h.hd q hq)), h.hi, h.hb, h.fr, h.nb, h.nm, P', h.pb, h.kp.trans (FrL.kp k (by simp))⟩
end
theorem ZLm {H H' : Hp} {b : Addr} {o : HO} (k : Kp b H H') (e : H b = some o) (e' : H' b = some o) : ZDC H H' := fun c o' h => by
 by_cases z : c = b
 ·rw [z] at h ⊢
  rw [e', ← e, h]
 ·exact k _ _ h z
theorem ZTM (m m' : List (Str × SS)) (hs : Str → Addr) (e : m'.map (·.1) = m.map (·.1)) : crv m' hs = crv m hs := by
 have h : ∀ m : List (Str × SS), crv m hs = (m.map (·.1)).map fun k => (k, V.ref (hs k)) := fun m => by simp [crv, List.map_map, Function.comp_def]
 rw [h, h, e]
section
variable {a : Ad} {Hb H H1 H2 H3 H4 : Hp} {p x d sd cd : Addr} {m m' : List (Str × SS)} {hs : Str → Addr} {i : Nat} {kk : Str} {q : SS} {hd0 : Addr}
theorem LI.more (h : LI a Hb H p x d sd cd m hs i) : LI a Hb H p x d sd cd m hs (i + 1) :=
 ⟨h.bd, Nat.le_succ_of_le h.ln, h.fs, h.fc, h.hd, h.hi, h.hb, h.fr, h.nb, fun q hq => by have := h.nm q hq; exact ⟨this.1, by omega, by omega, by omega, by omega⟩, h.pu, h.pb, h.kp⟩
theorem LI.non0 (h : LI a Hb H p x d sd cd m hs i) {b : Addr} (e : H b = none) : Hb b = none := by
 cases e2 : Hb b with
 | none => rfl
 | some o =>
  have : b ∉ [p, d] := fun z => by
   simp only [List.mem_cons, List.not_mem_nil, or_false] at z
   rcases z with rfl | rfl
   ·obtain ⟨_, _, _, e3, _⟩ := h.pu
    rw [e] at e3; cases e3
   ·rw [h.bd.2.1] at e; cases e
  rw [h.kp _ _ e2 this] at e; cases e
theorem LI.asked (L : LI a Hb H p x d sd cd m hs i) (hk : ZD7 kk = true) (hg : ZDJ m' kk = some q)
  (hm : (m' = m ∧ ZDC H H1) ∨ (ZDJ m kk = none ∧ q = ⟨q.S, [], 0, [], [], []⟩ ∧ m' = m ++ [(kk, q)] ∧ ∀ b ∈ q.all, H b = none)) (hB : ZDO a H1 x d m') (K1 : Kp d H H1)
  (f2 : H2 sd = some (.dK (dkS (ZE9 (ZDs m) kk (.ref q.S.p))))) (K2 : Kp sd H1 H2) (n3 : H2 hd0 = none) (f3 : H3 hd0 = some (.dK (ZDW []))) (S3 : ZDC H2 H3)
  (f4 : H4 cd = some (.dK (dkS (ZE9 (crv m hs) kk (.ref hd0))))) (K4 : Kp cd H3 H4) :
  ∃ hs', LI a Hb H4 p x d sd cd m' hs' (i + 1) ∧ (ZDJ (crv m hs) kk).getD (.ref hd0) = .ref (hs' kk) := by
 obtain ⟨nb1, nb2, nb3, nb4, nb5⟩ := L.nb
 have sdd : sd ≠ d := fun z => nb1 (by rw [z]; exact ZDe.mpr (.inr (.inl rfl)))
 have cdd : cd ≠ d := fun z => nb2 (by rw [z]; exact ZDe.mpr (.inr (.inl rfl)))
 have fs1 := K1 _ _ L.fs sdd
 have fc1 := K1 _ _ L.fc cdd
 have fc3 := S3 _ _ (K2 _ _ fc1 (Ne.symm nb3))
 rcases hm with ⟨rfl, S1⟩ | ⟨hn, hq0, rfl, hfr⟩
 ·refine ⟨hs, ?_, by rw [ZGH, hg]; rfl⟩
  have e2 : ZE9 (ZDs m') kk (.ref q.S.p) = ZDs m' := by unfold ZE9; rw [ZEg, hg]; rfl
  have e4 : ZE9 (crv m' hs) kk (.ref hd0) = crv m' hs := by unfold ZE9; rw [ZGH, hg]; rfl
  rw [e2] at f2
  rw [e4] at f4
  exact ((L.same S1).same ((ZLm K2 fs1 f2).trans (S3.trans (ZLm K4 fc3 f4)))).more
 ·have e2 : ZE9 (ZDs m) kk (.ref q.S.p) = ZDs (m ++ [(kk, q)]) := by unfold ZE9; rw [ZEg, hn]; simp [ZDs]
  have nk : ∀ y ∈ m, y.1 ≠ kk := fun y hy e => (ZFo.mp hn) (List.mem_map.mpr ⟨y, hy, e⟩)
  have e4 : ZE9 (crv m hs) kk (.ref hd0) = crv (m ++ [(kk, q)]) (fun n => if n = kk then hd0 else hs n) := by
   unfold ZE9
   rw [ZGH, hn]
   unfold crv
   rw [List.map_append]
   simp only [Option.map_none, List.map_cons, List.map_nil, if_pos]
   congr 1
   exact List.map_congr_left fun y hy => by rw [if_neg (nk y hy)]
  rw [e2] at f2
  rw [e4] at f4
  have qfr : ∀ b o, H b = some o → b ∉ q.all := fun b o e z => by rw [hfr b z] at e; cases e
  have nBL : ∀ b o, H b = some o → b ∉ BL x d m → b ∉ BL x d (m ++ [(kk, q)]) := fun b o e n z => by
   rcases ZDe.mp z with h | h | ⟨y, hy, h⟩
   ·exact n (ZDe.mpr (.inl h))
   ·exact n (ZDe.mpr (.inr (.inl h)))
   ·rcases List.mem_append.mp hy with hy | hy
    ·exact n (ZDe.mpr (.inr (.inr ⟨y, hy, h⟩)))
    ·rw [List.mem_singleton.mp hy] at h
     exact qfr b o e h
  have sdB := nBL _ _ L.fs nb1
  have cdB := nBL _ _ L.fc nb2
  obtain ⟨px, pn, pc, pe, pr⟩ := id L.pu
  have pB := nBL _ _ pe L.pb
  have pd : p ≠ d := fun z => L.pb (by rw [z]; exact ZDe.mpr (.inr (.inl rfl)))
  have hB2 := hB.frL (l := [sd]) (FrL.kp K2 (by simp)) (fun b hb => by rw [List.mem_singleton.mp hb]; exact sdB) fun b hb xs => by rw [List.mem_singleton.mp hb, fs1]; intro z; cases z
  have hB4 := (hB2.same S3).frL (l := [cd]) (FrL.kp K4 (by simp)) (fun b hb => by rw [List.mem_singleton.mp hb]; exact cdB) fun b hb xs => by rw [List.mem_singleton.mp hb, fc3]; intro z; cases z
  have live2 : ∀ b o, H b = some o → b ≠ d → b ≠ sd → H2 b = some o := fun b o e n1 n2 => K2 _ _ (K1 _ _ e n1) n2
  have hne : hd0 ≠ cd := fun z => by rw [z, K2 _ _ fc1 (Ne.symm nb3)] at n3; cases n3
  have hnd : hd0 ≠ d := fun z => hB2.fresh n3 (by rw [z]; exact ZDe.mpr (.inr (.inl rfl)))
  have hns : hd0 ≠ sd := fun z => by rw [z, f2] at n3; cases n3
  have n0 : H hd0 = none := by
   cases e : H hd0 with
   | none => rfl
   | some o => rw [live2 _ _ e hnd hns] at n3; cases n3
  have hsd : ∀ y ∈ m, hs y.1 ≠ d := fun y hy z => (L.hb y hy).1 (by rw [z]; exact ZDe.mpr (.inr (.inl rfl)))
  have old : ∀ y ∈ m, (if y.1 = kk then hd0 else hs y.1) = hs y.1 := fun y hy => if_neg (nk y hy)
  have hsl : ∀ y ∈ m, hs y.1 ≠ hd0 := fun y hy z => by rw [← z, L.hd y hy] at n0; cases n0
  refine ⟨fun n => if n = kk then hd0 else hs n, ⟨hB4, ?_, K4 _ _ (S3 _ _ f2) nb3, f4, fun y hy => ?_, fun y hy y' hy' e => ?_, fun y hy => ?_, fun y hy b hb => ?_, ⟨sdB, cdB, nb3, nb4, nb5⟩, fun y hy => ?_, ?_, pB, ?_⟩, ?_⟩
  ·rw [List.length_append]; have := L.ln; simp; omega
  ·rcases List.mem_append.mp hy with hy | hy
   ·show H4 (if y.1 = kk then hd0 else hs y.1) = _
    rw [old y hy]
    have hb := L.hb y hy
    exact K4 _ _ (S3 _ _ (live2 _ _ (L.hd y hy) (hsd y hy) hb.2.1)) hb.2.2.1
   ·rw [List.mem_singleton.mp hy, hq0]
    show H4 (if kk = kk then hd0 else hs kk) = _
    rw [if_pos rfl]
    exact K4 _ _ f3 hne
  ·rcases List.mem_append.mp hy with hy | hy <;> rcases List.mem_append.mp hy' with hy' | hy'
   ·rw [old y hy, old y' hy'] at e
    exact L.hi y hy y' hy' e
   ·rw [List.mem_singleton.mp hy'] at e ⊢
    rw [old y hy, if_pos rfl] at e
    exact absurd e (hsl y hy)
   ·rw [List.mem_singleton.mp hy] at e ⊢
    rw [old y' hy', if_pos rfl] at e
    exact absurd e.symm (hsl y' hy')
   ·rw [List.mem_singleton.mp hy, List.mem_singleton.mp hy']
  ·rcases List.mem_append.mp hy with hy | hy
   ·rw [old y hy]
    have hb := L.hb y hy
    exact ⟨nBL _ _ (L.hd y hy) hb.1, hb.2⟩
   ·rw [List.mem_singleton.mp hy, if_pos rfl]
    exact ⟨hB2.fresh n3, hns, hne, L.non0 n0⟩
  ·rcases List.mem_append.mp hy with hy | hy
   ·exact L.fr y hy b hb
   ·rw [List.mem_singleton.mp hy] at hb
    exact L.non0 (hfr b hb)
  ·rcases List.mem_append.mp hy with hy | hy
   ·have := L.nm y hy
    exact ⟨this.1, by omega, by omega, by omega, by omega⟩
   ·rw [List.mem_singleton.mp hy, hq0]
    exact ⟨hk, Nat.zero_le _, Nat.zero_le _, Nat.zero_le _, Nat.zero_le _⟩
  ·exact ⟨px, pn, pc, K4 _ _ (S3 _ _ (live2 _ _ pe pd fun z => L.pu.ne_dk L.fs z.symm)) fun z => L.pu.ne_dk L.fc z.symm, pr⟩
  ·intro b o e nb
   have n1 : b ≠ d := fun z => nb (by rw [z]; simp)
   exact K4 _ _ (S3 _ _ (live2 _ _ (L.kp _ _ e nb) n1 fun z => by rw [z, nb4] at e; cases e)) fun z => by rw [z, nb5] at e; cases e
  ·rw [ZGH, hn]
   show V.ref hd0 = V.ref (if kk = kk then hd0 else hs kk)
   rw [if_pos rfl]
theorem LI.hput (L : LI a Hb H p x d sd cd m hs i) (hg : ZDJ m kk = some q) (K1 : Kp (hs kk) H H1) : ZDO a H1 x d m := by
 have hq := ZEf hg
 have hb := L.hb _ hq
 exact L.bd.frL (l := [hs kk]) (FrL.kp K1 (by simp)) (fun b hb' => by rw [List.mem_singleton.mp hb']; exact hb.1) fun b hb' xs => by rw [List.mem_singleton.mp hb', L.hd _ hq]; intro z; cases z
theorem LI.put (L : LI a Hb H p x d sd cd m hs i) (hg : ZDJ m kk = some q) {t h n : Int} {ds : List (Int × Option Int)} {ts : List Int} (K1 : Kp (hs kk) H H1) (f1 : H1 (hs kk) = some (.dK (ZDW (ZDo q.sm t h))))
  (hS : ZDM a H2 q.S n (ZDo q.sm t h) (q.c + 1) ds ts q.ws) (hds : ds.length = q.ds.length + 1) (hts : ts.length = q.ts.length + 1) (F : FrS q.S H1 H2) :
  LI a Hb H2 p x d sd cd (ZEe m kk ⟨q.S, ZDo q.sm t h, q.c + 1, ds, ts, q.ws⟩) hs (i + 1) := by
 have hq := ZEf hg
 have hb := L.hb _ hq
 have hB1 := L.hput hg K1
 obtain ⟨nb1, nb2, nb3, nb4, nb5⟩ := L.nb
 obtain ⟨e1, e2⟩ := ZJJ L.bd.bin.nd hg (q' := ⟨q.S, ZDo q.sm t h, q.c + 1, ds, ts, q.ws⟩) rfl
 have inm : ∀ y ∈ ZEe m kk ⟨q.S, ZDo q.sm t h, q.c + 1, ds, ts, q.ws⟩, ∃ z ∈ m, z.1 = y.1 ∧ z.2.all = y.2.all := fun y hy => by
  rcases ZFe L.bd.bin.nd hg hy with rfl | ⟨hy, _⟩
  ·exact ⟨_, hq, rfl, rfl⟩
  ·exact ⟨y, hy, rfl, rfl⟩
 have BLs : ∀ b, b ∉ BL x d m → b ∉ BL x d (ZEe m kk ⟨q.S, ZDo q.sm t h, q.c + 1, ds, ts, q.ws⟩) := fun b n z => by
  rcases ZDe.mp z with h | h | ⟨y, hy, h⟩
  ·exact n (ZDe.mpr (.inl h))
  ·exact n (ZDe.mpr (.inr (.inl h)))
  ·obtain ⟨z, hz, _, e⟩ := inm y hy
   exact n (ZDe.mpr (.inr (.inr ⟨z, hz, by rw [e]; exact h⟩)))
 have own : ∀ b, b ∉ BL x d m → b ∉ q.S.own := fun b n z => n (ZDe.mpr (.inr (.inr ⟨_, hq, List.mem_cons_of_mem _ z⟩)))
 obtain ⟨px, pn, pc, pe, pr⟩ := id L.pu
 refine ⟨hB1.deed hg rfl ⟨n, hS⟩ F, ?_, by rw [e1]; exact F _ _ (K1 _ _ L.fs (Ne.symm hb.2.1)) (own _ nb1), by rw [ZTM m _ hs e2]; exact F _ _ (K1 _ _ L.fc (Ne.symm hb.2.2.1)) (own _ nb2), fun y hy => ?_, fun y hy y' hy' e => ?_, fun y hy => ?_, fun y hy b hb' => ?_, ⟨BLs _ nb1, BLs _ nb2, nb3, nb4, nb5⟩, fun y hy => ?_, ⟨px, pn, pc, F _ _ (K1 _ _ pe fun z => L.pu.ne_dk (L.hd _ hq) z.symm) (own _ L.pb), pr⟩, BLs _ L.pb, fun b o e nb => ?_⟩
 ·have := congrArg List.length e2
  simp only [List.length_map] at this
  have := L.ln
  omega
 ·rcases ZFe L.bd.bin.nd hg hy with rfl | ⟨hy, ny⟩
  ·exact F _ _ f1 (own _ hb.1)
  ·exact F _ _ (K1 _ _ (L.hd y hy) fun z => ny (L.hi y hy _ hq z)) (own _ (L.hb y hy).1)
 ·obtain ⟨z, hz, ez, _⟩ := inm y hy
  obtain ⟨z', hz', ez', _⟩ := inm y' hy'
  rw [← ez, ← ez'] at e ⊢
  exact L.hi z hz z' hz' e
 ·obtain ⟨z, hz, ez, _⟩ := inm y hy
  have := L.hb z hz
  rw [← ez]
  exact ⟨BLs _ this.1, this.2⟩
 ·obtain ⟨z, hz, _, ez⟩ := inm y hy
  rw [← ez] at hb'
  exact L.fr z hz b hb'
 ·have hl := ZHv q.sm t h
  rcases ZFe L.bd.bin.nd hg hy with rfl | ⟨hy, _⟩
  ·have := L.nm _ hq
   dsimp only at this
   exact ⟨this.1, by show (ZDo q.sm t h).length ≤ _; omega, by show q.c + 1 ≤ _; omega, by show ts.length ≤ _; omega, by show ds.length ≤ _; omega⟩
  ·have := L.nm y hy
   exact ⟨this.1, by omega, by omega, by omega, by omega⟩
 ·refine F _ _ (K1 _ _ (L.kp _ _ e nb) fun z => ?_) fun z => ?_
  ·rw [z, hb.2.2.2] at e; cases e
  ·rw [L.fr _ hq b (List.mem_cons_of_mem _ z)] at e; cases e
end
section
variable {P : Program} {w : World} {K : W.Frag} {mg : Str → Option Value} {base : Heap} {a : Ad}
local macro_rules | `(tactic| walk_at "rd") => `(tactic| first
 | with_reducible first | refine ZKl ?_ | refine ZKp ?_ | refine ZKe ?_)
def ZJe (K : W.Frag) : Sp := fun vs H Q _ => ∃ (s : Addr) (ns : List Int), vs = [.ref s] ∧ SqL K H s (ns.map V.int) ∧ ns.length ≤ 63 ∧ ∀ H', Q (.bl true) H'
theorem ZEG : ZDL ["_law_script", "_law_k", "_law_purse_here", "_law_board", "_law_other_here", "_law_stores", "_law_curves", "_law_j", "_law_name", "_law_found", "_law_held", "_law_time", "_law_told"] ["_law_script"] (ZC9 ZEo) := ZDv
theorem ZTN (T : Txt K mg a) : ZDI P w K mg base CX0 11 a.ZBV a.ZBX ["_law_script"] (ZJe K) := by
 refine T.ZCm.ok ZEG (by walk_at "l") (fun cdv A outer s H vs Q E hr h => ?_)
 ·obtain ⟨s, ns, rfl, hS, hn, k⟩ := h
  have hu := ZHM hr
  have hu64 := hr.units
  refine ⟨_, QB.h (ZDA (ZFa PassesOwn.never rfl (ZFj rfl T.Yh (ZC7 (ZDX (ZSM rfl) rfl T.ZAo ZM5 (ZC7 ZDB (ZC7 (ZDX (ZSN rfl) rfl T.ZAn ZM6 (ZC7 (ZDX (ZIP K rfl) rfl T.JQ ZGp (ZC7 (qv 0) ZC8)) (ZC7 ZDB ZC8))) ZC8))) ZC8)) (qgN (i := 1) ZEG.nd) (ZDA (qsS (i := 2) ZEG.nd (qcS (ZMa T) hr.m T.ZBp T.ZAh.kp T.ZBj (ZC7 (qcS (ZNo T) hr.m T.ZBz T.ZAr.kp T.ZBt (ZC7 (qv 0) (ZC7 (qv 1) ZC8))) (ZC7 (qv 1) ZC8)))) (ZDA (qsS (i := 3) ZEG.nd (ZH0 T.ZAx (ZFN T) hr.m rfl T.ZBJ T.Yo .nil ZD2)) (ZDA (qsS (i := 4) ZEG.nd (ZH0 T.ZAx (ZFN T) hr.m rfl T.ZBJ T.Yo .nil ZD2)) (ZDA (qsS (i := 5) ZEG.nd ZE5) (ZDA (qsS (i := 6) ZEG.nd ZE5) (ZDA (ZFa PassesOwn.never rfl (ZFj rfl T.Yh (ZC7 (qcS (ZEP T) hr.m T.Zg T.ZW.kp T.Ze (ZC7 (qv 2) (ZC7 ZDB ZC8))) ZC8)) (qgN (i := 7) ZEG.nd) (ZDA (qsS (i := 8) ZEG.nd (qcS (ZMg T) hr.m T.ZBg T.ZAf.kp T.ZBh (ZC7 (qv 2) ZC8))) (ZDA (ZEF (ZDm (ZTU) (qcS (ZK2 T) hr T.ZBB T.ZAE.kp T.ZBE (ZC7 (qv 3) (ZC7 (qcS (ZK0 T) hr.m T.ZBG T.ZAH.kp T.ZA7 (ZC7 (qv 2) (ZC7 (qv 8) ZC8))) ZC8))) ZDk (ZDx _)) (ZDD (ZDT ZGM)) ZDw) (ZDA (qsS (i := 9) ZEG.nd (ZEY (qv 3) T.Z1 T.YT (ZFA T) hr.m T.YX .nil ZD2 (ZC7 (qv 8) ZC8))) (ZDA (ZDq (ZLk (qv 5) (qv 8) (qv 9))) (ZDA (qsS (i := 10) ZEG.nd (ZLk (qv 6) (qv 8) ZE5)) (ZDA (ZEF (ZDm (ZGr K rfl hu64) (ZE7 (qv 9) T.ZN T.Jk (ZGm T) hr.m T.Jj .nil ZD2) (ZGO (ZHr K rfl) rfl T.JE ZHp (ZC7 (ZHb rfl rfl T.Zf (qv 10)) ZC8)) (ZDx _)) (ZDD (ZDT ZGM)) ZDw) (ZDA (qsS (i := 11) ZEG.nd (qcS (ZEP T) hr.m T.Zg T.ZW.kp T.Ze (ZC7 (qv 2) (ZC7 ZDB ZC8)))) (ZDA (ZFV hu (ZDP ZRy (qcS (ZEP T) hr.m T.Zg T.ZW.kp T.Ze (ZC7 (qv 2) (ZC7 ZDB ZC8))) ZDB) (qv 10) (qv 11)) (ZDD (ZDq (ZEY (ZF7 hu (qv 5) (qv 8)) T.ZN T.ZA6 (ZKz T) hr.m T.ZA3 .nil ZD2 (ZC7 (qv 11) (ZC7 (ZF7 hu (qv 10) (qv 11)) ZC8)))))))))))))) (ZDA (qsS (i := 12) ZEG.nd (ZE7 (qv 3) T.Z1 T.YU (ZFB T) hr.m T.YW .nil ZD2)) (ZDA (ZEF (QW.pt (ZPn (ZDm (ZGr K rfl hu64) (qv 12) (ZDX (ZFu rfl) rfl T.Zf ZFF (ZC7 (qv 5) ZC8)) (ZDx _)) (ZM9 (ZDm (ZGr K rfl hu64) (ZE7 (qv 4) T.Z1 T.YU (ZFB T) hr.m T.YW .nil ZD2) (ZEl ZC8) (ZDx _))))) (ZDD (ZDT ZGM)) ZDw) (ZDA (ZDq (ZMD PySem.F.plainAttrs_list PySem.F.slot_list_append PySem.F.type_list_append ZFi (qv 12) (ZC7 ZDk ZC8))) (ZDA (ZDq (ZNI PySem.F.plainAttrs_list PySem.F.slot_list_reverse PySem.F.type_list_reverse ZL7 (qv 12))) (ZDA (ZEF (ZDm (ZGr K rfl hu64) (ZE7 (qv 3) T.Z1 T.YU (ZFB T) hr.m T.YW .nil ZD2) (ZDX (ZFu rfl) rfl T.Zf ZFF (ZC7 (qv 5) ZC8)) (ZDx _)) (ZDD (ZDT ZGM)) ZDw) (ZDD (ZRJ (ZFa PassesOwn.never rfl (ZRF (qv 6)) (qgN (i := 8) ZEG.nd) (ZDD (ZEF (ZDm (ZGr K rfl hu64) (ZE7 (ZEY (qv 3) T.Z1 T.YT (ZFA T) hr.m T.YX .nil ZD2 (ZC7 (qv 8) ZC8)) T.ZN T.Jk (ZGm T) hr.m T.Jj .nil ZD2) (ZGO (ZHr K rfl) rfl T.JE ZHp (ZC7 (ZHb rfl rfl T.Zf (ZF7 hu (qv 6) (qv 8))) ZC8)) (ZDx _)) (ZDD (ZDT ZGM)) ZDw))))))))))))))))) (ZDD (ZDT ZGM))), ?_⟩
  walk_at "s"
  walk_at "w"
  generalize hj : (if (if (10 : Int) < ((ns.map V.int).length : Int) then (10 : Int) else ((ns.map V.int).length : Int)) > 1 then (if (10 : Int) < ((ns.map V.int).length : Int) then (10 : Int) else ((ns.map V.int).length : Int)) else 1) = j
  have hj1 : 1 ≤ j := by rw [← hj]; split <;> omega
  have hj2 : j ≤ 10 := by rw [← hj]; split <;> (try split) <;> omega
  refine ZIM (by omega) (by omega) (ZHO (fun i σ H' => (∃ v1 v2 v3 v4 v5 v6 v7 v8 v9 v10 v11 v12, σ = [some (.ref s), v1, v2, v3, v4, v5, v6, v7, v8, v9, v10, v11, v12]) ∧ ZDC H H') ⟨⟨_, _, _, _, _, _, _, _, _, _, _, _, rfl⟩, ZDC.refl H⟩ ?_ ?_)
  ·rintro i σ H1 hi ⟨⟨v1, v2, v3, v4, v5, v6, v7, v8, v9, v10, v11, v12, rfl⟩, S1⟩
   have hi2 : (i : Int) < 10 := by omega
   walk_at "w"
   refine ⟨s, ns, _, rfl, S1.seq hS, by omega, ?_⟩
   walk_at "w"
   refine ⟨_, _, rfl, by omega, by omega, fun p H2 n2 P2 S2 => ?_⟩
   walk_at "w"
   refine ZHQ fun x dx3 H3 n3 f3 S3 => ?_
   refine ⟨x, dx3, rfl, f3, fun d H4 n4 hB4 K4 => ⟨rfl, ?_⟩⟩
   have S24 : ZDC H2 H4 := S3.kpN n3 K4
   walk_at "w"
   refine ZHQ fun y dx5 H5 n5 f5 S5 => ?_
   refine ⟨y, dx5, rfl, f5, fun d2 H6 n6 hB6 K6 => ⟨rfl, ?_⟩⟩
   have S46 : ZDC H4 H6 := S5.kpN n5 K6
   have S26 := S24.trans S46
   have hBx := hB4.same S46
   have n2d : H2 d = none := ZEj S3 n4
   have n1x : H1 x = none := ZEj S2 n3
   have n1d : H1 d = none := ZEj S2 n2d
   have P6 := P2.same S26
   have npx : p ∉ BL x d [] := fun z => by
    obtain ⟨_, _, _, e, _⟩ := P2
    rcases ZDe.mp z with h | h | ⟨_, h, _⟩
    ·rw [h, n3] at e; cases e
    ·rw [h, n2d] at e; cases e
    ·cases h
   have yap : ∀ b ∈ [p, d], b ∉ BL y d2 [] := fun b hb z => by
    obtain ⟨_, _, _, e, _⟩ := P2
    have l4 : ∃ o, H4 b = some o := by
     simp only [List.mem_cons, List.not_mem_nil, or_false] at hb
     rcases hb with rfl | rfl
     ·exact ⟨_, S24 _ _ e⟩
     ·exact ⟨_, hB4.2.1⟩
    obtain ⟨o, l4⟩ := l4
    rcases ZDe.mp z with h | h | ⟨_, h, _⟩
    ·rw [h, n5] at l4; cases l4
    ·rw [h, ZEj S5 n6] at l4; cases l4
    ·cases h
   walk_at "w"
   refine ZH4 fun sd H7 n7 f7 S7 => ?_
   walk_at "w"
   refine ZH4 fun cd H8 n8 f8 S8 => ?_
   have S68 := S7.trans S8
   have n68 : H6 cd = none := ZEj S7 n8
   walk_at "w"
   refine ⟨p, _, rfl, P6.same S68, by decide, by decide, fun cnt H9 h9 h9' P9 K9 => ?_⟩
   have nsc : sd ≠ cd := fun z => by rw [z, n8] at f7; cases f7
   have L8 : LI a H6 H8 p x d sd cd [] (fun _ => 0) 0 := ⟨hBx.same S68, Nat.le_refl _, S8 _ _ f7, f8, (fun q hq => by cases hq), (fun q hq => by cases hq), (fun q hq => by cases hq), (fun q hq => by cases hq), ⟨hBx.fresh n7, hBx.fresh n68, nsc, n7, n68⟩, (fun q hq => by cases hq), P6.same S68, npx, FrL.same S68⟩
   have L9 := L8.pur K9 P9
   walk_at "w"
   refine ZIM (by omega) (by omega) (ZHO (fun i' σ H' => (∃ v7 v8 v9 v10 v11, σ = [some (.ref s), some (.int (0 + (i : Int))), some (.ref p), some (.ref x), some (.ref y), some (.ref sd), some (.ref cd), v7, v8, v9, v10, v11, v12]) ∧ ∃ m hs, LI a H6 H' p x d sd cd m hs (2 * i')) ?_ ?_ ?_)
   ·exact ⟨⟨_, _, _, _, _, rfl⟩, [], _, L9⟩
   ·rintro i' σ H10 hi' ⟨⟨v7, v8, v9, v10, v11, rfl⟩, m, hs, L10⟩
    have hi3 : i' < 16 := by omega
    walk_at "w"
    refine ⟨p, rfl, L10.pu, fun kk H11 hk P11 K11 => ?_⟩
    have L11 := L10.pur K11 P11
    walk_at "w"
    refine ⟨p, kk, rfl, hk, P11, fun vv H12 hvv P12 K12 => ?_⟩
    have L12 := L11.pur K12 P12
    obtain ⟨⟨dx12, hp12⟩, _⟩ := id L12.bd
    walk_at "w"
    refine ⟨x, d, dx12, vv, rfl, hp12, hvv, fun H13 S13 => ?_⟩
    have L13 := L12.same S13
    walk_at "w"
    refine ZSv ?_
    rw [decide_eq_true rfl]
    walk_at "w"
    refine ZEc ?_
    obtain ⟨⟨dx13, hp13⟩, _⟩ := id L13.bd
    walk_at "w"
    refine ZDl hp13 (ZGF (by decide +kernel)) ?_
    walk_at "w"
    refine ZNy ⟨x, d, m, kk, rfl, hk, L13.bd, by have := L13.ln; omega, fun q m' H14 hg14 hm14 hB14 K14 => ?_⟩
    have sdd : sd ≠ d := fun z => L13.nb.1 (by rw [z]; exact ZDe.mpr (.inr (.inl rfl)))
    have cdd : cd ≠ d := fun z => L13.nb.2.1 (by rw [z]; exact ZDe.mpr (.inr (.inl rfl)))
    have fs14 := K14 _ _ L13.fs sdd
    have fc14 := K14 _ _ L13.fc cdd
    walk_at "w"
    refine ZKm fs14 ?_
    walk_at "w"
    refine ZKn fs14 (Nat.lt_of_le_of_lt (show (ZDs m).length ≤ 60 by have := L13.ln; simp [ZDs]; omega) (by decide)) fun H15 f15 K15 => ?_
    walk_at "w"
    refine ZKm (K15 _ _ fc14 (Ne.symm nsc)) ?_
    walk_at "w"
    refine ZHu fun hd0 H16 n16 f16 S16 => ?_
    walk_at "w"
    refine ZKn (S16 _ _ (K15 _ _ fc14 (Ne.symm nsc))) (Nat.lt_of_le_of_lt (show (crv m hs).length ≤ 60 by have := L13.ln; simp [crv]; omega) (by decide)) fun H17 f17 K17 => ?_
    walk_at "w"
    obtain ⟨hs', L17, ehs⟩ := L13.asked hk hg14 hm14 hB14 K14 f15 K15 n16 f16 S16 f17 K17
    rw [ehs]
    have hq17 := ZEf hg14
    obtain ⟨n17, hS17⟩ := L17.bd.bin.st _ hq17
    have hnm := L17.nm _ hq17
    dsimp only at hS17 hnm
    obtain ⟨dxS, vsS, hpS, _⟩ := id hS17
    walk_at "w"
    refine ZDl hpS ZHF ?_
    refine ⟨q.S, n17, _, _, _, _, _, rfl, hS17, by omega, fun t18 cv18 H18 hP18 hA18 hm18 S18 => ?_⟩
    have L18 := L17.same S18
    walk_at "w"
    refine ZHc (L18.hd _ hq17) hS17.nd (by show q.sm.length < 64; omega) fun l19 H19 cv19 n19 hL19 hC19 hlc S19 => ?_
    obtain ⟨us19, f19, hP19⟩ := hL19
    walk_at "w"
    refine ZIh (SqL.of f19) fun t20 H20 n20 f20 S20 => ?_
    have L20 := L18.same (S19.trans S20)
    have ecv : cv18 = cv19 := ZIl hA18 hC19.1 fun r => by
     obtain ⟨t0, x0⟩ := r
     rw [hm18, hC19.2, ZEp hS17.nd]
    walk_at "w"
    refine ZLc (hP18.same (S19.trans S20)) ⟨us19, f20, hP19.same S20⟩ ?_
    rw [decide_eq_true ecv]
    walk_at "w"
    refine ZEc ?_
    walk_at "w"
    refine ⟨p, _, rfl, L20.pu, by decide, by decide, fun tt H21 h21 h21' P21 K21 => ?_⟩
    have L21 := L20.pur K21 P21
    walk_at "w"
    refine ⟨p, _, rfl, L21.pu, by decide, by decide, fun hh H22 h22 h22' P22 K22 => ?_⟩
    have L22 := L21.pur K22 P22
    walk_at "w"
    refine ZHt (L22.hd _ hq17) (Nat.lt_of_le_of_lt (show q.sm.length ≤ 64 by omega) (by decide)) fun H23 f23 K23 => ?_
    have hB23 := L22.hput hg14 K23
    have fs23 := K23 _ _ L22.fs (Ne.symm (L22.hb _ hq17).2.1)
    obtain ⟨n23, hS23⟩ := hB23.bin.st _ hq17
    dsimp only at hS23 f23
    obtain ⟨dxS3, vsS3, hpS3, _⟩ := id hS23
    walk_at "w"
    refine ZH3 (v := .ref q.S.p) fs23 (by rw [ZEg, hg14]; rfl) ?_
    walk_at "w"
    refine ZDl hpS3 ZHF ?_
    walk_at "w"
    refine ZJ9 f23 (by rw [ZKA, if_pos rfl]) ?_
    walk_at "w"
    refine ⟨q.S, n23, tt, hh - 20, q.sm, _, _, _, _, rfl, hS23, by unfold Tm; omega, by omega, by omega, by omega, by omega, fun H24 hS24 F24 => ?_⟩
    walk_at "w"
    exact ⟨⟨_, _, _, _, _, rfl⟩, _, hs', L22.put hg14 K23 f23 hS24 (by simp) (by simp) F24⟩
   ·rintro σ H10 ⟨⟨v7, v8, v9, v10, v11, rfl⟩, m, hs, L10⟩
    have hml : m.length ≤ 60 := by have := L10.ln; omega
    have fr1 : ZDC H1 H10 := L10.kp.fresh (S2.trans S26) fun b hb => by
     simp only [List.mem_cons, List.not_mem_nil, or_false] at hb
     rcases hb with rfl | rfl
     ·exact n2
     ·exact n1d
    have hBy : ZDO a H10 y d2 [] := hB6.frL L10.kp yap fun b hb xs z => by
     simp only [List.mem_cons, List.not_mem_nil, or_false] at hb
     rcases hb with rfl | rfl
     ·obtain ⟨_, _, _, e, _⟩ := P6
      rw [e] at z; cases z
     ·rw [hBx.2.1] at z; cases z
    have lay : ∀ ss : List Str, ss.Perm (m.map (·.1)) → ∀ z ∈ ss, PyData.canLay0 (.str z) = true := fun ss hp z hz => by
     obtain ⟨t, ht, e⟩ := List.mem_map.mp (hp.mem_iff.mp hz)
     rw [← e]
     exact ZTL (L10.nm t ht).1
    obtain ⟨⟨dx10, hp10⟩, _⟩ := id L10.bd
    walk_at "w"
    refine ZDl hp10 (ZGF (by decide +kernel)) ?_
    walk_at "w"
    refine ⟨x, d, m, rfl, L10.bd, hml, fun l11 ss11 H11 n11 f11 hp11 hs11 S11 => ?_⟩
    have L11 := L10.same S11
    walk_at "w"
    refine ZGb L11.fs (by rw [ZHH]; omega) fun l12 H12 ss12 n12 f12 hp12 hs12 S12 => ?_
    rw [ZGf] at hp12
    obtain rfl : ss12 = ss11 := ZG0 (hp12.trans hp11.symm) hs12 hs11
    have L12 := L11.same S12
    walk_at "w"
    refine ZIs (SqL.of (S12 _ _ f11)) (SqL.of f12) (lay _ hp11) (lay _ hp11) ?_
    rw [decide_eq_true rfl]
    walk_at "w"
    refine ZEc ?_
    have hBy12 := hBy.same (S11.trans S12)
    obtain ⟨⟨dxy, hpy⟩, _⟩ := id hBy12
    walk_at "w"
    refine ZDl hpy (ZGF (by decide +kernel)) ?_
    walk_at "w"
    refine ⟨y, d2, [], rfl, hBy12, by decide, fun l13 ss13 H13 n13 f13 hp13 hs13 S13 => ?_⟩
    obtain rfl : ss13 = [] := List.Perm.eq_nil hp13
    walk_at "w"
    refine ZDZ (by show 0 ≤ sizeLine; decide) fun l14 H14 n14 f14 S14 => ?_
    walk_at "w"
    refine ZIs (l := []) (m := []) (SqL.of (S14 _ _ f13)) (SqL.of f14) (fun z hz => by cases hz) (fun z hz => by cases hz) ?_
    rw [decide_eq_true rfl]
    walk_at "w"
    refine ZEc ?_
    have f1114 := (S12.trans (S13.trans S14)) _ _ f11
    have L14 := L12.same (S13.trans S14)
    walk_at "w"
    refine ⟨tyL f1114, ?_⟩
    walk_at "w"
    refine ZFk f1114 (by rw [List.length_map]; exact Nat.lt_of_le_of_lt (show _ ≤ 60 by rw [hp11.length_eq, List.length_map]; exact hml) (by decide)) fun H15 f15 K15 => ?_
    walk_at "w"
    refine ⟨tyL f15, ?_⟩
    walk_at "w"
    refine ZMJ f15 fun H16 f16 K16 => ?_
    have n10 : H1 l11 = none := ZEj fr1 n11
    have S114 : ZDC H1 H14 := fr1.trans (S11.trans (S12.trans (S13.trans S14)))
    have S116 : ZDC H1 H16 := (S114.kpN n10 K15).kpN n10 K16
    have nlB : l11 ∉ BL x d m := L10.bd.fresh n11
    have hB16 := (L14.bd.kpL K15 f1114 nlB).kpL K16 f15 nlB
    have l11d : ∀ {b : Addr} {o : HO}, H10 b = some o → l11 ≠ b := fun e z => by rw [← z, n11] at e; cases e
    have fs16 := K16 _ _ (K15 _ _ L14.fs (Ne.symm (l11d L10.fs))) (Ne.symm (l11d L10.fs))
    have fc16 := K16 _ _ (K15 _ _ L14.fc (Ne.symm (l11d L10.fc))) (Ne.symm (l11d L10.fc))
    have hd16 : ∀ q ∈ m, H16 (hs q.1) = some (.dK (ZDW q.2.sm)) := fun q hq => K16 _ _ (K15 _ _ (L14.hd q hq) (Ne.symm (l11d (L10.hd q hq)))) (Ne.symm (l11d (L10.hd q hq)))
    obtain ⟨⟨dx16, hp16⟩, _⟩ := id hB16
    walk_at "w"
    refine ZDl hp16 (ZGF (by decide +kernel)) ?_
    walk_at "w"
    refine ⟨x, d, m, rfl, hB16, hml, fun l17 ss17 H17 n17 f17 hp17 hs17 S17 => ?_⟩
    walk_at "w"
    refine ZGb (S17 _ _ fs16) (by rw [ZHH]; omega) fun l18 H18 ss18 n18 f18 hp18 hs18 S18 => ?_
    rw [ZGf] at hp18
    obtain rfl : ss18 = ss17 := ZG0 (hp18.trans hp17.symm) hs18 hs17
    walk_at "w"
    refine ZIs (SqL.of (S18 _ _ f17)) (SqL.of f18) (lay _ hp17) (lay _ hp17) ?_
    rw [decide_eq_true rfl]
    walk_at "w"
    refine ZEc ?_
    have S1618 := S17.trans S18
    have fc18 := S1618 _ _ fc16
    walk_at "w"
    refine ZRG fc18 fun ob H19 nf f19 K19 => ?_
    have hB19 := (hB16.same S1618).frL (l := [cd]) (FrL.kp K19 (by simp)) (fun b hb => by rw [List.mem_singleton.mp hb]; exact L10.nb.2.1) fun b hb xs => by rw [List.mem_singleton.mp hb, fc18]; intro z; cases z
    have hd19 : ∀ q ∈ m, H19 (hs q.1) = some (.dK (ZDW q.2.sm)) := fun q hq => K19 _ _ (S1618 _ _ (hd16 q hq)) (L10.hb q hq).2.2.1
    refine ZRI (fun i' σ H' => (∃ v7 v8 v9 v10 v11 v12, σ = [some (.ref s), some (.int (0 + (i : Int))), some (.ref p), some (.ref x), some (.ref y), some (.ref sd), some (.ref cd), v7, v8, v9, v10, v11, v12]) ∧ ZDC H19 H') ⟨⟨_, _, _, _, _, _, rfl⟩, ZDC.refl _⟩ (fun i' σ H' _ h => h.2 _ _ f19) ?_ ?_
    ·rintro i' pr σ H20 hpr ⟨⟨v7, v8, v9, v10, v11, v12, rfl⟩, S20⟩
     have hi3 : i' < m.length := by
      have := (List.getElem?_eq_some_iff.mp hpr).1
      simpa [dkS, crv] using this
     have epr : pr = (.inr m[i'].1, .ref (hs m[i'].1)) := by
      unfold dkS crv at hpr
      rw [List.getElem?_map, List.getElem?_map, List.getElem?_eq_getElem hi3] at hpr
      exact (Option.some.inj hpr).symm
     rw [epr]
     have hq : m[i'] ∈ m := List.getElem_mem hi3
     generalize m[i'] = q at hq
     have hg := ZFX (k := q.1) (v := q.2) L10.bd.bin.nd hq
     have hnm := L10.nm q hq
     have hB20 := hB19.same S20
     obtain ⟨⟨dx20, hp20⟩, _⟩ := id hB20
     walk_at "w"
     refine ZDl hp20 (ZGF (by decide +kernel)) ?_
     walk_at "w"
     refine ⟨x, d, m, q.1, rfl, hnm.1, hB20, hml, fun q' hq' H21 S21 => ?_, fun z => by rw [hg] at z; cases z⟩
     obtain rfl : q.2 = q' := Option.some.inj (hg.symm.trans hq')
     obtain ⟨n21, hS21⟩ := (hB20.same S21).bin.st q hq
     obtain ⟨dxS, vsS, hpS, _⟩ := id hS21
     walk_at "w"
     refine ZDl hpS ZHF ?_
     refine ⟨q.2.S, n21, _, _, _, _, _, rfl, hS21, by omega, fun t22 cv22 H22 hP22 hA22 hm22 S22 => ?_⟩
     have S1922 := S20.trans (S21.trans S22)
     walk_at "w"
     refine ZNi (v := .ref (hs q.1)) (S1922 _ _ f19) (by rw [ZGH, hg]; rfl) ?_
     walk_at "w"
     refine ZHc (S1922 _ _ (hd19 q hq)) hS21.nd (by omega) fun l23 H23 cv23 n23 hL23 hC23 hlc S23 => ?_
     obtain ⟨us23, f23, hP23⟩ := hL23
     walk_at "w"
     refine ZIh (SqL.of f23) fun t24 H24 n24 f24 S24' => ?_
     have ecv : cv22 = cv23 := ZIl hA22 hC23.1 fun r => by
      obtain ⟨t0, x0⟩ := r
      rw [hm22, hC23.2, ZEp hS21.nd]
     walk_at "w"
     refine ZLc (hP22.same (S23.trans S24')) ⟨us23, f24, hP23.same S24'⟩ ?_
     rw [decide_eq_true ecv]
     walk_at "w"
     refine ZEc ?_
     walk_at "w"
     exact ⟨⟨_, _, _, _, _, _, rfl⟩, S1922.trans (S23.trans S24')⟩
    ·rintro σ H20 ⟨⟨v7, v8, v9, v10, v11, v12, rfl⟩, S20⟩
     refine ZNl nf (S20 _ _ f19) True.intro fun H21 f21 K21 => ?_
     refine ⟨⟨_, _, _, _, _, _, _, _, _, _, _, _, rfl⟩, S1.trans ?_⟩
     have n1c : H1 cd = none := ZEj (S2.trans S26) L10.nb.2.2.2.2
     exact (((S116.trans S1618).kpN n1c K19).trans S20).kpN n1c K21
  ·rintro σ H1 ⟨⟨v1, v2, v3, v4, v5, v6, v7, v8, v9, v10, v11, v12, rfl⟩, S1⟩
   walk_at "w"
   exact k H1
end
structure FnH (K : W.Frag) (x : Str) (st : Stmt) (f : Addr) (d : FuncData) : Prop where
 a : W.nsIn K mainGlobals x = some (some (.ref f))
 F : Fun K x x st f d
structure MtH (K : W.Frag) (C : Addr) (x q : Str) (st : Stmt) (f : Addr) (d : FuncData) : Prop where
 a : W.findIn K (.ref C) x = some (some (.ref f))
 i : W.isFn K (.ref f) = true
 F : Fun K x q st f d
open PySem.W in
theorem all_mk {l : OpenLaw} {w : World} {K : Frag} {h : Heap} {mg : Str → Option Value} {fa : Addr} (X : K.In h) (G : h.Ns mainGlobals mg) (hfa : mg "law" = some (.ref fa))
 {ZF ZE ZL ZD ZK ZH ZI ZA ZB ZJ ZC ZG : Addr}
 {f0 f1 f2 f3 f4 f5 f6 f7 f8 f9 f10 f11 f12 f13 f14 f15 f16 f17 f18 f19 f20 f21 f22 f23 f24 f25 f26 f27 f28 f29 f30 f31 f32 f33 f34 f35 f36 f37 f38 f39 f40 f41 f42 f43 f44 f45 : Addr} {d0 d1 d2 d3 d4 d5 d6 d7 d8 d9 d10 d12 d13 d14 d15 d16 d17 d19 d20 d21 d22 d23 d24 d25 d26 d27 d28 d29 d30 d31 d32 d33 d34 d35 d36 d37 d38 d39 d40 d41 d42 d43 d44 : FuncData}
 {od11 an11 : Option Addr} {sl11 : Array (Option Value)} {oc11 kV11 dc11 pm11 cd11 ct11 : Value}
 {dt11 : Addr} {dod11 : Option Addr} {dsl11 : Array (Option Value)} {doc11 : Value} {dn11 : Nat}
 {od18 an18 : Option Addr} {sl18 : Array (Option Value)} {oc18 kV18 dc18 pm18 cd18 ct18 : Value}
 {dt18 : Addr} {dod18 : Option Addr} {dsl18 : Array (Option Value)} {doc18 : Value} {dn18 : Nat}
 {od45 an45 : Option Addr} {sl45 : Array (Option Value)} {oc45 kV45 dc45 pm45 cd45 ct45 : Value}
 {tk_TOP_LEVEL : Tok}
 {tk_TIMES_END : Tok}
 {tk_LETTERS : Tok}
 {tk_LONGEST_NAME : Tok}
 (e_FourPointsError : ZGa K "FourPointsError" ZD)
 (e_NoText : ZGa K "NoText" ZK)
 (e_NoColumn : ZGa K "NoColumn" ZH)
 (e_NotHalf : ZGa K "NotHalf" ZI)
 (e_OutOfTimes : ZGa K "OutOfTimes" ZA)
 (e_NoSample : ZGa K "NoSample" ZB)
 (e_NoWatch : ZGa K "NoWatch" ZJ)
 (e_NoName : ZGa K "NoName" ZC)
 (e_NotApart : ZGa K "NotApart" ZG)
 (ZT : subIn K (.ref ZA) (.ref ZD) = some true) (ZV : kitOne K (.ref ZA) (.ref ZD) = some true)
 (YI : subIn K (.ref ZA) (.ref ZK) = some false) (YE : kitOne K (.ref ZA) (.ref ZK) = some false)
 (Zv : subIn K (.ref ZA) (.ref ZH) = some false) (Zw : kitOne K (.ref ZA) (.ref ZH) = some false)
 (Z5 : subIn K (.ref ZA) (.ref ZI) = some false) (YA : kitOne K (.ref ZA) (.ref ZI) = some false)
 (Zj : subIn K (.ref ZA) (.ref ZA) = some true) (Zi : kitOne K (.ref ZA) (.ref ZA) = some true)
 (Zt : subIn K (.ref ZA) (.ref ZB) = some false) (Zu : kitOne K (.ref ZA) (.ref ZB) = some false)
 (Z8 : subIn K (.ref ZA) (.ref ZJ) = some false) (Z7 : kitOne K (.ref ZA) (.ref ZJ) = some false)
 (YF : subIn K (.ref ZA) (.ref ZC) = some false) (YG : kitOne K (.ref ZA) (.ref ZC) = some false)
 (Zz : subIn K (.ref ZA) (.ref ZG) = some false) (Zy : kitOne K (.ref ZA) (.ref ZG) = some false)
 (ZZ : subIn K (.ref ZB) (.ref ZD) = some true) (ZX : kitOne K (.ref ZB) (.ref ZD) = some true)
 (Yf : subIn K (.ref ZB) (.ref ZK) = some false) (Yd : kitOne K (.ref ZB) (.ref ZK) = some false)
 (YC : subIn K (.ref ZB) (.ref ZH) = some false) (YK : kitOne K (.ref ZB) (.ref ZH) = some false)
 (YO : subIn K (.ref ZB) (.ref ZI) = some false) (YR : kitOne K (.ref ZB) (.ref ZI) = some false)
 (Zx : subIn K (.ref ZB) (.ref ZA) = some false) (Z0 : kitOne K (.ref ZB) (.ref ZA) = some false)
 (YL : subIn K (.ref ZB) (.ref ZB) = some true) (YH : kitOne K (.ref ZB) (.ref ZB) = some true)
 (YN : subIn K (.ref ZB) (.ref ZJ) = some false) (YQ : kitOne K (.ref ZB) (.ref ZJ) = some false)
 (Yc : subIn K (.ref ZB) (.ref ZC) = some false) (Ye : kitOne K (.ref ZB) (.ref ZC) = some false)
 (YM : subIn K (.ref ZB) (.ref ZG) = some false) (YJ : kitOne K (.ref ZB) (.ref ZG) = some false)
 (ZQ : subIn K (.ref ZC) (.ref ZD) = some true) (Zh : kitOne K (.ref ZC) (.ref ZD) = some true)
 (Yx : subIn K (.ref ZC) (.ref ZK) = some false) (YB : kitOne K (.ref ZC) (.ref ZK) = some false)
 (Yg : subIn K (.ref ZC) (.ref ZH) = some false) (Zl : kitOne K (.ref ZC) (.ref ZH) = some false)
 (Yp : subIn K (.ref ZC) (.ref ZI) = some false) (Zr : kitOne K (.ref ZC) (.ref ZI) = some false)
 (YD : subIn K (.ref ZC) (.ref ZA) = some false) (Zd : kitOne K (.ref ZC) (.ref ZA) = some false)
 (Yb : subIn K (.ref ZC) (.ref ZB) = some false) (Zm : kitOne K (.ref ZC) (.ref ZB) = some false)
 (Yj : subIn K (.ref ZC) (.ref ZJ) = some false) (Zo : kitOne K (.ref ZC) (.ref ZJ) = some false)
 (Ys : subIn K (.ref ZC) (.ref ZC) = some true) (Z4 : kitOne K (.ref ZC) (.ref ZC) = some true)
 (Ya : subIn K (.ref ZC) (.ref ZG) = some false) (Zk : kitOne K (.ref ZC) (.ref ZG) = some false)
 (e_Tree : ZPN K "Tree" ZF)
 (na_Tree_looks : findIn K (.ref ZF) "looks" = some none)
 (na_Tree_samples : findIn K (.ref ZF) "samples" = some none)
 (na_Tree_kept_fours : findIn K (.ref ZF) "kept_fours" = some none)
 (e_Store : ZPN K "Store" ZE)
 (na_Store_tree : findIn K (.ref ZE) "tree" = some none)
 (na_Store_deeds : findIn K (.ref ZE) "deeds" = some none)
 (na_Store_done : findIn K (.ref ZE) "done" = some none)
 (na_Store_watches : findIn K (.ref ZE) "watches" = some none)
 (e_Board : ZPN K "Board" ZL)
 (na_Board_stores : findIn K (.ref ZL) "stores" = some none)
 (F0 : FnH K "_wall" ZLl f0 d0)
 (F1 : FnH K "is_whole" ZGc f1 d1)
 (F2 : FnH K "curve_of" ZFR f2 d2)
 (F3 : FnH K "height_of" ZFv f3 d3)
 (F4 : FnH K "four_of" ZG3 f4 d4)
 (F5 : FnH K "joined" ZH5 f5 d5)
 (F6 : FnH K "is_border" ZFw f6 d6)
 (F7 : FnH K "check_borders" ZFp f7 d7)
 (F8 : FnH K "check_time" ZFb f8 d8)
 (F9 : FnH K "stretches" ZHd f9 d9)
 (F10 : FnH K "longest" ZJF f10 d10)
 (a11 : findIn K (.ref ZF) "__init__" = some (some (.ref f11))) (i11 : isFn K (.ref f11) = true)
 (l11 : K.lookup f11 = some ⟨oc11, od11, .func (fnOf "__init__" "Tree.__init__" (ZDr ZDj) (ZDg ZDj) (ZC9 ZDj) (.ref dt11) kV11 dc11 pm11 an11 cd11 ct11), sl11⟩) (c11 : codeIn K cd11 "Tree.__init__" = true) (k11 : keepIn K (.ref f11) = true)
 (dl11 : K.lookup dt11 = some ⟨doc11, dod11, .seq #[.none] dn11, dsl11⟩)
 (F12 : MtH K ZF "put" "Tree.put" ZGd f12 d12)
 (F13 : MtH K ZF "take" "Tree.take" ZFx f13 d13)
 (F14 : MtH K ZF "renew" "Tree.renew" ZFc f14 d14)
 (F15 : MtH K ZF "four" "Tree.four" ZHe f15 d15)
 (F16 : MtH K ZF "fours" "Tree.fours" ZG4 f16 d16)
 (F17 : MtH K ZF "told" "Tree.told" ZFy f17 d17)
 (a18 : findIn K (.ref ZE) "__init__" = some (some (.ref f18))) (i18 : isFn K (.ref f18) = true)
 (l18 : K.lookup f18 = some ⟨oc18, od18, .func (fnOf "__init__" "Store.__init__" (ZDr ZDd) (ZDg ZDd) (ZC9 ZDd) (.ref dt18) kV18 dc18 pm18 an18 cd18 ct18), sl18⟩) (c18 : codeIn K cd18 "Store.__init__" = true) (k18 : keepIn K (.ref f18) = true)
 (dl18 : K.lookup dt18 = some ⟨doc18, dod18, .seq #[.none] dn18, dsl18⟩)
 (F19 : MtH K ZE "put" "Store.put" ZFz f19 d19)
 (F20 : MtH K ZE "take" "Store.take" ZG5 f20 d20)
 (F21 : MtH K ZE "height" "Store.height" ZGD f21 d21)
 (F22 : MtH K ZE "check_sample" "Store.check_sample" ZEz f22 d22)
 (F23 : MtH K ZE "do" "Store.do" ZGe f23 d23)
 (F24 : MtH K ZE "bring" "Store.bring" ZFK f24 d24)
 (F25 : MtH K ZE "undo" "Store.undo" ZG6 f25 d25)
 (F26 : MtH K ZE "times" "Store.times" ZGh f26 d26)
 (F27 : MtH K ZE "four" "Store.four" ZG7 f27 d27)
 (F28 : MtH K ZE "fours" "Store.fours" ZGi f28 d28)
 (F29 : MtH K ZE "told" "Store.told" ZFd f29 d29)
 (F30 : MtH K ZE "watch" "Store.watch" ZGj f30 d30)
 (F31 : MtH K ZE "news" "Store.news" ZG8 f31 d31)
 (F32 : FnH K "is_name" ZFq f32 d32)
 (F33 : MtH K ZL "__init__" "Board.__init__" ZEq f33 d33)
 (F34 : MtH K ZL "store" "Board.store" ZFL f34 d34)
 (F35 : MtH K ZL "names" "Board.names" ZFM f35 d35)
 (F36 : MtH K ZL "picture" "Board.picture" ZFr f36 d36)
 (F37 : MtH K ZL "kept" "Board.kept" ZG9 f37 d37)
 (F38 : FnH K "_law_cell" ZH6 f38 d38)
 (F39 : FnH K "_law_purse" ZHA f39 d39)
 (F40 : FnH K "_law_draw" ZH7 f40 d40)
 (F41 : FnH K "_law_named" ZHB f41 d41)
 (F42 : FnH K "_law_no_name" ZF0 f42 d42)
 (F43 : FnH K "_law_other" ZHC f43 d43)
 (F44 : FnH K "_law_refused" ZF1 f44 d44)
 (a45 : nsIn K mainGlobals "law" = some (some (.ref f45)))
 (l45 : K.lookup f45 = some ⟨oc45, od45, .func (fnOf "law" "law" (ZDr ZEo) (ZDg ZEo) (ZC9 ZEo) .none kV45 dc45 pm45 an45 cd45 ct45), sl45⟩) (c45 : codeIn K cd45 "law" = true) (k45 : keepIn K (.ref f45) = true)
 (ac_TOP_LEVEL : nsIn K mainGlobals "TOP_LEVEL" = some (some (.int 40 tk_TOP_LEVEL)))
 (ac_TIMES_END : nsIn K mainGlobals "TIMES_END" = some (some (.int 1099511627776 tk_TIMES_END)))
 (ac_LETTERS : nsIn K mainGlobals "LETTERS" = some (some (.str "abcdefghijklmnopqrstuvwxyz" tk_LETTERS)))
 (ac_LONGEST_NAME : nsIn K mainGlobals "LONGEST_NAME" = some (some (.int 8 tk_LONGEST_NAME)))
 (Jv : nsIn K mainGlobals "ValueError" = some none)
 (ZBb : nsIn K mainGlobals "abs" = some none)
 (ZBY : nsIn K mainGlobals "all" = some none)
 (ZAv : nsIn K mainGlobals "bool" = some none)
 (ZBQ : nsIn K mainGlobals "int" = some none)
 (ZO : nsIn K mainGlobals "isinstance" = some none)
 (JQ : nsIn K mainGlobals "len" = some none)
 (ZAt : nsIn K mainGlobals "list" = some none)
 (ZAo : nsIn K mainGlobals "max" = some none)
 (ZAn : nsIn K mainGlobals "min" = some none)
 (Yh : nsIn K mainGlobals "range" = some none)
 (Zf : nsIn K mainGlobals "sorted" = some none)
 (ZBN : nsIn K mainGlobals "str" = some none)
 (JE : nsIn K mainGlobals "tuple" = some none)
   : ∃ fd : FuncData, (∀ (s : Shared) (v : Value), BindsTo s fd ⟨[v], []⟩ [("_law_script", v)]) ∧ ∀ base : Heap, K.In base → base.Ns mainGlobals mg → ZDI l.prog w K mg base CX0 11 fa fd ["_law_script"] (ZJe K) := by
  have e := hfa.symm.trans (mg_of X G a45)
  cases e
  have F11 := ZLh (st := ZDj) l11 c11 k11
  have F18 := ZLh (st := ZDd) l18 c18 k18
  have F45 := fun_mk (st := ZEo) l45 c45 k45
  have T : Txt K mg ⟨f0, d0, f1, d1, f2, d2, f3, d3, f4, d4, f5, d5, f6, d6, f7, d7, f8, d8, f9, d9, f10, d10, f11, fnOf "__init__" "Tree.__init__" (ZDr ZDj) (ZDg ZDj) (ZC9 ZDj) (.ref dt11) kV11 dc11 pm11 an11 cd11 ct11, f12, d12, f13, d13, f14, d14, f15, d15, f16, d16, f17, d17, f18, fnOf "__init__" "Store.__init__" (ZDr ZDd) (ZDg ZDd) (ZC9 ZDd) (.ref dt18) kV18 dc18 pm18 an18 cd18 ct18, f19, d19, f20, d20, f21, d21, f22, d22, f23, d23, f24, d24, f25, d25, f26, d26, f27, d27, f28, d28, f29, d29, f30, d30, f31, d31, f32, d32, f33, d33, f34, d34, f35, d35, f36, d36, f37, d37, f38, d38, f39, d39, f40, d40, f41, d41, f42, d42, f43, d43, f44, d44, fa, fnOf "law" "law" (ZDr ZEo) (ZDg ZEo) (ZC9 ZEo) .none kV45 dc45 pm45 an45 cd45 ct45, ZF, ZE, ZL, ZD, ZK, ZH, ZI, ZA, ZB, ZJ, ZC, ZG, tk_TOP_LEVEL, tk_TIMES_END, tk_LETTERS, tk_LONGEST_NAME⟩ := ⟨F0.F, (F0.F.b1 fun _ _ _ _ _ _ _ => rfl), (mg_of X G F0.a), F1.F, (F1.F.b1 fun _ _ _ _ _ _ _ => rfl), (mg_of X G F1.a), F2.F, (F2.F.b1 fun _ _ _ _ _ _ _ => rfl), (mg_of X G F2.a), F3.F, (F3.F.b1 fun _ _ _ _ _ _ _ => rfl), (mg_of X G F3.a), F4.F, (F4.F.b1 fun _ _ _ _ _ _ _ => rfl), (mg_of X G F4.a), F5.F, (F5.F.b2 fun _ _ _ _ _ _ _ _ => rfl), (mg_of X G F5.a), F6.F, (F6.F.b1 fun _ _ _ _ _ _ _ => rfl), (mg_of X G F6.a), F7.F, (F7.F.b2 fun _ _ _ _ _ _ _ _ => rfl), (mg_of X G F7.a), F8.F, (F8.F.b1 fun _ _ _ _ _ _ _ => rfl), (mg_of X G F8.a), F9.F, (F9.F.b2 fun _ _ _ _ _ _ _ _ => rfl), (mg_of X G F9.a), F10.F, (F10.F.b2 fun _ _ _ _ _ _ _ _ => rfl), (mg_of X G F10.a), F11, (fun s us hI hl => by match us, hl with | [_, _], _ => exact binds_K hI rfl dl11 rfl rfl rfl), (fun s us hI hl => have hl2 : us.length = 1 := (by simpa using hl); match us, hl2 with | [_], _ => binds_K hI rfl dl11 rfl rfl rfl), (fun s u v hI => binds_K hI rfl dl11 rfl rfl rfl), F12.F, (F12.F.b3 fun _ _ _ _ _ _ _ _ _ => rfl), ⟨F12.a, F12.i, F12.F.kp⟩, F13.F, (F13.F.b2 fun _ _ _ _ _ _ _ _ => rfl), ⟨F13.a, F13.i, F13.F.kp⟩, F14.F, (F14.F.b3 fun _ _ _ _ _ _ _ _ _ => rfl), ⟨F14.a, F14.i, F14.F.kp⟩, F15.F, (F15.F.b3 fun _ _ _ _ _ _ _ _ _ => rfl), ⟨F15.a, F15.i, F15.F.kp⟩, F16.F, (F16.F.b2 fun _ _ _ _ _ _ _ _ => rfl), ⟨F16.a, F16.i, F16.F.kp⟩, F17.F, (F17.F.b1 fun _ _ _ _ _ _ _ => rfl), ⟨F17.a, F17.i, F17.F.kp⟩, F18, (fun s us hI hl => by match us, hl with | [_, _], _ => exact binds_K hI rfl dl18 rfl rfl rfl), (fun s us hI hl => have hl2 : us.length = 1 := (by simpa using hl); match us, hl2 with | [_], _ => binds_K hI rfl dl18 rfl rfl rfl), (fun s u v hI => binds_K hI rfl dl18 rfl rfl rfl), F19.F, (F19.F.b3 fun _ _ _ _ _ _ _ _ _ => rfl), ⟨F19.a, F19.i, F19.F.kp⟩, F20.F, (F20.F.b2 fun _ _ _ _ _ _ _ _ => rfl), ⟨F20.a, F20.i, F20.F.kp⟩, F21.F, (F21.F.b2 fun _ _ _ _ _ _ _ _ => rfl), ⟨F21.a, F21.i, F21.F.kp⟩, F22.F, (F22.F.b2 fun _ _ _ _ _ _ _ _ => rfl), ⟨F22.a, F22.i, F22.F.kp⟩, F23.F, (F23.F.b3 fun _ _ _ _ _ _ _ _ _ => rfl), ⟨F23.a, F23.i, F23.F.kp⟩, F24.F, (F24.F.b3 fun _ _ _ _ _ _ _ _ _ => rfl), ⟨F24.a, F24.i, F24.F.kp⟩, F25.F, (F25.F.b1 fun _ _ _ _ _ _ _ => rfl), ⟨F25.a, F25.i, F25.F.kp⟩, F26.F, (F26.F.b1 fun _ _ _ _ _ _ _ => rfl), ⟨F26.a, F26.i, F26.F.kp⟩, F27.F, (F27.F.b3 fun _ _ _ _ _ _ _ _ _ => rfl), ⟨F27.a, F27.i, F27.F.kp⟩, F28.F, (F28.F.b2 fun _ _ _ _ _ _ _ _ => rfl), ⟨F28.a, F28.i, F28.F.kp⟩, F29.F, (F29.F.b1 fun _ _ _ _ _ _ _ => rfl), ⟨F29.a, F29.i, F29.F.kp⟩, F30.F, (F30.F.b2 fun _ _ _ _ _ _ _ _ => rfl), ⟨F30.a, F30.i, F30.F.kp⟩, F31.F, (F31.F.b2 fun _ _ _ _ _ _ _ _ => rfl), ⟨F31.a, F31.i, F31.F.kp⟩, F32.F, (F32.F.b1 fun _ _ _ _ _ _ _ => rfl), (mg_of X G F32.a), F33.F, (F33.F.b1 fun _ _ _ _ _ _ _ => rfl), F34.F, (F34.F.b2 fun _ _ _ _ _ _ _ _ => rfl), ⟨F34.a, F34.i, F34.F.kp⟩, F35.F, (F35.F.b1 fun _ _ _ _ _ _ _ => rfl), ⟨F35.a, F35.i, F35.F.kp⟩, F36.F, (F36.F.b3 fun _ _ _ _ _ _ _ _ _ => rfl), ⟨F36.a, F36.i, F36.F.kp⟩, F37.F, (F37.F.b2 fun _ _ _ _ _ _ _ _ => rfl), ⟨F37.a, F37.i, F37.F.kp⟩, F38.F, (F38.F.b2 fun _ _ _ _ _ _ _ _ => rfl), (mg_of X G F38.a), F39.F, (F39.F.b2 fun _ _ _ _ _ _ _ _ => rfl), (mg_of X G F39.a), F40.F, (F40.F.b2 fun _ _ _ _ _ _ _ _ => rfl), (mg_of X G F40.a), F41.F, (F41.F.b1 fun _ _ _ _ _ _ _ => rfl), (mg_of X G F41.a), F42.F, (F42.F.b2 fun _ _ _ _ _ _ _ _ => rfl), (mg_of X G F42.a), F43.F, (F43.F.b1 fun _ _ _ _ _ _ _ => rfl), (mg_of X G F43.a), F44.F, (F44.F.b2 fun _ _ _ _ _ _ _ _ => rfl), (mg_of X G F44.a), F45, (F45.b1 fun _ _ _ _ _ _ _ => rfl), (mg_of X G a45), ⟨e_Tree.pg, e_Tree.hd, e_Tree.po, e_Tree.sa⟩, (mg_of X G e_Tree.a), ⟨e_Tree.mi, a11, i11, e_Tree.kc⟩, na_Tree_looks, na_Tree_samples, na_Tree_kept_fours, ⟨e_Store.pg, e_Store.hd, e_Store.po, e_Store.sa⟩, (mg_of X G e_Store.a), ⟨e_Store.mi, a18, i18, e_Store.kc⟩, na_Store_tree, na_Store_deeds, na_Store_done, na_Store_watches, ⟨e_Board.pg, e_Board.hd, e_Board.po, e_Board.sa⟩, (mg_of X G e_Board.a), ⟨e_Board.mi, F33.a, F33.i, e_Board.kc⟩, na_Board_stores, e_FourPointsError.ex, ⟨e_FourPointsError.ga, e_FourPointsError.gt, e_FourPointsError.cl, e_FourPointsError.ob, e_FourPointsError.be⟩, (mg_of X G e_FourPointsError.a), e_NoText.ex, ⟨e_NoText.ga, e_NoText.gt, e_NoText.cl, e_NoText.ob, e_NoText.be⟩, (mg_of X G e_NoText.a), e_NoColumn.ex, ⟨e_NoColumn.ga, e_NoColumn.gt, e_NoColumn.cl, e_NoColumn.ob, e_NoColumn.be⟩, (mg_of X G e_NoColumn.a), e_NotHalf.ex, ⟨e_NotHalf.ga, e_NotHalf.gt, e_NotHalf.cl, e_NotHalf.ob, e_NotHalf.be⟩, (mg_of X G e_NotHalf.a), e_OutOfTimes.ex, ⟨e_OutOfTimes.ga, e_OutOfTimes.gt, e_OutOfTimes.cl, e_OutOfTimes.ob, e_OutOfTimes.be⟩, (mg_of X G e_OutOfTimes.a), e_NoSample.ex, ⟨e_NoSample.ga, e_NoSample.gt, e_NoSample.cl, e_NoSample.ob, e_NoSample.be⟩, (mg_of X G e_NoSample.a), e_NoWatch.ex, ⟨e_NoWatch.ga, e_NoWatch.gt, e_NoWatch.cl, e_NoWatch.ob, e_NoWatch.be⟩, (mg_of X G e_NoWatch.a), e_NoName.ex, ⟨e_NoName.ga, e_NoName.gt, e_NoName.cl, e_NoName.ob, e_NoName.be⟩, (mg_of X G e_NoName.a), e_NotApart.ex, ⟨e_NotApart.ga, e_NotApart.gt, e_NotApart.cl, e_NotApart.ob, e_NotApart.be⟩, (mg_of X G e_NotApart.a), ZT, ZV, YI, YE, Zv, Zw, Z5, YA, Zj, Zi, Zt, Zu, Z8, Z7, YF, YG, Zz, Zy, ZZ, ZX, Yf, Yd, YC, YK, YO, YR, Zx, Z0, YL, YH, YN, YQ, Yc, Ye, YM, YJ, ZQ, Zh, Yx, YB, Yg, Zl, Yp, Zr, YD, Zd, Yb, Zm, Yj, Zo, Ys, Z4, Ya, Zk, (mg_of X G ac_TOP_LEVEL), (mg_of X G ac_TIMES_END), (mg_of X G ac_LETTERS), (mg_of X G ac_LONGEST_NAME), (mg_none_of X G Jv), (mg_none_of X G ZBb), (mg_none_of X G ZBY), (mg_none_of X G ZAv), (mg_none_of X G ZBQ), (mg_none_of X G ZO), (mg_none_of X G JQ), (mg_none_of X G ZAt), (mg_none_of X G ZAo), (mg_none_of X G ZAn), (mg_none_of X G Yh), (mg_none_of X G Zf), (mg_none_of X G ZBN), (mg_none_of X G JE)⟩
  exact ⟨fnOf "law" "law" (ZDr ZEo) (ZDg ZEo) (ZC9 ZEo) .none kV45 dc45 pm45 an45 cd45 ct45, fun s v => .of_eq rfl, fun base _ _ => ZTN T⟩
theorem walk {l : W.OpenLaw} {q : Program} {loose : List Str} {XP : (Str → Option Value) → Heap → Prop} {YP : World → Heap → Prop} {d : DefRec} {K : Params → W.Frag} (hn : l.most = some 63) (hdf : d.params.defaults = [])
  (hY : ∀ (w : World) (h : Heap), YP w h → (K w.params).In h)
  (F : ∀ (w : World) (mg : Str → Option Value) (fa : Addr) (h : Heap), (K w.params).In h → h.Ns mainGlobals mg → mg d.name = some (.ref fa) →
   ∃ fd : FuncData, (∀ (s : Shared) (u : Value), BindsTo s fd ⟨[u], []⟩ [("_law_script", u)]) ∧ ∀ base : Heap, (K w.params).In base → base.Ns mainGlobals mg → ZDI l.prog w (K w.params) mg base CX0 11 fa fd ["_law_script"] (ZJe (K w.params))) :
  W.WalkO q loose XP YP l.row.toRowW d [] (fun f vs => PySem.call f vs) :=
 L2.walk_of (n := 63) (k := 11) (x := "_law_script") (CX := fun _ => CX0) (sp := fun w => ZJe (K w.params)) hn (by decide) hdf ⟨rfl, by decide, by decide, rfl⟩ hY F (fun _ _ a ns hl _ hS => ⟨a, ns, rfl, hS, hl, fun _ => rfl⟩) fun _ _ _ _ _ z => z
end My
local macro_rules | `(tactic| walk_at "e") => `(tactic| (refine' ⟨?a, ?b, ?c, ?d, ?e, ?f, ?g⟩; (case a => k_is); (case b => k_exc); (case c => k_is); (case d => k_is); (case e => k_is); (case f => k_is); (case g => k_is)))
local macro_rules | `(tactic| walk_at "c") => `(tactic| (refine' ⟨?a, ?b, ?c, ?d, ?e, ?f, ?g⟩; (case a => k_is); (case b => k_is); (case c => k_is); (case d => k_is); (case e => k_is); (case f => k_is); (case g => k_is)))
local macro_rules | `(tactic| walk_at "f") => `(tactic| (refine' ⟨?a, L2.fun_mk ?b ?c ?d⟩; (case a => k_is); (case b => k_is); (case c => k_is); (case d => k_is)))
local macro_rules | `(tactic| walk_at "m") => `(tactic| (refine' ⟨?a, ?b, L2.fun_mk ?c ?d ?e⟩; (case a => k_is); (case b => k_is); (case c => k_is); (case d => k_is); (case e => k_is)))
namespace PySem.W.Fast
def tw17451281142493364448:=()
def tw3972685704197733378:=()
def tw13302094356166983747:=()
def tw5453152900127159076:=()
def tw2472771255288055368:=()
def tw16929469286505573130:=()
def tw18275373913998585100:=()
def tw12019455006573570254:=()
def tw2579308391947897294:=()
def tw4644502158757542639:=()
def tw3027173596426038288:=()
def tw10839681889038836465:=()
def tw18230755870547716274:=()
def tw6458308438227188915:=()
def tw12294524244828883702:=()
def tw7768074676598033207:=()
def tw14493386735370108442:=()
def tw12052346322875693018:=()
def tw12609130332179814171:=()
def tw12202136607168027837:=()
def tw9643827521568967294:=()
def tw218977947156695260:=()
def tw18118022667150836899:=()
def tw5071166372851658638:=()
def tw11113091625673006666:=()
def tw14875864973731048653:=()
def tw7650550869826936335:=()
def tw11799125290762750431:=()
def tw1755628629177241791:=()
def tw940156903068312232:=()
def tw17538366455325123612:=()
def tw4292611741087251218:=()
def tw4863427045167903006:=()
def tw12565510354644335383:=()
def tw10544839509957105872:=()
def tw12462213763226263614:=()
def tw35433817174124699:=()
def tw16962372728438747050:=()
def tw11476970365214187029:=()
def tw8804213989870939776:=()
def tw15997203706754999454:=()
def tw4199549537334084581:=()
def tw3581602427190051319:=()
def tw10044690327870261819:=()
def tw17599604737436863993:=()
def tw2335730048914825864:=()
def tw7356627992850120500:=()
def tw17444248601948009753:=()
def tw18069371925426674436:=()
def tw10129990805338164664:=()
def tw14475371345370505921:=()
def tw15794271467215793638:=()
def tw17476335779670137271:=()
def tw12050846649099035757:=()
def tw8083891897431278108:=()
def tw1285578849175770866:=()
def tw4952550636050998437:=()
def tw6377531768523259258:=()
def tw3771741849497484794:=()
def tw9562645619539632637:=()
def tw13220177358124346951:=()
def tw4834248794200278476:=()
def tw14745436496598336166:=()
def tw411249100280413094:=()
def tw12296115717463400846:=()
def tw6738836712073160632:=()
def tw11450329554023196088:=()
def tw11001911038341258278:=()
def tw11943765324740936912:=()
def tw6122792192149240540:=()
def tw2332468988516115766:=()
def tw15306359331708185188:=()
def tw219973446781547087:=()
def tw9096534280166843560:=()
def tw10839986633918561920:=()
def tw8420950673897593096:=()
def tw6415498792484960625:=()
def tw10400749017897168214:=()
def tw13914233601352337316:=()
def tw14604539967221893291:=()
def tw6176906478910117117:=()
def tw12415608902016185603:=()
def tw4804064750329959928:=()
def tw8585459719441311582:=()
def tw10513481116877967633:=()
def tw16419907680781051862:=()
def tw8059321278053050358:=()
def tw15801083005078256323:=()
def tw4607244864957720302:=()
def tw994734497179457546:=()
def tw767145645795703369:=()
def tw6592673729629573551:=()
def tw13770788657450168222:=()
def tw17911795864988490614:=()
def tw18275010370316375210:=()
def tw3141367397745071550:=()
def tw7216066831709389323:=()
def tw16549175910750783774:=()
def tw1967524749306923292:=()
def tw16138761839493576532:=()
def tw16347141314891692724:=()
def tw4257291708302994906:=()
def tw12329466763092325410:=()
def tw15063571672638660254:=()
def tw13620210140614677040:=()
def tw11893711474563441955:=()
def tw10752560169500567055:=()
def tw11424731016275965582:=()
def tw3824682123223630059:=()
def tw3236303775613722207:=()
def tw3083893878089673117:=()
def tw17323834997445579587:=()
def tw13659692281591442268:=()
def tw3958850363155343023:=()
def tw15999590682287458106:=()
def tw8408735680452749177:=()
def tw9817151345700828487:=()
def tw13817832200887027599:=()
def tw1949613564435939531:=()
def tw13069034713951847502:=()
def tw10993846899295144495:=()
def tw14994783647591930473:=()
def tw3674035516166519824:=()
def tw9140383909828828764:=()
def tw6471674147419614384:=()
def tw11642099532293797282:=()
def tw3303827434178903171:=()
def tw3434458711594314656:=()
def tw5370492056151548659:=()
def tw4395495200709177721:=()
def tw15667848123903907099:=()
def tw1637587262445598796:=()
def tw17328769783796312762:=()
def tw15015235982560551066:=()
def tw762766592543440004:=()
def tw9929428088630175278:=()
def tw4686214065101364953:=()
def tw10890626079884985041:=()
def tw14852081130630705792:=()
def tw17729872119685140003:=()
def tw10203012763078944496:=()
def tw9767845932687674871:=()
def tw10783362747188007446:=()
def tw14345494926180975675:=()
def tw10328977311180536071:=()
def tw8071590754393090348:=()
def tw1319194739938035252:=()
def tw17201377621763772083:=()
def tw6534397742464446425:=()
def tw11340186356168402351:=()
def tw6150929201822178751:=()
def tw17667466130182751988:=()
end PySem.W.Fast
open PySem PySem.W PyProof.Rows
set_option maxRecDepth 100000 in
set_option maxHeartbeats 0 in
theorem PySem.Challenge.cw_fourpoints_k81_stores_by_names_holds : PySem.Challenge.rw_fourpoints_k81_stores_by_names.Holds := by
 w_on; o_law; k_head; (case hw => w_witness2)
 k_fill
 refine My.walk (l := PySem.Challenge.rw_fourpoints_k81_stores_by_names) rfl rfl (fun w h Y => PySem.W.kIn_of Y) ?F
 case F =>
  intro w mg fa h KX G hmg
  refine' My.all_mk KX G hmg ?taa ?tab ?tac ?tad ?tae ?taf ?tag ?tah ?tai ?taj ?tak ?tal ?tam ?tan ?tao ?tap ?taq ?tar ?tas ?tat ?tau ?tav ?taw ?tax ?tay ?taz ?tba ?tbb ?tbc ?tbd ?tbe ?tbf ?tbg ?tbh ?tbi ?tbj ?tbk ?tbl ?tbm ?tbn ?tbo ?tbp ?tbq ?tbr ?tbs ?tbt ?tbu ?tbv ?tbw ?tbx ?tby ?tbz ?tca ?tcb ?tcc ?tcd ?tce ?tcf ?tcg ?tch ?tci ?tcj ?tck ?tcl ?tcm ?tcn ?tco ?tcp ?tcq ?tcr ?tcs ?tct ?tcu ?tcv ?tcw ?tcx ?tcy ?tcz ?tda ?tdb ?tdc ?tdd ?tde ?tdf ?tdg ?tdh ?tdi ?tdj ?tdk ?tdl ?tdm ?tdn ?tdo ?tdp ?tdq ?tdr ?tds ?tdt ?tdu ?tdv ?tdw ?tdx ?tdy ?tdz ?tea ?teb ?tec ?ted ?tee ?tef ?teg ?teh ?tei ?tej ?tek ?tel ?tem ?ten ?teo ?tep ?teq ?ter ?tes ?tet ?teu ?tev ?tew ?tex ?tey ?tez ?tfa ?tfb ?tfc ?tfd ?tfe ?tff ?tfg ?tfh ?tfi ?tfj ?tfk ?tfl ?tfm ?tfn ?tfo ?tfp ?tfq ?tfr ?tfs ?tft ?tfu
  (case taa | tab | tac | tad | tae | taf | tag | tah | tai => walk_at "e")
  (case taj => k_is)
  (case tak => kit_is)
  (case tal => k_is)
  (case tam => kit_is)
  (case tan => k_is)
  (case tao => kit_is)
  (case tap => k_is)
  (case taq => kit_is)
  (case tar => k_is)
  (case tas => kit_is)
  (case tat => k_is)
  (case tau => kit_is)
  (case tav => k_is)
  (case taw => kit_is)
  (case tax => k_is)
  (case tay => kit_is)
  (case taz => k_is)
  (case tba => kit_is)
  (case tbb => k_is)
  (case tbc => kit_is)
  (case tbd => k_is)
  (case tbe => kit_is)
  (case tbf => k_is)
  (case tbg => kit_is)
  (case tbh => k_is)
  (case tbi => kit_is)
  (case tbj => k_is)
  (case tbk => kit_is)
  (case tbl => k_is)
  (case tbm => kit_is)
  (case tbn => k_is)
  (case tbo => kit_is)
  (case tbp => k_is)
  (case tbq => kit_is)
  (case tbr => k_is)
  (case tbs => kit_is)
  (case tbt => k_is)
  (case tbu => kit_is)
  (case tbv => k_is)
  (case tbw => kit_is)
  (case tbx => k_is)
  (case tby => kit_is)
  (case tbz => k_is)
  (case tca => kit_is)
  (case tcb => k_is)
  (case tcc => kit_is)
  (case tcd => k_is)
  (case tce => kit_is)
  (case tcf => k_is)
  (case tcg => kit_is)
  (case tch => k_is)
  (case tci => kit_is)
  (case tcj => k_is)
  (case tck => kit_is)
  (case tcl => walk_at "c")
  (case tcm | tcn | tco => k_is)
  (case tcp => walk_at "c")
  (case tcq | tcr | tcs | tct => k_is)
  (case tcu => walk_at "c")
  (case tcv => k_is)
  (case tcw | tcx | tcy | tcz | tda | tdb | tdc | tdd | tde | tdf | tdg => walk_at "f")
  (case tdh | tdi | tdj | tdk | tdl | tdm => k_is)
  (case tdn | tdo | tdp | tdq | tdr | tds => walk_at "m")
  (case tdt | tdu | tdv | tdw | tdx | tdy => k_is)
  (case tdz | tea | teb | tec | ted | tee | tef | teg | teh | tei | tej | tek | tel => walk_at "m")
  (case tem => walk_at "f")
  (case ten | teo | tep | teq | ter => walk_at "m")
  (case tes | tet | teu | tev | tew | tex | tey => walk_at "f")
  (case tez | tfa | tfb | tfc | tfd | tfe | tff | tfg | tfh | tfi | tfj | tfk | tfl | tfm | tfn | tfo | tfp | tfq | tfr | tfs | tft | tfu => k_is)
