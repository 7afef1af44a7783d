import PyProof.Rows.All
import Wide.All
import OpenK.AllK
import Wide.FinOn
import Lean
import PyProof.EqAt
import PyProof.EqKinds
import PyProof.TupleCall
import KE.KSortTup
import PyProof.CollectWalk
import PyProof.DictWalks
import PyProof.Rows.SortWalk
import KE.KItemsList
import PyProof.ReprText
import PyProof.Rows.StrIntSpec
import PyProof.RowDictHeap
import KE.KRevIter
import KE.KMinKey
import PyProof.P3In
import KE.KIntText
import PyProof.StrLawsTight
import PyProof.StrWalks
import PyProof.ListRange
import PyProof.DictValues
import PyProof.Rows.SortStr
import PySem.Challenge.RW_fourpoints_k85_boards_refuse
set_option Elab.async false
set_option linter.all false
set_option maxRecDepth 100000
set_option maxHeartbeats 4000000
-- CHANGE: your row's module here, as the last of these rows
abbrev L2.PL := List (Int × Int)
namespace L2
open PySem PySem.Spec PyProof.Rows
abbrev Key := Sum Int Str
def ZJA : Key → Value → Bool
 | .inl k, v => Value.isInt k v
 | .inr x, v => Value.isStrOf x v
def ZY1 (w : World) : Key → Int
 | .inl k => hashInt k
 | .inr x => hashStr w x
theorem ZGT : ∀ {k : Key} {v : Value}, ZJA k v = true → (∃ i t, k = Sum.inl i ∧ v = Value.int i t) ∨ (∃ x t, k = Sum.inr x ∧ v = Value.str x t)
 | .inl i, v, h => by
  obtain ⟨t, e⟩ := Value.isInt_shape (k := i) (v := v) h
  exact .inl ⟨i, t, rfl, e⟩
 | .inr x, v, h => by
  obtain ⟨t, e⟩ := Value.isStrOf_shape (x := x) (v := v) h
  exact .inr ⟨x, t, rfl, e⟩
theorem ZQ7 (i : Int) (t : Tok) : ZJA (.inl i) (.int i t) = true := by simp [ZJA, Value.isInt]
theorem ZQ8 (x : Str) (t : Tok) : ZJA (.inr x) (.str x t) = true := by simp [ZJA, Value.isStrOf]
theorem ZWU (a b : Int) : decide ((Sum.inl a : Key) = Sum.inl b) = (a == b) := by
 by_cases e : a = b
 ·subst e; simp
 ·have h : ¬ (Sum.inl a : Key) = Sum.inl b := fun q => e (Sum.inl.inj q)
  rw [decide_eq_false h]
  exact (beq_eq_false_iff_ne.mpr e).symm
theorem ZWV (a b : Str) : decide ((Sum.inr a : Key) = Sum.inr b) = decide (a = b) := by
 by_cases e : a = b
 ·subst e; simp
 ·have h : ¬ (Sum.inr a : Key) = Sum.inr b := fun q => e (Sum.inr.inj q)
  rw [decide_eq_false h, decide_eq_false e]
theorem ZWW (a : Int) (b : Str) : decide ((Sum.inl a : Key) = Sum.inr b) = false := decide_eq_false (fun q => nomatch q)
theorem ZWX (a : Str) (b : Int) : decide ((Sum.inr a : Key) = Sum.inl b) = false := decide_eq_false (fun q => nomatch q)
def ZGM (prog : Program) (w : World) : PySem.KeyKind prog w Key where
 is := ZJA
 hash := ZY1 w
 inj := fun v a b ha hb => by
  rcases ZGT ha with ⟨i, t, rfl, rfl⟩ | ⟨x, t, rfl, rfl⟩
  ·rcases ZGT hb with ⟨j, u, rfl, e⟩ | ⟨y, u, rfl, e⟩
   ·injection e with e1 _; rw [e1]
   ·exact nomatch e
  ·rcases ZGT hb with ⟨j, u, rfl, e⟩ | ⟨y, u, rfl, e⟩
   ·exact nomatch e
   ·injection e with e1 _; rw [e1]
 byValue := fun k v h => by
  rcases ZGT h with ⟨i, t, rfl, rfl⟩ | ⟨x, t, rfl, rfl⟩ <;> rfl
 pyHash := fun hv h => by
  rcases ZGT hv with ⟨i, t, rfl, rfl⟩ | ⟨x, t, rfl, rfl⟩
  ·exact wpAny_pyHash_int h
  ·exact wpAny_pyHash_str h
 eqBool := fun hu hv h => by
  rcases ZGT hu with ⟨i, t, rfl, rfl⟩ | ⟨x, t, rfl, rfl⟩
  ·rcases ZGT hv with ⟨j, u, rfl, rfl⟩ | ⟨y, u, rfl, rfl⟩
   ·rw [ZWU] at h; exact wpAny_eqBool_int h
   ·rw [ZWW] at h; exact SeqAt.EqAt.int_str i t y u _ _ _ _ h
  ·rcases ZGT hv with ⟨j, u, rfl, rfl⟩ | ⟨y, u, rfl, rfl⟩
   ·rw [ZWX] at h; exact SeqAt.EqAt.str_int x t j u _ _ _ _ h
   ·rw [ZWV] at h; exact wpAny_eqBool_str h
 «strs» := fun k x t v h => by
  rcases ZGT h with ⟨i, u, rfl, e⟩ | ⟨y, u, rfl, e⟩
  ·exact nomatch e
  ·injection e with e1 _
   subst e1
   cases v <;> rfl
theorem ZPB (prog : Program) (w : World) (i : Int) (t : Tok) : (ZGM prog w).is (.inl i) (.int i t) = true := ZQ7 i t
theorem ZPC (prog : Program) (w : World) (x : Str) (t : Tok) : (ZGM prog w).is (.inr x) (.str x t) = true := ZQ8 x t
inductive V where
 | non | bl (b : Bool) | int (i : Int) | str (x : Str) | byt (b : Array UInt8) | flt (b : UInt64) | ref (a : Addr) | ty (n : String)
 deriving DecidableEq
def ZFl : V → Value → Prop
 | .non, u => u = Value.none
 | .bl b, u => u = Value.bool b
 | .int i, u => ∃ t, u = Value.int i t
 | .str x, u => ∃ t, u = Value.str x t
 | .byt b, u => ∃ t, u = Value.bytes b t
 | .flt b, u => ∃ t, u = Value.float b t
 | .ref a, u => u = Value.ref a
 | .ty n, u => u = Value.type n
abbrev ZFj : List V → List Value → Prop := Paired ZFl
theorem ZFj.length {xs : List V} {us : List Value} (r : ZFj xs us) : xs.length = us.length := Paired.length r
theorem ZFj.get : ∀ {xs : List V} {us : List Value} {i : Nat} {x : V}, ZFj xs us → xs[i]? = some x → ∃ u, us[i]? = some u ∧ ZFl x u
 | _, _, _, _, .nil, e => by simp at e
 | _, _, 0, _, .cons r _, e => by simp at e; subst e; exact ⟨_, rfl, r⟩
 | _, _, i + 1, x, .cons _ t, e => by
  obtain ⟨u, h1, h2⟩ := ZFj.get (i := i) (x := x) t (by simpa using e)
  exact ⟨u, by simpa using h1, h2⟩
theorem ZFj.set {x : V} {u : Value} (r : ZFl x u) : ∀ {xs : List V} {us : List Value} (i : Nat), ZFj xs us → ZFj (xs.set i x) (us.set i u)
 | _, _, _, .nil => .nil
 | _, _, 0, .cons _ t => .cons r t
 | _, _, i + 1, .cons q t => .cons q (ZFj.set r i t)
theorem ZFj.append : ∀ {xs ys : List V} {us ws : List Value}, ZFj xs us → ZFj ys ws → ZFj (xs ++ ys) (us ++ ws)
 | _, _, _, _, .nil, s => s
 | _, _, _, _, .cons r t, s => .cons r (ZFj.append t s)
theorem ZFj.take : ∀ {xs : List V} {us : List Value} (n : Nat), ZFj xs us → ZFj (xs.take n) (us.take n)
 | _, _, 0, _ => .nil
 | _, _, _ + 1, .nil => .nil
 | _, _, n + 1, .cons r t => .cons r (ZFj.take n t)
theorem ZFj.drop : ∀ {xs : List V} {us : List Value} (n : Nat), ZFj xs us → ZFj (xs.drop n) (us.drop n)
 | _, _, 0, r => r
 | _, _, _ + 1, .nil => .nil
 | _, _, n + 1, .cons _ t => ZFj.drop n t
def ZHJ : Option V → Option Value → Prop
 | some v, some u => ZFl v u
 | none, none => True
 | _, _ => False
def KV {κ : Type} : List (κ × V) → List (κ × Value) → Prop := Paired fun (p : κ × V) (q : κ × Value) => p.1 = q.1 ∧ ZFl p.2 q.2
def kV : Key → V
 | .inl i => .int i
 | .inr x => .str x
inductive HO where
 | lst (xs : List V)
 | tup (xs : List V)
 | dK (kvs : List (Key × V)) | dT (kvs : List (List Key × V))
 | set (S : Int → Bool) (n : Nat)
 | ins (C dx : Addr) (fs : List (Str × V))
 | own (x : Addr)
 | xd (fs : List (Str × V))
 | met (f x : Addr)
 | rng (lo hi : Int)
 | frz (o : Obj) (u : HO)
 | tbl (ps : Array Value)
 | ext (φ : Heap → Prop)
abbrev Hp := Addr → Option HO
def upd (H : Hp) (a : Addr) (o : HO) : Hp := fun b => if b = a then some o else H b
theorem ZFf {H : Hp} {a : Addr} {o : HO} : upd H a o a = some o := by unfold upd; rw [if_pos rfl]
theorem ZFg {H : Hp} {a b : Addr} {o : HO} (h : b ≠ a) : upd H a o b = H b := by unfold upd; rw [if_neg h]
theorem ZYa {H : Hp} {a b : Addr} {o u : HO} (h : H a = some o) (h' : H b = some u) (d : o ≠ u) : a ≠ b := by
 intro e; subst e; rw [h] at h'; exact d (Option.some.inj h')
theorem ZF2 {H : Hp} {a b : Addr} {o : HO} (h : H a = some o) (h' : H b = none) : a ≠ b := by
 intro e; subst e; rw [h] at h'; cases h'
section
variable (P : Program) (w : World)
def ZFz (H : Hp) (h : Heap) (a : Addr) : HO → Prop
 | .lst xs => xs.length ≤ sizeLine ∧ ∃ (its : List Value) (n : Nat), ZFj xs its ∧ h.get? a = some { cls := .type "list", data := .seq its.toArray n }
 | .tup xs => (xs.length ≤ sizeLine ∧ ((∀ i : Int, xs.head? ≠ some (.int i)) → ∃ o, h.get? a = some o ∧ o.dict = none ∧ o.slots = #[])) ∧ ∃ its : List Value, ZFj xs its ∧ IsTup h a its.toArray
 | .dK kvs => kvs.length ≤ sizeLine ∧ (a == sysModules) = false ∧ ∃ vs, KV kvs vs ∧ h.DictOf (ZGM P w) a vs
 | .dT kvs => kvs.length ≤ sizeLine ∧ (a == sysModules) = false ∧ ∃ xs : List (List Key × Addr × Value),
  Paired (fun (p : List Key × V) (q : List Key × Addr × Value) => p.1 = q.1 ∧ H q.2.1 = some (.tup (p.1.map kV)) ∧ ZFl p.2 q.2.2) kvs xs ∧
  ∃ o es ep, h.get? a = some o ∧ o.ExactDict ∧ o.data = .dict es ep ∧ es.toList = xs.map (entryOfKey (tupleKind (ZGM P w))) ∧ (xs.map (·.1)).Nodup
 | .set S n => h.SetOf (intKind P w) a S n
 | .ins C dx fs => H dx = some (.own a) ∧ fs.length ≤ 1000 ∧ dx ≠ a ∧ h.get? a = some (PySem.W.instObj C dx) ∧
  ∃ mA, h.Ns1 dx mA ∧ (∀ f, ZHJ (fs.lookup f) (mA f)) ∧ PySem.Within mA (fs.map (·.1))
 | .own _ => ∃ o, h.get? a = some o
 | .xd fs => ∃ mA, h.Ns1 a mA ∧ ∀ f, ZHJ (fs.lookup f) (mA f)
 | .rng lo hi => ∃ t u v, h.get? a = some { cls := .type "range", data := .fields #[.int lo t, .int hi u, .int 1 v] }
 | .frz o u => h.get? a = some o ∧ ZFz H h a u
 | .tbl ps => h.get? a = some { cls := .none, data := .fields ps }
 | .met f x => h.get? a = some (PySem.W.methodObj (.ref f) (.ref x))
 | .ext φ => φ h ∧ (∃ o, h.get? a = some o) ∧ ∀ h1 h2 : Heap, φ h1 → (∀ o, h1.get? a = some o → h2.get? a = some o) → φ h2
def HOk (H : Hp) (h : Heap) : Prop := ∀ a o, H a = some o → ZFz P w H h a o
end
section
variable {P : Program} {w : World} {H H' : Hp} {h h' : Heap} {a : Addr} {o : HO}
theorem ZFz.lt (x : ZFz P w H h a o) : a < h.objs.size := by
 cases o with
 | lst xs => obtain ⟨_, _, _, _, e⟩ := x; exact Heap.lt_size e
 | tup xs => obtain ⟨_, _, _, p⟩ := x; exact p.lt
 | dK kvs => obtain ⟨_, _, _, _, o, _, _, e, _⟩ := x; exact Heap.lt_size e
 | dT kvs => obtain ⟨_, _, _, _, o, _, _, e, _⟩ := x; exact Heap.lt_size e
 | set S n => obtain ⟨o, _, _, _, e, _⟩ := x; exact Heap.lt_size e
 | ins C dx fs => obtain ⟨_, _, _, e, _⟩ := x; exact Heap.lt_size e
 | own y => obtain ⟨_, e⟩ := x; exact Heap.lt_size e
 | xd fs => obtain ⟨_, ⟨_, _, _, e, _⟩, _⟩ := x; exact Heap.lt_size e
 | rng lo hi => obtain ⟨_, _, _, e⟩ := x; exact Heap.lt_size e
 | frz ob u => obtain ⟨e, _⟩ := x; exact Heap.lt_size e
 | tbl ps => exact Heap.lt_size (show h.get? a = some _ from x)
 | met f y => exact Heap.lt_size (show h.get? a = some _ from x)
 | ext φ => obtain ⟨_, ⟨_, e⟩, _⟩ := x; exact Heap.lt_size e
theorem Paired.mapP {α β : Type} {F G : α → β → Prop} : ∀ {l₁ : List α} {l₂ : List β}, Paired F l₁ l₂ → (∀ a b, F a b → G a b) → Paired G l₁ l₂
 | _, _, .nil, _ => .nil
 | _, _, .cons r t, f => .cons (f _ _ r) (Paired.mapP t f)
theorem ZFz.stay (x : ZFz P w H h a o) (k : ∀ b u, (b = a ∨ H b = some (.own a)) → h.get? b = some u → h'.get? b = some u)
  (ho : ∀ b, H b = some (.own a) → H' b = some (.own a)) (ht : ∀ b xs, H b = some (.tup xs) → H' b = some (.tup xs)) : ZFz P w H' h' a o := by
 induction o with
 | lst xs => obtain ⟨z, its, n, r, e⟩ := x; exact ⟨z, its, n, r, k _ _ (.inl rfl) e⟩
 | tup xs =>
  obtain ⟨⟨z, pd⟩, its, r, ob, e, c⟩ := x
  exact ⟨⟨z, fun q => let ⟨od, ed, cd⟩ := pd q; ⟨od, k _ _ (.inl rfl) ed, cd⟩⟩, its, r, ob, k _ _ (.inl rfl) e, c⟩
 | dK kvs => obtain ⟨z, y, vs, r, ob, es, ep, e, c⟩ := x; exact ⟨z, y, vs, r, ob, es, ep, k _ _ (.inl rfl) e, c⟩
 | dT kvs =>
  obtain ⟨z, y, xs, r, ob, es, ep, e, c⟩ := x
  exact ⟨z, y, xs, Paired.mapP r fun p q z => ⟨z.1, ht _ _ z.2.1, z.2.2⟩, ob, es, ep, k _ _ (.inl rfl) e, c⟩
 | set S n => obtain ⟨ob, es, ep, t, e, c⟩ := x; exact ⟨ob, es, ep, t, k _ _ (.inl rfl) e, c⟩
 | ins C dx fs =>
  obtain ⟨d, z, ne, e, mA, ⟨od, es, ep, e2, c⟩, r⟩ := x
  exact ⟨ho _ d, z, ne, k _ _ (.inl rfl) e, mA, ⟨od, es, ep, k _ _ (.inr d) e2, c⟩, r⟩
 | own y => obtain ⟨ob, e⟩ := x; exact ⟨ob, k _ _ (.inl rfl) e⟩
 | xd fs => obtain ⟨mA, ⟨od, es, ep, e, c⟩, r⟩ := x; exact ⟨mA, ⟨od, es, ep, k _ _ (.inl rfl) e, c⟩, r⟩
 | rng lo hi => obtain ⟨t, u, v, e⟩ := x; exact ⟨t, u, v, k _ _ (.inl rfl) e⟩
 | frz ob u ih => obtain ⟨e, q⟩ := x; exact ⟨k _ _ (.inl rfl) e, ih q⟩
 | tbl ps =>
  have e : h.get? a = some { cls := .none, data := .fields ps } := x
  show h'.get? a = some { cls := .none, data := .fields ps }
  exact k a _ (.inl rfl) e
 | met f y =>
  have e : h.get? a = some (PySem.W.methodObj (.ref f) (.ref y)) := x
  show h'.get? a = some (PySem.W.methodObj (.ref f) (.ref y))
  exact k a _ (.inl rfl) e
 | ext φ => obtain ⟨p, ⟨o, e⟩, st⟩ := x; exact ⟨st _ _ p fun o q => k _ _ (.inl rfl) q, ⟨o, k _ _ (.inl rfl) e⟩, st⟩
theorem HOk.lt (x : HOk P w H h) (e : H a = some o) : a < h.objs.size := (x a o e).lt
theorem HOk.fresh (x : HOk P w H h) (e : h.objs.size ≤ a) : H a = none := by
 cases q : H a with
 | none => rfl
 | some u => exact absurd (Nat.lt_of_lt_of_le (x.lt q) e) (Nat.lt_irrefl _)
theorem HOk.kept (x : HOk P w H h) (k : ∀ b u, h.get? b = some u → h'.get? b = some u) : HOk P w H h' := fun a o e =>
 (x a o e).stay (fun b u _ q => k b u q) (fun _ q => q) fun _ _ q => q
theorem HOk.laid (x : HOk P w H h) (k : ∀ b u, h.get? b = some u → h'.get? b = some u) (hp : h.objs.size ≤ a) (new : ZFz P w (upd H a o) h' a o) : HOk P w (upd H a o) h' := fun b u e => by
 have hn := x.fresh hp
 by_cases hb : b = a
 ·subst hb; rw [ZFf] at e; cases e; exact new
 ·rw [ZFg hb] at e
  exact (x b u e).stay (fun c v _ q => k c v q) (fun c q => by rw [ZFg (ZF2 q hn)]; exact q) fun c xs q => by rw [ZFg (ZF2 q hn)]; exact q
end
def Rd (H : Hp) (a : Addr) (u : HO) : Prop := H a = some u ∨ ∃ o, H a = some (.frz o u)
theorem Rd.ok {P : Program} {w : World} {H : Hp} {h : Heap} {a : Addr} {u : HO} (r : Rd H a u) (x : HOk P w H h) : ZFz P w H h a u := by
 rcases r with r | ⟨o, r⟩
 ·exact x a u r
 ·obtain ⟨_, q⟩ := x a _ r
  exact q
def Mut : Option HO → Prop
 | some (.lst _) => True
 | some (.dK _) => True
 | some (.dT _) => True
 | some (.set _ _) => True
 | some (.ins _ _ _) => True
 | some (.ext _) => True
 | _ => False
section
variable {P : Program} {w : World} {H : Hp} {h h' : Heap} {x e : Addr} {o' : HO}
theorem HOk.write (ok : HOk P w H h) (mu : Mut (H x)) (he : e = x ∨ H e = some (.own x)) (k : ∀ b u, b ≠ e → h.get? b = some u → h'.get? b = some u) (heo : ∃ u, h'.get? e = some u)
  (new : ZFz P w (upd H x o') h' x o') : HOk P w (upd H x o') h' := fun b u q => by
 have nown : ∀ c y, H c = some (.own y) → c ≠ x := fun c y r z => by subst z; rw [r] at mu; exact mu
 have ntup : ∀ c xs, H c = some (.tup xs) → c ≠ x := fun c xs r z => by subst z; rw [r] at mu; exact mu
 by_cases hb : b = x
 ·subst hb; rw [ZFf] at q; cases q; exact new
 ·rw [ZFg hb] at q
  by_cases hbe : b = e
  ·have q' : H b = some (.own x) := by
    rcases he with z | z
    ·exact absurd (hbe.trans z) hb
    ·rw [hbe]; exact z
   rw [q] at q'; cases q'
   obtain ⟨v, hv⟩ := heo
   exact ⟨v, by rw [hbe]; exact hv⟩
  ·refine (ok b u q).stay (fun c v hc r => k c v ?_ r) (fun c r => by rw [ZFg (nown c b r)]; exact r) fun c xs r => by rw [ZFg (ntup c xs r)]; exact r
   rcases hc with rfl | hc
   ·exact hbe
   ·rintro rfl
    rcases he with z | z
    ·exact nown c b hc z
    ·rw [hc] at z; cases z; exact hb rfl
end
structure Un (fs ex : List Addr) (H H' : Hp) (h h' : Heap) : Prop where
 keep : ∀ b o, h.get? b = some o → H b = none → b ∉ fs → b ∉ ex → h'.get? b = some o
 slot : ∀ b o, h.get? b = some o → H b = none → b ∈ fs → b ∉ ex → ∃ sl, h'.get? b = some { o with slots := sl }
 free : ∀ b o, h.get? b = some o → H b = none → b ∉ ex → H' b = none
 there : ∀ b o, h.get? b = some o → b ∉ ex → ∃ o', h'.get? b = some o'
 tups : ∀ b xs, H b = some (.tup xs) → H' b = some (.tup xs)
 frzs : ∀ b o u, H b = some (.frz o u) → H' b = some (.frz o u)
 tbls : ∀ b ps, H b = some (.tbl ps) → ∃ more, H' b = some (.tbl (ps ++ more))
section
variable {fs fs' ex ex' : List Addr} {H H1 H2 : Hp} {h h1 h2 h' : Heap} {a x e : Addr} {o : HO}
theorem Un.any (u : Un fs ex H H1 h h1) {b : Addr} {ob : Obj} (q : h.get? b = some ob) (n : H b = none) (hx : b ∉ ex) : ∃ sl, h1.get? b = some { ob with slots := sl } := by
 by_cases hb : b ∈ fs
 ·exact u.slot b ob q n hb hx
 ·exact ⟨ob.slots, u.keep b ob q n hb hx⟩
theorem Un.kept (k : ∀ b u, h.get? b = some u → h'.get? b = some u) : Un fs ex H H h h' :=
 ⟨fun b ob q _ _ _ => k b ob q, fun b ob q _ _ _ => ⟨ob.slots, k b ob q⟩, fun _ _ _ n _ => n, fun b ob q _ => ⟨ob, k b ob q⟩, fun _ _ q => q, fun _ _ _ q => q, fun _ ps q => ⟨#[], by rw [q]; simp⟩⟩
theorem Un.refl : Un fs ex H H h h := Un.kept fun _ _ q => q
theorem Un.laid (k : ∀ b u, h.get? b = some u → h'.get? b = some u) (hp : h.objs.size ≤ a) (hn : H a = none) : Un fs ex H (upd H a o) h h' where
 keep := fun b u q _ _ _ => k b u q
 slot := fun b u q _ _ _ => ⟨u.slots, k b u q⟩
 free := fun b u q n _ => by rw [ZFg (Nat.ne_of_lt (Nat.lt_of_lt_of_le (Heap.lt_size q) hp))]; exact n
 there := fun b u q _ => ⟨u, k b u q⟩
 tups := fun b xs q => by rw [ZFg (ZF2 q hn)]; exact q
 frzs := fun b u xs q => by rw [ZFg (ZF2 q hn)]; exact q
 tbls := fun b ps q => ⟨#[], by rw [ZFg (ZF2 q hn), q]; simp⟩
theorem Un.write (mu : Mut (H x)) (he : e = x ∨ H e = some (.own x)) (k : ∀ b u, b ≠ e → h.get? b = some u → h'.get? b = some u) (heo : ∃ u, h'.get? e = some u) : Un fs ex H (upd H x o) h h' := by
 have hx : ∀ b, H b = none → b ≠ x := fun b n z => by subst z; rw [n] at mu; exact mu
 have hb : ∀ b, H b = none → b ≠ e := fun b n z => by
  subst z
  rcases he with r | r
  ·exact hx b n r
  ·rw [n] at r; cases r
 have hm : ∀ b u, H b = some u → ¬ Mut (some u) → b ≠ x := fun b u q nm z => by subst z; rw [q] at mu; exact nm mu
 refine ⟨fun b u q n _ _ => k b u (hb b n) q, fun b u q n _ _ => ⟨u.slots, k b u (hb b n) q⟩, fun b u q n _ => by rw [ZFg (hx b n)]; exact n, fun b u q _ => ?_,
  fun b xs q => by rw [ZFg (hm b _ q fun z => z)]; exact q, fun b u xs q => by rw [ZFg (hm b _ q fun z => z)]; exact q, fun b ps q => ⟨#[], by rw [ZFg (hm b _ q fun z => z), q]; simp⟩⟩
 by_cases hbe : b = e
 ·subst hbe; exact heo
 ·exact ⟨u, k b u hbe q⟩
end
def trk (h : Heap) (H : Hp) : List Addr := (List.range h.objs.size).filter fun a => (H a).isSome
def ZJq (h : Heap) (H : Hp) : Heap := PySem.W.hideAll h (trk h H)
theorem ZQ9 (h : Heap) (H : Hp) : (ZJq h H).objs.size = h.objs.size := PySem.W.hideAll_size _ _
theorem ZSK {h : Heap} {H : Hp} {b : Addr} {o : Obj} (e : h.get? b = some o) (n : H b = none) : (ZJq h H).get? b = some o :=
 PySem.W.hideAll_get _ e fun hm => by
  have q : (H b).isSome = true := (List.mem_filter.mp hm).2
  rw [n] at q; simp at q
theorem ZUl {h : Heap} {H : Hp} {b : Addr} {o : Obj} (e : (ZJq h H).get? b = some o) : h.get? b = some o ∧ H b = none := by
 have e' : h.get? b = some o := PySem.W.of_hideAll (trk h H) e
 refine ⟨e', ?_⟩
 cases q : H b with
 | none => rfl
 | some x =>
  have hm : b ∈ trk h H := List.mem_filter.mpr ⟨List.mem_range.mpr (Heap.lt_size e'), by simp [q]⟩
  have z : (ZJq h H).get? b = none := PySem.W.hideAll_none (trk h H) hm
  rw [z] at e; cases e
def ZUm (g h : Heap) (L : Addr) : List (Addr × Obj) := (List.range h.objs.size).filterMap fun a => if a = L ∨ (g.get? a).isSome = true then none else (h.get? a).map fun o => (a, o)
def ZGe (g h : Heap) (L d : Addr) : List (Addr × Obj) := (ZUm g h L).filter fun p => decide (p.1 ≠ d)
structure Mod (K : W.Frag) (mg : Str → Option Value) (base : Heap) : Prop where
 kin : K.In base
 glob : base.Ns mainGlobals mg
 blt : ∃ mb, base.Ns builtinsNs mb ∧ ∀ x : Str, x ≠ "__name__" → mb x = bootBuiltins x
 nolimit : base.NoLimit
structure Cx where
 prog : Program
 w : World
 K : W.Frag
 mg : Str → Option Value
 base : Heap
 A : Around
 N : List Str
 s₀ : Shared
 H₀ : Hp
 env : Env
 outer : List Env
 stack : List Env
 ex : List Addr
 fn : Str → Bool
 calm : Bool
 pn : List (Addr × Obj)
 xe : Value → Shared → Prop
def frs (l : List Env) : List Addr := l.filterMap (·.frame)
abbrev Cx.fs (X : Cx) : List Addr := frs X.outer
def Vis (sc : Scope) (x : Str) : Prop := sc.names.lookup x = some .local ∨ sc.names.lookup x = some .cell ∨ sc.names.lookup x = some .free
def Loc (sc : Scope) (x : Str) : Prop := sc.names.lookup x = some .local ∨ sc.names.lookup x = some .cell
def ZY2 (env : Env) (h : Heap) (m : Str → Option Value) (x : Str) (u : Value) : Prop :=
 (env.kindOf x = some .local ∧ m x = some u) ∨ ((env.kindOf x = some .cell ∨ env.kindOf x = some .free) ∧ ∃ c, env.cells.lookup x = some c ∧ h.IsCell c (some u))
structure Cx.Ok (X : Cx) : Prop where
 mod : Mod X.K X.mg X.base
 kind : X.env.scope.kind = .function
 glob : X.env.globals = mainGlobals
 blt : X.env.builtins = builtinsNs
 above : X.s₀.heap.objs.size ≤ X.env.locals
 inj : ∀ x y c, X.env.cells.lookup x = some c → X.env.cells.lookup y = some c → x = y
 has : ∀ x, (X.env.kindOf x = some .cell ∨ X.env.kindOf x = some .free) → ∃ c, X.env.cells.lookup x = some c
 cab : ∀ x c, X.fn x = true → X.env.cells.lookup x = some c → X.s₀.heap.objs.size ≤ c
 hd : X.calm = true → X.A.handled = none
 frames : X.A.frames = some X.stack
 stk : X.stack = X.outer ∨ (X.stack = X.env :: X.outer ∧ X.env.frame = some X.env.locals)
 exf : ∀ b ∈ X.ex, b ≠ X.env.locals ∧ ∀ x c, X.env.cells.lookup x = some c → c ≠ b
 bs : ∀ b o, X.base.get? b = some o → X.s₀.heap.get? b = some o ∧ X.H₀ b = none
 bsz : X.base.objs.size ≤ X.s₀.heap.objs.size
 noex : ∀ b o, X.base.get? b = some o → b ∉ X.ex
 exfs : ∀ b ∈ X.ex, b ∉ X.fs
 funs : X.s₀.heap.FunFrames X.base X.outer
 frf : ∀ b ∈ X.fs, X.H₀ b = none
structure Inv (X : Cx) (pins : List (Addr × Obj)) (σ : List (Option V)) (H : Hp) (s : Shared) : Prop where
 ok : X.Ok
 os : s.os = X.s₀.os
 bare : AllBare s.gens
 base : Un X.fs X.ex X.H₀ H X.s₀.heap s.heap
 loc : ∃ m, s.heap.Ns X.env.locals m ∧ ∀ (i : Nat) (x : Str) (v : V), X.N[i]? = some x → σ[i]? = some (some v) → Vis X.env.scope x → ∃ u, ZFl v u ∧ ZY2 X.env s.heap m x u
 cell : ∀ x c, X.env.cells.lookup x = some c → ∃ v, s.heap.IsCell c v
 free : H X.env.locals = none
 freeC : ∀ x c, X.env.cells.lookup x = some c → H c = none
 pin : ∀ p ∈ X.pn ++ pins, s.heap.get? p.1 = some p.2 ∧ H p.1 = none ∧ p.1 ≠ X.env.locals ∧ p.1 ∉ X.fs ∧ ∀ v, p.2.data ≠ .cell v
 hok : HOk X.prog X.w H s.heap
 len : σ.length = X.N.length
section
variable {X : Cx} {pins : List (Addr × Obj)} {σ : List (Option V)} {H H' : Hp} {s : Shared} {h' : Heap}
theorem Cx.Ok.nofr (ok : X.Ok) {b : Addr} {o : Obj} (e : X.base.get? b = some o) : b ∉ X.fs := fun hb => by
 have := (ok.funs.mem hb).1
 rw [e] at this; cases this
theorem Inv.bs (I : Inv X pins σ H s) : ∀ b o, X.base.get? b = some o → s.heap.get? b = some o ∧ H b = none := fun b o e =>
 ⟨I.base.keep b o (I.ok.bs b o e).1 (I.ok.bs b o e).2 (I.ok.nofr e) (I.ok.noex b o e), I.base.free b o (I.ok.bs b o e).1 (I.ok.bs b o e).2 (I.ok.noex b o e)⟩
theorem Inv.bk (I : Inv X pins σ H s) : ∀ b o, X.base.get? b = some o → s.heap.get? b = some o := fun b o e => (I.bs b o e).1
theorem Inv.mod (I : Inv X pins σ H s) : Mod X.K X.mg X.base := I.ok.mod
theorem Inv.kIn (I : Inv X pins σ H s) : X.K.In s.heap := I.ok.mod.kin.keeps I.bk
theorem Inv.lt (I : Inv X pins σ H s) : X.env.locals < s.heap.objs.size := let ⟨_, hn, _⟩ := I.loc; hn.lt
theorem Inv.sz (I : Inv X pins σ H s) : X.s₀.heap.objs.size ≤ s.heap.objs.size := Nat.le_trans I.ok.above (Nat.le_of_lt I.lt)
theorem Inv.nofs (I : Inv X pins σ H s) {a : Addr} (h : s.heap.objs.size ≤ a) : a ∉ X.fs := fun hb => by
 obtain ⟨_, o, ho, _⟩ := I.ok.funs.mem hb
 exact absurd (Nat.lt_of_lt_of_le (Heap.lt_size ho) (Nat.le_trans I.sz h)) (Nat.lt_irrefl _)
theorem Inv.cne (I : Inv X pins σ H s) : ∀ x c, X.env.cells.lookup x = some c → c ≠ X.env.locals := fun x c e z => by
 obtain ⟨v, o, ho, hd⟩ := I.cell x c e
 obtain ⟨m, ⟨o', es, ep, ho', hd', _⟩, _⟩ := I.loc
 rw [z, ho'] at ho; cases ho; rw [hd'] at hd; cases hd
theorem Inv.funs (I : Inv X pins σ H s) : s.heap.FunFrames X.base X.outer := by
 have all : ∀ (l : List Env), (∀ b ∈ frs l, b ∈ X.fs) → X.s₀.heap.FunFrames X.base l → s.heap.FunFrames X.base l := by
  intro l
  induction l with
  | nil => intro _ _; trivial
  | cons env r ih =>
   intro hs hl
   obtain ⟨hk, ⟨L, o, hf, hn, ho, hd⟩, hr⟩ := hl
   have hL : L ∈ X.fs := hs L (by unfold frs; rw [List.filterMap_cons, hf]; exact List.mem_cons_self)
   obtain ⟨sl, e⟩ := I.base.slot L o ho (I.ok.frf L hL) hL fun z => I.ok.exfs L z hL
   exact ⟨hk, ⟨L, _, hf, hn, e, hd⟩, ih (fun b hb => hs b (by unfold frs; rw [List.filterMap_cons, hf]; exact List.mem_cons_of_mem _ hb)) hr⟩
 exact all X.outer (fun _ hb => hb) I.ok.funs
theorem Inv.stack (I : Inv X pins σ H s) : s.heap.FunFrames X.base X.stack := by
 rcases I.ok.stk with e | ⟨e, hf⟩
 ·rw [e]; exact I.funs
 ·rw [e]
  obtain ⟨m, hn, _⟩ := I.loc
  refine .cons (by rw [I.ok.kind]; decide) hf hn ?_ I.funs
  exact Heap.get?_none_of_le (Nat.le_trans I.ok.bsz I.ok.above)
theorem Inv.stkSub (I : Inv X pins σ H s) : ∀ b ∈ frs X.stack, b ∈ X.env.locals :: X.fs := fun b hb => by
 rcases I.ok.stk with e | ⟨e, hf⟩
 ·rw [e] at hb; exact List.mem_cons_of_mem _ hb
 ·rw [e] at hb
  unfold frs at hb
  rw [List.filterMap_cons, hf] at hb
  exact hb
theorem Inv.stkFree (I : Inv X pins σ H s) : ∀ b ∈ frs X.stack, H b = none := fun b hb => by
 rcases List.mem_cons.mp (I.stkSub b hb) with e | hb
 ·rw [e]; exact I.free
 ·obtain ⟨_, o, ho, _⟩ := I.ok.funs.mem hb
  exact I.base.free b o ho (I.ok.frf b hb) fun z => I.ok.exfs b z hb
theorem Inv.step {g' : Array GenState} {t' : Nat} {d' : Drawn} {ch : List Addr} (I : Inv X pins σ H s)
  (hch : ∀ b ∈ ch, (b ∈ X.ex ∨ X.s₀.heap.objs.size ≤ b) ∧ b ≠ X.env.locals ∧ (∀ x c, X.env.cells.lookup x = some c → c ≠ b) ∧ ∀ p ∈ X.pn ++ pins, p.1 ≠ b)
  (keep : ∀ b o, b ≠ X.env.locals → b ∉ X.fs → b ∉ ch → s.heap.get? b = some o → H b = none → h'.get? b = some o)
  (slot : ∀ b o, b ≠ X.env.locals → b ∈ X.fs → b ∉ ch → s.heap.get? b = some o → H b = none → ∃ sl, h'.get? b = some { o with slots := sl }) (free : ∀ b o, b ∉ ch → s.heap.get? b = some o → H b = none → H' b = none)
  (there : ∀ b o, b ∉ ch → s.heap.get? b = some o → ∃ o', h'.get? b = some o')
  (tups : ∀ b xs, H b = some (.tup xs) → H' b = some (.tup xs)) (frzs : ∀ b o u, H b = some (.frz o u) → H' b = some (.frz o u)) (tbls : ∀ b ps, H b = some (.tbl ps) → ∃ more, H' b = some (.tbl (ps ++ more)))
  (ns : ∀ m, s.heap.Ns X.env.locals m → h'.Ns X.env.locals m) (hok : HOk X.prog X.w H' h') (hg : AllBare g') :
  Inv X pins σ H' { s with heap := h', gens := g', drawn := d', toks := t' } := by
 have neL : ∀ b o, X.s₀.heap.get? b = some o → b ≠ X.env.locals := fun b o e => Nat.ne_of_lt (Nat.lt_of_lt_of_le (Heap.lt_size e) I.ok.above)
 have neC : ∀ b o, X.s₀.heap.get? b = some o → b ∉ X.ex → b ∉ ch := fun b o e hx hb => by
  rcases (hch b hb).1 with z | z
  ·exact hx z
  ·exact absurd (Nat.lt_of_lt_of_le (Heap.lt_size e) z) (Nat.lt_irrefl _)
 have cellK : ∀ x c, X.env.cells.lookup x = some c → ∀ v, s.heap.IsCell c v → h'.IsCell c v := fun x c e v ⟨o, ho, hd⟩ => by
  have nch : c ∉ ch := fun z => (hch c z).2.2.1 x c e rfl
  by_cases hc : c ∈ X.fs
  ·obtain ⟨sl, q⟩ := slot c o (I.cne x c e) hc nch ho (I.freeC x c e)
   exact ⟨_, q, hd⟩
  ·exact ⟨o, keep c o (I.cne x c e) hc nch ho (I.freeC x c e), hd⟩
 refine ⟨I.ok, I.os, hg, ⟨fun b o e n hb hx => ?_, fun b o e n hb hx => ?_, fun b o e n hx => ?_, fun b o e hx => ?_, fun b xs e => tups b xs (I.base.tups b xs e), fun b o xs e => frzs b o xs (I.base.frzs b o xs e), fun b ps e => ?_⟩, ?_, fun x c e => ?_, ?_, fun x c e => ?_, fun p hp => ?_, hok, I.len⟩
 ·exact keep b o (neL b o e) hb (neC b o e hx) (I.base.keep b o e n hb hx) (I.base.free b o e n hx)
 ·obtain ⟨sl, e1⟩ := I.base.slot b o e n hb hx
  obtain ⟨sl', e2⟩ := slot b _ (neL b o e) hb (neC b o e hx) e1 (I.base.free b o e n hx)
  exact ⟨sl', e2⟩
 ·obtain ⟨o', e1⟩ := I.base.there b o e hx
  exact free b o' (neC b o e hx) e1 (I.base.free b o e n hx)
 ·obtain ⟨o', e1⟩ := I.base.there b o e hx
  exact there b o' (neC b o e hx) e1
 ·obtain ⟨m1, e1⟩ := I.base.tbls b ps e
  obtain ⟨m2, e2⟩ := tbls b _ e1
  exact ⟨m1 ++ m2, by rw [e2, Array.append_assoc]⟩
 ·obtain ⟨m, hn, hl⟩ := I.loc
  refine ⟨m, ns m hn, fun i x v e1 e2 e3 => ?_⟩
  obtain ⟨u, r, l⟩ := hl i x v e1 e2 e3
  refine ⟨u, r, ?_⟩
  rcases l with l | ⟨k, c, e, z⟩
  ·exact .inl l
  ·exact .inr ⟨k, c, e, cellK x c e _ z⟩
 ·obtain ⟨v, z⟩ := I.cell x c e
  exact ⟨v, cellK x c e v z⟩
 ·obtain ⟨m, ⟨o, _, _, ho, _⟩, _⟩ := I.loc
  exact free _ o (fun z => (hch _ z).2.1 rfl) ho I.free
 ·obtain ⟨v, o, ho, hd⟩ := I.cell x c e
  exact free c o (fun z => (hch c z).2.2.1 x c e rfl) ho (I.freeC x c e)
 ·obtain ⟨e, n, ne, nf, d⟩ := I.pin p hp
  have nch : p.1 ∉ ch := fun z => (hch p.1 z).2.2.2 p hp rfl
  exact ⟨keep p.1 p.2 ne nf nch e n, free p.1 p.2 nch e n, ne, nf, d⟩
theorem Inv.un {t' : Nat} (I : Inv X pins σ H s) (u : Un X.fs [] H H' s.heap h') (hok : HOk X.prog X.w H' h') : Inv X pins σ H' { s with heap := h', toks := t' } := by
 obtain ⟨m, ⟨o, es, ep, ho, r⟩, _⟩ := id I.loc
 obtain ⟨sl, hL⟩ := u.any ho I.free (by simp)
 exact I.step (g' := s.gens) (d' := s.drawn) (ch := []) (fun _ z => nomatch z) (fun b o _ hb _ e n => u.keep b o e n hb (by simp)) (fun b o _ hb _ e n => u.slot b o e n hb (by simp)) (fun b o _ e n => u.free b o e n (by simp)) (fun b o _ e => u.there b o e (by simp)) u.tups u.frzs u.tbls (fun m' hm => by
  obtain ⟨o', es', ep', ho', r'⟩ := hm
  rw [ho] at ho'; cases ho'
  exact ⟨_, es', ep', hL, r'⟩) hok I.bare
theorem Inv.call {g' : Array GenState} {t' : Nat} {d' : Drawn} {ch : List Addr} (I : Inv X pins σ H s) (u : Un (frs X.stack) ch H H' s.heap h') (hok : HOk X.prog X.w H' h') (hg : AllBare g')
  (hch : ∀ b ∈ ch, (b ∈ X.ex ∨ X.s₀.heap.objs.size ≤ b) ∧ b ≠ X.env.locals ∧ (∀ x c, X.env.cells.lookup x = some c → c ≠ b) ∧ ∀ p ∈ X.pn ++ pins, p.1 ≠ b) :
  Inv X pins σ H' { s with heap := h', gens := g', drawn := d', toks := t' } := by
 obtain ⟨m, ⟨o, es, ep, ho, r⟩, _⟩ := id I.loc
 obtain ⟨sl, hL⟩ := u.any ho I.free fun z => (hch _ z).2.1 rfl
 exact I.step (ch := ch) hch (fun b o hL hb hc e n => u.keep b o e n (fun z => (List.mem_cons.mp (I.stkSub b z)).elim hL hb) hc) (fun b o _ _ hc e n => u.any e n hc) (fun b o hc e n => u.free b o e n hc) (fun b o hc e => u.there b o e hc) u.tups u.frzs u.tbls (fun m' hm => by
  obtain ⟨o', es', ep', ho', r'⟩ := hm
  rw [ho] at ho'; cases ho'
  exact ⟨_, es', ep', hL, r'⟩) hok hg
theorem Inv.turned {t' : Nat} {it : Addr} (I : Inv X pins σ H s) (k : ∀ b o, b ≠ it → s.heap.get? b = some o → h'.get? b = some o) (hn : H it = none) (hL : it ≠ X.env.locals)
  (h1 : it ∈ X.ex ∨ X.s₀.heap.objs.size ≤ it) (h2 : ∀ x c, X.env.cells.lookup x = some c → c ≠ it) (h3 : ∀ p ∈ X.pn ++ pins, p.1 ≠ it) : Inv X pins σ H { s with heap := h', toks := t' } := by
 have nit : ∀ b u, H b = some u → b ≠ it := fun b u e z => by rw [z, hn] at e; cases e
 refine I.step (g' := s.gens) (d' := s.drawn) (ch := [it]) (fun b hb => ?_) (fun b o _ _ hc e _ => k b o (fun z => hc (by simp [z])) e) (fun b o _ _ hc e _ => ⟨o.slots, k b o (fun z => hc (by simp [z])) e⟩) (fun _ _ _ _ n => n)
  (fun b o hc e => ⟨o, k b o (fun z => hc (by simp [z])) e⟩) (fun _ _ e => e) (fun _ _ _ e => e) (fun b ps e => ⟨#[], by rw [e]; simp⟩) (fun m hm => ?_) (fun b u e => ?_) I.bare
 ·have e : b = it := by simpa using hb
  subst e
  exact ⟨h1, hL, h2, h3⟩
 ·obtain ⟨o, es, ep, ho, r⟩ := hm
  exact ⟨o, es, ep, k _ o (Ne.symm hL) ho, r⟩
 ·refine (I.hok b u e).stay (fun c v hc q => k c v ?_ q) (fun _ q => q) fun _ _ q => q
  rcases hc with z | z
  ·rw [z]; exact nit b u e
  ·exact nit c _ z
theorem Inv.tok (I : Inv X pins σ H s) (t : Nat) : Inv X pins σ H { s with toks := t } := I.un (h' := s.heap) (t' := t) Un.refl I.hok
theorem Inv.kept {t' : Nat} (I : Inv X pins σ H s) (k : ∀ b u, s.heap.get? b = some u → h'.get? b = some u) : Inv X pins σ H { s with heap := h', toks := t' } := I.un (Un.kept k) (I.hok.kept k)
theorem Inv.laid {a : Addr} {o : HO} {t' : Nat} (I : Inv X pins σ H s) (k : ∀ b u, s.heap.get? b = some u → h'.get? b = some u) (hp : s.heap.objs.size ≤ a) (new : ZFz X.prog X.w (upd H a o) h' a o) :
 Inv X pins σ (upd H a o) { s with heap := h', toks := t' } := I.un (Un.laid k hp (I.hok.fresh hp)) (I.hok.laid k hp new)
theorem Inv.write {x e : Addr} {o : HO} {t' : Nat} (I : Inv X pins σ H s) (mu : Mut (H x)) (he : e = x ∨ H e = some (.own x)) (k : ∀ b u, b ≠ e → s.heap.get? b = some u → h'.get? b = some u) (heo : ∃ u, h'.get? e = some u)
 (new : ZFz X.prog X.w (upd H x o) h' x o) : Inv X pins σ (upd H x o) { s with heap := h', toks := t' } := I.un (Un.write mu he k heo) (I.hok.write mu he k heo new)
theorem Inv.pins_of {pins' : List (Addr × Obj)} (I : Inv X pins σ H s) (h : ∀ p ∈ pins', s.heap.get? p.1 = some p.2 ∧ H p.1 = none ∧ p.1 ≠ X.env.locals ∧ p.1 ∉ X.fs ∧ ∀ v, p.2.data ≠ .cell v) : Inv X pins' σ H s :=
 ⟨I.ok, I.os, I.bare, I.base, I.loc, I.cell, I.free, I.freeC, fun p hp => (List.mem_append.mp hp).elim (fun z => I.pin p (List.mem_append_left _ z)) (h p), I.hok, I.len⟩
theorem ZLT {N : List Str} (hN : N.Nodup) {i j : Nat} {x : Str} (a : N[i]? = some x) (b : N[j]? = some x) : i = j := by
 obtain ⟨h1, e1⟩ := List.getElem?_eq_some_iff.mp a
 obtain ⟨h2, e2⟩ := List.getElem?_eq_some_iff.mp b
 exact (List.getElem_inj hN).mp (e1.trans e2.symm)
theorem ZMw {M : Model} {A : Around} {E : Value → Shared → Prop} {i : Nat} {x : Str} {v : V} {u : Value} {Q : Unit → Shared → Prop} (I : Inv X pins σ H s) (hN : X.N.Nodup) (hi : X.N[i]? = some x) (hx : Loc X.env.scope x) (r : ZFl v u)
  (h : ∀ s', Inv X pins (σ.set i (some v)) H s' → (∃ a, Heap.SameBut a s.heap s'.heap ∧ (a = X.env.locals ∨ X.env.cells.lookup x = some a)) → Q () s') (hf : X.fn x = true ∨ X.env.scope.names.lookup x = some .local := by first | exact .inl rfl | exact .inr rfl | assumption) : wpAny M A (storeName X.env x u) Q E s := by
 obtain ⟨m, hn, hl⟩ := id I.loc
 have hcls : (X.env.scope.kind == .class || (X.env.scope.kind == .module && X.env.locals != X.env.globals)) = false := by rw [I.ok.kind]; rfl
 have hiσ : i < σ.length := by rw [I.len]; exact (List.getElem?_eq_some_iff.mp hi).1
 have cne := I.cne
 have tracked : ∀ {a : Addr} {h' : Heap}, (∃ o, s.heap.get? a = some o ∧ H a = none) → Heap.SameBut a s.heap h' → HOk X.prog X.w H h' := fun {a h'} ha hs b ob e => by
  obtain ⟨_, _, hfree⟩ := ha
  refine (I.hok b ob e).stay (fun c w' hc q => (hs.2 c ?_).trans q) (fun _ q => q) fun _ _ q => q
  rintro rfl
  rcases hc with rfl | hc
  ·rw [hfree] at e; cases e
  ·rw [hfree] at hc; cases hc
 rcases hx with hk | hk
 ·refine wpAny_storeName_local hk hn (fun h' hn' hs => ?_) hcls
  obtain ⟨oL, _, _, hoL, _⟩ := id hn
  refine h _ ⟨I.ok, I.os, I.bare, ⟨fun b o e n hb hx => ?_, fun b o e n hb hx => ?_, I.base.free, fun b o e hx => ?_, I.base.tups, I.base.frzs, I.base.tbls⟩, ⟨_, hn', fun j y v' e1 e2 e3 => ?_⟩, fun y c e => ?_, I.free, I.freeC, fun p hp => ?_, tracked ⟨oL, hoL, I.free⟩ hs, by simpa using I.len⟩ ⟨_, hs, .inl rfl⟩
  ·exact (hs.2 b (Nat.ne_of_lt (Nat.lt_of_lt_of_le (Heap.lt_size e) I.ok.above))).trans (I.base.keep b o e n hb hx)
  ·obtain ⟨sl, e1⟩ := I.base.slot b o e n hb hx
   exact ⟨sl, (hs.2 b (Nat.ne_of_lt (Nat.lt_of_lt_of_le (Heap.lt_size e) I.ok.above))).trans e1⟩
  ·obtain ⟨o', e1⟩ := I.base.there b o e hx
   exact ⟨o', (hs.2 b (Nat.ne_of_lt (Nat.lt_of_lt_of_le (Heap.lt_size e) I.ok.above))).trans e1⟩
  ·by_cases hj : j = i
   ·subst hj
    rw [hi] at e1; cases e1
    rw [List.getElem?_set_self hiσ] at e2
    cases e2
    exact ⟨u, r, .inl ⟨hk, by simp⟩⟩
   ·rw [List.getElem?_set_ne (Ne.symm hj)] at e2
    obtain ⟨u', r', q⟩ := hl j y v' e1 e2 e3
    refine ⟨u', r', ?_⟩
    rcases q with ⟨k, e⟩ | ⟨k, c, e, z⟩
    ·refine .inl ⟨k, ?_⟩
     have : y ≠ x := fun e => hj (ZLT hN e1 (e ▸ hi))
     simp [this, e]
    ·exact .inr ⟨k, c, e, z.sameBut hs (cne y c e)⟩
  ·obtain ⟨w', z⟩ := I.cell y c e
   exact ⟨w', z.sameBut hs (cne y c e)⟩
  ·obtain ⟨e, n, ne, nf, d⟩ := I.pin p hp
   exact ⟨(hs.2 p.1 ne).trans e, n, ne, nf, d⟩
 ·have hfn : X.fn x = true := by
   rcases hf with z | z
   ·exact z
   ·rw [z] at hk; cases hk
  obtain ⟨c, hc⟩ := I.ok.has x (.inl hk)
  obtain ⟨w', z⟩ := I.cell x c hc
  refine wpAny_storeName_cell I.ok.kind hk hc z (fun h' hc' hs => ?_)
  obtain ⟨oc, hoc, hocd⟩ := id z
  refine h { s with heap := h' } ⟨I.ok, I.os, I.bare, ⟨fun b o e n hb hx => ?_, fun b o e n hb hx => ?_, I.base.free, fun b o e hx => ?_, I.base.tups, I.base.frzs, I.base.tbls⟩, ⟨m, hn.sameBut hs (Ne.symm (cne x c hc)), fun j y v' e1 e2 e3 => ?_⟩, fun y c' e => ?_, I.free, I.freeC, fun p hp => ?_, tracked ⟨oc, hoc, I.freeC x c hc⟩ hs, by simpa using I.len⟩ ⟨c, hs, .inr hc⟩
  ·exact (hs.2 b (Nat.ne_of_lt (Nat.lt_of_lt_of_le (Heap.lt_size e) (I.ok.cab x c hfn hc)))).trans (I.base.keep b o e n hb hx)
  ·obtain ⟨sl, e1⟩ := I.base.slot b o e n hb hx
   exact ⟨sl, (hs.2 b (Nat.ne_of_lt (Nat.lt_of_lt_of_le (Heap.lt_size e) (I.ok.cab x c hfn hc)))).trans e1⟩
  ·obtain ⟨o', e1⟩ := I.base.there b o e hx
   exact ⟨o', (hs.2 b (Nat.ne_of_lt (Nat.lt_of_lt_of_le (Heap.lt_size e) (I.ok.cab x c hfn hc)))).trans e1⟩
  ·by_cases hj : j = i
   ·subst hj
    rw [hi] at e1; cases e1
    rw [List.getElem?_set_self hiσ] at e2
    cases e2
    exact ⟨u, r, .inr ⟨.inl hk, c, hc, hc'⟩⟩
   ·rw [List.getElem?_set_ne (Ne.symm hj)] at e2
    obtain ⟨u', r', q⟩ := hl j y v' e1 e2 e3
    refine ⟨u', r', ?_⟩
    rcases q with q | ⟨k, c', e, z'⟩
    ·exact .inl q
    ·refine .inr ⟨k, c', e, z'.sameBut hs ?_⟩
     rintro rfl
     exact hj (ZLT hN e1 (I.ok.inj _ _ _ e hc ▸ hi))
  ·by_cases hcc : c' = c
   ·subst hcc; exact ⟨_, hc'⟩
   ·obtain ⟨w2, z2⟩ := I.cell y c' e
    exact ⟨w2, z2.sameBut hs hcc⟩
  ·obtain ⟨e, n, ne, nf, d⟩ := I.pin p hp
   refine ⟨(hs.2 p.1 ?_).trans e, n, ne, nf, d⟩
   intro q
   rw [q, hoc] at e
   have q' : oc = p.2 := Option.some.inj e
   exact d w' (by rw [← q']; exact hocd)
theorem ZJr {M : Model} {A : Around} {E : Value → Shared → Prop} {i : Nat} {x : Str} {v : V} {u : Value} {Q : Unit → Shared → Prop} (I : Inv X pins σ H s) (hN : X.N.Nodup) (hi : X.N[i]? = some x) (hx : Loc X.env.scope x) (r : ZFl v u)
  (h : ∀ s', Inv X pins (σ.set i (some v)) H s' → Q () s') (hf : X.fn x = true ∨ X.env.scope.names.lookup x = some .local := by first | exact .inl rfl | exact .inr rfl | assumption) : wpAny M A (storeName X.env x u) Q E s :=
 ZMw I hN hi hx r (fun s' I' _ => h s' I') hf
theorem Inv.call' {s' : Shared} {ch : List Addr} (I : Inv X pins σ H s) (ho : s'.os = s.os) (u : Un (frs X.stack) ch H H' s.heap s'.heap) (hok : HOk X.prog X.w H' s'.heap) (hg : AllBare s'.gens)
  (hch : ∀ b ∈ ch, (b ∈ X.ex ∨ X.s₀.heap.objs.size ≤ b) ∧ b ≠ X.env.locals ∧ (∀ x c, X.env.cells.lookup x = some c → c ≠ b) ∧ ∀ p ∈ X.pn ++ pins, p.1 ≠ b) : Inv X pins σ H' s' := by
 obtain ⟨h', g', d', t', o'⟩ := s'
 have e : o' = s.os := ho
 subst e
 exact I.call (g' := g') (t' := t') (d' := d') u hok hg hch
end
abbrev XK := Value → Option Addr → Hp → Prop
abbrev St := List (Option V)
abbrev VK := V → Hp → Prop
abbrev TE := St → Hp → VK → Prop
abbrev TT := St → Hp → (Bool → Hp → Prop) → Prop
abbrev TA := St → Hp → (List V → Hp → Prop) → Prop
structure ZGW where
 nx : St → Hp → Prop
 rt : VK
 bk : St → Hp → Prop := fun _ _ => False
 ct : St → Hp → Prop := fun _ _ => False
abbrev TS := ZGW → St → Hp → Prop
def EP (X : Cx) (pins : List (Addr × Obj)) (σ : St) (Q : VK) (u : Value) (s' : Shared) : Prop := ∃ v H', Inv X pins σ H' s' ∧ ZFl v u ∧ Q v H'
def TP (X : Cx) (pins : List (Addr × Obj)) (σ : St) (Q : Bool → Hp → Prop) (b : Bool) (s' : Shared) : Prop := ∃ H', Inv X pins σ H' s' ∧ Q b H'
def AP (X : Cx) (pins : List (Addr × Obj)) (σ : St) (Q : List V → Hp → Prop) (us : List Value) (s' : Shared) : Prop := ∃ vs H', Inv X pins σ H' s' ∧ ZFj vs us ∧ Q vs H'
def SP (X : Cx) (pins : List (Addr × Obj)) (D : ZGW) (f : Flow) (s' : Shared) : Prop :=
 match f with
 | .next => ∃ σ' H', Inv X pins σ' H' s' ∧ D.nx σ' H'
 | .brk => ∃ σ' H', Inv X pins σ' H' s' ∧ D.bk σ' H'
 | .cont => ∃ σ' H', Inv X pins σ' H' s' ∧ D.ct σ' H'
 | .ret u => ∃ v σ' H', Inv X pins σ' H' s' ∧ ZFl v u ∧ D.rt v H'
def PE (X : Cx) (e : Expr) (t : TE) : Prop :=
 ∀ (pins : List (Addr × Obj)) (s : Shared) (σ : St) (H : Hp) (Q : VK), Inv X pins σ H s → t σ H Q → wpAny (model X.prog X.w) X.A (eval e X.env) (EP X pins σ Q) X.xe s
def PT (X : Cx) (e : Expr) (t : TT) : Prop :=
 ∀ (pins : List (Addr × Obj)) (s : Shared) (σ : St) (H : Hp) (Q : Bool → Hp → Prop), Inv X pins σ H s → t σ H Q → wpAny (model X.prog X.w) X.A (isTrue e X.env (eval e X.env)) (TP X pins σ Q) X.xe s
def PW (X : Cx) (e : Expr) (t : TT) : Prop :=
 ∀ (whole : Sem Value) (pins : List (Addr × Obj)) (s : Shared) (σ : St) (H : Hp) (Q : Bool → Hp → Prop), Inv X pins σ H s → t σ H Q → wpAny (model X.prog X.w) X.A (isTrue e X.env whole) (TP X pins σ Q) X.xe s
theorem PW.pt {X : Cx} {e : Expr} {t : TT} (h : PW X e t) : PT X e t := h _
def PA (X : Cx) (es : List Expr) (t : TA) : Prop :=
 ∀ (pos : Pos) (pins : List (Addr × Obj)) (s : Shared) (σ : St) (H : Hp) (Q : List V → Hp → Prop), Inv X pins σ H s → t σ H Q → wpAny (model X.prog X.w) X.A (spliced (backTo pos (starEach es X.env))) (AP X pins σ Q) X.xe s
def PS (X : Cx) (st : Stmt) (t : TS) : Prop :=
 ∀ (pins : List (Addr × Obj)) (s : Shared) (σ : St) (H : Hp) (D : ZGW), Inv X pins σ H s → t D σ H → wpAny (model X.prog X.w) X.A (exec st X.env) (SP X pins D) X.xe s
def PSs (X : Cx) (st : List Stmt) (t : TS) : Prop :=
 ∀ (pins : List (Addr × Obj)) (s : Shared) (σ : St) (H : Hp) (D : ZGW), Inv X pins σ H s → t D σ H → wpAny (model X.prog X.w) X.A (execs st X.env) (SP X pins D) X.xe s
theorem thn {α : Type} {t : Sem α} {Q Q' : α → Shared → Prop} {M : Model} {A : Around} {E : Value → Shared → Prop} {s : Shared} (h : wpAny M A t Q E s) (hQ : ∀ a s, Q a s → Q' a s) : wpAny M A t Q' E s := wpAny_mono h hQ fun _ _ x => x
section
variable {X : Cx}
theorem bin {a b : Expr} {ta tb : TE} (ha : PE X a ta) (hb : PE X b tb) {pins : List (Addr × Obj)} {s : Shared} {σ : St} {H : Hp} {R : V → V → Hp → Prop} (I : Inv X pins σ H s) (h : ta σ H fun x H1 => tb σ H1 fun y H2 => R x y H2)
  {α : Type} {Q : α → Shared → Prop} {f : Value → Value → Sem α}
  (hf : ∀ v u s2 x y H2, Inv X pins σ H2 s2 → ZFl x v → ZFl y u → R x y H2 → wpAny (model X.prog X.w) X.A (f v u) Q X.xe s2) :
  wpAny (model X.prog X.w) X.A (eval a X.env) (fun v s₁ => wpAny (model X.prog X.w) X.A (eval b X.env) (fun u s₂ => wpAny (model X.prog X.w) X.A (f v u) Q X.xe s₂) X.xe s₁) X.xe s := by
 refine thn (ha pins s σ H _ I h) fun v s1 ⟨x, H1, I1, r1, q1⟩ => ?_
 refine thn (hb pins s1 σ H1 _ I1 q1) fun u s2 ⟨y, H2, I2, r2, q2⟩ => ?_
 exact hf v u s2 x y H2 I2 r1 r2 q2
def ZSL (i : Nat) : TE := fun σ H Q => ∃ v, σ[i]? = some (some v) ∧ Q v H
def tC (v : V) : TE := fun _ H Q => Q v H
theorem ZWY {i : Nat} {x : Str} {pos : Pos} (hN : X.N[i]? = some x) (hv : Vis X.env.scope x) (hd : (x == ("__debug__" : Str)) = false := by decide) (hcd : (x == ("__classdict__" : Str)) = false := by decide) : PE X (.Name x pos) (ZSL i) := by
 intro pins s σ H Q I h
 obtain ⟨v, e, h⟩ := h
 obtain ⟨m, hn, hl⟩ := I.loc
 obtain ⟨u, r, l⟩ := hl i x v hN e hv
 have fin : EP X pins σ Q u s := ⟨v, H, I, r, h⟩
 rcases l with ⟨hk, hm⟩ | ⟨hk, c, hc, hcell⟩
 ·exact wpAny_Name (wpAny_loadName_local I.ok.kind hk hn hm fin) hd
 ·rcases hk with hk | hk
  ·exact wpAny_Name (wpAny_loadName_cell I.ok.kind hk hc hcell fin) hd
  ·exact wpAny_Name (wpAny_loadName_free I.ok.kind hk hc hcell fin hcd) hd
theorem ZWZ {i j pos} : PE X (.Constant (.int i) j pos) (tC (.int i)) := fun _ _ _ H _ I h => wpAny_Constant_int ⟨.int i, H, I.tok _, ⟨_, rfl⟩, h⟩
theorem ZYb {b j pos} : PE X (.Constant (.bool b) j pos) (tC (.bl b)) := fun _ _ _ H _ I h => Constant_bool ⟨.bl b, H, I, rfl, h⟩
theorem ZWa {j pos} : PE X (.Constant .none j pos) (tC .non) := fun _ _ _ H _ I h => Constant_none ⟨.non, H, I, rfl, h⟩
theorem ZWb {x j pos} : PE X (.Constant (.str x) j pos) (tC (.str x)) := fun _ _ _ H _ I h => Calls.Constant_str ⟨.str x, H, I.tok _, ⟨_, rfl⟩, h⟩
def Gl (X : Cx) (x : Str) : Prop := X.env.kindOf x = some .globalImplicit
theorem ZHQ {E : Value → Shared → Prop} {pins : List (Addr × Obj)} {s : Shared} {σ : St} {H : Hp} {x : Str} {u : Value} {pos : Pos} {Q : Value → Shared → Prop} (I : Inv X pins σ H s) (hg : Gl X x) (hm : X.mg x = some u) (h : Q u s)
  (hd : (x == ("__debug__" : Str)) = false := by decide) : wpAny (model X.prog X.w) X.A (eval (.Name x pos) X.env) Q E s :=
 Calls.Name_function_global I.ok.kind hg (Calls.loadGlobal_global (by rw [I.ok.glob]; exact I.mod.glob.keeps I.bk) hm h) hd
theorem ZIR {E : Value → Shared → Prop} {pins : List (Addr × Obj)} {s : Shared} {σ : St} {H : Hp} {x : Str} {u : Value} {pos : Pos} {Q : Value → Shared → Prop} (I : Inv X pins σ H s) (hg : Gl X x) (hm : X.mg x = none) (hv : bootBuiltins x = some u) (h : Q u s)
  (hn : x ≠ "__name__" := by decide) (hd : (x == ("__debug__" : Str)) = false := by decide) : wpAny (model X.prog X.w) X.A (eval (.Name x pos) X.env) Q E s := by
 obtain ⟨mb, h1, h2⟩ := I.mod.blt
 exact Calls.Name_function_global I.ok.kind hg (Calls.loadGlobal_builtin (by rw [I.ok.glob]; exact I.mod.glob.keeps I.bk) hm (by rw [I.ok.blt]; exact h1.keeps I.bk) ((h2 x hn).trans hv) h) hd
theorem ZUn {x : Str} {v : V} {u : Value} {pos : Pos} (hg : Gl X x) (hm : X.mg x = some u) (r : ZFl v u) (hd : (x == ("__debug__" : Str)) = false := by decide) : PE X (.Name x pos) (tC v) :=
 fun _ _ _ H _ I h => ZHQ I hg hm ⟨v, H, I, r, h⟩ hd
theorem ZUo {x : Str} {v : V} {u : Value} {pos : Pos} (hg : Gl X x) (hm : X.mg x = none) (hv : bootBuiltins x = some u) (r : ZFl v u) (hn : x ≠ "__name__" := by decide) (hd : (x == ("__debug__" : Str)) = false := by decide) : PE X (.Name x pos) (tC v) :=
 fun _ _ _ H _ I h => ZIR I hg hm hv ⟨v, H, I, r, h⟩ hn hd
variable {a b : Expr} {ta tb : TE} {pos : Pos}
def tB (t : TE) : TT := fun σ H Q => t σ H fun x H1 => ∃ c, x = .bl c ∧ Q c H1
theorem ZWc {e : Expr} {t : TE} (h : PE X e t) (he : ∀ whole, isTrue e X.env whole = (do let v ← whole; standAt e.pos; holding [v] (truthy v)) := by intro _; rfl) : PT X e (tB t) := by
 intro pins s σ H Q I hw
 refine isTrue_plain (thn (h pins s σ H _ I hw) fun v s1 ⟨x, H1, I1, r1, q1⟩ => ?_) (he _)
 obtain ⟨d, rfl, q⟩ := q1
 cases r1
 exact wpAny_truthy_bool ⟨H1, I1, q⟩
variable {tA tB' : TT} {ZGe : List Expr}
def ZSM (t u : TT) : TT := fun σ H Q => t σ H fun c H1 => if c = true then u σ H1 Q else Q false H1
def tOr (t u : TT) : TT := fun σ H Q => t σ H fun c H1 => if c = true then Q true H1 else u σ H1 Q
def ZSN (t : TT) : TT := fun σ H Q => t σ H fun c H1 => Q (!c) H1
theorem ZUp (ha : PT X a tA) : PW X (.BoolOp .And [a] pos) tA := by
 intro wh pins s σ H Q I h
 refine isTrue_and (thn (ha pins s σ H Q I h) fun c s1 e => ?_)
 cases c with
 | true => exact isTrue_and_nil e
 | false => exact e
theorem ZWd (ha : PT X a tA) : PW X (.BoolOp .Or [a] pos) tA := by
 intro wh pins s σ H Q I h
 refine isTrue_or (thn (ha pins s σ H Q I h) fun c s1 e => ?_)
 cases c with
 | false => exact isTrue_or_nil e
 | true => exact e
theorem ZWe (ha : PT X a tA) (hb : PW X (.BoolOp .And (b :: ZGe) pos) tB') : PW X (.BoolOp .And (a :: b :: ZGe) pos) (ZSM tA tB') := by
 intro wh pins s σ H Q I h
 refine isTrue_and (thn (ha pins s σ H _ I h) fun c s1 ⟨H1, I1, q1⟩ => ?_)
 cases c with
 | true => exact hb wh pins s1 σ H1 Q I1 q1
 | false => exact ⟨H1, I1, q1⟩
theorem ZYc (ha : PT X a tA) (hb : PW X (.BoolOp .Or (b :: ZGe) pos) tB') : PW X (.BoolOp .Or (a :: b :: ZGe) pos) (tOr tA tB') := by
 intro wh pins s σ H Q I h
 refine isTrue_or (thn (ha pins s σ H _ I h) fun c s1 ⟨H1, I1, q1⟩ => ?_)
 cases c with
 | true => exact ⟨H1, I1, q1⟩
 | false => exact hb wh pins s1 σ H1 Q I1 q1
theorem ZWf (ha : PT X a tA) : PT X (.UnaryOp .Not a pos) (ZSN tA) := by
 intro pins s σ H Q I h
 exact isTrue_not (ha pins s σ H (fun c H1 => Q (!c) H1) I h)
def ZPy (ta tb : TE) : TE := fun σ H Q => ta σ H fun x H1 => ∃ c, x = .bl c ∧ if c = true then tb σ H1 Q else Q (.bl false) H1
def ZSO (ta tb : TE) : TE := fun σ H Q => ta σ H fun x H1 => ∃ c, x = .bl c ∧ if c = true then Q (.bl true) H1 else tb σ H1 Q
def ZPz (ta : TE) : TE := fun σ H Q => ta σ H fun x H1 => ∃ c, x = .bl c ∧ Q (.bl (!c)) H1
theorem ZWg {op} {t : TE} (h : PE X a t) : PE X (.BoolOp op [a] pos) t := fun pins s σ H Q I hw => BoolOp_one (h pins s σ H Q I hw)
theorem ZWh (ha : PE X a ta) (hb : PE X (.BoolOp .And (b :: ZGe) pos) tb) : PE X (.BoolOp .And (a :: b :: ZGe) pos) (ZPy ta tb) := by
 intro pins s σ H Q I h
 refine BoolOp_and (thn (ha pins s σ H _ I h) fun v s1 ⟨x, H1, I1, r1, q1⟩ => ?_)
 obtain ⟨c, rfl, q1⟩ := q1
 cases r1
 refine wpAny_truthy_bool ?_
 cases c with
 | true => exact hb pins s1 σ H1 Q I1 q1
 | false => exact ⟨.bl false, H1, I1, rfl, q1⟩
theorem ZYd (ha : PE X a ta) (hb : PE X (.BoolOp .Or (b :: ZGe) pos) tb) : PE X (.BoolOp .Or (a :: b :: ZGe) pos) (ZSO ta tb) := by
 intro pins s σ H Q I h
 refine BoolOp_or (thn (ha pins s σ H _ I h) fun v s1 ⟨x, H1, I1, r1, q1⟩ => ?_)
 obtain ⟨c, rfl, q1⟩ := q1
 cases r1
 refine wpAny_truthy_bool ?_
 cases c with
 | false => exact hb pins s1 σ H1 Q I1 q1
 | true => exact ⟨.bl true, H1, I1, rfl, q1⟩
theorem ZWi (ha : PE X a ta) : PE X (.UnaryOp .Not a pos) (ZPz ta) := by
 intro pins s σ H Q I h
 refine UnaryOp_ (thn (ha pins s σ H _ I h) fun v s1 ⟨x, H1, I1, r1, q1⟩ => ?_)
 obtain ⟨c, rfl, q1⟩ := q1
 cases r1
 exact not_of (wpAny_truthy_bool ⟨.bl (!c), H1, I1, rfl, q1⟩)
def tIf (t : TT) (ta tb : TE) : TE := fun σ H Q => t σ H fun c H1 => if c = true then ta σ H1 Q else tb σ H1 Q
theorem ZSP {c : Expr} (hc : PT X c tA) (ha : PE X a ta) (hb : PE X b tb) : PE X (.IfExp c a b pos) (tIf tA ta tb) := by
 intro pins s σ H Q I h
 refine wpAny_IfExp (thn (hc pins s σ H _ I h) fun d s1 ⟨H1, I1, q1⟩ => ?_)
 cases d with
 | true => exact ha pins s1 σ H1 Q I1 q1
 | false => exact hb pins s1 σ H1 Q I1 q1
end
def SqL (K : W.Frag) (H : Hp) (a : Addr) (xs : List V) : Prop :=
 Rd H a (.lst xs) ∨
  ∃ (o : Obj) (its : Array Value) (n : Nat), K.lookup a = some o ∧ o.cls = .type "list" ∧ o.dict = none ∧ o.data = .seq its n ∧ its.size ≤ sizeLine ∧ ZFj xs its.toList
def SqT (K : W.Frag) (H : Hp) (a : Addr) (xs : List V) : Prop :=
 Rd H a (.tup xs) ∨
  ∃ (o : Obj) (its : Array Value) (n : Nat), K.lookup a = some o ∧ o.cls = .type "tuple" ∧ o.data = .seq its n ∧ its.size ≤ sizeLine ∧ ZFj xs its.toList
def ZY3 : Value → Option V
 | .none => some .non
 | .bool b => some (.bl b)
 | .int i _ => some (.int i)
 | .str x _ => some (.str x)
 | .bytes b _ => some (.byt b)
 | .float b _ => some (.flt b)
 | .ref a => some (.ref a)
 | .type n => some (.ty n)
 | _ => none
theorem ZFl.abs {x : V} {u : Value} (r : ZFl x u) : ZY3 u = some x := by
 cases x with
 | non => cases r; rfl
 | bl _ => cases r; rfl
 | int _ => obtain ⟨t, rfl⟩ := r; rfl
 | str _ => obtain ⟨t, rfl⟩ := r; rfl
 | byt _ => obtain ⟨t, rfl⟩ := r; rfl
 | flt _ => obtain ⟨t, rfl⟩ := r; rfl
 | ref _ => cases r; rfl
 | ty _ => cases r; rfl
theorem ZFl.inj {x y : V} {u : Value} (r : ZFl x u) (q : ZFl y u) : x = y := Option.some.inj (r.abs.symm.trans q.abs)
theorem ZFj.inj : ∀ {xs ys : List V} {us : List Value}, ZFj xs us → ZFj ys us → xs = ys
 | _, _, _, .nil, .nil => rfl
 | _, _, _, .cons r t, .cons r' t' => by rw [r.inj r', ZFj.inj t t']
section
variable {X : Cx} {pins : List (Addr × Obj)} {σ : St} {H : Hp} {s : Shared} {a : Addr} {xs ys : List V}
theorem SqL.of {K : W.Frag} (h : H a = some (.lst xs)) : SqL K H a xs := .inl (.inl h)
theorem SqT.of {K : W.Frag} (h : H a = some (.tup xs)) : SqT K H a xs := .inl (.inl h)
theorem Inv.list (I : Inv X pins σ H s) (h : SqL X.K H a xs) : ∃ its : List Value, ZFj xs its ∧ PlainL s.heap a its.toArray ∧ xs.length ≤ sizeLine := by
 rcases h with h | ⟨o, its, n, hk, hc, hd, hs, hz, r⟩
 ·obtain ⟨z, its, n, r, e⟩ := h.ok I.hok
  exact ⟨its, r, ⟨_, n, e, rfl, rfl, rfl⟩, z⟩
 ·refine ⟨its.toList, r, ⟨o, n, I.kIn a o hk, hc, hd, by simpa using hs⟩, ?_⟩
  have e := r.length
  simp only [Array.length_toList] at e
  omega
theorem Inv.tuple (I : Inv X pins σ H s) (h : SqT X.K H a xs) : ∃ its : List Value, ZFj xs its ∧ IsTup s.heap a its.toArray ∧ xs.length ≤ sizeLine := by
 rcases h with h | ⟨o, its, n, hk, hc, hs, hz, r⟩
 ·obtain ⟨z, its, r, p⟩ := h.ok I.hok
  exact ⟨its, r, p, z.1⟩
 ·refine ⟨its.toList, r, ⟨o, I.kIn a o hk, hc, n, by simpa using hs⟩, ?_⟩
  have e := r.length
  simp only [Array.length_toList] at e
  omega
theorem Inv.list_inj (I : Inv X pins σ H s) (h : SqL X.K H a xs) (h' : SqL X.K H a ys) : xs = ys := by
 obtain ⟨its, r, ⟨o, n, e, _, _, d⟩, _⟩ := I.list h
 obtain ⟨its', r', ⟨o', n', e', _, _, d'⟩, _⟩ := I.list h'
 rw [e] at e'; cases e'
 rw [d] at d'
 injection d' with d1 _
 have : its = its' := by simpa using congrArg Array.toList d1
 subst this
 exact r.inj r'
theorem Inv.tuple_inj (I : Inv X pins σ H s) (h : SqT X.K H a xs) (h' : SqT X.K H a ys) : xs = ys := by
 obtain ⟨its, r, ⟨o, e, _, n, d⟩, _⟩ := I.tuple h
 obtain ⟨its', r', ⟨o', e', _, n', d'⟩, _⟩ := I.tuple h'
 rw [e] at e'; cases e'
 rw [d] at d'
 injection d' with d1 _
 have : its = its' := by simpa using congrArg Array.toList d1
 subst this
 exact r.inj r'
end
abbrev Cx.wish (X : Cx) (E : Value → Shared → Prop) : Cx := { X with xe := E }
abbrev Cx.nox (X : Cx) : Cx := X.wish fun _ _ => False
theorem Cx.Ok.wish {X : Cx} (ok : X.Ok) (E : Value → Shared → Prop) : (X.wish E).Ok :=
 ⟨ok.mod, ok.kind, ok.glob, ok.blt, ok.above, ok.inj, ok.has, ok.cab, ok.hd, ok.frames, ok.stk, ok.exf, ok.bs, ok.bsz, ok.noex, ok.exfs, ok.funs, ok.frf⟩
theorem Cx.Ok.unwish {X : Cx} {E : Value → Shared → Prop} (ok : (X.wish E).Ok) : X.Ok :=
 ⟨ok.mod, ok.kind, ok.glob, ok.blt, ok.above, ok.inj, ok.has, ok.cab, ok.hd, ok.frames, ok.stk, ok.exf, ok.bs, ok.bsz, ok.noex, ok.exfs, ok.funs, ok.frf⟩
section
variable {X : Cx} {pins : List (Addr × Obj)} {σ : St} {H : Hp} {s : Shared} {E : Value → Shared → Prop}
theorem Inv.wish (I : Inv X pins σ H s) (E : Value → Shared → Prop) : Inv (X.wish E) pins σ H s := ⟨I.ok.wish E, I.os, I.bare, I.base, I.loc, I.cell, I.free, I.freeC, I.pin, I.hok, I.len⟩
theorem Inv.unwish (I : Inv (X.wish E) pins σ H s) : Inv X pins σ H s := ⟨I.ok.unwish, I.os, I.bare, I.base, I.loc, I.cell, I.free, I.freeC, I.pin, I.hok, I.len⟩
theorem SP.unwish {D : ZGW} {f : Flow} {s' : Shared} (h : SP (X.wish E) pins D f s') : SP X pins D f s' := by
 cases f with
 | next => obtain ⟨σ', H', I, q⟩ := h; exact ⟨σ', H', I.unwish, q⟩
 | brk => obtain ⟨σ', H', I, q⟩ := h; exact ⟨σ', H', I.unwish, q⟩
 | cont => obtain ⟨σ', H', I, q⟩ := h; exact ⟨σ', H', I.unwish, q⟩
 | ret u => obtain ⟨v, σ', H', I, r, q⟩ := h; exact ⟨v, σ', H', I.unwish, r, q⟩
theorem PSs.nox {st : List Stmt} {t : TS} (h : PSs X.nox st t) : PSs X st t := fun pins s σ H D I hw =>
 wpAny_mono (h pins s σ H D (I.wish _) hw) (fun _ _ q => q.unwish) fun _ _ z => False.elim z
end
section
variable {X : Cx} {st : Stmt} {ZGe : List Stmt} {t u : TS} {e : Expr} {te : TE} {pos : Pos}
def ZP0 : TS := fun D σ H => D.nx σ H
def ZSQ (t u : TS) : TS := fun D σ H => t { D with nx := u D } σ H
theorem ZUq : PSs X [] ZP0 := fun _ _ σ H _ I h => wpAny_execs_nil ⟨σ, H, I, h⟩
theorem ZSR (h1 : PS X st t) (h2 : PSs X ZGe u) : PSs X (st :: ZGe) (ZSQ t u) := by
 intro pins s σ H D I h
 refine wpAny_execs_cons (thn (h1 pins s σ H { D with nx := u D } I h) fun f s1 q => ?_)
 cases f with
 | next =>
  obtain ⟨σ', H', I', q⟩ := q
  exact h2 pins s1 σ' H' D I' q
 | ret v => exact q
 | brk => exact q
 | cont => exact q
theorem ZUr (h1 : PS X st t) : PSs X [st] t := by
 intro pins s σ H D I h
 refine wpAny_execs_cons (thn (h1 pins s σ H D I h) fun f s1 q => ?_)
 cases f with
 | next => exact wpAny_execs_nil q
 | ret v => exact q
 | brk => exact q
 | cont => exact q
theorem Inv.quiet {pins : List (Addr × Obj)} {σ : St} {H : Hp} {s : Shared} (I : Inv X pins σ H s) : interactive X.env = false := by simp [interactive, I.ok.kind]
def ZNc (te : TE) : TS := fun D σ H => te σ H fun _ H1 => D.nx σ H1
theorem ZUs (he : PE X e te) (hs : swapsWith e none pos.line X.env = pure false := by rfl) : PS X (.Expr e pos) (ZNc te) := by
 intro pins s σ H D I h
 exact wpAny_Expr_any (thn (he pins s σ H _ I h) fun v s1 ⟨x, H1, I1, r1, q1⟩ => ⟨σ, H1, I1, q1⟩) I.quiet hs
def ZSS (te : TE) : TS := fun D σ H => te σ H D.rt
theorem ZWj (he : PE X e te) : PS X (.Return (some e) pos) (ZSS te) := by
 intro pins s σ H D I h
 exact wpAny_Return_some (thn (he pins s σ H _ I h) fun v s1 ⟨x, H1, I1, r1, q1⟩ => ⟨x, σ, H1, I1, r1, q1⟩)
def ZNl (c : TT) (t u : TS) : TS := fun D σ H => c σ H fun b H1 => if b = true then t D σ H1 else u D σ H1
theorem ZYe {c : Expr} {a b : List Stmt} {tc : TT} (hc : PT X c tc) (ha : PSs X a t) (hb : PSs X b u) : PS X (.If c a b pos) (ZNl tc t u) := by
 intro pins s σ H D I h
 refine wpAny_If (thn (hc pins s σ H _ I h) fun d s1 ⟨H1, I1, q1⟩ => ?_)
 cases d with
 | true => exact ha pins s1 σ H1 D I1 q1
 | false => exact hb pins s1 σ H1 D I1 q1
def ZRA : TS := fun _ _ _ => False
theorem ZST : PS X st ZRA := fun _ _ _ _ _ _ h => h.elim
end
abbrev TG := V → St → Hp → (St → Hp → Prop) → Prop
abbrev TGs := List V → St → Hp → (St → Hp → Prop) → Prop
def PG (X : Cx) (target : Expr) (t : TG) : Prop :=
 ∀ (pins : List (Addr × Obj)) (s : Shared) (σ : St) (H : Hp) (v : V) (u : Value) (Q : St → Hp → Prop), Inv X pins σ H s → ZFl v u → t v σ H Q →
  wpAny (model X.prog X.w) X.A (assign target X.env u) (fun _ s' => ∃ σ' H', Inv X pins σ' H' s' ∧ Q σ' H') X.xe s
def PGs (X : Cx) (ts : List Expr) (t : TGs) : Prop :=
 ∀ (pins : List (Addr × Obj)) (s : Shared) (σ : St) (H : Hp) (vs : List V) (us : List Value) (Q : St → Hp → Prop), Inv X pins σ H s → ZFj vs us → t vs σ H Q →
  wpAny (model X.prog X.w) X.A (assignInOrder ((assignEach ts X.env).map (·.2)) us) (fun _ s' => ∃ σ' H', Inv X pins σ' H' s' ∧ Q σ' H') X.xe s
abbrev ZNm := V → V → V → Hp → (Hp → Prop) → Prop
def ZSU (X : Cx) (t : ZNm) : Prop :=
 ∀ (pins : List (Addr × Obj)) (s : Shared) (σ : St) (H : Hp) (o i v : V) (ov iv u : Value) (Q : Hp → Prop), Inv X pins σ H s → ZFl o ov → ZFl i iv → ZFl v u → t o i v H Q →
  wpAny (model X.prog X.w) X.A (setItem ov iv u) (fun _ s' => ∃ H', Inv X pins σ H' s' ∧ Q H') X.xe s
abbrev TIp := V → V → Hp → VK → Prop
def PIp (X : Cx) (op : Operator) (t : TIp) : Prop :=
 ∀ (pins : List (Addr × Obj)) (s : Shared) (σ : St) (H : Hp) (x y : V) (v u : Value) (Q : VK), Inv X pins σ H s → ZFl x v → ZFl y u → t x y H Q →
  wpAny (model X.prog X.w) X.A (inplaceOp op v u) (EP X pins σ Q) X.xe s
section
variable {X : Cx} {pos : Pos}
def ZIK (i : Nat) : TG := fun v σ H Q => Q (σ.set i (some v)) H
theorem ZUt {i : Nat} {x : Str} (hN : X.N.Nodup) (hi : X.N[i]? = some x) (hx : Loc X.env.scope x) (hf : X.fn x = true ∨ X.env.scope.names.lookup x = some .local := by first | exact .inl rfl | exact .inr rfl | assumption) : PG X (.Name x pos) (ZIK i) := by
 intro pins s σ H v u Q I r h
 exact wpAny_assign_Name (ZJr I hN hi hx r (fun s' I' => ⟨_, H, I', h⟩) hf)
def ZSV : TGs := fun vs σ H Q => vs = [] ∧ Q σ H
def ZP1 (t : TG) (u : TGs) : TGs := fun vs σ H Q => ∃ v r, vs = v :: r ∧ t v σ H fun σ' H' => u r σ' H' Q
theorem ZUu : PGs X [] ZSV := by
 intro pins s σ H vs us Q I r h
 obtain ⟨e, h⟩ := h
 subst e
 cases r
 exact assignInOrder_nil ⟨σ, H, I, h⟩
theorem ZSW {e : Expr} {es : List Expr} {t : TG} {u : TGs} (h1 : PG X e t) (h2 : PGs X es u)
  (hs : (assignEach (e :: es) X.env).map (·.2) = assign e X.env :: (assignEach es X.env).map (·.2) := by rfl) : PGs X (e :: es) (ZP1 t u) := by
 intro pins s σ H vs us Q I r h
 obtain ⟨v, vr, e1, h⟩ := h
 subst e1
 cases r with
 | cons r rr =>
  rw [hs]
  refine assignInOrder_cons (thn (h1 pins s σ H _ _ _ I r h) fun _ s1 ⟨σ1, H1, I1, q1⟩ => ?_)
  exact h2 pins s1 σ1 H1 _ _ Q I1 rr q1
def ZP2 (K : W.Frag) (n : Nat) (t : TGs) : TG := fun v σ H Q => ∃ a xs, v = .ref a ∧ SqT K H a xs ∧ xs.length = n ∧ t xs σ H Q
theorem ZWk {es : List Expr} {k : Nat} {t : TGs} {n : Nat} (hc : X.calm = true) (h : PGs X es t)
  (hn : (assignEach es X.env).length = n := by rfl) (hst : (assignEach es X.env).findIdx? (·.1) = none := by rfl) : PG X (.Tuple es k pos) (ZP2 X.K n t) := by
 intro pins s σ H v u Q I r hw
 obtain ⟨a, xs, e1, hq, hl, hw⟩ := hw
 subst e1
 cases r
 obtain ⟨its, rv, ht, hz⟩ := I.tuple hq
 refine assign_Tuple_tuple (I.ok.hd hc) ht (by simp [hn, ← hl, rv.length]) hst fun h' hx => ?_
 have I1 : Inv X pins σ H { s with heap := h' } := I.kept (t' := s.toks) fun b o e => hx b o (Nat.ne_of_lt (Heap.lt_size e)) e
 exact h pins _ σ H xs _ Q I1 (by simpa using rv) hw
def ZSX (to ti : TE) (t : ZNm) : TG := fun v σ H Q => to σ H fun o H1 => ti σ H1 fun i H2 => t o i v H2 fun H3 => Q σ H3
theorem ZWl {o i : Expr} {to ti : TE} {t : ZNm} (ho : PE X o to) (hi : PE X i ti) (hs : ZSU X t)
  (ha : ∀ v, assign (.Subscript o i pos) X.env v = (do
   let ov ← holding [v] (eval o X.env)
   let iv ← holding [v, ov] (eval i X.env)
   standAt pos
   holding [v, ov, iv] (setItem ov iv v)
   release [v, ov, iv] []) := by intro _; rfl) : PG X (.Subscript o i pos) (ZSX to ti t) := by
 intro pins s σ H v u Q I r h
 rw [ha]
 refine wpAny_bind (wpAny_holding (thn (ho pins s σ H _ I h) fun ov s1 ⟨x, H1, I1, r1, q1⟩ => ?_))
 refine wpAny_bind (wpAny_holding (thn (hi pins s1 σ H1 _ I1 q1) fun iv s2 ⟨y, H2, I2, r2, q2⟩ => ?_))
 refine wpAny_bind (wpAny_standAt (wpAny_bind (wpAny_holding (thn (hs pins s2 σ H2 x y v ov iv u _ I2 r1 r2 r q2) fun _ s3 ⟨H3, I3, q3⟩ => ?_))))
 exact wpAny_release ⟨σ, H3, I3, q3⟩
def ZJs (te : TE) (g : TG) : TS := fun D σ H => te σ H fun x H1 => g x σ H1 D.nx
theorem ZWm {tg e : Expr} {te : TE} {g : TG} (he : PE X e te) (hg : PG X tg g) (hs : swapsWithSole [tg] e pos.line X.env = pure false := by rfl) (hw : swappedStores [tg] e X.env = pure none := by rfl)
  (h1 : (assignEach [tg] X.env).map (·.2) = [assign tg X.env] := by rfl) : PS X (.Assign [tg] e pos) (ZJs te g) := by
 intro pins s σ H D I h
 refine wpAny_Assign_stores (thn (he pins s σ H _ I h) fun v s1 ⟨x, H1, I1, r1, q1⟩ => ?_) hs hw
 rw [h1]
 exact thn (hg pins s1 σ H1 x v _ I1 r1 q1) fun _ s2 q => q
theorem ZWn {i : Nat} {x : Str} {e : Expr} {te : TE} {pos' : Pos} (hN : X.N.Nodup) (hi : X.N[i]? = some x) (hx : Loc X.env.scope x) (he : PE X e te) (hs : swapsWith e (some (.Name x pos')) pos.line X.env = pure false := by rfl) (hf : X.fn x = true ∨ X.env.scope.names.lookup x = some .local := by first | exact .inl rfl | exact .inr rfl | assumption) :
  PS X (.Assign [.Name x pos'] e pos) (ZJs te (ZIK i)) := by
 intro pins s σ H D I h
 refine wpAny_Assign_Name (thn (he pins s σ H _ I h) fun v s1 ⟨y, H1, I1, r1, q1⟩ => ?_) hs
 exact ZJr I1 hN hi hx r1 (fun s2 I2 => ⟨_, H1, I2, q1⟩) hf
def ZSY (i : Nat) (te : TE) (ti : TIp) : TS := fun D σ H => ∃ x, σ[i]? = some (some x) ∧ te σ H fun y H1 => ti x y H1 fun z H2 => D.nx (σ.set i (some z)) H2
theorem ZWo {i : Nat} {x : Str} {e : Expr} {te : TE} {op : Operator} {ti : TIp} {pos' : Pos} (hN : X.N.Nodup) (hi : X.N[i]? = some x) (hx : Loc X.env.scope x) (he : PE X e te) (ho : PIp X op ti) (hf : X.fn x = true ∨ X.env.scope.names.lookup x = some .local := by first | exact .inl rfl | exact .inr rfl | assumption) :
  PS X (.AugAssign (.Name x pos') op e pos) (ZSY i te ti) := by
 intro pins s σ H D I h
 obtain ⟨v, e1, h⟩ := h
 obtain ⟨m, hn, hl⟩ := I.loc
 have vis : Vis X.env.scope x := by rcases hx with k | k; exact .inl k; exact .inr (.inl k)
 obtain ⟨u, r, l⟩ := hl i x v hi e1 vis
 refine wpAny_AugAssign_Name ?_
 have go : wpAny (model X.prog X.w) X.A (eval e X.env) (fun w s₂ => wpAny (model X.prog X.w) X.A (inplaceOp op u w) (fun r s₃ => wpAny (model X.prog X.w) X.A (storeName X.env x r) (fun _ => SP X pins D .next) X.xe s₃) X.xe s₂) X.xe s := by
  refine thn (he pins s σ H _ I h) fun w s1 ⟨y, H1, I1, r1, q1⟩ => ?_
  refine thn (ho pins s1 σ H1 v y u w _ I1 r r1 q1) fun z s2 ⟨zv, H2, I2, r2, q2⟩ => ?_
  exact ZJr I2 hN hi hx r2 (fun s3 I3 => ⟨_, H2, I3, q2⟩) hf
 rcases l with ⟨hk, hm⟩ | ⟨hk, c, hc, hcell⟩
 ·exact wpAny_loadName_local I.ok.kind hk hn hm go
 ·rcases hk with hk | hk
  ·exact wpAny_loadName_cell I.ok.kind hk hc hcell go
  ·rcases hx with k | k
   ·have : X.env.scope.names.lookup x = some .free := hk
    rw [k] at this; cases this
   ·have : X.env.scope.names.lookup x = some .free := hk
    rw [k] at this; cases this
def ZNn (c : TT) (tb : TS) : TS := fun D σ H => ∃ W : Nat → St → Hp → Prop, (∃ m, W m σ H) ∧ ∀ m σ H, W m σ H →
 c σ H fun b H1 => if b = true then ∃ N : St → Hp → Prop, (∀ σ' H', N σ' H' → ∃ m', m' < m ∧ W m' σ' H') ∧ tb { D with nx := N, ct := N, bk := D.nx } σ H1 else D.nx σ H1
theorem ZSZ {c : Expr} {body : List Stmt} {tc : TT} {tb : TS} (hp : PassesOwn (model X.prog X.w) X.A X.env X.xe) (hc : PT X c tc) (hb : PSs X body tb) : PS X (.While c body [] pos) (ZNn tc tb) := by
 intro pins s σ H D I h
 obtain ⟨W, ⟨m0, w0⟩, turn⟩ := h
 refine wpAny_While (codeAny_whileLoop (fun n s' => ∃ σ' H', Inv X pins σ' H' s' ∧ W n σ' H') ?_ m0 ⟨σ, H, I, w0⟩)
 rintro n s1 ⟨σ1, H1, I1, w1⟩
 refine wpAny_passesOwn hp (thn (hc pins s1 σ1 H1 _ I1 (turn n σ1 H1 w1)) fun b s2 ⟨H2, I2, q2⟩ => ?_)
 cases b with
 | true =>
  obtain ⟨N, hN, q2⟩ := q2
  rw [if_pos rfl]
  refine wpAny_passesOwn hp (thn (hb pins s2 σ1 H2 _ I2 q2) fun f s3 q3 => ?_)
  cases f with
  | next =>
   obtain ⟨σ3, H3, I3, n3⟩ := q3
   obtain ⟨m', hm, w3⟩ := hN σ3 H3 n3
   exact ⟨m', hm, σ3, H3, I3, w3⟩
  | cont =>
   obtain ⟨σ3, H3, I3, n3⟩ := q3
   obtain ⟨m', hm, w3⟩ := hN σ3 H3 n3
   exact ⟨m', hm, σ3, H3, I3, w3⟩
  | brk => exact q3
  | ret v => exact q3
 | false =>
  rw [if_neg Bool.false_ne_true]
  exact wpAny_execs_nil ⟨σ1, H2, I2, q2⟩
end
structure It where
 go : Nat → Hp → Prop
 yld : Nat → Hp → V → Hp → Prop
 stop : Nat → Hp → Prop
def ZGz (X : Cx) (pins : List (Addr × Obj)) (H : Hp) (b : Addr) : Prop :=
 H b = none ∧ b ≠ X.env.locals ∧ b ∉ X.fs ∧ (b ∈ X.ex ∨ X.s₀.heap.objs.size ≤ b) ∧ (∀ x c, X.env.cells.lookup x = some c → c ≠ b) ∧ ∀ p ∈ X.pn ++ pins, p.1 ≠ b
theorem Inv.fpOk {X : Cx} {pins : List (Addr × Obj)} {σ : St} {H H' : Hp} {s : Shared} {b : Addr} (I : Inv X pins σ H s) (hb : s.heap.objs.size ≤ b) (hn : H' b = none) : ZGz X pins H' b := by
 refine ⟨hn, Nat.ne_of_gt (Nat.lt_of_lt_of_le I.lt hb), I.nofs hb, .inr (Nat.le_trans I.sz hb), fun x c e z => ?_, fun p hp z => ?_⟩
 ·obtain ⟨v, q⟩ := I.cell x c e
  exact absurd (Nat.lt_of_lt_of_le q.lt (by rw [z]; exact hb)) (Nat.lt_irrefl _)
 ·exact absurd (Nat.lt_of_lt_of_le (Heap.lt_size (I.pin p hp).1) (by rw [z]; exact hb)) (Nat.lt_irrefl _)
structure ZKM (P : Program) (w : World) (K : W.Frag) (tg : Expr) (J : It) (fp : List Addr) (it : Addr) (tn : Nat → Heap → Prop) : Prop where
 mem : it ∈ fp
 obj : ∀ i h, tn i h → ∀ b ∈ fp, ∃ o, h.get? b = some o ∧ ∀ v, o.data ≠ .cell v
 keep : ∀ i h h', tn i h → (∀ b ∈ fp, ∀ o, h.get? b = some o → h'.get? b = some o) → tn i h'
 item : ∀ (X : Cx), X.prog = P → X.w = w → X.K = K → X.calm = true → ∀ (i : Nat) (pins : List (Addr × Obj)) (s : Shared) (σ : St) (H : Hp) (E : Value → Shared → Prop), Inv X pins σ H s → (∀ b ∈ fp, ZGz X pins H b) → tn i s.heap → J.go i H →
  wpAny (model P w) X.A (pyNext (.ref it)) (fun r s1 => ∃ u, r = some u ∧
   wpAny (model P w) X.A (letOwnedTupleGo tg (.ref it) u) (fun _ s2 => ∃ x H', Inv X pins σ H' s2 ∧ ZFl x u ∧ J.yld i H x H' ∧ tn (i + 1) s2.heap ∧ ∀ b ∈ fp, H' b = none) E s1) E s
 done : ∀ (X : Cx), X.prog = P → X.w = w → X.K = K → X.calm = true → ∀ (i : Nat) (pins : List (Addr × Obj)) (s : Shared) (σ : St) (H : Hp) (E : Value → Shared → Prop), Inv X pins σ H s → (∀ b ∈ fp, ZGz X pins H b) → tn i s.heap → J.stop i H →
  wpAny (model P w) X.A (pyNext (.ref it)) (fun r s1 => r = none ∧ Inv X pins σ H s1) E s
 self : ∀ (A : Around) (i : Nat) (s : Shared) (Q : Value → Shared → Prop) (E : Value → Shared → Prop), tn i s.heap → Q (.ref it) s → wpAny (model P w) A (pyIter (.ref it)) Q E s
abbrev TI := St → Hp → (It → Hp → Prop) → Prop
def PIE (X : Cx) (pins : List (Addr × Obj)) (σ : St) (tg : Expr) (R : It → Hp → Prop) (itv : Value) (s2 : Shared) : Prop :=
 ∃ (it : Addr) (fp : List Addr) (tn : Nat → Heap → Prop) (J : It) (H' : Hp), itv = .ref it ∧ Inv X pins σ H' s2 ∧ ZKM X.prog X.w X.K tg J fp it tn ∧ tn 0 s2.heap ∧ (∀ b ∈ fp, ZGz X pins H' b) ∧ R J H'
def PI (X : Cx) (tg iter : Expr) (wi : TI) : Prop :=
 ∀ (pins : List (Addr × Obj)) (s : Shared) (σ : St) (H : Hp) (R : It → Hp → Prop), Inv X pins σ H s → wi σ H R →
  wpAny (model X.prog X.w) X.A (eval iter X.env) (fun v s1 => wpAny (model X.prog X.w) X.A (pyIter v) (PIE X pins σ tg R) X.xe s1) X.xe s
theorem ZKy {M : Model} {A : Around} {E : Value → Shared → Prop} {s : Shared} {tg : Expr} {it : Addr} {u : Value} {o : Obj} {n : String} {vs : Array Value} {Q : Unit → Shared → Prop} (ho : s.heap.get? it = some o) (hc : o.cls = .type n) (hd : o.data = .fields vs)
    (hn : ["enumerate", "zip", "dict_itemiterator", "dict_reverseitemiterator", "odict_iterator", "itertools.zip_longest", "itertools.pairwise"].contains n = false) (hQ : Q () s) : wpAny M A (letOwnedTupleGo tg (.ref it) u) Q E s := by
  unfold letOwnedTupleGo
  cases tg <;> first
    | exact wpAny_pure hQ
    | (cases u <;> first
        | exact wpAny_pure hQ
        | (refine wpAny_bind (wpAny_load ho ?_)
           rw [hc, hd]
           show wpAny M A (if (["enumerate", "zip", "dict_itemiterator", "dict_reverseitemiterator", "odict_iterator", "itertools.zip_longest", "itertools.pairwise"].contains n && vs[0]? == some (rawInt _)) = true then _ else _) Q E s
           rw [if_neg (by intro h; rw [hn, Bool.false_and] at h; cases h)]
           exact wpAny_pure hQ))
def Itl (K : W.Frag) (a : Addr) : It :=
 ⟨fun i H => ∃ xs x, SqL K H a xs ∧ xs[i]? = some x, fun i H x H' => H' = H ∧ ∀ xs, SqL K H a xs → xs[i]? = some x, fun i H => ∃ xs, SqL K H a xs ∧ xs.length ≤ i⟩
def Itt (K : W.Frag) (a : Addr) : It :=
 ⟨fun i H => ∃ xs x, SqT K H a xs ∧ xs[i]? = some x, fun i H x H' => H' = H ∧ ∀ xs, SqT K H a xs → xs[i]? = some x, fun i H => ∃ xs, SqT K H a xs ∧ xs.length ≤ i⟩
def Itr (lo : Int) (n : Nat) : It := ⟨fun i _ => i < n, fun i H x H' => H' = H ∧ x = .int (lo + i), fun i _ => n ≤ i⟩
theorem ZMx {P : Program} {w : World} {K : W.Frag} {tg : Expr} (a it : Addr) : ZKM P w K tg (Itl K a) [it] it (fun i h => h.IsListIter it a i) where
 mem := by simp
 obj := fun i h st b hb => by
  have e : b = it := by simpa using hb
  subst e
  obtain ⟨o, e, c, d⟩ := st
  exact ⟨o, e, fun v z => by rw [d] at z; cases z⟩
 keep := fun i h h' st k => st.at fun o e => k it (by simp) o e
 item := by
  intro X hP hw hK hc i pins s σ H E I hf st hg
  subst hP hw hK
  obtain ⟨xs, x, hq, hx⟩ := hg
  obtain ⟨its, rv, p, hz⟩ := I.list hq
  obtain ⟨u, hu, ru⟩ := rv.get hx
  obtain ⟨f0, f1, f2, f3, f4, f5⟩ := hf it (by simp)
  refine wpAny_pyNext_list_item st p.isList (x := u) (by simpa using hu) fun h' st' sb => ?_
  have I1 : Inv X pins σ H { s with heap := h' } := I.turned (t' := s.toks) (fun b o hb e => (sb.2 b hb).trans e) f0 f1 f3 f4 f5
  obtain ⟨o, e, c, d⟩ := id st'
  exact ⟨u, rfl, ZKy (s := { s with heap := h' }) e c d (by decide) ⟨x, H, I1, ru, ⟨rfl, fun ys hy => by rw [I.list_inj hy hq]; exact hx⟩, st', fun b hb => (hf b hb).1⟩⟩
 done := by
  intro X hP hw hK hc i pins s σ H E I hf st hg
  subst hP hw hK
  obtain ⟨xs, hq, hx⟩ := hg
  obtain ⟨its, rv, p, hz⟩ := I.list hq
  obtain ⟨f0, f1, f2, f3, f4, f5⟩ := hf it (by simp)
  have hl := rv.length
  exact wpAny_pyNext_list_end (I.ok.hd hc) st p.isList (by simp; omega) fun h' eb => ⟨rfl, I.turned (t' := s.toks) (fun b o hb e => eb b o hb e) f0 f1 f3 f4 f5⟩
 self := fun _ _ _ _ _ st h => wpAny_pyIter_listiter st h
theorem ZLy {P : Program} {w : World} {K : W.Frag} {tg : Expr} (a it : Addr) : ZKM P w K tg (Itt K a) [it] it (fun i h => h.IsTupleIter it a i) where
 mem := by simp
 obj := fun i h st b hb => by
  have e : b = it := by simpa using hb
  subst e
  obtain ⟨o, e, c, d⟩ := st
  exact ⟨o, e, fun v z => by rw [d] at z; cases z⟩
 keep := fun i h h' st k => st.at fun o e => k it (by simp) o e
 item := by
  intro X hP hw hK hc i pins s σ H E I hf st hg
  subst hP hw hK
  obtain ⟨xs, x, hq, hx⟩ := hg
  obtain ⟨its, rv, p, hz⟩ := I.tuple hq
  obtain ⟨u, hu, ru⟩ := rv.get hx
  obtain ⟨f0, f1, f2, f3, f4, f5⟩ := hf it (by simp)
  refine wpAny_pyNext_tuple_item st (show s.heap.IsTuple a its.toArray from p) (x := u) (by simpa using hu) fun h' st' sb => ?_
  have I1 : Inv X pins σ H { s with heap := h' } := I.turned (t' := s.toks) (fun b o hb e => (sb.2 b hb).trans e) f0 f1 f3 f4 f5
  obtain ⟨o, e, c, d⟩ := id st'
  exact ⟨u, rfl, ZKy (s := { s with heap := h' }) e c d (by decide) ⟨x, H, I1, ru, ⟨rfl, fun ys hy => by rw [I.tuple_inj hy hq]; exact hx⟩, st', fun b hb => (hf b hb).1⟩⟩
 done := by
  intro X hP hw hK hc i pins s σ H E I hf st hg
  subst hP hw hK
  obtain ⟨xs, hq, hx⟩ := hg
  obtain ⟨its, rv, p, hz⟩ := I.tuple hq
  obtain ⟨f0, f1, f2, f3, f4, f5⟩ := hf it (by simp)
  have hl := rv.length
  exact wpAny_pyNext_tuple_end (I.ok.hd hc) st (show s.heap.IsTuple a its.toArray from p) (by simp; omega) fun h' eb => ⟨rfl, I.turned (t' := s.toks) (fun b o hb e => eb b o hb e) f0 f1 f3 f4 f5⟩
 self := fun _ _ _ _ _ st h => wpAny_pyIter_tupleiter st h
theorem ZP3 {P : Program} {w : World} {K : W.Frag} {tg : Expr} (it : Addr) (lo : Int) (n : Nat) : ZKM P w K tg (Itr lo n) [it] it (fun i h => IsRangeIter h it (lo + (i : Nat) * 1) ((n : Int) - (i : Nat)) 1) where
 mem := by simp
 obj := fun i h st b hb => by
  have e : b = it := by simpa using hb
  subst e
  exact ⟨_, st, fun v z => by
   have z' : Data.fields _ = Data.cell v := z
   cases z'⟩
 keep := fun i h h' st k => k it (by simp) _ st
 item := by
  intro X hP hw hK hc i pins s σ H E I hf st hg
  subst hP hw hK
  obtain ⟨f0, f1, f2, f3, f4, f5⟩ := hf it (by simp)
  have W := Walks.range (prog := X.prog) (w := X.w) (I.ok.hd hc) it lo 1 n
  refine W.item i s _ _ hg st fun v h' tk hv st' kk => ?_
  obtain ⟨t, rfl⟩ := hv
  have I1 : Inv X pins σ H { s with heap := h', toks := tk } := I.turned (fun b o hb e => kk b o (by simpa using hb) e) f0 f1 f3 f4 f5
  refine ⟨_, rfl, ZKy (s := { s with heap := h', toks := tk }) (n := "range_iterator") st' rfl rfl (by decide) ⟨.int (lo + i), H, I1, ⟨t, ?_⟩, ⟨rfl, rfl⟩, st', fun b hb => (hf b hb).1⟩⟩
  rw [Int.mul_one]
 done := by
  intro X hP hw hK hc i pins s σ H E I hf st hg
  subst hP hw hK
  obtain ⟨f0, f1, f2, f3, f4, f5⟩ := hf it (by simp)
  exact wpAny_pyNext_range_end (I.ok.hd hc) st (by have : n ≤ i := hg; omega) fun h' eb => ⟨rfl, I.turned (t' := s.toks) (fun b o hb e => eb b o hb e) f0 f1 f3 f4 f5⟩
 self := fun _ _ _ _ _ st h => wpAny_pyIter_rangeiter st h
section
variable {X : Cx} {tg : Expr}
def ZNd (K : W.Frag) (tl : TE) : TI := fun σ H R => tl σ H fun x H1 => ∃ a, x = .ref a ∧ (∃ xs, SqL K H1 a xs) ∧ R (Itl K a) H1
def ZP4 (K : W.Frag) (tl : TE) : TI := fun σ H R => tl σ H fun x H1 => ∃ a, x = .ref a ∧ (∃ xs, SqT K H1 a xs) ∧ R (Itt K a) H1
theorem ZUv {l : Expr} {tl : TE} (hl : PE X l tl) : PI X tg l (ZNd X.K tl) := by
 intro pins s σ H R I h
 refine thn (hl pins s σ H _ I h) fun v s1 ⟨x, H1, I1, r1, q1⟩ => ?_
 obtain ⟨a, e, ⟨xs, hq⟩, q⟩ := q1
 subst e
 cases r1
 obtain ⟨its, rv, p, hz⟩ := I1.list hq
 refine wpAny_pyIter_list p.isList ?_
 refine ⟨s1.heap.objs.size, [s1.heap.objs.size], _, _, H1, rfl, I1.kept (t' := s1.toks) fun b o e => Heap.get?_push_of_some _ e, ZMx a _, ⟨_, Heap.get?_push_size _ rfl, rfl, rfl⟩, fun b hb => ?_, q⟩
 have e : b = s1.heap.objs.size := by simpa using hb
 subst e
 exact I1.fpOk (Nat.le_refl _) (I1.hok.fresh (Nat.le_refl _))
theorem ZWp {l : Expr} {tl : TE} (hl : PE X l tl) : PI X tg l (ZP4 X.K tl) := by
 intro pins s σ H R I h
 refine thn (hl pins s σ H _ I h) fun v s1 ⟨x, H1, I1, r1, q1⟩ => ?_
 obtain ⟨a, e, ⟨xs, hq⟩, q⟩ := q1
 subst e
 cases r1
 obtain ⟨its, rv, p, hz⟩ := I1.tuple hq
 refine wpAny_pyIter_tuple (show s1.heap.IsTuple a its.toArray from p) ?_
 refine ⟨s1.heap.objs.size, [s1.heap.objs.size], _, _, H1, rfl, I1.kept (t' := s1.toks) fun b o e => Heap.get?_push_of_some _ e, ZLy a _, ⟨_, Heap.get?_push_size _ rfl, rfl, rfl⟩, fun b hb => ?_, q⟩
 have e : b = s1.heap.objs.size := by simpa using hb
 subst e
 exact I1.fpOk (Nat.le_refl _) (I1.hok.fresh (Nat.le_refl _))
theorem ZSa {pins : List (Addr × Obj)} {σ : St} {H : Hp} {s : Shared} {R : It → Hp → Prop} {E : Value → Shared → Prop} {lo hi : Int} {t u v : Tok} {tk : Nat} (I : Inv X pins σ H s) (h1 : -(2 ^ 62) ≤ lo) (h2 : lo < 2 ^ 62) (h3 : -(2 ^ 62) ≤ hi) (h4 : hi < 2 ^ 62)
  (q : R (Itr lo (hi - lo).toNat) H) : wpAny (model X.prog X.w) X.A (pyIter (.ref s.heap.objs.size)) (PIE X pins σ tg R) E { s with heap := s.heap.push { cls := .type "range", data := .fields #[.int lo t, .int hi u, .int 1 v] }, toks := tk } := by
 refine wpAny_pyIter_range (IsRange.new ..) (small_one h1 h2 h3 h4) ?_
 have I1 : Inv X pins σ H { s with heap := s.heap.push { cls := .type "range", data := .fields #[.int lo t, .int hi u, .int 1 v] }, toks := tk } := I.kept fun b o e => Heap.get?_push_of_some _ e
 refine ⟨(s.heap.push { cls := .type "range", data := .fields #[.int lo t, .int hi u, .int 1 v] }).objs.size, [(s.heap.push { cls := .type "range", data := .fields #[.int lo t, .int hi u, .int 1 v] }).objs.size], _, _, H, rfl,
  I1.kept (t' := tk) fun b o e => Heap.get?_push_of_some _ e, ZP3 _ lo (hi - lo).toNat, ?_, fun b hb => ?_, q⟩
 ·have e1 : lo + ((0 : Nat) : Int) * 1 = lo := by simp
  have e2 : (((hi - lo).toNat : Nat) : Int) - ((0 : Nat) : Int) = Builtin.Range.rangeSize lo hi 1 := by rw [rangeSize_one]; split <;> omega
  show IsRangeIter _ _ (lo + ((0 : Nat) : Int) * 1) ((((hi - lo).toNat : Nat) : Int) - ((0 : Nat) : Int)) 1
  rw [e1, e2]
  exact Heap.get?_push_size _ rfl
 ·have e : b = (s.heap.push { cls := .type "range", data := .fields #[.int lo t, .int hi u, .int 1 v] }).objs.size := by simpa using hb
  subst e
  exact I1.fpOk (Nat.le_refl _) (I1.hok.fresh (Nat.le_refl _))
def ZP5 (ta : TA) : TI := fun σ H R => ta σ H fun vs H1 => ∃ j : Int, vs = [.int j] ∧ -(2 ^ 62) ≤ j ∧ j < 2 ^ 62 ∧ R (Itr 0 j.toNat) H1
theorem ZRB {a : Expr} {ta : TA} {p pos : Pos} (hg : Gl X "range") (hm : X.mg "range" = none) (ha : PA X [a] ta) (hs : starEach [a] X.env = [(false, eval a X.env)] := by rfl) : PI X tg (.Call (.Name "range" p) [a] [] pos) (ZP5 ta) := by
 intro pins s σ H R I h
 refine Call_ (ZIR I hg hm boot_range (PyProof.Rows.callWith_type1 (thn (ha pos pins s σ H _ I h) fun us s1 ⟨vs, H1, I1, r1, q1⟩ => ?_) hs rfl))
 obtain ⟨j, e, q1, q2, q⟩ := q1
 subst e
 cases r1 with
 | cons r rr =>
  cases rr
  obtain ⟨t, rfl⟩ := r
  exact call_range_1 (ZSa I1 (by omega) (by omega) q1 q2 (by simpa using q))
def ZSb (wi : TI) (g : TG) (tb : TS) : TS := fun D σ H => wi σ H fun J H1 => ∃ W : Nat → Nat → St → Hp → Prop, (∃ m, W 0 m σ H1) ∧ ∀ i m σ H, W i m σ H →
 (J.stop i H ∧ D.nx σ H) ∨ (J.go i H ∧ ∃ N : St → Hp → Prop, (∀ σ' H', N σ' H' → ∃ m', m' < m ∧ W (i + 1) m' σ' H') ∧ ∀ x H', J.yld i H x H' → g x σ H' fun σ2 H2 => tb { D with nx := N, ct := N, bk := D.nx } σ2 H2)
def ZJc (fp : List Addr) (h : Heap) : List (Addr × Obj) := fp.filterMap fun b => (h.get? b).map fun o => (b, o)
theorem ZHb {fp : List Addr} {h : Heap} {b : Addr} {o : Obj} (hb : b ∈ fp) (e : h.get? b = some o) : (b, o) ∈ ZJc fp h := List.mem_filterMap.mpr ⟨b, hb, by rw [e]; rfl⟩
theorem ZRC {fp : List Addr} {h : Heap} {p : Addr × Obj} (hp : p ∈ ZJc fp h) : p.1 ∈ fp ∧ h.get? p.1 = some p.2 := by
 obtain ⟨b, hb, e⟩ := List.mem_filterMap.mp hp
 cases q : h.get? b with
 | none => rw [q] at e; cases e
 | some o =>
  rw [q] at e
  have e' : (b, o) = p := Option.some.inj e
  subst e'
  exact ⟨hb, q⟩
theorem Inv.pinned {pins : List (Addr × Obj)} {σ : St} {H : Hp} {s : Shared} {fp : List Addr} (I : Inv X pins σ H s) (hf : ∀ b ∈ fp, ZGz X pins H b) (ho : ∀ b ∈ fp, ∃ o, s.heap.get? b = some o ∧ ∀ v, o.data ≠ .cell v) : Inv X (pins ++ ZJc fp s.heap) σ H s :=
 I.pins_of fun p hp => (List.mem_append.mp hp).elim (fun z => I.pin p (List.mem_append_right _ z)) fun z => by
  obtain ⟨hb, e⟩ := ZRC z
  obtain ⟨f0, f1, f2, _⟩ := hf p.1 hb
  obtain ⟨o, e', d⟩ := ho p.1 hb
  rw [e] at e'; cases e'
  exact ⟨e, f0, f1, f2, d⟩
theorem Inv.unpinned {pins pl : List (Addr × Obj)} {σ : St} {H : Hp} {s : Shared} (I : Inv X (pins ++ pl) σ H s) : Inv X pins σ H s := I.pins_of fun p hp => I.pin p (List.mem_append_right _ (List.mem_append_left _ hp))
theorem ZWq {iter : Expr} {body : List Stmt} {wi : TI} {g : TG} {tb : TS} {pos : Pos} (hp : PassesOwn (model X.prog X.w) X.A X.env X.xe) (hc : X.calm = true) (hi : PI X tg iter wi) (hg : PG X tg g) (hb : PSs X body tb)
  (hs : ∀ x, foldedSetIterable iter X.env x = pure x := by intro _; rfl) : PS X (.For tg iter body [] pos) (ZSb wi g tb) := by
 intro pins s σ H D I h
 refine wpAny_For (thn (hi pins s σ H _ I h) fun v s1 h1 => thn h1 fun itv s2 h2 => ?_) hs
 obtain ⟨it, fp, tn, J, H2, e, I2, T, st2, f2, W, ⟨m0, w0⟩, turn⟩ := h2
 subst e
 -- what stays true of the iterator's objects through the loop
 have stat : ∀ {H' : Hp}, (∀ b ∈ fp, H' b = none) → ∀ b ∈ fp, ZGz X pins H' b := fun hn b hb => ⟨hn b hb, (f2 b hb).2⟩
 refine codeAny_forLoop_any (fun n s' => ∃ i σ' H', Inv X pins σ' H' s' ∧ tn i s'.heap ∧ (∀ b ∈ fp, H' b = none) ∧ W i n σ' H') ?_ m0 ⟨0, σ, H2, I2, st2, fun b hb => (f2 b hb).1, w0⟩
 rintro n s3 ⟨i, σ3, H3, I3, st3, fr3, w3⟩
 rcases turn i n σ3 H3 w3 with ⟨stop, qn⟩ | ⟨go, N, hN, step⟩
 ·refine wpAny_passesOwn hp (thn (T.done X rfl rfl rfl hc i pins s3 σ3 H3 X.xe I3 (stat fr3) st3 stop) fun r s4 ⟨hr, I4⟩ => ?_)
  subst hr
  exact wpAny_execs_nil ⟨σ3, H3, I4, qn⟩
 ·refine wpAny_passesOwn hp (thn (T.item X rfl rfl rfl hc i pins s3 σ3 H3 X.xe I3 (stat fr3) st3 go) fun r s4 ⟨u, hr, h4⟩ => ?_)
  subst hr
  refine wpAny_passesOwn hp (thn h4 fun _ s5 ⟨x, H5, I5, r5, y5, st5, fr5⟩ => ?_)
  have I5' := I5.pinned (stat fr5) (T.obj _ _ st5)
  refine wpAny_passesOwn hp (thn (hg _ s5 σ3 H5 x u _ I5' r5 (step x H5 y5)) fun _ s6 ⟨σ6, H6, I6, q6⟩ => ?_)
  refine wpAny_passesOwn hp (thn (hb _ s6 σ6 H6 _ I6 q6) fun f s7 q7 => ?_)
  have again : ∀ {σ7 : St} {H7 : Hp}, Inv X (pins ++ ZJc fp s5.heap) σ7 H7 s7 → N σ7 H7 → ∃ m, m < n ∧ ∃ i σ' H', Inv X pins σ' H' s7 ∧ tn i s7.heap ∧ (∀ b ∈ fp, H' b = none) ∧ W i m σ' H' := fun {σ7 H7} I7 n7 => by
   obtain ⟨m', hm, w7⟩ := hN σ7 H7 n7
   refine ⟨m', hm, i + 1, σ7, H7, I7.unpinned, T.keep _ _ _ st5 fun b hb o e => (I7.pin (b, o) (List.mem_append_right _ (List.mem_append_right _ (ZHb hb e)))).1, fun b hb => ?_, w7⟩
   obtain ⟨o, e, d⟩ := T.obj _ _ st5 b hb
   exact (I7.pin (b, o) (List.mem_append_right _ (List.mem_append_right _ (ZHb hb e)))).2.1
  cases f with
  | next => obtain ⟨σ7, H7, I7, n7⟩ := q7; exact again I7 n7
  | cont => obtain ⟨σ7, H7, I7, n7⟩ := q7; exact again I7 n7
  | brk => obtain ⟨σ7, H7, I7, q7⟩ := q7; exact ⟨σ7, H7, I7.unpinned, q7⟩
  | ret v => obtain ⟨x7, σ7, H7, I7, r7, q7⟩ := q7; exact ⟨x7, σ7, H7, I7.unpinned, r7, q7⟩
end
theorem ZSc {K : W.Frag} {a : Addr} {xs : List V} {g : TG} {tb : TS} {D : ZGW} {σ : St} {H : Hp} (Pv : Nat → St → Hp → Prop) (h0 : Pv 0 σ H) (hl : ∀ i σ H, i ≤ xs.length → Pv i σ H → SqL K H a xs)
  (hs : ∀ i x σ H, xs[i]? = some x → Pv i σ H → g x σ H fun σ2 H2 => tb { D with nx := Pv (i + 1), ct := Pv (i + 1), bk := D.nx } σ2 H2) (hd : ∀ σ H, Pv xs.length σ H → D.nx σ H) :
  ∃ W : Nat → Nat → St → Hp → Prop, (∃ m, W 0 m σ H) ∧ ∀ i m σ H, W i m σ H →
   ((Itl K a).stop i H ∧ D.nx σ H) ∨ ((Itl K a).go i H ∧ ∃ N : St → Hp → Prop, (∀ σ' H', N σ' H' → ∃ m', m' < m ∧ W (i + 1) m' σ' H') ∧ ∀ x H', (Itl K a).yld i H x H' → g x σ H' fun σ2 H2 => tb { D with nx := N, ct := N, bk := D.nx } σ2 H2) := by
 refine ⟨fun i m σ H => m = xs.length - i ∧ i ≤ xs.length ∧ Pv i σ H, ⟨xs.length, by simp, Nat.zero_le _, h0⟩, ?_⟩
 rintro i m σ H ⟨rfl, hi, p⟩
 have q := hl i σ H hi p
 by_cases hlt : i < xs.length
 ·refine .inr ⟨⟨xs, xs[i], q, by simp [hlt]⟩, Pv (i + 1), fun σ' H' p' => ⟨xs.length - (i + 1), by omega, rfl, hlt, p'⟩, fun x H' y => ?_⟩
  obtain ⟨e, y⟩ := y
  subst e
  exact hs i x σ _ (y xs q) p
 ·have e : i = xs.length := by omega
  subst e
  exact .inl ⟨⟨xs, q, Nat.le_refl _⟩, hd σ H p⟩
theorem ZUw {K : W.Frag} {a : Addr} {xs : List V} {g : TG} {tb : TS} {D : ZGW} {σ : St} {H : Hp} (Pv : Nat → St → Hp → Prop) (h0 : Pv 0 σ H) (hl : ∀ i σ H, i ≤ xs.length → Pv i σ H → SqT K H a xs)
  (hs : ∀ i x σ H, xs[i]? = some x → Pv i σ H → g x σ H fun σ2 H2 => tb { D with nx := Pv (i + 1), ct := Pv (i + 1), bk := D.nx } σ2 H2) (hd : ∀ σ H, Pv xs.length σ H → D.nx σ H) :
  ∃ W : Nat → Nat → St → Hp → Prop, (∃ m, W 0 m σ H) ∧ ∀ i m σ H, W i m σ H →
   ((Itt K a).stop i H ∧ D.nx σ H) ∨ ((Itt K a).go i H ∧ ∃ N : St → Hp → Prop, (∀ σ' H', N σ' H' → ∃ m', m' < m ∧ W (i + 1) m' σ' H') ∧ ∀ x H', (Itt K a).yld i H x H' → g x σ H' fun σ2 H2 => tb { D with nx := N, ct := N, bk := D.nx } σ2 H2) := by
 refine ⟨fun i m σ H => m = xs.length - i ∧ i ≤ xs.length ∧ Pv i σ H, ⟨xs.length, by simp, Nat.zero_le _, h0⟩, ?_⟩
 rintro i m σ H ⟨rfl, hi, p⟩
 have q := hl i σ H hi p
 by_cases hlt : i < xs.length
 ·refine .inr ⟨⟨xs, xs[i], q, by simp [hlt]⟩, Pv (i + 1), fun σ' H' p' => ⟨xs.length - (i + 1), by omega, rfl, hlt, p'⟩, fun x H' y => ?_⟩
  obtain ⟨e, y⟩ := y
  subst e
  exact hs i x σ _ (y xs q) p
 ·have e : i = xs.length := by omega
  subst e
  exact .inl ⟨⟨xs, q, Nat.le_refl _⟩, hd σ H p⟩
theorem ZRD {lo : Int} {n : Nat} {g : TG} {tb : TS} {D : ZGW} {σ : St} {H : Hp} (Pv : Nat → St → Hp → Prop) (h0 : Pv 0 σ H)
  (hs : ∀ i σ H, i < n → Pv i σ H → g (.int (lo + i)) σ H fun σ2 H2 => tb { D with nx := Pv (i + 1), ct := Pv (i + 1), bk := D.nx } σ2 H2) (hd : ∀ σ H, Pv n σ H → D.nx σ H) :
  ∃ W : Nat → Nat → St → Hp → Prop, (∃ m, W 0 m σ H) ∧ ∀ i m σ H, W i m σ H →
   ((Itr lo n).stop i H ∧ D.nx σ H) ∨ ((Itr lo n).go i H ∧ ∃ N : St → Hp → Prop, (∀ σ' H', N σ' H' → ∃ m', m' < m ∧ W (i + 1) m' σ' H') ∧ ∀ x H', (Itr lo n).yld i H x H' → g x σ H' fun σ2 H2 => tb { D with nx := N, ct := N, bk := D.nx } σ2 H2) := by
 refine ⟨fun i m σ H => m = n - i ∧ i ≤ n ∧ Pv i σ H, ⟨n, by simp, Nat.zero_le _, h0⟩, ?_⟩
 rintro i m σ H ⟨rfl, hi, p⟩
 by_cases hlt : i < n
 ·refine .inr ⟨hlt, Pv (i + 1), fun σ' H' p' => ⟨n - (i + 1), by omega, rfl, hlt, p'⟩, fun x H' y => ?_⟩
  obtain ⟨e, y⟩ := y
  subst e y
  exact hs i σ _ hlt p
 ·have e : i = n := by omega
  subst e
  exact .inl ⟨Nat.le_refl _, hd σ H p⟩
abbrev R2 := V → V → Hp → VK → Prop
def OpR (X : Cx) (f : Value → Value → Sem Value) (r : R2) : Prop :=
 ∀ (pins : List (Addr × Obj)) (s : Shared) (σ : St) (H : Hp) (x y : V) (v u : Value) (Q : VK), Inv X pins σ H s → ZFl x v → ZFl y u → r x y H Q →
  wpAny (model X.prog X.w) X.A (f v u) (EP X pins σ Q) X.xe s
def UnR (X : Cx) (f : Value → Sem Value) (r : V → Hp → VK → Prop) : Prop :=
 ∀ (pins : List (Addr × Obj)) (s : Shared) (σ : St) (H : Hp) (x : V) (v : Value) (Q : VK), Inv X pins σ H s → ZFl x v → r x H Q →
  wpAny (model X.prog X.w) X.A (f v) (EP X pins σ Q) X.xe s
def ZF5 (X : Cx) (f : Value) (r : List V → Hp → VK → Prop) : Prop :=
 ∀ (pins : List (Addr × Obj)) (s : Shared) (σ : St) (H : Hp) (xs : List V) (us : List Value) (Q : VK), Inv X pins σ H s → ZFj xs us → r xs H Q →
  wpAny (model X.prog X.w) X.A (call f us) (EP X pins σ Q) X.xe s
def tOp (r : R2) (ta tb : TE) : TE := fun σ H Q => ta σ H fun x H1 => tb σ H1 fun y H2 => r x y H2 Q
def tUn (r : V → Hp → VK → Prop) (ta : TE) : TE := fun σ H Q => ta σ H fun x H1 => r x H1 Q
def rI (C : Int → Int → Prop) (g : Int → Int → V) : R2 := fun x y H Q => ∃ i j, x = .int i ∧ y = .int j ∧ C i j ∧ Q (g i j) H
def rI0 (g : Int → Int → V) : R2 := fun x y H Q => ∃ i j, x = .int i ∧ y = .int j ∧ Q (g i j) H
def rU (g : Int → V) : V → Hp → VK → Prop := fun x H Q => ∃ i, x = .int i ∧ Q (g i) H
section
variable {X : Cx} {a b c : Expr} {ta tb tc : TE} {pos : Pos}
theorem ZSd (ha : PE X a ta) (hb : PE X b tb) {pins : List (Addr × Obj)} {s : Shared} {σ : St} {H : Hp} {R : V → V → Hp → Prop} (I : Inv X pins σ H s)
  (h : ta σ H fun x H1 => tb σ H1 fun y H2 => R x y H2) {Q : Value → Shared → Prop} {f : Value → Value → Sem Value}
  (hf : ∀ v u s2 x y H2, Inv X pins σ H2 s2 → ZFl x v → ZFl y u → R x y H2 → wpAny (model X.prog X.w) X.A (f v u) Q X.xe s2) :
  wpAny (model X.prog X.w) X.A (eval a X.env) (fun v s₁ => wpAny (model X.prog X.w) X.A (eval b X.env) (fun u s₂ => wpAny (model X.prog X.w) X.A (f v u) Q X.xe s₂) X.xe s₁) X.xe s := by
 refine thn (ha pins s σ H _ I h) fun v s1 ⟨x, H1, I1, r1, q1⟩ => ?_
 refine thn (hb pins s1 σ H1 _ I1 q1) fun u s2 ⟨y, H2, I2, r2, q2⟩ => ?_
 exact hf v u s2 x y H2 I2 r1 r2 q2
theorem ZYf {op : Operator} {r : R2} (ho : OpR X (binaryOp op) r) (ha : PE X a ta) (hb : PE X b tb) : PE X (.BinOp a op b pos) (tOp r ta tb) := by
 intro pins s σ H Q I h
 exact wpAny_BinOp (ZSd ha hb I h fun v u s2 x y H2 I2 rx ry q => ho pins s2 σ H2 x y v u Q I2 rx ry q)
theorem ZYg {op : UnaryOp} {r : V → Hp → VK → Prop} (ho : UnR X (unaryOp op) r) (ha : PE X a ta) : PE X (.UnaryOp op a pos) (tUn r ta) := by
 intro pins s σ H Q I h
 exact UnaryOp_ (thn (ha pins s σ H _ I h) fun v s1 ⟨x, H1, I1, r1, q1⟩ => ho pins s1 σ H1 x v Q I1 r1 q1)
theorem opI {f : Value → Value → Sem Value} {C : Int → Int → Prop} {g : Int → Int → Int}
  (rule : ∀ (i j : Int) (t u : Tok) (s : Shared) (Q : Value → Shared → Prop) (E : Value → Shared → Prop), C i j → Q (.int (g i j) s.toks) { s with toks := s.toks + 1 } → wpAny (model X.prog X.w) X.A (f (.int i t) (.int j u)) Q E s) :
  OpR X f (rI C fun i j => .int (g i j)) := by
 intro pins s σ H x y v u Q I rx ry h
 obtain ⟨i, j, rfl, rfl, hc, q⟩ := h
 obtain ⟨t, rfl⟩ := rx
 obtain ⟨t', rfl⟩ := ry
 exact rule i j t t' s _ _ hc ⟨.int (g i j), H, I.tok _, ⟨_, rfl⟩, q⟩
theorem ZSe {f : Value → Value → Sem Value} {g : Int → Int → Int}
  (rule : ∀ (i j : Int) (t u : Tok) (s : Shared) (Q : Value → Shared → Prop) (E : Value → Shared → Prop), Q (.int (g i j) s.toks) { s with toks := s.toks + 1 } → wpAny (model X.prog X.w) X.A (f (.int i t) (.int j u)) Q E s) :
  OpR X f (rI0 fun i j => .int (g i j)) := by
 intro pins s σ H x y v u Q I rx ry h
 obtain ⟨i, j, rfl, rfl, q⟩ := h
 obtain ⟨t, rfl⟩ := rx
 obtain ⟨t', rfl⟩ := ry
 exact rule i j t t' s _ _ ⟨.int (g i j), H, I.tok _, ⟨_, rfl⟩, q⟩
theorem ZP6 {f : Value → Value → Sem Value} {g : Int → Int → Bool}
  (rule : ∀ (i j : Int) (t u : Tok) (s : Shared) (Q : Value → Shared → Prop) (E : Value → Shared → Prop), Q (.bool (g i j)) s → wpAny (model X.prog X.w) X.A (f (.int i t) (.int j u)) Q E s) :
  OpR X f (rI0 fun i j => .bl (g i j)) := by
 intro pins s σ H x y v u Q I rx ry h
 obtain ⟨i, j, rfl, rfl, q⟩ := h
 obtain ⟨t, rfl⟩ := rx
 obtain ⟨t', rfl⟩ := ry
 exact rule i j t t' s _ _ ⟨.bl (g i j), H, I, rfl, q⟩
def ZSf (i j : Int) : Prop := 0 ≤ j ∧ j ≤ 1000000 ∧ i.natAbs < 2 ^ 64
def ZSg (i j : Int) : Prop := (-(2 ^ 64) < i ∧ i < 2 ^ 64) ∨ (-(2 ^ 64) < j ∧ j < 2 ^ 64)
theorem ZSg.ok {i j : Int} (h : ZSg i j) : IntMulOk i j := by
 rcases h with ⟨h1, h2⟩ | ⟨h1, h2⟩
 ·exact .of_left (intBits_le_64 h1 h2)
 ·exact .of_right (intBits_le_64 h1 h2)
theorem ZF9 : OpR X (binaryOp .Add) (rI0 fun i j => .int (i + j)) := ZSe fun _ _ _ _ _ _ _ q => add_int q
theorem ZGk : OpR X (binaryOp .Sub) (rI0 fun i j => .int (i - j)) := ZSe fun _ _ _ _ _ _ _ q => sub_int q
theorem ZIq : OpR X (binaryOp .Mod) (rI (fun _ j => 0 < j) fun i j => .int (i % j)) := opI fun i j _ _ _ _ _ hc q => by
 have h1 : (0 : Int) < j := hc
 exact mod_int' (by omega) (by rw [Int.fmod_eq_emod_of_nonneg i (by omega)]; exact q)
theorem ZIS : OpR X (binaryOp .Pow) (rI ZSf fun i j => .int (i ^ j.toNat)) := opI fun _ _ _ _ _ _ _ hc q => pow_int_small hc.1 hc.2.1 hc.2.2 q
theorem ZPV : OpR X (inplaceOp .Add) (rI0 fun i j => .int (i + j)) := ZSe fun _ _ _ _ _ _ _ q => iadd_int q
theorem ZUx : OpR X (inplaceOp .Mult) (rI ZSg fun i j => .int (i * j)) := opI fun _ _ _ _ _ _ _ hc q => imul_int q hc.ok
theorem unI {f : Value → Sem Value} {g : Int → Int}
  (rule : ∀ (i : Int) (t : Tok) (s : Shared) (Q : Value → Shared → Prop) (E : Value → Shared → Prop), Q (.int (g i) s.toks) { s with toks := s.toks + 1 } → wpAny (model X.prog X.w) X.A (f (.int i t)) Q E s) :
  UnR X f (rU fun i => .int (g i)) := by
 intro pins s σ H x v Q I rx h
 obtain ⟨i, rfl, q⟩ := h
 obtain ⟨t, rfl⟩ := rx
 exact rule i t s _ _ ⟨.int (g i), H, I.tok _, ⟨_, rfl⟩, q⟩
theorem ZIr : UnR X (unaryOp .USub) (rU fun i => .int (-i)) := unI fun _ _ _ _ _ q => neg_int q
end
def ZWr : V → V → Bool
 | .non, .non => true | .non, .int _ => true | .int _, .non => true | .non, .bl _ => true | .bl _, .non => true | .non, .str _ => true | .str _, .non => true
 | .int _, .int _ => true | .bl _, .bl _ => true | .str _, .str _ => true | .byt _, .byt _ => true
 | .int _, .str _ => true | .str _, .int _ => true | .bl _, .str _ => true | .str _, .bl _ => true
 | _, _ => false
def rEq : R2 := fun x y H Q => ZWr x y = true ∧ Q (.bl (decide (x = y))) H
def rNe : R2 := fun x y H Q => ZWr x y = true ∧ Q (.bl (!decide (x = y))) H
theorem ZPW {i j : Int} : decide (V.int i = V.int j) = (i == j) := by
 rw [Bool.eq_iff_iff]
 simp
theorem ZRE {i j : Bool} : decide (V.bl i = V.bl j) = (i == j) := by
 rw [Bool.eq_iff_iff]
 simp
theorem ZPX {i j : Str} : decide (V.str i = V.str j) = (i == j) := by
 rw [Bool.eq_iff_iff]
 simp
theorem ZPY {i j : Array UInt8} : decide (V.byt i = V.byt j) = (i.toList == j.toList) := by
 rw [Bool.eq_iff_iff]
 cases i
 cases j
 simp
section
variable {X : Cx} {a b c : Expr} {ta tb tc : TE} {pos : Pos}
theorem ZFy {pins : List (Addr × Obj)} {σ : St} {H : Hp} {s : Shared} {Q : VK} {k k' : Bool} (I : Inv X pins σ H s) (q : Q (.bl k) H) (e : k = k') : EP X pins σ Q (.bool k') s := by
 subst e
 exact ⟨.bl k, H, I, rfl, q⟩
theorem ZGj : OpR X (compareOp .Eq) rEq := by
 intro pins s σ H x y v u Q I rx ry h
 obtain ⟨hs, q⟩ := h
 cases x with
 | non =>
  cases rx
  cases y with
  | non => cases ry; exact PySem.EqNone.eq_none_none (ZFy I q (by simp))
  | bl j => cases ry; exact PySem.EqNone.eq_none_bool (ZFy I q (by simp))
  | int j => obtain ⟨t', rfl⟩ := ry; exact PySem.EqNone.eq_none_int (ZFy I q (by simp))
  | str j => obtain ⟨t', rfl⟩ := ry; exact PySem.EqNone.eq_none_str (ZFy I q (by simp))
  | _ => exact absurd (show false = true from hs) Bool.false_ne_true
 | bl i =>
  cases rx
  cases y with
  | non => cases ry; exact PySem.EqNone.eq_bool_none (ZFy I q (by simp))
  | bl j => cases ry; exact eq_bool (ZFy I q ZRE)
  | str j => obtain ⟨t', rfl⟩ := ry; exact PySem.EqMixed.eq_bool_str (ZFy I q (by simp))
  | _ => exact absurd (show false = true from hs) Bool.false_ne_true
 | int i =>
  obtain ⟨t, rfl⟩ := rx
  cases y with
  | non => cases ry; exact PySem.EqNone.eq_int_none (ZFy I q (by simp))
  | int j => obtain ⟨t', rfl⟩ := ry; exact eq_int (ZFy I q ZPW)
  | str j => obtain ⟨t', rfl⟩ := ry; exact PySem.EqMixed.eq_int_str (ZFy I q (by simp))
  | _ => exact absurd (show false = true from hs) Bool.false_ne_true
 | str i =>
  obtain ⟨t, rfl⟩ := rx
  cases y with
  | non => cases ry; exact PySem.EqNone.eq_str_none (ZFy I q (by simp))
  | bl j => cases ry; exact PySem.EqMixed.eq_str_bool (ZFy I q (by simp))
  | int j => obtain ⟨t', rfl⟩ := ry; exact PySem.EqMixed.eq_str_int (ZFy I q (by simp))
  | str j => obtain ⟨t', rfl⟩ := ry; exact eq_str (ZFy I q ZPX)
  | _ => exact absurd (show false = true from hs) Bool.false_ne_true
 | byt i =>
  obtain ⟨t, rfl⟩ := rx
  cases y with
  | byt j => obtain ⟨t', rfl⟩ := ry; exact PySem.W.eq_bytes (ZFy I q ZPY)
  | _ => exact absurd (show false = true from hs) Bool.false_ne_true
 | _ => cases y <;> exact absurd (show false = true from hs) Bool.false_ne_true
theorem ZLz : OpR X (compareOp .NotEq) rNe := by
 intro pins s σ H x y v u Q I rx ry h
 obtain ⟨hs, q⟩ := h
 cases x with
 | non =>
  cases rx
  cases y with
  | non => cases ry; exact PySem.EqNone.ne_none_none (ZFy I q (by simp))
  | bl j => cases ry; exact PySem.EqNone.ne_none_bool (ZFy I q (by simp))
  | int j => obtain ⟨t', rfl⟩ := ry; exact PySem.EqNone.ne_none_int (ZFy I q (by simp))
  | str j => obtain ⟨t', rfl⟩ := ry; exact PySem.EqNone.ne_none_str (ZFy I q (by simp))
  | _ => exact absurd (show false = true from hs) Bool.false_ne_true
 | bl i =>
  cases rx
  cases y with
  | non => cases ry; exact PySem.EqNone.ne_bool_none (ZFy I q (by simp))
  | bl j => cases ry; exact ne_bool (ZFy I q (congrArg not ZRE))
  | str j => obtain ⟨t', rfl⟩ := ry; exact PySem.EqMixed.ne_bool_str (ZFy I q (by simp))
  | _ => exact absurd (show false = true from hs) Bool.false_ne_true
 | int i =>
  obtain ⟨t, rfl⟩ := rx
  cases y with
  | non => cases ry; exact PySem.EqNone.ne_int_none (ZFy I q (by simp))
  | int j => obtain ⟨t', rfl⟩ := ry; exact ne_int (ZFy I q (congrArg not ZPW))
  | str j => obtain ⟨t', rfl⟩ := ry; exact PySem.EqMixed.ne_int_str (ZFy I q (by simp))
  | _ => exact absurd (show false = true from hs) Bool.false_ne_true
 | str i =>
  obtain ⟨t, rfl⟩ := rx
  cases y with
  | non => cases ry; exact PySem.EqNone.ne_str_none (ZFy I q (by simp))
  | bl j => cases ry; exact PySem.EqMixed.ne_str_bool (ZFy I q (by simp))
  | int j => obtain ⟨t', rfl⟩ := ry; exact PySem.EqMixed.ne_str_int (ZFy I q (by simp))
  | str j => obtain ⟨t', rfl⟩ := ry; exact ne_str (ZFy I q (congrArg not ZPX))
  | _ => exact absurd (show false = true from hs) Bool.false_ne_true
 | byt i =>
  obtain ⟨t, rfl⟩ := rx
  cases y with
  | byt j => obtain ⟨t', rfl⟩ := ry; exact PySem.W.ne_bytes (ZFy I q (congrArg not ZPY))
  | _ => exact absurd (show false = true from hs) Bool.false_ne_true
 | _ => cases y <;> exact absurd (show false = true from hs) Bool.false_ne_true
theorem ZHs : OpR X (compareOp .Lt) (rI0 fun i j => .bl (decide (i < j))) := ZP6 fun _ _ _ _ _ _ _ q => lt_int q
theorem ZG9 : OpR X (compareOp .LtE) (rI0 fun i j => .bl (decide (i ≤ j))) := ZP6 fun _ _ _ _ _ _ _ q => le_int q
theorem ZNe : OpR X (compareOp .Gt) (rI0 fun i j => .bl (decide (j < i))) := ZP6 fun _ _ _ _ _ _ _ q => gt_int q
theorem ZUR : OpR X (compareOp .GtE) (rI0 fun i j => .bl (decide (j ≤ i))) := ZP6 fun _ _ _ _ _ _ _ q => ge_int q
theorem ZWs : OpR X (compareOp .Is) (fun x y H Q => y = .non ∧ Q (.bl (decide (x = .non))) H) := by
 intro pins s σ H x y v u Q I rx ry h
 obtain ⟨rfl, q⟩ := h
 cases ry
 refine is_none_gen (ZFy I q ?_)
 cases x <;> first
  | (cases rx; rfl)
  | (obtain ⟨t, rfl⟩ := rx; rfl)
theorem ZUy : OpR X (compareOp .IsNot) (fun x y H Q => y = .non ∧ Q (.bl (!decide (x = .non))) H) := by
 intro pins s σ H x y v u Q I rx ry h
 obtain ⟨rfl, q⟩ := h
 cases ry
 refine isnot_none_gen (ZFy I q ?_)
 cases x <;> first
  | (cases rx; rfl)
  | (obtain ⟨t, rfl⟩ := rx; rfl)
theorem ZFm (b : Expr) {op : CmpOp} (h : op ≠ .In := by decide) (h2 : op ≠ .NotIn := by decide) : behindInMarks op b = false := by
 have e1 : (op == CmpOp.In) = false := by cases op <;> first | rfl | exact absurd rfl h
 have e2 : (op == CmpOp.NotIn) = false := by cases op <;> first | rfl | exact absurd rfl h2
 cases b <;> simp [behindInMarks, e1, e2]
theorem ZUz {op : CmpOp} {r : R2} (ho : OpR X (compareOp op) r) (ha : PE X a ta) (hb : PE X b tb) (hm : behindInMarks op b = false) : PE X (.Compare a [op] [b] pos) (tOp r ta tb) := by
 intro pins s σ H Q I h
 exact wpAny_Compare1 (ZSd ha hb I h fun v u s2 x y H2 I2 rx ry q => ho pins s2 σ H2 x y v u Q I2 rx ry q) hm
def ZL0 (t : TE) : TT := fun σ H Q => t σ H fun x H' => ∃ k, x = .bl k ∧ Q k H'
theorem ZU0 {op : CmpOp} {r : R2} (ho : OpR X (compareOp op) r) (ha : PE X a ta) (hb : PE X b tb) (hm : behindInMarks op b = false) : PT X (.Compare a [op] [b] pos) (ZL0 (tOp r ta tb)) := by
 intro pins s σ H Q I h
 refine wpAny_isTrue_Compare1 (thn (ha pins s σ H _ I h) fun v s1 ⟨x, H1, I1, r1, q1⟩ => thn (hb pins s1 σ H1 _ I1 q1) fun u s2 ⟨y, H2, I2, r2, q2⟩ =>
  thn (ho pins s2 σ H2 x y v u _ I2 r1 r2 q2) fun c s3 ⟨z, H3, I3, r3, k, e, q3⟩ => ?_) hm
 subst e
 cases r3
 exact wpAny_truthy_bool ⟨H3, I3, q3⟩
def ZKN (r r' : R2) (ta tb tc : TE) : TE := fun σ H Q => ta σ H fun x H1 => tb σ H1 fun y H2 => r x y H2 fun z H3 => ∃ k, z = .bl k ∧
 (if k = true then tc σ H3 fun w' H4 => r' y w' H4 Q else Q (.bl false) H3)
theorem ZSh {op op' : CmpOp} {r r' : R2} (ho : OpR X (compareOp op) r) (ho' : OpR X (compareOp op') r') (ha : PE X a ta) (hb : PE X b tb) (hc : PE X c tc)
  (hm : lastMarks [op, op'] [b, c] = false := by with_unfolding_all rfl) : PE X (.Compare a [op, op'] [b, c] pos) (ZKN r r' ta tb tc) := by
 intro pins s σ H Q I h
 refine Compare_chain (thn (ha pins s σ H _ I h) fun v s1 ⟨x, H1, I1, r1, q1⟩ => chain_link (thn (hb pins s1 σ H1 _ I1 q1) fun u s2 ⟨y, H2, I2, r2, q2⟩ =>
  thn (ho pins s2 σ H2 x y v u _ I2 r1 r2 q2) fun d s3 ⟨z, H3, I3, r3, k, e, q3⟩ => ?_)) hm
 subst e
 cases r3
 refine wpAny_truthy_bool ?_
 cases k with
 | false => exact ite_ff ⟨.bl false, H3, I3, rfl, q3⟩
 | true => exact ite_tt (chain_last (thn (hc pins s3 σ H3 _ I3 q3) fun w' s4 ⟨z', H4, I4, r4, q4⟩ => ho' pins s4 σ H4 y z' u w' Q I4 r2 r4 q4))
theorem ZSi {op op' : CmpOp} {r r' : R2} (ho : OpR X (compareOp op) r) (ho' : OpR X (compareOp op') r') (ha : PE X a ta) (hb : PE X b tb) (hc : PE X c tc)
  (hm : lastMarks [op, op'] [b, c] = false := by with_unfolding_all rfl) : PT X (.Compare a [op, op'] [b, c] pos) (ZL0 (ZKN r r' ta tb tc)) := by
 intro pins s σ H Q I h
 refine isTrue_chain (thn (ha pins s σ H _ I h) fun v s1 ⟨x, H1, I1, r1, q1⟩ => test_link (thn (hb pins s1 σ H1 _ I1 q1) fun u s2 ⟨y, H2, I2, r2, q2⟩ =>
  thn (ho pins s2 σ H2 x y v u _ I2 r1 r2 q2) fun d s3 ⟨z, H3, I3, r3, k, e, q3⟩ => ?_)) hm
 subst e
 cases r3
 refine wpAny_truthy_bool ?_
 cases k with
 | false =>
  obtain ⟨k', e', q'⟩ := q3
  cases e'
  exact ite_ff ⟨H3, I3, q'⟩
 | true =>
  refine ite_tt (test_last (thn (hc pins s3 σ H3 _ I3 q3) fun w' s4 ⟨z', H4, I4, r4, q4⟩ => thn (ho' pins s4 σ H4 y z' u w' _ I4 r2 r4 q4) fun d' s5 ⟨z2, H5, I5, r5, k2, e2, q5⟩ => ?_))
  subst e2
  cases r5
  exact wpAny_truthy_bool ⟨H5, I5, q5⟩
theorem ZJd : (sizeLine : Nat) < 2 ^ 63 := by rw [sizeLine_eq]; decide
theorem ZP7 : OpR X (binaryOp .Add) (fun x y H Q => ∃ i j, x = .str i ∧ y = .str j ∧ i.length + j.length ≤ sizeLine ∧ Q (.str (i ++ j)) H) := by
 intro pins s σ H x y v u Q I rx ry h
 obtain ⟨i, j, rfl, rfl, hz, q⟩ := h
 obtain ⟨t, rfl⟩ := rx
 obtain ⟨t', rfl⟩ := ry
 exact add_str (fun t' tk => ⟨.str (i ++ j), H, I.tok _, ⟨_, rfl⟩, q⟩) hz
theorem ZNf {x : V} {us : List Value} (r : ZFj [x] us) : ∃ u, us = [u] ∧ ZFl x u := by
 cases r with
 | cons r1 r2 => cases r2; exact ⟨_, rfl, r1⟩
theorem ZUS {x y : V} {us : List Value} (r : ZFj [x, y] us) : ∃ u w', us = [u, w'] ∧ ZFl x u ∧ ZFl y w' := by
 cases r with
 | cons r1 r2 =>
  cases r2 with
  | cons r3 r4 => cases r4; exact ⟨_, _, rfl, r1, r3⟩
theorem ZSj : ZF5 X (.builtin "abs") (fun xs H Q => ∃ i, xs = [.int i] ∧ Q (.int (if i < 0 then -i else i)) H) := by
 intro pins s σ H xs us Q I r h
 obtain ⟨i, rfl, q⟩ := h
 obtain ⟨u, rfl, t, rfl⟩ := ZNf r
 exact call_abs_int fun u tk => ⟨.int (if i < 0 then -i else i), H, I.tok _, ⟨_, rfl⟩, q⟩
theorem ZRF (hc : X.calm = true) : ZF5 X (.builtin "max") (fun xs H Q => ∃ i j, xs = [.int i, .int j] ∧ Q (.int (if j > i then j else i)) H) := by
 intro pins s σ H xs us Q I r h
 obtain ⟨i, j, rfl, q⟩ := h
 obtain ⟨u, w', rfl, ⟨t, rfl⟩, ⟨t', rfl⟩⟩ := ZUS r
 refine max_two_ints (I.ok.hd hc) fun h' tk k => ⟨_, H, I.kept k, ?_, q⟩
 by_cases hj : j > i
 ·rw [if_pos hj, if_pos hj]; exact ⟨_, rfl⟩
 ·rw [if_neg hj, if_neg hj]; exact ⟨_, rfl⟩
theorem ZRG (hc : X.calm = true) : ZF5 X (.builtin "min") (fun xs H Q => ∃ i j, xs = [.int i, .int j] ∧ Q (.int (if j < i then j else i)) H) := by
 intro pins s σ H xs us Q I r h
 obtain ⟨i, j, rfl, q⟩ := h
 obtain ⟨u, w', rfl, ⟨t, rfl⟩, ⟨t', rfl⟩⟩ := ZUS r
 refine min_two_ints (I.ok.hd hc) fun h' tk k => ⟨_, H, I.kept k, ?_, q⟩
 by_cases hj : j < i
 ·rw [if_pos hj, if_pos hj]; exact ⟨_, rfl⟩
 ·rw [if_neg hj, if_neg hj]; exact ⟨_, rfl⟩
end
structure ZLU (h : Heap) (x dx C : Addr) (mA : Str → Option Value) : Prop where
 obj : h.get? x = some (PySem.W.instObj C dx)
 ns : h.Ns1 dx mA
 ne : dx ≠ x
theorem ZRH {h : Heap} {dx : Addr} {mA : Str → Option Value} (n : h.Ns1 dx mA) : ∃ od, h.get? dx = some od ∧ ∀ name, PySem.W.lookIn name od = some (mA name) := by
 obtain ⟨o, es, ep, ho, hd, hk, _, hm⟩ := n
 refine ⟨o, ho, fun name => ?_⟩
 have e := hm name
 unfold nsFind findBy at e
 rw [← Array.find?_toList] at e
 unfold PySem.W.lookIn
 rw [hd]
 dsimp only
 split
 ·rename_i y q
  rw [q] at e
  exact congrArg some e
 ·rename_i q
  rw [q] at e
  have a : es.toList.any (·.refKey) = false := by
   rw [List.any_eq_false]
   intro y hy
   obtain ⟨z, t, hkey⟩ := hk y (Array.mem_toList_iff.mp hy)
   simp [DictEntry.refKey, hkey]
  have a' : ¬ es.toList.any (·.refKey) = true := by rw [a]; exact Bool.false_ne_true
  rw [if_neg a']
  exact congrArg some e
theorem ZLU.look {h : Heap} {x dx C : Addr} {mA : Str → Option Value} (I : ZLU h x dx C mA) : ∃ od, PySem.W.InstAt h x (PySem.W.instObj C dx) C (some od) ∧ ∀ name, PySem.W.lookIn name od = some (mA name) :=
 let ⟨od, ho, hl⟩ := ZRH I.ns
 ⟨od, ⟨I.obj, rfl, rfl, ho⟩, hl⟩
section
variable {prog : Program} {w : World} {A : Around} {E : Value → Shared → Prop} {s : Shared} {K : W.Frag} {x dx C f : Addr} {mA : Str → Option Value} {name : Str} {v : Value}
theorem ZU1 {expr : Bool} {Q : Value → Shared → Prop} (X : K.In s.heap) (I : ZLU s.heap x dx C mA) (hg : PySem.W.plainGet K C name = true) (hh : PySem.W.hasDictIn K C = true)
  (ha : W.findIn K (.ref C) name = some none) (hv : mA name = some v) (hv' : PySem.W.handedIn v = true) (h : Q v { s with toks := s.toks + 1 }) :
  wpAny (model prog w) A (getAttr (.ref x) name expr) Q E s := by
 obtain ⟨od, J, hl⟩ := I.look
 exact PySem.W.get_value X J (PySem.W.plainGet_of hg).1 (PySem.W.findObj_own hh ha rfl (by rw [hl, hv])) hv' h
theorem ZSk {pl : Sem Bool} {Q : Value × List Value → Shared → Prop} (X : K.In s.heap) (I : ZLU s.heap x dx C mA) (hg : PySem.W.plainGet K C name = true)
  (hf : W.findIn K (.ref C) name = some (some (.ref f))) (ht : PySem.W.isFn K (.ref f) = true) (hv : mA name = none) (h : Q (.ref f, [.ref x]) s) :
  wpAny (model prog w) A (getMethod (.ref x) name pl) Q E s := by
 obtain ⟨od, J, hl⟩ := I.look
 exact PySem.W.method_fn X J (PySem.W.plainGet_of hg).1 (PySem.W.plainGet_of hg).2 hf (beq_iff_eq.mp ht) (by show (PySem.W.lookIn name od).map (·.isSome) = some false; rw [hl, hv]; rfl) h
theorem ZU2 {ns : List Str} {Q : Unit → Shared → Prop} (X : K.In s.heap) (I : ZLU s.heap x dx C mA)
  (hs : W.findIn K (.ref C) "__setattr__" = some (some (.builtin "object.__setattr__"))) (hp : PySem.W.plainOver K C = true) (ht : PySem.W.takerIn K C name = some none) (hh : PySem.W.hasDictIn K C = true)
  (hw : PySem.Within mA ns) (hsz : ns.length ≤ sizeLine)
  (h : ∀ h', ZLU h' x dx C (fun y => if y = name then some v else mA y) → Heap.SameBut dx s.heap h' → Q () { s with heap := h', toks := s.toks + 2 }) :
  wpAny (model prog w) A (setAttr (.ref x) name v) Q E s := by
 obtain ⟨od, J, hl⟩ := I.look
 refine PySem.W.set_plain X J hs (PySem.W.osa_open (s := { s with toks := s.toks + 1 }) (r := none) X J hp ht fun b => ?_)
 obtain ⟨cd, hc, hd'⟩ := PySem.W.any_some hh
 have hx : s.heap.get? x = some ⟨.ref C, some dx, .plain, #[]⟩ := I.obj
 refine wpAny_bind (wpAny_pure (wpAny_bind (wpAny_bind (wpAny_loadPart hx (wpAny_bind (PySem.W.Looks.here (s := { s with toks := s.toks + 1 }) (PySem.W.looks_clsIn X hc) ?_))))))
 rw [hd']
 refine wpAny_pure (a := some dx) (wpAny_bind (wpAny_pure (wpAny_bind ?_)))
 refine wpAny_nsSet1 (s := { s with toks := s.toks + 1 }) I.ns fun h' hn2 hs2 => ?_
 obtain ⟨oD, esD, epD, hoD, hdD, hcD⟩ := hn2.count (PySem.Within.cons name v hw)
 refine wpAny_bind (wpAny_lookBehind hoD (by rw [hdD]; exact pastItsLine_dict (Nat.le_trans hcD (by rw [List.length_cons]; omega))) ?_)
 exact wpAny_pure (h _ ⟨(hs2.2 _ (Ne.symm I.ne)).trans I.obj, hn2, I.ne⟩ hs2)
theorem ZSl {R : Result → Shared → Prop} {vs : List Value} {kw : List (Str × Value)} (X : K.In s.heap) (hm : PySem.W.makesIn K C = true)
  (hi : W.findIn K (.ref C) "__init__" = some (some (.ref f))) (hf : PySem.W.typeIn K (.ref f) = some (.type "function"))
  (h : codeAny (model prog w) (A.under (.builtin "type.__call__" ⟨.ref C :: vs, kw⟩)) (.call (.ref f) ⟨.ref (s.heap.objs.size + 1) :: vs, kw⟩) (PySem.W.InitBack (s.heap.objs.size + 1) R)
   { s with heap := (s.heap.push PySem.W.emptyDict).push (PySem.W.instObj C s.heap.objs.size) }) :
  codeAny (model prog w) A (.call (.ref C) ⟨vs, kw⟩) R s := by
 obtain ⟨hh, g, d, t, os⟩ := s
 exact PySem.W.make_core (PySem.W.makes_of X hm) (PySem.W.looks_findIn X hi) (fun self => PySem.W.bind_fn X self hf) (.inl rfl) h
end
def ZF6 (f : Str) (v : V) : List (Str × V) → List (Str × V)
 | [] => [(f, v)]
 | (g, x) :: r => if g = f then (g, v) :: r else (g, x) :: ZF6 f v r
theorem ZLM (f g : Str) (v : V) : ∀ fs : List (Str × V), (ZF6 f v fs).lookup g = if g = f then some v else fs.lookup g
 | [] => by
  show List.lookup g [(f, v)] = _
  by_cases h : g = f
  ·have hb : (g == f) = true := beq_iff_eq.mpr h
   simp only [List.lookup, hb, if_pos h]
  ·have hb : (g == f) = false := beq_eq_false_iff_ne.mpr h
   simp only [List.lookup, hb, if_neg h]
 | (k, x) :: r => by
  have ih := ZLM f g v r
  rw [show ZF6 f v ((k, x) :: r) = (if k = f then (k, v) :: r else (k, x) :: ZF6 f v r) from rfl]
  by_cases hk : k = f
  ·rw [if_pos hk]
   by_cases h : g = k
   ·have hb : (g == k) = true := beq_iff_eq.mpr h
    simp only [List.lookup, hb, if_pos (h.trans hk)]
   ·have hb : (g == k) = false := beq_eq_false_iff_ne.mpr h
    simp only [List.lookup, hb, if_neg (fun e : g = f => h (e.trans hk.symm))]
  ·rw [if_neg hk]
   by_cases h : g = k
   ·have hb : (g == k) = true := beq_iff_eq.mpr h
    simp only [List.lookup, hb, if_neg (fun e : g = f => hk (h.symm.trans e))]
   ·have hb : (g == k) = false := beq_eq_false_iff_ne.mpr h
    simp only [List.lookup, hb]
    exact ih
theorem ZKO (f : Str) (v : V) : ∀ fs : List (Str × V), f ∈ (ZF6 f v fs).map (·.1) ∧ ∀ g, g ∈ fs.map (·.1) → g ∈ (ZF6 f v fs).map (·.1)
 | [] => ⟨by simp [ZF6], fun g h => by simp at h⟩
 | (k, x) :: r => by
  obtain ⟨i1, i2⟩ := ZKO f v r
  rw [show ZF6 f v ((k, x) :: r) = (if k = f then (k, v) :: r else (k, x) :: ZF6 f v r) from rfl]
  by_cases hk : k = f
  ·rw [if_pos hk]
   subst hk
   exact ⟨by simp, fun g h => by simpa using h⟩
  ·rw [if_neg hk]
   refine ⟨?_, fun g h => ?_⟩
   ·rw [List.map_cons]
    exact List.mem_cons_of_mem _ i1
   ·rw [List.map_cons] at h ⊢
    rcases List.mem_cons.mp h with e | e
    ·exact List.mem_cons.mpr (.inl e)
    ·exact List.mem_cons_of_mem _ (i2 g e)
theorem ZLN (f : Str) (v : V) : ∀ fs : List (Str × V), (ZF6 f v fs).length ≤ fs.length + 1
 | [] => by simp [ZF6]
 | (k, x) :: r => by
  have ih := ZLN f v r
  rw [show ZF6 f v ((k, x) :: r) = (if k = f then (k, v) :: r else (k, x) :: ZF6 f v r) from rfl]
  by_cases hk : k = f
  ·rw [if_pos hk, List.length_cons, List.length_cons]; omega
  ·rw [if_neg hk, List.length_cons, List.length_cons]; omega
theorem ZHJ.some_of {v : V} {o : Option Value} (r : ZHJ (some v) o) : ∃ u, o = some u ∧ ZFl v u := by
 cases o with
 | none => exact (show False from r).elim
 | some u => exact ⟨u, rfl, r⟩
theorem ZHJ.none_of {o : Option Value} (r : ZHJ none o) : o = none := by
 cases o with
 | none => rfl
 | some u => exact (show False from r).elim
theorem ZRI {v : V} {u : Value} (r : ZFl v u) : PySem.W.handedIn u = true := by
 cases v with
 | non => cases (show u = Value.none from r); rfl
 | bl b => cases (show u = Value.bool b from r); rfl
 | int i => obtain ⟨t, e⟩ := (show ∃ t, u = Value.int i t from r); cases e; rfl
 | str x => obtain ⟨t, e⟩ := (show ∃ t, u = Value.str x t from r); cases e; rfl
 | byt b => obtain ⟨t, e⟩ := (show ∃ t, u = Value.bytes b t from r); cases e; rfl
 | flt b => obtain ⟨t, e⟩ := (show ∃ t, u = Value.float b t from r); cases e; rfl
 | ref a => cases (show u = Value.ref a from r); rfl
 | ty n => cases (show u = Value.type n from r); rfl
section
variable {P : Program} {w : World} {H H' : Hp} {h h' : Heap} {a C dx : Addr} {fs fs' : List (Str × V)}
theorem ZKz (hok : HOk P w H h) (e : H a = some (.ins C dx fs)) : ∃ mA, ZLU h a dx C mA ∧ (∀ f, ZHJ (fs.lookup f) (mA f)) ∧ PySem.Within mA (fs.map (·.1)) ∧ fs.length ≤ 1000 ∧ H dx = some (.own a) := by
 obtain ⟨d, z, ne, ob, mA, n, r, q⟩ := (show ZFz P w H h a (.ins C dx fs) from hok a _ e)
 exact ⟨mA, ⟨ob, n, ne⟩, r, q, z, d⟩
end
structure Cls (K : W.Frag) (C : Addr) : Prop where
 pg : PySem.W.plainGet K C Str.empty = true
 hd : PySem.W.hasDictIn K C = true
 po : PySem.W.plainOver K C = true
 sa : W.findIn K (.ref C) "__setattr__" = some (some (.builtin "object.__setattr__"))
theorem Cls.get {K : W.Frag} {C : Addr} (c : Cls K C) (f : Str) : PySem.W.plainGet K C f = true := c.pg
def ZGU (K : W.Frag) (C : Addr) (f : Str) : Prop := W.findIn K (.ref C) f = some none
theorem ZGU.taker {K : W.Frag} {C : Addr} {f : Str} (n : ZGU K C f) : PySem.W.takerIn K C f = some none := by
 unfold PySem.W.takerIn
 rw [show W.findIn K (.ref C) f = some none from n]
 rfl
structure ZGa (K : W.Frag) (C : Addr) (m : Str) (f : Addr) : Prop where
 at_ : W.findIn K (.ref C) m = some (some (.ref f))
 fn : PySem.W.isFn K (.ref f) = true
 kp : W.keepIn K (.ref f) = true
section
variable {X : Cx} {pins : List (Addr × Obj)} {σ : St} {H : Hp} {s : Shared} {a C dx : Addr} {fs : List (Str × V)} {f : Str} {v : V} {A : Around} {E : Value → Shared → Prop}
theorem ZL1 {b : Bool} {Q : Value → Shared → Prop} (I : Inv X pins σ H s) (e : H a = some (.ins C dx fs)) (c : Cls X.K C) (n : ZGU X.K C f) (l : fs.lookup f = some v)
  (h : ∀ u s', Inv X pins σ H s' → ZFl v u → Q u s') : wpAny (model X.prog X.w) A (getAttr (.ref a) f b) Q E s := by
 obtain ⟨mA, O, r, _, _, _⟩ := ZKz I.hok e
 obtain ⟨u, hu, ru⟩ := ZHJ.some_of (v := v) (o := mA f) (by rw [← l]; exact r f)
 exact ZU1 I.kIn O (c.get f) c.hd n hu (ZRI ru) (h u _ (I.tok _) ru)
theorem ZJt {m : Str} {g : Addr} {pl : Sem Bool} {Q : Value × List Value → Shared → Prop} (I : Inv X pins σ H s) (e : H a = some (.ins C dx fs)) (c : Cls X.K C) (k : ZGa X.K C m g) (l : fs.lookup m = none)
  (h : Q (.ref g, [.ref a]) s) : wpAny (model X.prog X.w) A (getMethod (.ref a) m pl) Q E s := by
 obtain ⟨mA, O, r, _, _, _⟩ := ZKz I.hok e
 have hn : mA m = none := ZHJ.none_of (by rw [← l]; exact r m)
 exact ZSk I.kIn O (c.get m) k.at_ k.fn hn h
theorem ZL2 {y : V} {u : Value} {Q : Unit → Shared → Prop} (I : Inv X pins σ H s) (e : H a = some (.ins C dx fs)) (c : Cls X.K C) (n : ZGU X.K C f) (hl : fs.length < 1000) (ry : ZFl y u)
  (h : ∀ s', Inv X pins σ (upd H a (.ins C dx (ZF6 f y fs))) s' → Q () s') : wpAny (model X.prog X.w) A (setAttr (.ref a) f u) Q E s := by
 obtain ⟨mA, O, r, wi, _, ho⟩ := ZKz I.hok e
 have hz : (fs.map (·.1)).length ≤ sizeLine := by rw [List.length_map, sizeLine_eq]; omega
 refine ZU2 I.kIn O c.sa c.po n.taker c.hd wi hz fun h' O' sb => h _ ?_
 have hd : ∃ o, h'.get? dx = some o := let ⟨o, _, _, e', _⟩ := O'.ns; ⟨o, e'⟩
 refine I.write (x := a) (e := dx) (by rw [e]; exact True.intro) (.inr ho) (fun b q hb z => (sb.2 b hb).trans z) hd ?_
 refine ⟨by rw [ZFg O.ne]; exact ho, ?_, O.ne, O'.obj, _, O'.ns, fun g => ?_, fun g hg => ?_⟩
 ·have := ZLN f y fs; omega
 ·show ZHJ ((ZF6 f y fs).lookup g) (if g = f then some u else mA g)
  rw [ZLM]
  by_cases q : g = f
  ·rw [if_pos q, if_pos q]; exact ry
  ·rw [if_neg q, if_neg q]; exact r g
 ·by_cases q : g = f
  ·rw [q]; exact (ZKO f y fs).1
  ·refine (ZKO f y fs).2 g (wi g fun z => hg ?_)
   show (if g = f then some u else mA g) = none
   rw [if_neg q]; exact z
theorem Inv.made (I : Inv X pins σ H s) : Inv X pins σ (upd (upd H s.heap.objs.size (.own (s.heap.objs.size + 1))) (s.heap.objs.size + 1) (.ins C s.heap.objs.size []))
  { s with heap := (s.heap.push PySem.W.emptyDict).push (PySem.W.instObj C s.heap.objs.size) } := by
 have e1 : (s.heap.push PySem.W.emptyDict).get? s.heap.objs.size = some PySem.W.emptyDict := Heap.get?_push_size s.heap rfl
 have e2 : ((s.heap.push PySem.W.emptyDict).push (PySem.W.instObj C s.heap.objs.size)).get? (s.heap.objs.size + 1) = some (PySem.W.instObj C s.heap.objs.size) := by
  have := Heap.get?_push_size (s.heap.push PySem.W.emptyDict) (o := PySem.W.instObj C s.heap.objs.size) rfl
  rwa [Heap.size_push] at this
 have e3 : (s.heap.push PySem.W.emptyDict).Ns s.heap.objs.size (fun _ => none) := ⟨PySem.W.emptyDict, #[], _, e1, rfl, (fun e he => absurd he (by simp)), fun _ => rfl⟩
 have I1 := I.laid (a := s.heap.objs.size) (o := .own (s.heap.objs.size + 1)) (h' := s.heap.push PySem.W.emptyDict) (t' := s.toks) (fun b u q => Heap.get?_push_of_some _ q) (Nat.le_refl _) ⟨_, e1⟩
 refine I1.laid (a := s.heap.objs.size + 1) (o := .ins C s.heap.objs.size []) (t' := s.toks) (fun b u q => Heap.get?_push_of_some _ q) (Nat.le_of_eq (Heap.size_push _ _)) ?_
 have ne : s.heap.objs.size ≠ s.heap.objs.size + 1 := Nat.ne_of_lt (Nat.lt_succ_self _)
 refine ⟨by rw [ZFg ne, ZFf], Nat.zero_le _, ne, e2, fun _ => none, (Heap.Ns1.of_empty e3).at fun o q => Heap.get?_push_of_some _ q, fun _ => True.intro, fun y hy => absurd rfl hy⟩
theorem ZU3 {prog : Program} {w : World} {env : Env} {e : Expr} {f : Str} {pos : Pos} {s : Shared} {Q : Value → Shared → Prop} (hb : attributeBase e f env (eval e env) = eval e env)
  (h : wpAny (model prog w) A (eval e env) (fun o s₁ => wpAny (model prog w) A (getAttr o f true) Q E s₁) E s) : wpAny (model prog w) A (eval (.Attribute e f pos) env) Q E s :=
 Attribute_any_ h (by rw [arm_eval_Attribute, hb])
end
def ZSm (K : W.Frag) (ta : TE) (f : Str) : TE := fun σ H Q => ta σ H fun x H1 => ∃ a C dx fs v, x = .ref a ∧ H1 a = some (.ins C dx fs) ∧ Cls K C ∧ ZGU K C f ∧ fs.lookup f = some v ∧ Q v H1
def ZSn (K : W.Frag) (ta tv : TE) (f : Str) : TS := fun D σ H => tv σ H fun y H1 => ta σ H1 fun x H2 => ∃ a C dx fs, x = .ref a ∧ H2 a = some (.ins C dx fs) ∧ Cls K C ∧ ZGU K C f ∧ fs.length < 1000 ∧
 D.nx σ (upd H2 a (.ins C dx (ZF6 f y fs)))
def ZWt (X : Cx) (op : Operator) (rd : V → V → Hp → VK → Prop) : Prop :=
 ∀ (pins : List (Addr × Obj)) (s : Shared) (σ : St) (H : Hp) (x y : V) (u v : Value) (Q : VK), Inv X pins σ H s → ZFl x u → ZFl y v → rd x y H Q → wpAny (model X.prog X.w) X.A (inplaceOp op u v) (EP X pins σ Q) X.xe s
def ZMR (K : W.Frag) (ta tv : TE) (rd : V → V → Hp → VK → Prop) (f : Str) : TS := fun D σ H => ta σ H fun x H1 => ∃ a C dx fs v, x = .ref a ∧ H1 a = some (.ins C dx fs) ∧ Cls K C ∧ ZGU K C f ∧ fs.lookup f = some v ∧
 tv σ H1 fun y H2 => rd v y H2 fun z H3 => ∃ dx' fs', H3 a = some (.ins C dx' fs') ∧ fs'.length < 1000 ∧ D.nx σ (upd H3 a (.ins C dx' (ZF6 f z fs')))
section
variable {X : Cx} {o e value : Expr} {f : Str} {pos pos' tpos : Pos} {ta tv : TE}
theorem ZWu (he : PE X e ta) (hb : attributeBase e f X.env (eval e X.env) = eval e X.env) : PE X (.Attribute e f pos) (ZSm X.K ta f) := by
 intro pins s σ H Q I h
 refine ZU3 hb (thn (he pins s σ H _ I h) fun u s1 ⟨x, H1, I1, rx, a, C, dx, fs, v, ex, ea, c, n, l, q⟩ => ?_)
 subst ex
 obtain rfl : u = Value.ref a := rx
 exact ZL1 I1 ea c n l fun u' s2 I2 ru => ⟨v, H1, I2, ru, q⟩
theorem ZWv (ha : PE X o ta) (hv : PE X value tv) (hs : swapsWith value (some (.Attribute o f pos')) pos.line X.env = pure false) : PS X (.Assign [.Attribute o f pos'] value pos) (ZSn X.K ta tv f) := by
 intro pins s σ H D I h
 refine plainObj_wpAny_Assign_Attribute (thn (hv pins s σ H _ I h) fun u s1 ⟨y, H1, I1, ry, q⟩ => thn (ha pins s1 σ H1 _ I1 q) fun ov s2 ⟨x, H2, I2, rx, a, C, dx, fs, ex, ea, c, n, l, q2⟩ => ?_) hs
 subst ex
 obtain rfl : ov = Value.ref a := rx
 exact ZL2 I2 ea c n l ry fun s3 I3 => ⟨σ, _, I3, q2⟩
theorem ZRJ {op : Operator} {rd : V → V → Hp → VK → Prop} (ha : PE X o ta) (hv : PE X value tv) (hop : ZWt X op rd) : PS X (.AugAssign (.Attribute o f tpos) op value pos) (ZMR X.K ta tv rd f) := by
 intro pins s σ H D I h
 refine wpAny_AugAssign_AttributeAny (thn (ha pins s σ H _ I h) fun ov s1 ⟨x, H1, I1, rx, a, C, dx, fs, v, ex, ea, c, n, l, q⟩ => ?_)
 subst ex
 obtain rfl : ov = Value.ref a := rx
 refine ZL1 I1 ea c n l fun u s2 I2 ru => thn (hv pins s2 σ H1 _ I2 q) fun w3 s3 ⟨y, H2, I3, ry, q3⟩ => thn (hop pins s3 σ H2 v y u w3 _ I3 ru ry q3) fun w4 s4 ⟨z, H3, I4, rz, dx', fs', ea', l', q4⟩ => ?_
 exact ZL2 I4 ea' c n l' rz fun s5 I5 => ⟨σ, _, I5, q4⟩
def ZNo : V → V → Hp → VK → Prop := fun x y H Q => ∃ i j, x = .int i ∧ y = .int j ∧ Q (.int (i + j)) H
theorem ZWw : ZWt X .Add ZNo := by
 rintro pins s σ H x y u v Q I rx ry ⟨i, j, rfl, rfl, q⟩
 obtain ⟨t, rfl⟩ := (show ∃ t, u = Value.int i t from rx)
 obtain ⟨t', rfl⟩ := (show ∃ t', v = Value.int j t' from ry)
 exact PyProof.Rows.iadd_int ⟨.int (i + j), H, I.tok _, ⟨_, rfl⟩, q⟩
end
section
variable {X : Cx} {pins : List (Addr × Obj)} {σ : St} {H : Hp} {s : Shared} {A : Around} {E : Value → Shared → Prop} {Q : Value → Shared → Prop} {c : Value} {b : Bool}
inductive ZHt (K : W.Frag) (H : Hp) : V → Value → Prop where
 | non : ZHt K H .non (.type "NoneType")
 | bl (x : Bool) : ZHt K H (.bl x) (.type "bool")
 | int (i : Int) : ZHt K H (.int i) (.type "int")
 | str (x : Str) : ZHt K H (.str x) (.type "str")
 | flt (x : UInt64) : ZHt K H (.flt x) (.type "float")
 | lst {a : Addr} {xs : List V} (e : H a = some (.lst xs)) : ZHt K H (.ref a) (.type "list")
 | frz {a : Addr} {o : Obj} {xs : List V} (e : H a = some (.frz o (.lst xs))) : ZHt K H (.ref a) (.type "list")
 | tup {a : Addr} {xs : List V} (e : H a = some (.tup xs)) : ZHt K H (.ref a) (.type "tuple")
 | dK {a : Addr} {kvs : List (Key × V)} (e : H a = some (.dK kvs)) : ZHt K H (.ref a) (.type "dict")
 | dT {a : Addr} {kvs : List (List Key × V)} (e : H a = some (.dT kvs)) : ZHt K H (.ref a) (.type "dict")
 | ins {a C dx : Addr} {fs : List (Str × V)} (e : H a = some (.ins C dx fs)) (cl : Cls K C) (ha : W.findIn K (.ref C) "__class__" = some (some (.builtin "object.__class__")))
  (hn : PySem.W.specialIn K (.builtin "object.__class__") "__get__" = some (some (.builtin "getset_descriptor.__get__"))) (htk : PySem.W.takesIn K (.builtin "object.__class__") = some true)
  (hm : PySem.W.mroIn K C (.type "object") = some true) : ZHt K H (.ref a) (.ref C)
theorem ZRK {x : V} {u t : Value} (I : Inv X pins σ H s) (rx : ZFl x u) (ty : ZHt X.K H x t) (e : W.kitOne X.K t c = some b) (h : ∀ tk, Q (.bool b) { s with toks := tk }) :
  wpAny (model X.prog X.w) A (call (.builtin "isinstance") [u, c]) Q E s := by
 cases ty with
 | non => cases (show u = Value.none from rx); exact PySem.W.kia_one PySem.W.kitx_none I.kIn True.intro e (fun z => nomatch z) h
 | bl y => cases (show u = Value.bool y from rx); exact PySem.W.kia_one PySem.W.kitx_bool I.kIn True.intro e (fun z => nomatch z) h
 | int i => obtain ⟨t, q⟩ := (show ∃ t, u = Value.int i t from rx); cases q; exact PySem.W.kia_one PySem.W.kitx_int I.kIn True.intro e (fun z => nomatch z) h
 | str y => obtain ⟨t, q⟩ := (show ∃ t, u = Value.str y t from rx); cases q; exact PySem.W.kia_one PySem.W.kitx_str I.kIn True.intro e (fun z => nomatch z) h
 | flt y => obtain ⟨t, q⟩ := (show ∃ t, u = Value.float y t from rx); cases q; exact PySem.W.kia_one PySem.W.kitx_float I.kIn True.intro e (fun z => nomatch z) h
 | @lst a xs ea =>
  cases (show u = Value.ref a from rx)
  obtain ⟨_, _, n, _, h1⟩ := (show ZFz X.prog X.w H s.heap a (.lst xs) from I.hok a _ ea)
  exact PySem.W.kia_one PySem.W.kitx_list I.kIn ⟨_, h1, rfl⟩ e (fun z => nomatch z) h
 | @frz a ob xs ea =>
  cases (show u = Value.ref a from rx)
  obtain ⟨_, _, _, n, _, h1⟩ := (show ZFz X.prog X.w H s.heap a (.frz ob (.lst xs)) from I.hok a _ ea)
  exact PySem.W.kia_one PySem.W.kitx_list I.kIn ⟨_, h1, rfl⟩ e (fun z => nomatch z) h
 | @tup a xs ea =>
  cases (show u = Value.ref a from rx)
  obtain ⟨_, _, _, p⟩ := (show ZFz X.prog X.w H s.heap a (.tup xs) from I.hok a _ ea)
  obtain ⟨o, h1, h2, _⟩ := p
  exact PySem.W.kia_one PySem.W.kitx_tuple I.kIn ⟨o, h1, h2⟩ e (fun z => nomatch z) h
 | @dK a kvs ea =>
  cases (show u = Value.ref a from rx)
  obtain ⟨_, _, vs, _, p⟩ := (show ZFz X.prog X.w H s.heap a (.dK kvs) from I.hok a _ ea)
  obtain ⟨o, es, ep, h1, h2, _⟩ := p
  exact PySem.W.kia_one PySem.W.kitx_dict I.kIn ⟨o, h1, h2.1⟩ e (fun z => nomatch z) h
 | @dT a kvs ea =>
  cases (show u = Value.ref a from rx)
  obtain ⟨_, _, xs, _, o, es, ep, h1, h2, _⟩ := (show ZFz X.prog X.w H s.heap a (.dT kvs) from I.hok a _ ea)
  exact PySem.W.kia_one PySem.W.kitx_dict I.kIn ⟨o, h1, h2.1⟩ e (fun z => nomatch z) h
 | @ins a C dx fs ea cl ha hn htk hm =>
  cases (show u = Value.ref a from rx)
  obtain ⟨mA, O, _⟩ := ZKz I.hok ea
  obtain ⟨od, J, _⟩ := O.look
  exact PySem.W.kia_one (PySem.W.kitx_own (cl.get _) cl.hd ha hn htk hm) I.kIn J e (fun z => nomatch z) h
end
structure Room (k : Nat) (A : Around) : Prop where
 hd : A.handled = none
 dp : A.depth + 3 * k + 5 < recursionLimit
 un : A.units + 16 * k + 200 < cLine
 gd : A.guards = some []
theorem Room.mono {j k : Nat} {A : Around} (r : Room k A) (h : j ≤ k) : Room j A := ⟨r.hd, by have := r.dp; omega, by have := r.un; omega, r.gd⟩
theorem Room.deeper {k : Nat} {A : Around} (r : Room (k + 1) A) (env : Env) : Room k (A.deeper env) :=
 ⟨r.hd, by have := r.dp; show A.depth + 1 + 3 * k + 5 < _; omega, by have := r.un; show A.units + 3 + 16 * k + 200 < _; omega, r.gd⟩
theorem Room.in1 {k : Nat} {A : Around} (r : Room (k + 1) A) : Room k A.in1 :=
 ⟨r.hd, by have := r.dp; show A.depth + 3 * k + 5 < _; omega, by have := r.un; show A.units + 1 + 16 * k + 200 < _; omega, r.gd⟩
theorem ZP8 {A : Around} {C : Addr} {us : List Value} {kw : List (Str × Value)} : (A.under (.builtin "type.__call__" ⟨.ref C :: us, kw⟩)).depth = A.depth + 1 := by
 first | rfl | simp [Around.under, Code.weight, Code.isCreation, Code.isGuard, Code.isCaller, Code.frames, Code.isFrame, guardIds]
theorem ZP9 {A : Around} {C : Addr} {us : List Value} {kw : List (Str × Value)} : (A.under (.builtin "type.__call__" ⟨.ref C :: us, kw⟩)).units = A.units + 1 := by
 first | rfl | simp [Around.under, Code.cUnits, Code.frames, Code.isFrame]
theorem ZPD {A : Around} {C : Addr} {us : List Value} {kw : List (Str × Value)} : (A.under (.builtin "type.__call__" ⟨.ref C :: us, kw⟩)).guards = A.guards := by
 have e : pushGuards [] A.guards = A.guards := by cases A.guards <;> rfl
 first | exact e | rfl | simp [Around.under, Code.guards, Code.isGuard, guardIds, pushGuards]
theorem Room.make {k : Nat} {A : Around} (r : Room (k + 1) A) (C : Addr) (us : List Value) (kw : List (Str × Value)) : Room k (A.under (.builtin "type.__call__" ⟨.ref C :: us, kw⟩)) :=
 ⟨r.hd, by have := r.dp; rw [ZP8]; omega, by have := r.un; rw [ZP9]; omega, (ZPD).trans r.gd⟩
theorem Room.depth {k : Nat} {A : Around} (r : Room k A) : A.depth < recursionLimit := by have := r.dp; omega
theorem Room.units {k : Nat} {A : Around} (r : Room k A) : A.units + 64 < cLine := by have := r.un; omega
def ZLV : TA := fun _ H Q => Q [] H
def ZNg (ta : TE) (tr : TA) : TA := fun σ H Q => ta σ H fun x H1 => tr σ H1 fun xs H2 => Q (x :: xs) H2
section
variable {X : Cx} {e : Expr} {es : List Expr} {te : TE} {t : TA} {pos : Pos}
theorem ZWx : PA X [] ZLV := fun _ _ _ _ H Q I h => Calls.spliced_nil ⟨[], H, I, .nil, h⟩
theorem ZU4 (ha : PE X e te) (hr : PA X es t) (hs : starEach (e :: es) X.env = (false, eval e X.env) :: starEach es X.env := by rfl) : PA X (e :: es) (ZNg te t) := by
 intro pos pins s σ H Q I h
 rw [hs]
 show wpAny _ _ (spliced ((false, eval e X.env) :: backTo pos (starEach es X.env))) _ _ s
 refine Calls.spliced_cons (thn (ha pins s σ H _ I h) fun u s1 ⟨x, H1, I1, r1, q1⟩ => ?_)
 exact thn (hr pos pins s1 σ H1 _ I1 q1) fun us s2 ⟨xs, H2, I2, r2, q2⟩ => ⟨x :: xs, H2, I2, .cons r1 r2, q2⟩
def ZSo (t : TA) : TE := fun σ H Q => t σ H fun xs H1 => xs.length ≤ sizeLine ∧ ∀ p, H1 p = none → Q (.ref p) (upd H1 p (.tup xs))
def ZSp (t : TA) : TE := fun σ H Q => t σ H fun xs H1 => xs.length ≤ sizeLine ∧ ∀ p, H1 p = none → Q (.ref p) (upd H1 p (.lst xs))
theorem ZWy {x1} (h : PA X es t) : PE X (.Tuple es x1 pos) (ZSo t) := by
 intro pins s σ H Q I hq
 refine wpAny_Tuple_spliced (thn (h pos pins s σ H _ I hq) fun us s1 ⟨xs, H1, I1, r, z, q⟩ => ⟨by rw [← r.length]; exact z, ?_⟩)
 have hf : H1 s1.heap.objs.size = none := I1.hok.fresh (Nat.le_refl _)
 refine ⟨.ref s1.heap.objs.size, upd H1 s1.heap.objs.size (.tup xs), I1.laid (t' := s1.toks) (fun b u e => Heap.get?_push_of_some _ e) (Nat.le_refl _) ?_, rfl, q _ hf⟩
 exact ⟨⟨z, fun _ => ⟨_, Heap.get?_push_size _ rfl, rfl, rfl⟩⟩, us, r, ⟨_, Heap.get?_push_size _ rfl, rfl, _, rfl⟩⟩
theorem ZWz (h : PA X es t) : PE X (.List es pos) (ZSp t) := by
 intro pins s σ H Q I hq
 refine wpAny_List_spliced (thn (h pos pins s σ H _ I hq) fun us s1 ⟨xs, H1, I1, r, z, q⟩ => ⟨by rw [← r.length]; exact z, ?_⟩)
 have hf : H1 s1.heap.objs.size = none := I1.hok.fresh (Nat.le_refl _)
 refine ⟨.ref s1.heap.objs.size, upd H1 s1.heap.objs.size (.lst xs), I1.laid (t' := s1.toks) (fun b u e => Heap.get?_push_of_some _ e) (Nat.le_refl _) ?_, rfl, q _ hf⟩
 exact ⟨z, us, 0, r, Heap.get?_push_size _ rfl⟩
end
abbrev Sp := List V → Hp → VK → XK → Prop
abbrev CXT := List Env → Hp → Shared → XK → Value → Shared → Prop
structure ZIY (P : Program) (w : World) (K : W.Frag) (mg : Str → Option Value) (base : Heap) (A : Around) (outer : List Env) (s : Shared) (H : Hp) : Prop where
 frames : A.frames = some outer
 mod : Mod K mg base
 bs : ∀ b o, base.get? b = some o → s.heap.get? b = some o ∧ H b = none
 bsz : base.objs.size ≤ s.heap.objs.size
 funs : s.heap.FunFrames base outer
 frf : ∀ b ∈ frs outer, H b = none
 hok : HOk P w H s.heap
 bare : AllBare s.gens
def CE (outer : List Env) (P : Program) (w : World) (H : Hp) (s : Shared) (Q : VK) (u : Value) (s' : Shared) : Prop :=
 ∃ v H', s'.os = s.os ∧ AllBare s'.gens ∧ Un (frs outer) [] H H' s.heap s'.heap ∧ HOk P w H' s'.heap ∧ ZFl v u ∧ Q v H'
def CR (CX : CXT) (outer : List Env) (P : Program) (w : World) (H : Hp) (s : Shared) (Q : VK) (E : XK) (r : Result) (s' : Shared) : Prop :=
 match r with
 | .ok (.ret u) => CE outer P w H s Q u s'
 | .ok _ => False
 | .error e => CX outer H s E e s'
structure ZFc (P : Program) (w : World) (K : W.Frag) (mg : Str → Option Value) (base : Heap) (CX : CXT) (k : Nat) (f : Addr) (fd : FuncData) (ps : List Str) (sp : Sp) : Prop where
 len : ∀ vs H Q E, sp vs H Q E → vs.length = ps.length
 run : ∀ (A : Around) (outer : List Env) (s : Shared) (H : Hp) (args : Args) (us : List Value) (vs : List V) (Q : VK) (E : XK), Room k A → ZIY P w K mg base A outer s H → BindsTo s fd args (ps.zip us) → ZFj vs us → sp vs H Q E →
  codeAny (model P w) A (.call (.ref f) args) (CR CX outer P w H s Q E) s
theorem ZIY.make {P : Program} {w : World} {K : W.Frag} {mg : Str → Option Value} {base : Heap} {A : Around} {outer : List Env} {s : Shared} {H : Hp} (e : ZIY P w K mg base A outer s H) (C : Addr) (us : List Value) (kw : List (Str × Value)) :
 ZIY P w K mg base (A.under (.builtin "type.__call__" ⟨.ref C :: us, kw⟩)) outer s H := ⟨by first | exact e.frames | (simpa [Around.under, Code.envs, Code.isFrame, pushEnvs] using e.frames), e.mod, e.bs, e.bsz, e.funs, e.frf, e.hok, e.bare⟩
theorem ZIY.in1 {P : Program} {w : World} {K : W.Frag} {mg : Str → Option Value} {base : Heap} {A : Around} {outer : List Env} {s : Shared} {H : Hp} (e : ZIY P w K mg base A outer s H) :
 ZIY P w K mg base A.in1 outer s H := ⟨e.frames, e.mod, e.bs, e.bsz, e.funs, e.frf, e.hok, e.bare⟩
section
variable {X : Cx} {pins : List (Addr × Obj)} {σ : St} {H : Hp} {s s' : Shared}
theorem Inv.env0 (I : Inv X pins σ H s) : ZIY X.prog X.w X.K X.mg X.base X.A X.stack s H :=
 ⟨I.ok.frames, I.ok.mod, I.bs, Nat.le_trans I.ok.bsz I.sz, I.stack, I.stkFree, I.hok, I.bare⟩
theorem Inv.after {Q : VK} {u : Value} (I : Inv X pins σ H s) (h : CE X.stack X.prog X.w H s Q u s') : EP X pins σ Q u s' := by
 obtain ⟨v, H', os, bare, un, hok, r, q⟩ := h
 obtain ⟨hh, g, d, t, os'⟩ := s'
 obtain rfl : os' = s.os := os
 exact ⟨v, H', I.call (h' := hh) (g' := g) (d' := d) (t' := t) (ch := []) un hok bare (fun b z => absurd z (by simp)), r, q⟩
end
def ZK0 (sp : Sp) (dvs : List V) (E : XK) (t : TA) : TE := fun σ H Q => t σ H fun vs H1 => sp (vs ++ dvs) H1 Q E
def ZL3 (C : Addr) (m : Str) (sp : Sp) (dvs : List V) (E : XK) (ta : TE) (t : TA) : TE := fun σ H Q => ta σ H fun x H1 => ∃ a dx fs, x = .ref a ∧ H1 a = some (.ins C dx fs) ∧ fs.lookup m = none ∧
 t σ H1 fun vs H2 => sp (x :: (vs ++ dvs)) H2 Q E
def ZL4 (C : Addr) (sp : Sp) (dvs : List V) (E : XK) (t : TA) : TE := fun σ H Q => t σ H fun vs H1 => ∀ x dx, H1 x = none → H1 dx = none → dx ≠ x →
 sp (.ref x :: (vs ++ dvs)) (upd (upd H1 dx (.own x)) x (.ins C dx [])) (fun v H2 => v = .non ∧ Q (.ref x) H2) E
def ZFZ (K : W.Frag) (fd : FuncData) (ps : List Str) (ds : List Value) : Prop :=
 ∀ (s : Shared) (us : List Value), K.In s.heap → (us ++ ds).length = ps.length → BindsTo s fd ⟨us, []⟩ (ps.zip (us ++ ds))
theorem ZFZ.all {K : W.Frag} {fd : FuncData} {ps : List Str} (h : ∀ us : List Value, us.length = ps.length → bindArgs fd ⟨us, []⟩ = pure (ps.zip us)) : ZFZ K fd ps [] := fun s us _ hl => by
 rw [List.append_nil] at hl ⊢
 exact .of_eq (h us hl)
def ZGt (CX : CXT) (X : Cx) (E : XK) : Prop := ∀ (pins : List (Addr × Obj)) (σ : St) (H : Hp) (s : Shared) (e : Value) (s' : Shared), Inv X pins σ H s → CX X.stack H s E e s' → X.xe e s'
section
variable {X : Cx} {CX : CXT} {k : Nat} {f C : Addr} {fd : FuncData} {ps : List Str} {sp : Sp} {dvs : List V} {ds : List Value} {E : XK} {x m : Str} {p pos apos : Pos} {e o : Expr} {es : List Expr} {ta : TE} {t : TA}
theorem ZNp {pins : List (Addr × Obj)} {σ : St} {H : Hp} {s : Shared} {Q : VK} {us : List Value} {vs : List V} (F : ZFc X.prog X.w X.K X.mg X.base CX k f fd ps sp) (hr : Room k X.A) (hb : ZFZ X.K fd ps ds) (hd : ZFj dvs ds) (hx : ZGt CX X E)
  (I : Inv X pins σ H s) (r : ZFj vs us) (h : sp (vs ++ dvs) H Q E) : wpAny (model X.prog X.w) X.A (call (.ref f) us) (EP X pins σ Q) X.xe s := by
 have r2 : ZFj (vs ++ dvs) (us ++ ds) := r.append hd
 have hl : (us ++ ds).length = ps.length := by rw [← r2.length]; exact F.len _ _ _ _ h
 refine wpAny_call (codeAny_mono (F.run X.A X.stack s H ⟨us, []⟩ (us ++ ds) (vs ++ dvs) Q E hr I.env0 (hb s us I.kIn hl) r2 h) fun r s' hq => ?_)
 cases r with
 | error e => exact hx pins σ H s e s' I hq
 | ok fl =>
  cases fl with
  | ret u => exact I.after hq
  | next => exact False.elim hq
  | brk => exact False.elim hq
  | cont => exact False.elim hq
theorem ZU5 (F : ZFc X.prog X.w X.K X.mg X.base CX k f fd ps sp) (hr : Room k X.A) (hg : Gl X x) (hm : X.mg x = some (.ref f)) (hk : W.keepIn X.K (.ref f) = true) (hb : ZFZ X.K fd ps ds) (hd : ZFj dvs ds) (hx : ZGt CX X E)
  (ha : PA X (e :: es) t) (hdb : (x == ("__debug__" : Str)) = false := by decide) (he : starEach (e :: es) X.env = (false, eval e X.env) :: starEach es X.env := by rfl) (hpl : (backTo pos (starEach es X.env)).any (·.1) = false := by rfl) :
  PE X (.Call (.Name x p) (e :: es) [] pos) (ZK0 sp dvs E t) := by
 intro pins s σ H Q I h
 refine wpAny_Call_Name_kw (ZHQ I hg hm ?_ hdb)
 refine PySem.W.callWith_K (h₀ := X.base) I.ok.mod.kin hk (thn (ha pos pins s σ H _ I h) fun us s1 ⟨vs, H1, I1, r, q⟩ => ⟨I1.kIn, ?_⟩) he hpl
 exact ZNp F hr hb hd hx I1 r q
theorem ZU6 {pl : Sem Bool} (he : PE X o ta) (c : Cls X.K C) (hm : ZGa X.K C m f) (F : ZFc X.prog X.w X.K X.mg X.base CX k f fd ps sp) (hr : Room k X.A) (hb : ZFZ X.K fd ps ds) (hd : ZFj dvs ds) (hx : ZGt CX X E) (ha : PA X (e :: es) t)
  (hst : starEach (e :: es) X.env = (false, eval e X.env) :: starEach es X.env := by rfl) (hpl : (backTo pos (starEach es X.env)).any (·.1) = false := by rfl)
  (ht : eval (.Call (.Attribute o m apos) (e :: es) [] pos) X.env = (do
   let ov ← eval o X.env
   standAt apos.atName
   let (f, first) ← holding [ov] (getMethod ov m pl)
   callWith pos f first (backTo pos (starEach (e :: es) X.env)) (backToKw pos (keywordEach [] X.env))) := by rfl) :
  PE X (.Call (.Attribute o m apos) (e :: es) [] pos) (ZL3 C m sp dvs E ta t) := by
 intro pins s σ H Q I h
 refine PySem.W.methodCall_KW (pl := pl) (thn (he pins s σ H _ I h) fun u s1 ⟨x, H1, I1, rx, a, dx, fs, ex, ea, l, q⟩ => ?_) ht
 subst ex
 obtain rfl : u = Value.ref a := rx
 refine ZJt I1 ea c hm l ?_
 refine PySem.W.callWith_K (first := [.ref a]) (h₀ := X.base) I.ok.mod.kin hm.kp (thn (ha pos pins s1 σ H1 _ I1 q) fun us s2 ⟨vs, H2, I2, r, q2⟩ => ⟨I2.kIn, ?_⟩) hst hpl
 exact ZNp (us := .ref a :: us) (vs := .ref a :: vs) F hr hb hd hx I2 (.cons rfl r) q2
theorem ZSq {pl : Sem Bool} (he : PE X o ta) (c : Cls X.K C) (hm : ZGa X.K C m f) (F : ZFc X.prog X.w X.K X.mg X.base CX k f fd ps sp) (hr : Room k X.A) (hb : ZFZ X.K fd ps ds) (hd : ZFj dvs ds) (hx : ZGt CX X E)
  (ht : eval (.Call (.Attribute o m apos) [] [] pos) X.env = (do
   let ov ← eval o X.env
   standAt apos.atName
   let (f, first) ← holding [ov] (getMethod ov m pl)
   callWith pos f first (backTo pos (starEach [] X.env)) (backToKw pos (keywordEach [] X.env))) := by rfl) :
  PE X (.Call (.Attribute o m apos) [] [] pos) (ZL3 C m sp dvs E ta ZLV) := by
 intro pins s σ H Q I h
 refine PySem.W.methodCall_KW (pl := pl) (thn (he pins s σ H _ I h) fun u s1 ⟨x, H1, I1, rx, a, dx, fs, ex, ea, l, q⟩ => ?_) ht
 subst ex
 obtain rfl : u = Value.ref a := rx
 refine ZJt I1 ea c hm l ?_
 exact PySem.W.callWith_K0 (first := [.ref a]) I1.kIn hm.kp (ZNp (us := [.ref a]) (vs := [.ref a]) F hr hb hd hx I1 (.cons rfl .nil) q)
structure Mk (K : W.Frag) (C f : Addr) : Prop where
 makes : PySem.W.makesIn K C = true
 init : W.findIn K (.ref C) "__init__" = some (some (.ref f))
 fn : PySem.W.isFn K (.ref f) = true
 kp : W.keepIn K (.ref C) = true
theorem ZNq {pins : List (Addr × Obj)} {σ : St} {H : Hp} {s : Shared} {Q : VK} {us : List Value} {vs : List V} (M : Mk X.K C f) (F : ZFc X.prog X.w X.K X.mg X.base CX k f fd ps sp) (hr : Room (k + 1) X.A) (hb : ZFZ X.K fd ps ds) (hd : ZFj dvs ds)
  (hx : ZGt CX X E) (I : Inv X pins σ H s) (r : ZFj vs us)
  (h : ∀ x dx, H x = none → H dx = none → dx ≠ x → sp (.ref x :: (vs ++ dvs)) (upd (upd H dx (.own x)) x (.ins C dx [])) (fun v H2 => v = .non ∧ Q (.ref x) H2) E) :
  wpAny (model X.prog X.w) X.A (call (.ref C) us) (EP X pins σ Q) X.xe s := by
 have hq := h (s.heap.objs.size + 1) s.heap.objs.size (I.hok.fresh (Nat.le_succ _)) (I.hok.fresh (Nat.le_refl _)) (Nat.ne_of_lt (Nat.lt_succ_self _))
 have I2 := Inv.made (C := C) I
 have r2 : ZFj (V.ref (s.heap.objs.size + 1) :: (vs ++ dvs)) (Value.ref (s.heap.objs.size + 1) :: (us ++ ds)) := .cons rfl (r.append hd)
 have hl : (Value.ref (s.heap.objs.size + 1) :: us ++ ds).length = ps.length := by
  have e := r2.length
  rw [F.len _ _ _ _ hq] at e
  exact e.symm
 refine wpAny_call (ZSl (f := f) I.kIn M.makes M.init (beq_iff_eq.mp M.fn) (codeAny_mono (F.run _ X.stack _ _ ⟨Value.ref (s.heap.objs.size + 1) :: us, []⟩ (Value.ref (s.heap.objs.size + 1) :: (us ++ ds)) _ _ E (hr.make C us [])
  (I2.env0.make C us []) (hb _ (Value.ref (s.heap.objs.size + 1) :: us) I2.kIn hl) r2 hq) fun r s' hq' => ?_))
 cases r with
 | error e => exact hx pins σ _ _ e s' I2 hq'
 | ok fl =>
  cases fl with
  | ret u =>
   obtain ⟨v, H', I3, rv, ev, q3⟩ := I2.after hq'
   subst ev
   exact ⟨rv, ⟨V.ref (s.heap.objs.size + 1), H', I3, rfl, q3⟩⟩
  | next => exact False.elim hq'
  | brk => exact False.elim hq'
  | cont => exact False.elim hq'
theorem ZU7 (M : Mk X.K C f) (F : ZFc X.prog X.w X.K X.mg X.base CX k f fd ps sp) (hr : Room (k + 1) X.A) (hg : Gl X x) (hm : X.mg x = some (.ref C)) (hb : ZFZ X.K fd ps ds) (hd : ZFj dvs ds) (hx : ZGt CX X E)
  (ha : PA X (e :: es) t) (hdb : (x == ("__debug__" : Str)) = false := by decide) (he : starEach (e :: es) X.env = (false, eval e X.env) :: starEach es X.env := by rfl) (hpl : (backTo pos (starEach es X.env)).any (·.1) = false := by rfl) :
  PE X (.Call (.Name x p) (e :: es) [] pos) (ZL4 C sp dvs E t) := by
 intro pins s σ H Q I h
 refine wpAny_Call_Name_kw (ZHQ I hg hm ?_ hdb)
 refine PySem.W.callWith_K (h₀ := X.base) I.ok.mod.kin M.kp (thn (ha pos pins s σ H _ I h) fun us s1 ⟨vs, H1, I1, r, q⟩ => ⟨I1.kIn, ?_⟩) he hpl
 exact ZNq M F hr hb hd hx I1 r q
theorem ZSr (M : Mk X.K C f) (F : ZFc X.prog X.w X.K X.mg X.base CX k f fd ps sp) (hr : Room (k + 1) X.A) (hg : Gl X x) (hm : X.mg x = some (.ref C)) (hb : ZFZ X.K fd ps ds) (hd : ZFj dvs ds) (hx : ZGt CX X E)
  (hdb : (x == ("__debug__" : Str)) = false := by decide) : PE X (.Call (.Name x p) [] [] pos) (ZL4 C sp dvs E ZLV) := by
 intro pins s σ H Q I h
 refine wpAny_Call_Name_kw (ZHQ I hg hm ?_ hdb)
 exact PySem.W.callWith_K0 I.kIn M.kp (ZNq (us := []) M F hr hb hd hx I .nil h)
end
structure ZFa (N P : List Str) (sc : Scope) : Prop where
 kind : sc.kind = .function
 co : sc.isCoroutine = false
 gen : sc.isGenerator = false
 nd : N.Nodup
 pre : N.take P.length = P
 par : ∀ x ∈ P, sc.names.lookup x = some .local ∨ sc.names.lookup x = some .cell
 nofree : ∀ y ∈ sc.names, y.2 ≠ .free
theorem ZMy {kindOf : Str → Option NameKind} {x : Str} : ∀ {binds : List (Str × Value)} {m : Str → Option Value}, (∀ v, (x, v) ∉ binds) → bindL kindOf binds m x = m x
 | [], _, _ => rfl
 | (n, v) :: r, m, h => by
  unfold bindL
  rw [ZMy fun w hw => h w (List.mem_cons_of_mem _ hw)]
  split
  ·have : x ≠ n := by rintro rfl; exact h v List.mem_cons_self
   simp [this]
  ·rfl
theorem ZMz {kindOf : Str → Option NameKind} {x : Str} : ∀ {binds : List (Str × Value)} {m : Str → Option Value}, (∀ v, (x, v) ∉ binds) → bindC kindOf binds m x = m x
 | [], _, _ => rfl
 | (n, v) :: r, m, h => by
  unfold bindC
  rw [ZMz fun w hw => h w (List.mem_cons_of_mem _ hw)]
  split
  ·rfl
  ·have : x ≠ n := by rintro rfl; exact h v List.mem_cons_self
   simp [this]
theorem ZM0 {kindOf : Str → Option NameKind} {x : Str} {v : Value} : ∀ {P : List Str} {vs : List Value} {i : Nat} {m : Str → Option Value}, P.Nodup → P[i]? = some x → vs[i]? = some v → kindOf x = some .local →
  bindL kindOf (P.zip vs) m x = some v
 | [], _, _, _, _, h, _, _ => by simp at h
 | _ :: _, [], _, _, _, _, h, _ => by simp at h
 | p :: P, w :: vs, 0, m, nd, h1, h2, hk => by
  simp at h1 h2; subst h1; subst h2
  show bindL kindOf ((p, w) :: P.zip vs) m p = _
  unfold bindL
  rw [ZMy fun v hv => (List.nodup_cons.mp nd).1 (List.of_mem_zip hv).1, if_pos hk]
  simp
 | p :: P, w :: vs, i + 1, m, nd, h1, h2, hk => by
  show bindL kindOf ((p, w) :: P.zip vs) m x = _
  unfold bindL
  exact ZM0 (i := i) (List.nodup_cons.mp nd).2 (by simpa using h1) (by simpa using h2) hk
theorem ZM1 {kindOf : Str → Option NameKind} {x : Str} {v : Value} : ∀ {P : List Str} {vs : List Value} {i : Nat} {m : Str → Option Value}, P.Nodup → P[i]? = some x → vs[i]? = some v → kindOf x ≠ some .local →
  bindC kindOf (P.zip vs) m x = some v
 | [], _, _, _, _, h, _, _ => by simp at h
 | _ :: _, [], _, _, _, _, h, _ => by simp at h
 | p :: P, w :: vs, 0, m, nd, h1, h2, hk => by
  simp at h1 h2; subst h1; subst h2
  show bindC kindOf ((p, w) :: P.zip vs) m p = _
  unfold bindC
  rw [ZMz fun v hv => (List.nodup_cons.mp nd).1 (List.of_mem_zip hv).1, if_neg hk]
  simp
 | p :: P, w :: vs, i + 1, m, nd, h1, h2, hk => by
  show bindC kindOf ((p, w) :: P.zip vs) m x = _
  unfold bindC
  exact ZM1 (i := i) (List.nodup_cons.mp nd).2 (by simpa using h1) (by simpa using h2) hk
def start (N : List Str) (vs : List V) : St := vs.map some ++ List.replicate (N.length - vs.length) none
def ZJO (CX : CXT) (P : Program) (w : World) (K : W.Frag) (mg : Str → Option Value) (base : Heap) (N : List Str) (qual : Str) (scope : Scope) (f : Addr) (cd : Value) (A : Around) (outer : List Env) (s : Shared) (H : Hp) (E : XK) : Cx where
 prog := P
 w := w
 K := K
 mg := mg
 base := base
 A := A.deeper (envOfC qual scope s.heap.objs.size f cd)
 N := N
 s₀ := s
 H₀ := H
 env := envOfC qual scope s.heap.objs.size f cd
 outer := outer
 stack := envOfC qual scope s.heap.objs.size f cd :: outer
 ex := []
 calm := true
 fn := fun _ => true
 pn := []
 xe := fun e s' => wpAny (model P w) (A.deeper (envOfC qual scope s.heap.objs.size f cd)) (leaving (envOfC qual scope s.heap.objs.size f cd) e) (fun _ s'' => CX outer H s E e s'') (fun e' s'' => CX outer H s E e' s'') s'
theorem ZNr {sc : Scope} {n : Nat} {x : Str} (h : sc.names.lookup x = some .cell) : ∃ c, (cellsFrom n sc.names []).lookup x = some c := by
 have q := PySem.W.cellsFrom_some sc.names n [] (.inl h)
 exact Option.isSome_iff_exists.mp q
theorem ZM2 {CX : CXT} {P : Program} {w : World} {K : W.Frag} {mg : Str → Option Value} {base : Heap} {N ps : List Str} {qual : Str} {scope : Scope} {f : Addr} {cd : Value} {A : Around} {outer : List Env} {s s1 : Shared} {H : Hp} {E : XK} {us : List Value} {vs : List V}
  (S : ZFa N ps scope) (hd : A.handled = none) (e0 : ZIY P w K mg base A outer s H) (hl : vs.length = ps.length) (r : ZFj vs us)
  (x : InCallC s s.heap.objs.size (bindL (envOfC qual scope s.heap.objs.size f cd).kindOf (ps.zip us) fun _ => none) (cellsFrom (s.heap.objs.size + 1) scope.names []) (bindC (envOfC qual scope s.heap.objs.size f cd).kindOf (ps.zip us) fun _ => none) s1) :
  Inv (ZJO CX P w K mg base N qual scope f cd A outer s H E) [] (start N vs) H s1 := by
 have hpl : ps.length ≤ N.length := by have := congrArg List.length S.pre; rw [List.length_take] at this; omega
 obtain ⟨h1, tk, rfl, hk⟩ := x.done
 have noA : ∀ b : Addr, b ∉ (ZJO CX P w K mg base N qual scope f cd A outer s H E).ex := fun b z => absurd (show b ∈ ([] : List Addr) from z) (by simp)
 refine ⟨⟨e0.mod, S.kind, rfl, rfl, Nat.le_refl _, fun y z c h1 h2 => ?_, fun y hy => ?_, fun y c _ h => ?_, fun _ => hd, Around.frames_deeper e0.frames, .inr ⟨rfl, rfl⟩, fun b z => absurd z (noA b), e0.bs, e0.bsz, fun b _ _ => noA b, fun b z => absurd z (noA b), e0.funs, e0.frf⟩,
  rfl, e0.bare, Un.kept hk, ⟨_, x.toInCall.ns, fun i y v h1 h2 h3 => ?_⟩, fun y c h => ⟨_, x.cell y c h⟩, e0.hok.fresh (Nat.le_refl _), fun y c h => ?_, fun p hp => absurd (show p ∈ ([] : List (Addr × Obj)) from hp) (by simp), e0.hok.kept hk, ?_⟩
 ·exact name_of_addr x.apart (PySem.mem_of_lookup h1) (PySem.mem_of_lookup h2)
 ·have hy : scope.names.lookup y = some .cell ∨ scope.names.lookup y = some .free := hy
  rcases hy with hy | hy
  ·exact ZNr hy
  ·exact absurd rfl (S.nofree _ (PySem.mem_of_lookup hy))
 ·exact Nat.le_of_lt (x.above y c (PySem.mem_of_lookup h))
 ·have hi : i < vs.length := by
   unfold start at h2
   by_cases hi : i < vs.length
   ·exact hi
   ·rw [List.getElem?_append_right (by simpa using hi)] at h2
    rw [List.getElem?_replicate] at h2
    split at h2 <;> cases h2
  have ha : vs[i]? = some v := by
   unfold start at h2
   rw [List.getElem?_append_left (by simpa using hi), List.getElem?_map] at h2
   cases e : vs[i]? with
   | none => rw [e] at h2; cases h2
   | some a => rw [e] at h2; cases h2; rfl
  obtain ⟨u, hu, rv⟩ := r.get ha
  have hp : ps[i]? = some y := by
   rw [← S.pre, List.getElem?_take_of_lt (by omega)]; exact h1
  have ndP : ps.Nodup := by rw [← S.pre]; exact S.nd.sublist (List.take_sublist _ _)
  refine ⟨u, rv, ?_⟩
  rcases S.par y (List.mem_of_getElem? hp) with k | k
  ·exact .inl ⟨k, ZM0 ndP hp hu k⟩
  ·obtain ⟨c, e⟩ := ZNr (n := s.heap.objs.size + 1) k
   refine .inr ⟨.inl k, c, e, ?_⟩
   have q := x.cell y c e
   rw [ZM1 ndP hp hu (by show scope.names.lookup y ≠ _; rw [k]; decide)] at q
   exact q
 ·exact e0.hok.fresh (Nat.le_of_lt (x.above y c (PySem.mem_of_lookup h)))
 ·unfold start
  show _ = N.length
  rw [List.length_append, List.length_map, List.length_replicate]
  omega
theorem ZQA {CX : CXT} {P : Program} {w : World} {K : W.Frag} {mg : Str → Option Value} {base : Heap} {k : Nat} {f : Addr} {name qual : Str} {params : Arguments} {body : List Stmt} {scope : Scope} {dV kV doc pm cdv ct oc : Value} {an od : Option Addr}
  {osl : Array (Option Value)} {N ps : List Str} {sp : Sp} (lk : K.lookup f = some ⟨oc, od, .func (W.fnOf name qual params body scope dV kV doc pm an cdv ct), osl⟩) (hcd : W.codeIn K cdv qual = true) (S : ZFa N ps scope)
  (len : ∀ vs H Q E, sp vs H Q E → vs.length = ps.length)
  (hbody : ∀ (A : Around) (outer : List Env) (s : Shared) (H : Hp) (vs : List V) (Q : VK) (E : XK), Room k (A.deeper (envOfC qual scope s.heap.objs.size f cdv)) → sp vs H Q E →
   ∃ t, PSs (ZJO CX P w K mg base N qual scope f cdv A outer s H E) body t ∧ t { nx := fun _ H' => Q .non H', rt := Q } (start N vs) H) :
  ZFc P w K mg base CX (k + 1) f (W.fnOf name qual params body scope dV kV doc pm an cdv ct) ps sp := by
 refine ⟨len, fun A outer s H args us vs Q E hr e0 hb r hsp => ?_⟩
 have hl := len _ _ _ _ hsp
 have KX : K.In s.heap := e0.mod.kin.keeps fun b o e => (e0.bs b o e).1
 have lim : s.heap.NoLimit := e0.mod.nolimit.keeps fun b o e => (e0.bs b o e).1
 have hkind : ∀ y ∈ ps.zip us, scope.names.lookup y.1 = some .local ∨ (scope.names.lookup y.1 = some .cell ∧ ((cellsFrom (s.heap.objs.size + 1) scope.names []).lookup y.1).isSome = true) := fun ⟨n, v⟩ hy => by
  rcases S.par n (List.of_mem_zip hy).1 with q | q
  ·exact .inl q
  ·exact .inr ⟨q, PySem.W.cellsFrom_some _ _ _ (.inl q)⟩
 refine codeAny_call_function hr.depth (KX _ _ lk) rfl S.co S.gen rfl (PySem.W.codeRec_of KX hcd) (hb _ _ _ _ ?_)
 refine wpAny_newFunctionEnv_cells S.kind hkind fun env he s1 x => ?_
 subst he
 refine ⟨lim.keeps x.toInCall.keep, codeAny_func ?_⟩
 obtain ⟨t, ht, hq⟩ := hbody A outer s H vs Q E (hr.deeper _) hsp
 have I : Inv (ZJO CX P w K mg base N qual scope f cdv A outer s H E) [] (start N vs) H s1 := ZM2 S hr.hd e0 hl r x
 refine wpAny_mono (ht [] s1 (start N vs) H _ I hq) (fun fl s' hs => ?_) fun e s' hs => hs
 have fin : ∀ {σ' : St} {H' : Hp} {v : V} {u : Value}, Inv (ZJO CX P w K mg base N qual scope f cdv A outer s H E) [] σ' H' s' → ZFl v u → Q v H' → CE outer P w H s Q u s' :=
  fun {σ' H' v u} J rv q => ⟨v, H', J.os, J.bare, J.base, J.hok, rv, q⟩
 cases fl with
 | ret u =>
  obtain ⟨v, σ', H', J, rv, q⟩ := hs
  exact fin J rv q
 | next =>
  obtain ⟨σ', H', J, q⟩ := hs
  exact fin (v := V.non) (u := Value.none) J rfl q
 | brk =>
  obtain ⟨_, _, _, q⟩ := hs
  exact False.elim q
 | cont =>
  obtain ⟨_, _, _, q⟩ := hs
  exact False.elim q
section
variable {X : Cx} {x : Str} {p pos : Pos} {e : Expr} {es : List Expr} {t : TA} {id T : String} {r : List V → Hp → VK → Prop}
def tCB (r : List V → Hp → VK → Prop) (t : TA) : TE := fun σ H Q => t σ H fun vs H1 => r vs H1 Q
theorem ZSs (hc : ZF5 X (.builtin id) r) (hg : Gl X x) (hm : X.mg x = none) (hv : bootBuiltins x = some (.builtin id)) (ha : PA X (e :: es) t) (hn : x ≠ "__name__" := by decide) (hdb : (x == ("__debug__" : Str)) = false := by decide)
  (he : starEach (e :: es) X.env = (false, eval e X.env) :: starEach es X.env := by rfl) (hpl : (backTo pos (starEach es X.env)).any (·.1) = false := by rfl) : PE X (.Call (.Name x p) (e :: es) [] pos) (tCB r t) := by
 intro pins s σ H Q I h
 refine wpAny_Call_Name_kw (ZIR I hg hm hv ?_ hn hdb)
 exact PyProof.Rows.callWith_builtin1 (thn (ha pos pins s σ H _ I h) fun us s1 ⟨vs, H1, I1, r1, q1⟩ => hc pins s1 σ H1 vs us Q I1 r1 q1) he hpl
theorem ZRL (hc : ZF5 X (.type T) r) (hg : Gl X x) (hm : X.mg x = none) (hv : bootBuiltins x = some (.type T)) (ha : PA X (e :: es) t) (hn : x ≠ "__name__" := by decide) (hdb : (x == ("__debug__" : Str)) = false := by decide)
  (he : starEach (e :: es) X.env = (false, eval e X.env) :: starEach es X.env := by rfl) (hpl : (backTo pos (starEach es X.env)).any (·.1) = false := by rfl) : PE X (.Call (.Name x p) (e :: es) [] pos) (tCB r t) := by
 intro pins s σ H Q I h
 refine wpAny_Call_Name_kw (ZIR I hg hm hv ?_ hn hdb)
 exact PyProof.Rows.callWith_type1 (thn (ha pos pins s σ H _ I h) fun us s1 ⟨vs, H1, I1, r1, q1⟩ => hc pins s1 σ H1 vs us Q I1 r1 q1) he hpl
end
end L2
namespace HT
open PySem PyProof.Rows
section
variable {prog : Program} {w : World} {A : Around} {E : Value → Shared → Prop} {s : Shared}
def sIx (n d : Nat) : Option Int → Nat
 | none => d
 | some v => if v < 0 then (v + (n : Int)).toNat else min v.toNat n
theorem sIx_nat (n d k : Nat) : sIx n d (some (k : Int)) = min k n := by
 show (if (k : Int) < 0 then ((k : Int) + (n : Int)).toNat else min (k : Int).toNat n) = min k n
 rw [if_neg (by omega), Int.toNat_natCast]
theorem ZW0 (n d : Nat) (hd : d ≤ n) (o : Option Int) : sIx n d o ≤ n := by
 cases o with
 | none => exact hd
 | some v =>
  show (if v < 0 then (v + (n : Int)).toNat else min v.toNat n) ≤ n
  by_cases hv : v < 0
  ·rw [if_pos hv]; omega
  ·rw [if_neg hv]; exact Nat.min_le_right _ _
theorem ZPZ (v : Int) (n d : Nat) : (if v < 0 then max (v + (n : Int)) 0 else min v (n : Int)) = ((sIx n d (some v) : Nat) : Int) := by
 show (if v < 0 then max (v + (n : Int)) 0 else min v (n : Int)) = (((if v < 0 then (v + (n : Int)).toNat else min v.toNat n) : Nat) : Int)
 by_cases hv : v < 0
 ·simp only [if_pos hv]; omega
 ·simp only [if_neg hv]; omega
theorem ZQB (lo hi : Option Int) (n : Nat) : Builtin.Slice.sliceAdjust lo hi 1 (n : Int) = (((sIx n 0 lo : Nat) : Int), ((sIx n n hi : Nat) : Int)) := by
 have h1 : ¬ ((1 : Int) < 0) := by omega
 unfold Builtin.Slice.sliceAdjust
 simp only [h1, if_false]
 refine Prod.ext ?_ ?_
 ·cases lo with
  | none => rfl
  | some v => exact ZPZ v n 0
 ·cases hi with
  | none => rfl
  | some v => exact ZPZ v n n
theorem ZQC (i j : Nat) : Builtin.Slice.slicePlaces (i : Int) (j : Int) 1 = j - i := by
 unfold Builtin.Slice.slicePlaces
 have h1 : (1 : Int) > 0 := by omega
 simp only [h1, if_true, Int.ediv_one]
 split <;> omega
theorem ZL5 {v : Value} {o : Option Int} {Q : Option Int → Shared → Prop} (p : IsPart v o) (h : Q o s) : wpAny (model prog w) A (Builtin.Slice.slicePartIndex v) Q E s := by
 cases p with
 | none => exact slicePart_none h
 | int i t => exact slicePart_int h
theorem sliceApplied_gen {sl : Addr} {vl vu : Value} {lo hi : Option Int} {n : Nat} {Q : Int × Int × Nat → Shared → Prop} (hs : s.heap.IsSliceOf sl vl vu .none) (pl : IsPart vl lo) (pu : IsPart vu hi)
  (h : Q (((sIx n 0 lo : Nat) : Int), 1, sIx n n hi - sIx n 0 lo) s) : wpAny (model prog w) A (Builtin.Slice.sliceApplied (.ref sl) (pure (n : Int))) Q E s := by
 obtain ⟨os, hos, hcs, hds⟩ := id hs
 unfold Builtin.Slice.sliceApplied Builtin.Slice.sliceFields
 refine wpAny_bind (wpAny_bind (wpAny_field hos hds (x := vl) rfl (wpAny_bind (wpAny_field hos hds (x := vu) rfl (wpAny_bind (wpAny_field hos hds (x := .none) rfl (wpAny_pure ?_)))))))
 refine wpAny_bind (slicePart_none ?_)
 show wpAny _ _ (if ((1 : Int) == 0) = true then _ else _) _ _ s
 rw [if_neg (by decide)]
 refine wpAny_bind (ZL5 pl (wpAny_bind (ZL5 pu (wpAny_bind (wpAny_pure ?_)))))
 show wpAny _ _ (match Builtin.Slice.sliceAdjust lo hi 1 (n : Int) with | (lo, hi) => pure (lo, (1 : Int), Builtin.Slice.slicePlaces lo hi 1)) _ _ s
 rw [ZQB lo hi n]
 show wpAny _ _ (pure (((sIx n 0 lo : Nat) : Int), (1 : Int), Builtin.Slice.slicePlaces ((sIx n 0 lo : Nat) : Int) ((sIx n n hi : Nat) : Int) 1)) _ _ s
 rw [ZQC]
 exact wpAny_pure h
theorem ZSt (xs : Array Value) (i k : Nat) : ((List.range k).filterMap fun (m : Nat) => xs[((i : Int) + (m : Int) * 1).toNat]?).toArray = ((xs.toList.drop i).take k).toArray := by
 have e : (fun (m : Nat) => xs[((i : Int) + (m : Int) * 1).toNat]?) = fun m => xs[i + m]? := by
  funext m
  have : ((i : Int) + (m : Int) * 1).toNat = i + m := by omega
  rw [this]
 rw [e]
 have := pick_run xs i k
 rw [List.filterMap_map] at this
 have e2 : ((fun x => xs[x]?) ∘ fun x => i + x) = fun m => xs[i + m]? := rfl
 rw [e2] at this
 rw [this]
theorem getItem_tuple_cut {t sl : Addr} {items : Array Value} {vl vu : Value} {lo hi : Option Int} {Q : Value → Shared → Prop} (ht : IsTup s.heap t items) (hs : s.heap.IsSliceOf sl vl vu .none) (pl : IsPart vl lo) (pu : IsPart vu hi)
  (hw : ¬ (sIx items.size 0 lo = 0 ∧ sIx items.size items.size hi = items.size))
  (h : Q (.ref s.heap.objs.size) { s with heap := s.heap.push { cls := .type "tuple", data := .seq ((items.toList.drop (sIx items.size 0 lo)).take (sIx items.size items.size hi - sIx items.size 0 lo)).toArray } })
  (hsz : items.size ≤ sizeLine) : wpAny (model prog w) A (getItem (.ref t) (.ref sl)) Q E s := by
 have htake : sizeOk (.seq ((items.toList.drop (sIx items.size 0 lo)).take (sIx items.size items.size hi - sIx items.size 0 lo)).toArray) := by
  show ((items.toList.drop (sIx items.size 0 lo)).take (sIx items.size items.size hi - sIx items.size 0 lo)).toArray.size ≤ sizeLine
  rw [List.size_toArray, List.length_take, List.length_drop, Array.length_toList]
  omega
 have hj : sIx items.size items.size hi ≤ items.size := ZW0 _ _ (Nat.le_refl _) hi
 obtain ⟨os, hos, hcs, hds⟩ := id hs
 have hTs : s.TypeIs (.ref sl) "slice" := ⟨os, hos, hcs⟩
 unfold getItem
 try with_reducible refine wpAny_holding ?_
 first | refine wpAny_bind (wpAny_pure ?_) | skip
 refine wpAny_bind (wpAny_sequenceKey ht.typeIs (by decide) ?_)
 refine wpAny_bind (wpAny_callSpecial?_slot (name := Str.ofString "__getitem__") ht.typeIs PyProof.Rows.slot_tuple_getitem
  (wpAny_call_entry PyProof.Rows.slot_tuple_getitem ht.typeIs entry_tuple_getitem ?_ (args_tuple_getitem _ _)))
 show wpAny _ _ (Builtin.Tuple.tupleItemsOf (.ref t) >>= _) _ _ s
 refine wpAny_bind (tupleItemsOf_ ht ?_)
 refine wpAny_bind (wpAny_typeOf hTs ?_)
 rw [if_pos (by decide)]
 refine wpAny_bind (sliceApplied_gen hs pl pu ?_)
 have hno : ¬ ((((sIx items.size 0 lo : Nat) : Int) == 0 && (1 : Int) == 1 && (sIx items.size items.size hi - sIx items.size 0 lo) == items.size) = true) := by
  intro q
  rw [Bool.and_eq_true, Bool.and_eq_true] at q
  have q1 : ((sIx items.size 0 lo : Nat) : Int) = 0 := eq_of_beq q.1.1
  have q2 : sIx items.size items.size hi - sIx items.size 0 lo = items.size := eq_of_beq q.2
  exact hw ⟨by omega, by omega⟩
 show wpAny _ _ (if (((sIx items.size 0 lo : Nat) : Int) == 0 && (1 : Int) == 1 && (sIx items.size items.size hi - sIx items.size 0 lo) == items.size) = true then _ else _) _ _ s
 rw [if_neg hno, ZSt]
 first
  | exact wpAny_bind (m := Builtin.Tuple.tupleExact _) (wpAny_newObj_type (wpAny_pure ⟨_, rfl, wpAny_pure h⟩) htake)
  | exact wpAny_bind (m := Builtin.Tuple.tupleExact _) (wpAny_newObj_type (wpAny_bind (wpAny_pure (wpAny_pure ⟨_, rfl, wpAny_pure h⟩))) htake)
  | exact wpAny_bind (wpAny_bind (m := Builtin.Tuple.tupleExact _) (wpAny_newObj_type (wpAny_pure (wpAny_pure ⟨_, rfl, wpAny_pure h⟩)) htake))
  | exact wpAny_bind (wpAny_bind (m := Builtin.Tuple.tupleExact _) (wpAny_newObj_type (wpAny_pure ⟨_, rfl, wpAny_pure h⟩) htake))
end
end HT
namespace L2
open PySem PySem.Spec PyProof.Rows
abbrev TO := St → Hp → (Option Int → Hp → Prop) → Prop
def PO (X : Cx) (e : Option Expr) (t : TO) : Prop :=
 ∀ (pins : List (Addr × Obj)) (s : Shared) (σ : St) (H : Hp) (Q : Option Int → Hp → Prop), Inv X pins σ H s → t σ H Q →
  wpAny (model X.prog X.w) X.A (evalPart e X.env) (fun u s' => ∃ o H', Inv X pins σ H' s' ∧ IsPart u o ∧ Q o H') X.xe s
def ZMS : TO := fun _ H Q => Q none H
def ZQD (t : TE) : TO := fun σ H Q => t σ H fun x H1 => ∃ i, x = .int i ∧ Q (some i) H1
section
variable {X : Cx} {e : Expr} {te : TE} {lo hi : Option Expr} {tl th : TO} {pos p2 : Pos}
theorem ZU8 : PO X none ZMS := by
 intro pins s σ H Q I h
 rw [evalPart_none]
 exact wpAny_pure ⟨none, H, I, .none, h⟩
theorem ZU9 (h : PE X e te) : PO X (some e) (ZQD te) := by
 intro pins s σ H Q I hw
 rw [evalPart_some]
 refine thn (h pins s σ H _ I hw) fun u s1 ⟨x, H1, I1, r1, q1⟩ => ?_
 obtain ⟨i, rfl, q⟩ := q1
 obtain ⟨t, rfl⟩ := r1
 exact ⟨some i, H1, I1, .int i t, q⟩
def SlR (X : Cx) (r : V → Option Int → Option Int → Hp → VK → Prop) : Prop :=
 ∀ (pins : List (Addr × Obj)) (s : Shared) (σ : St) (H : Hp) (x : V) (v vl vu : Value) (lo hi : Option Int) (sl : Addr) (Q : VK), Inv X pins σ H s → ZFl x v → s.heap.IsSliceOf sl vl vu .none → IsPart vl lo → IsPart vu hi → r x lo hi H Q →
  ∃ T id, typeLookup (.type T) "__getitem__" = pure (some (.builtin id)) ∧ s.TypeIs v T ∧ wpAny (model X.prog X.w) X.A (getItem v (.ref sl)) (EP X pins σ Q) X.xe s
def tSl (r : V → Option Int → Option Int → Hp → VK → Prop) (te : TE) (tl th : TO) : TE := fun σ H Q => te σ H fun x H1 => tl σ H1 fun l H2 => th σ H2 fun u H3 => r x l u H3 Q
theorem ZSu {r : V → Option Int → Option Int → Hp → VK → Prop} (hr : SlR X r) (he : PE X e te) (hl : PO X lo tl) (hu : PO X hi th) : PE X (.Subscript e (.Slice lo hi none p2) pos) (tSl r te tl th) := by
 intro pins s σ H Q I h
 refine Subscript_ (thn (he pins s σ H _ I h) fun v s1 ⟨x, H1, I1, r1, q1⟩ => ?_)
 refine wpAny_Slice (thn (hl pins s1 σ H1 _ I1 q1) fun vl s2 ⟨l, H2, I2, pl, q2⟩ => thn (hu pins s2 σ H2 _ I2 q2) fun vu s3 ⟨u, H3, I3, pu, q3⟩ => ?_)
 rw [evalPart_none]
 refine wpAny_pure ?_
 have I4 : Inv X pins σ H3 { s3 with heap := s3.heap.push { cls := .type "slice", data := .fields #[vl, vu, .none] } } := I3.kept (t' := s3.toks) fun b ob q => Heap.get?_push_of_some _ q
 obtain ⟨T, id, hT, ht, hg⟩ := hr pins { s3 with heap := s3.heap.push { cls := .type "slice", data := .fields #[vl, vu, .none] } } σ H3 x v vl vu l u s3.heap.objs.size Q I4 r1 (Heap.IsSliceOf.new ..) pl pu q3
 show wpAny (model X.prog X.w) X.A (subscriptTail e (.Slice lo hi none p2) v (.ref s3.heap.objs.size)) (EP X pins σ Q) X.xe { s3 with heap := s3.heap.push { cls := .type "slice", data := .fields #[vl, vu, .none] } }
 exact tail_any (ops := [.ref s3.heap.objs.size, v]) ht hT hg (by with_unfolding_all rfl)
def ZJP (xs : List V) (lo hi : Option Int) : List V := (xs.drop (HT.sIx xs.length 0 lo)).take (HT.sIx xs.length xs.length hi - HT.sIx xs.length 0 lo)
theorem ZPE (xs : List V) (lo hi : Option Int) : (ZJP xs lo hi).length ≤ xs.length := by
 unfold ZJP
 rw [List.length_take, List.length_drop]
 omega
def ZY4 (K : W.Frag) : V → Option Int → Option Int → Hp → VK → Prop := fun x lo hi H Q => ∃ a xs, x = .ref a ∧ SqT K H a xs ∧
 ¬ (HT.sIx xs.length 0 lo = 0 ∧ HT.sIx xs.length xs.length hi = xs.length) ∧ ∀ p, H p = none → Q (.ref p) (upd H p (.tup (ZJP xs lo hi)))
theorem ZW1 : SlR X (ZY4 X.K) := by
 intro pins s σ H x v vl vu lo hi sl Q I rx hs pl pu h
 obtain ⟨a, xs, rfl, hx, hw, q⟩ := h
 cases rx
 obtain ⟨its, r, ht, hz⟩ := I.tuple hx
 have hlen : its.toArray.size = xs.length := by rw [List.size_toArray]; exact r.length.symm
 refine ⟨"tuple", _, PyProof.Rows.slot_tuple_getitem.lookup, ht.typeIs, ?_⟩
 refine HT.getItem_tuple_cut ht hs pl pu (by rw [hlen]; exact hw) ?_ (by rw [hlen]; exact hz)
 rw [hlen]
 refine ⟨.ref s.heap.objs.size, _, I.laid (t' := s.toks) (o := .tup (ZJP xs lo hi)) (fun b ob q => Heap.get?_push_of_some _ q) (Nat.le_refl _) ?_, rfl, q _ (I.hok.fresh (Nat.le_refl _))⟩
 exact ⟨⟨Nat.le_trans (ZPE xs lo hi) hz, fun _ => ⟨_, Heap.get?_push_size _ rfl, rfl, rfl⟩⟩, _, (r.drop (HT.sIx xs.length 0 lo)).take (HT.sIx xs.length xs.length hi - HT.sIx xs.length 0 lo), IsTup.new _ _⟩
end
def ixN (n : Nat) (i : Int) : Option Nat := if 0 ≤ i then (if i < n then some i.toNat else none) else if -(n : Int) ≤ i then some (i + n).toNat else none
def atI {α : Type} (xs : List α) (i : Int) : Option α := (ixN xs.length i).bind fun j => xs[j]?
theorem ZPa {n : Nat} {i : Int} {j : Nat} (h : ixN n i = some j) : seqIndex? i n = some j ∧ j < n ∧ -(n : Int) ≤ i ∧ i < n := by
 unfold ixN at h
 by_cases h0 : 0 ≤ i
 ·rw [if_pos h0] at h
  by_cases h1 : i < n
  ·rw [if_pos h1] at h
   have e : i.toNat = j := Option.some.inj h
   exact ⟨by rw [seqIndex_of h0 h1, e], by omega, by omega, h1⟩
  ·rw [if_neg h1] at h; cases h
 ·rw [if_neg h0] at h
  by_cases h1 : -(n : Int) ≤ i
  ·rw [if_pos h1] at h
   have e : (i + n).toNat = j := Option.some.inj h
   exact ⟨by rw [seqIndex_neg (by omega) h1, e], by omega, h1, by omega⟩
  ·rw [if_neg h1] at h; cases h
theorem ZMT {α : Type} {xs : List α} {i : Int} {v : α} (h : atI xs i = some v) : ∃ j, seqIndex? i xs.length = some j ∧ xs[j]? = some v ∧ j < xs.length ∧ -(xs.length : Int) ≤ i ∧ i < xs.length := by
 unfold atI at h
 cases e : ixN xs.length i with
 | none => rw [e] at h; cases h
 | some j =>
  rw [e] at h
  obtain ⟨h1, h2, h3, h4⟩ := ZPa e
  exact ⟨j, h1, h, h2, h3, h4⟩
theorem ZIn {α : Type} {xs : List α} {j : Nat} {v : α} (h : xs[j]? = some v) : atI xs (j : Int) = some v := by
 have hj : j < xs.length := (List.getElem?_eq_some_iff.mp h).1
 have e : ixN xs.length (j : Int) = some j := by
  unfold ixN
  rw [if_pos (by omega), if_pos (by omega)]; simp
 unfold atI; rw [e]; exact h
def ZPb (b : Expr) : Prop := ∀ o i, subscripted b false o i = operate [o, i] (getItem o i)
def IxR (X : Cx) (r : R2) : Prop :=
 ∀ (value slice : Expr) (pins : List (Addr × Obj)) (s : Shared) (σ : St) (H : Hp) (x y : V) (v u : Value) (Q : VK), Inv X pins σ H s → ZFl x v → ZFl y u → r x y H Q →
  subscripted slice false v u = operate [v, u] (getItem v u) → wpAny (model X.prog X.w) X.A (subscriptTail value slice v u) (EP X pins σ Q) X.xe s
def MtR (X : Cx) (id : String) (r : V → List V → Hp → VK → Prop) : Prop :=
 ∀ (pins : List (Addr × Obj)) (s : Shared) (σ : St) (H : Hp) (x : V) (xs : List V) (v : Value) (us : List Value) (Q : VK), Inv X pins σ H s → ZFl x v → ZFj xs us → r x xs H Q →
  wpAny (model X.prog X.w) X.A (call (.builtin id) (v :: us)) (EP X pins σ Q) X.xe s
section
variable {X : Cx} {a b : Expr} {ta tb : TE} {pos : Pos}
theorem ZYh {r : R2} (hr : IxR X r) (ha : PE X a ta) (hb : PE X b tb) (hs : ZPb b) : PE X (.Subscript a b pos) (tOp r ta tb) := by
 intro pins s σ H Q I h
 exact Subscript_ (ZSd ha hb I h fun v u s2 x y H2 I2 rx ry q => hr a b pins s2 σ H2 x y v u Q I2 rx ry q (hs _ _))
def ZQE (K : W.Frag) : R2 := fun x y H Q => ∃ p xs i v, x = .ref p ∧ y = .int i ∧ SqL K H p xs ∧ atI xs i = some v ∧ Q v H
def ZSv (K : W.Frag) : R2 := fun x y H Q => ∃ p xs i v, x = .ref p ∧ y = .int i ∧ SqT K H p xs ∧ atI xs i = some v ∧ Q v H
def ZW2 : R2 := fun x y H Q => ∃ z i c, x = .str z ∧ y = .int i ∧ z.length ≤ sizeLine ∧ atI z.cps.toList i = some c ∧ Q (.str ⟨#[c]⟩) H
theorem ZVA : IxR X (ZQE X.K) := by
 intro value slice pins s σ H x y v u Q I rx ry h hs
 obtain ⟨p, xs, i, z, rfl, rfl, hq, he, q⟩ := h
 cases rx
 obtain ⟨t, rfl⟩ := ry
 obtain ⟨its, r, pl, hz⟩ := I.list hq
 obtain ⟨j, h1, h2, h3, h4, h5⟩ := ZMT he
 obtain ⟨w, ew, rw'⟩ := r.get h2
 have hl := r.length
 have hn := ZJd
 have fin : EP X pins σ Q w s := ⟨z, H, I, rw', q⟩
 by_cases h0 : 0 ≤ i
 ·have hj : i.toNat = j := by
   rw [seqIndex_of h0 h5] at h1
   exact Option.some.inj h1
  exact item_listR pl.isList h0 (by omega) (by rw [hj]; simpa using ew) fin hs
 ·have hj : (i + (its.toArray.size : Int)).toNat = j := by
   rw [seqIndex_neg (by omega) h4] at h1
   rw [List.size_toArray, ← hl]
   exact Option.some.inj h1
  exact subscriptTail_builtinR (x := w) pl.isList.typeIs slot_list_getitem.lookup
   (wpAny_getItem_list_neg (Q := fun r s' => r = w ∧ EP X pins σ Q r s') pl.isList (by omega) (by rw [List.size_toArray] <;> omega) (by omega) (by rw [hj]; simpa using ew) ⟨rfl, fin⟩) hs
theorem ZW3 : IxR X (ZSv X.K) := by
 intro value slice pins s σ H x y v u Q I rx ry h hs
 obtain ⟨p, xs, i, z, rfl, rfl, hq, he, q⟩ := h
 cases rx
 obtain ⟨t, rfl⟩ := ry
 obtain ⟨its, r, pl, hz⟩ := I.tuple hq
 obtain ⟨j, h1, h2, h3, h4, h5⟩ := ZMT he
 obtain ⟨w, ew, rw'⟩ := r.get h2
 have hl := r.length
 have hn := ZJd
 have fin : EP X pins σ Q w s := ⟨z, H, I, rw', q⟩
 exact subscriptTail_builtinR (x := w) pl.typeIs slot_tuple_getitem.lookup
  (getItem_tuple (j := j) (Q := fun r s' => r = w ∧ EP X pins σ Q r s') pl (by omega) (by omega) (by rw [List.size_toArray, ← hl]; exact h1) (by simpa using ew) ⟨rfl, fin⟩) hs
theorem ZW4 : IxR X ZW2 := by
 intro value slice pins s σ H x y v u Q I rx ry h hs
 obtain ⟨z, i, c, rfl, rfl, hz, he, q⟩ := h
 obtain ⟨t, rfl⟩ := rx
 obtain ⟨t', rfl⟩ := ry
 obtain ⟨j, h1, h2, h3, h4, h5⟩ := ZMT he
 have hl : z.cps.toList.length = z.length := by simp [Str.length]
 rw [hl] at h1 h4 h5
 have hn := ZJd
 exact tail_any (typeIs_str s z t) slot_str_getitem.lookup (getItem_str (c := c) (by
  have e1 : decide (i < -(2 ^ 63 : Int)) = false := decide_eq_false (by omega)
  have e2 : decide (i ≥ 2 ^ 63) = false := decide_eq_false (by omega)
  rw [e1, e2, Bool.or_false]) (by rw [h1]; simpa using h2) ⟨.str ⟨#[c]⟩, H, I.tok _, ⟨_, rfl⟩, q⟩) hs
theorem ZQF (its : List Value) (n j : Nat) (u : Value) : Obj.mapSeq (·.setIfInBounds j u) { cls := .type "list", data := .seq its.toArray n } = { cls := .type "list", data := .seq (its.set j u).toArray n } := by
 simp [Obj.mapSeq]
theorem Inv.lst {pins : List (Addr × Obj)} {σ : St} {H : Hp} {s : Shared} {p : Addr} {xs : List V} (I : Inv X pins σ H s) (h : H p = some (.lst xs)) :
  ∃ (its : List Value) (n : Nat), ZFj xs its ∧ s.heap.get? p = some { cls := .type "list", data := .seq its.toArray n } ∧ xs.length ≤ sizeLine := by
 obtain ⟨z, its, n, r, e⟩ := I.hok p _ h
 exact ⟨its, n, r, e, z⟩
theorem Inv.lstUpd {pins : List (Addr × Obj)} {σ : St} {H : Hp} {s : Shared} {p : Addr} {xs ys : List V} {its its' : List Value} {n n' : Nat} {f : Obj → Obj} (I : Inv X pins σ H s) (h : H p = some (.lst xs))
  (ho : s.heap.get? p = some { cls := .type "list", data := .seq its.toArray n }) (hf : f { cls := .type "list", data := .seq its.toArray n } = { cls := .type "list", data := .seq its'.toArray n' }) (r : ZFj ys its') (hz : ys.length ≤ sizeLine) (t : Nat) :
  Inv X pins σ (upd H p (.lst ys)) { s with heap := s.heap.update p f, toks := t } := by
 have e : (s.heap.update p f).get? p = some { cls := .type "list", data := .seq its'.toArray n' } := by
  rw [Heap.get?_update_self f ho (by rw [hf] <;> rfl), hf]
 refine I.write (x := p) (e := p) (by rw [h]; trivial) (.inl rfl) (fun b u hb q => (Heap.get?_update_other _ _ (Ne.symm hb)).trans q) ⟨_, e⟩ ?_
 exact ⟨hz, its', n', r, e⟩
def ZQG : V → V → V → Hp → (Hp → Prop) → Prop := fun o i v H Q => ∃ p xs k j, o = .ref p ∧ i = .int k ∧ H p = some (.lst xs) ∧ ixN xs.length k = some j ∧ Q (upd H p (.lst (xs.set j v)))
theorem ZLW : ZSU X ZQG := by
 intro pins s σ H o i v ov iv u Q I ro ri rv h
 obtain ⟨p, xs, k, j, rfl, rfl, hp, hj, q⟩ := h
 cases ro
 obtain ⟨t, rfl⟩ := ri
 obtain ⟨its, n, r, ho, hz⟩ := I.lst hp
 obtain ⟨h1, h2, h3, h4⟩ := ZPa hj
 have hl := r.length
 have hn := ZJd
 have I' : Inv X pins σ (upd H p (.lst (xs.set j v))) { s with heap := s.heap.update p (Obj.mapSeq (·.setIfInBounds j u)) } :=
  I.lstUpd hp ho (ZQF its n j u) (r.set rv j) (by rw [List.length_set]; exact hz) s.toks
 by_cases h0 : 0 ≤ k
 ·have hk : k.toNat = j := by
   rw [seqIndex_of h0 h4] at h1
   exact Option.some.inj h1
  exact PySem.W.ki_setAt ho h0 (by omega) (by rw [List.size_toArray, ← hl]; exact h4) (by rw [hk]; exact ⟨_, I', q⟩)
 ·have hk : (k + (its.toArray.size : Int)).toNat = j := by
   rw [seqIndex_neg (by omega) h3] at h1
   rw [List.size_toArray, ← hl]
   exact Option.some.inj h1
  exact PySem.W.ki_setBack ho (by omega) (by rw [List.size_toArray, ← hl]; exact h3) (by omega) (by rw [hk]; exact ⟨_, I', q⟩)
theorem ZNs : ZF5 X (.builtin "len") (fun xs H Q => ∃ p ys, xs = [.ref p] ∧ (SqL X.K H p ys ∨ SqT X.K H p ys) ∧ Q (.int ys.length) H) := by
 intro pins s σ H xs us Q I r h
 obtain ⟨p, ys, rfl, hq, q⟩ := h
 obtain ⟨u, rfl, rx⟩ := ZNf r
 cases rx
 have hn := ZJd
 rcases hq with hq | hq
 ·obtain ⟨its, r', pl, hz⟩ := I.list hq
  have hlen := r'.length
  exact Calls.call_len_list pl.isList (by simp only [List.size_toArray] <;> omega) ⟨.int ys.length, H, I.tok _, ⟨s.toks + 1, by rw [List.size_toArray, hlen]⟩, q⟩
 ·obtain ⟨its, r', pl, hz⟩ := I.tuple hq
  have hlen := r'.length
  exact len_tuple pl (by simp only [List.size_toArray] <;> omega) ⟨.int ys.length, H, I.tok _, ⟨s.toks + 1, by rw [List.size_toArray, hlen]⟩, q⟩
theorem ZNt : ZF5 X (.builtin "len") (fun xs H Q => ∃ z, xs = [.str z] ∧ z.length ≤ sizeLine ∧ Q (.int z.length) H) := by
 intro pins s σ H xs us Q I r h
 obtain ⟨z, rfl, hz, q⟩ := h
 obtain ⟨u, rfl, t, rfl⟩ := ZNf r
 have hn := ZJd
 exact len_str (by omega) ⟨.int z.length, H, I.tok _, ⟨_, rfl⟩, q⟩
theorem ZNQ : ZF5 X (.type "tuple") (fun xs H Q => ∃ p ys, xs = [.ref p] ∧ ((SqL X.K H p ys ∧ ∀ l, H l = none → Q (.ref l) (upd H l (.tup ys))) ∨ (SqT X.K H p ys ∧ Q (.ref p) H))) := by
 intro pins s σ H xs us Q I r h
 obtain ⟨p, ys, rfl, h⟩ := h
 obtain ⟨u, rfl, rx⟩ := ZNf r
 cases rx
 rcases h with ⟨hq, q⟩ | ⟨hq, q⟩
 ·obtain ⟨its, r', pl, hz⟩ := I.list hq
  have hlen := r'.length
  refine call_tuple_list pl.isList (fun h' kp => ?_) (by simp only [List.size_toArray] <;> omega)
  have I1 : Inv X pins σ H { s with heap := h' } := I.kept (t' := s.toks) kp
  have I2 : Inv X pins σ (upd H h'.objs.size (.tup ys)) { s with heap := h'.push { cls := .type "tuple", data := .seq its.toArray } } :=
   I1.laid (t' := s.toks) (fun b o e => Heap.get?_push_of_some _ e) (Nat.le_refl _) (show ZFz X.prog X.w _ _ _ (.tup ys) from ⟨⟨hz, fun _ => ⟨_, Heap.get?_push_size _ rfl, rfl, rfl⟩⟩, its, r', IsTup.new _ _⟩)
  exact ⟨.ref h'.objs.size, _, I2, rfl, q _ (I1.hok.fresh (Nat.le_refl _))⟩
 ·obtain ⟨its, r', pl, hz⟩ := I.tuple hq
  exact call_tuple_same pl ⟨.ref p, H, I, rfl, q⟩
def tyV (K : W.Frag) (T : String) (x : V) (H : Hp) : Prop := match x with
 | .str _ => T = "str"
 | .int _ => T = "int"
 | .ref p => (T = "list" ∧ ∃ xs, SqL K H p xs) ∨ (T = "tuple" ∧ ∃ o, K.lookup p = some o ∧ o.cls = .type "tuple" ∧ o.dict = none) ∨
  (T = "dict" ∧ ((∃ kvs, H p = some (.dK kvs)) ∨ ∃ kvs, H p = some (.dT kvs))) ∨ (T = "set" ∧ ∃ S n, H p = some (.set S n))
 | _ => False
theorem ZW5 {pins : List (Addr × Obj)} {σ : St} {H : Hp} {s : Shared} {T : String} {x : V} {v : Value} (I : Inv X pins σ H s) (r : ZFl x v) (ty : tyV X.K T x H) :
  s.TypeIs v T ∧ ∀ a, v = .ref a → ∃ ob, s.heap.get? a = some ob ∧ ob.dict = none := by
 cases x with
 | str z =>
  obtain ⟨t, rfl⟩ := r
  cases (show T = "str" from ty)
  exact ⟨typeIs_str s z t, fun _ e => nomatch e⟩
 | int i =>
  obtain ⟨t, rfl⟩ := r
  cases (show T = "int" from ty)
  exact ⟨typeIs_int s i t, fun _ e => nomatch e⟩
 | ref p =>
  cases r
  rcases ty with ⟨rfl, xs, hq⟩ | ⟨rfl, o, hk, hc, hd⟩ | ⟨rfl, hk⟩ | ⟨rfl, S, n, hk⟩
  ·obtain ⟨its, _, pl, _⟩ := I.list hq
   refine ⟨pl.isList.typeIs, fun a e => ?_⟩
   cases e
   obtain ⟨o, n, e, c, hd, _⟩ := pl
   exact ⟨o, e, hd⟩
  ·refine ⟨⟨o, I.kIn p o hk, hc⟩, fun a e => ?_⟩
   cases e
   exact ⟨o, I.kIn _ o hk, hd⟩
  ·have z : ∃ o, s.heap.get? p = some o ∧ o.ExactDict := by
    rcases hk with ⟨kvs, hk⟩ | ⟨kvs, hk⟩
    ·obtain ⟨_, _, _, _, o, _, _, e, ex, _⟩ := I.hok p _ hk
     exact ⟨o, e, ex⟩
    ·obtain ⟨_, _, _, _, o, _, _, e, ex, _⟩ := I.hok p _ hk
     exact ⟨o, e, ex⟩
   obtain ⟨o, e, ex⟩ := z
   refine ⟨⟨o, e, ex.1⟩, fun a e2 => ?_⟩
   cases e2
   exact ⟨o, e, ex.2.1⟩
  ·obtain ⟨o, _, _, _, e, ex, _⟩ := I.hok p _ hk
   refine ⟨⟨o, e, ex.1⟩, fun a e2 => ?_⟩
   cases e2
   exact ⟨o, e, ex.2.1⟩
 | _ => exact False.elim ty
def tBM (K : W.Frag) (T : String) (r : V → List V → Hp → VK → Prop) (to : TE) (t : TA) : TE := fun σ H Q => to σ H fun x H1 => tyV K T x H1 ∧ t σ H1 fun xs H2 => r x xs H2 Q
variable {o e : Expr} {es : List Expr} {to : TE} {t : TA} {name : Str} {apos cpos : Pos} {T id : String} {r : V → List V → Hp → VK → Prop}
theorem ZYi (pa : PlainAttrs T) (slot : Slot T name id) (hty : typeOf (.builtin id) = pure (.type "method_descriptor")) (hm : MtR X id r) (ho : PE X o to) (ha : PA X (e :: es) t)
  (hbase : attributeBase o name X.env (eval o X.env) = eval o X.env := by rfl)
  (hfew : ((backTo cpos (starEach (e :: es) X.env)).all (fun x => !x.1) && (backToKw cpos (keywordEach [] X.env)).all (fun x => x.1.isSome)
   && decide ((e :: es).length + ([] : List Keyword).length + (if ([] : List Keyword).isEmpty then 0 else 1) < 30)) = true := by rfl)
  (hline : (apos.endLine == cpos.line) = true := by rfl) (hs : starEach (e :: es) X.env = (false, eval e X.env) :: starEach es X.env := by rfl) (hplain : (backTo cpos (starEach es X.env)).any (·.1) = false := by rfl) :
  PE X (.Call (.Attribute o name apos) (e :: es) [] cpos) (tBM X.K T r to t) := by
 intro pins s σ H Q I h
 refine wpAny_Call_method_late hbase hfew hline rfl (thn (ho pins s σ H _ I h) fun v s1 ⟨x, H1, I1, r1, ty, q1⟩ => ?_)
 obtain ⟨h1, h2⟩ := ZW5 I1 r1 ty
 refine ⟨T, id, pa, slot, hty, h1, h2, ?_⟩
 have hA := ha cpos pins s1 σ H1 _ I1 q1
 rw [hs] at hA ⊢
 refine Calls.callWith_builtin (by show (false || (backTo cpos (starEach es X.env)).any (·.1)) = false; rw [hplain] <;> rfl) (Calls.evalArgs_plain ?_)
 exact thn hA fun us s2 ⟨vs, H2, I2, r2, q2⟩ => hm pins s2 σ H2 x vs v us Q I2 r1 r2 q2
end
def MtM (X : Cx) (id : String) (r : V → List V → Hp → VK → Prop) : Prop :=
 ∀ (pins : List (Addr × Obj)) (s : Shared) (σ : St) (H : Hp) (x : V) (xs : List V) (v : Value) (us : List Value) (Q : VK), Inv X pins σ H s → ZFl x v → ZFj xs us → r x xs H Q →
  wpAny (model X.prog X.w) X.A (call (.builtin id) (v :: us)) (EP X pins σ Q) X.xe s
theorem ZFj.one : ∀ {x : V} {us : List Value}, ZFj [x] us → ∃ u, us = [u] ∧ ZFl x u
 | _, _, .cons r .nil => ⟨_, rfl, r⟩
theorem ZFj.two : ∀ {x y : V} {us : List Value}, ZFj [x, y] us → ∃ u v, us = [u, v] ∧ ZFl x u ∧ ZFl y v
 | _, _, _, .cons r (.cons q .nil) => ⟨_, _, rfl, r, q⟩
section
variable {X : Cx} {pins : List (Addr × Obj)} {σ : St} {H : Hp} {s : Shared} {l b : Addr} {xs ys zs : List V}
theorem Inv.lset {its its' : List Value} {n : Nat} {f : Array Value → Array Value} {t' : Nat} (I : Inv X pins σ H s) (hH : H l = some (.lst xs))
  (e : s.heap.get? l = some { cls := .type "list", data := .seq its.toArray n }) (hf : f its.toArray = its'.toArray) (hv : ZFj ys its') (hz : ys.length ≤ sizeLine) :
  Inv X pins σ (upd H l (.lst ys)) { s with heap := s.heap.update l (Obj.mapSeq f), toks := t' } := by
 have q := PySem.IsL.update e f
 rw [hf] at q
 refine I.write (x := l) (e := l) (by rw [hH]; exact trivial) (.inl rfl) (fun b' u hb hu => (Heap.get?_update_other s.heap (Obj.mapSeq f) (Ne.symm hb)).trans hu) ⟨_, q⟩ ?_
 exact ⟨hz, its', _, hv, q⟩
theorem Inv.lstM (I : Inv X pins σ H s) (hH : H l = some (.lst xs)) : xs.length ≤ sizeLine ∧ ∃ (its : List Value) (n : Nat), ZFj xs its ∧ xs.length = its.length ∧ s.heap.get? l = some { cls := .type "list", data := .seq its.toArray n } := by
 obtain ⟨z, its, n, r, e⟩ := I.hok l _ hH
 exact ⟨z, its, n, r, r.length, e⟩
theorem ZSw {n : Nat} (h : n ≤ sizeLine) : Builtin.List.listTooLong n = false := by
 unfold Builtin.List.listTooLong
 exact decide_eq_false (by omega)
end
section
variable {X : Cx}
def ZPc : V → List V → Hp → VK → Prop := fun x vs H Q => ∃ l xs y, x = .ref l ∧ vs = [y] ∧ H l = some (.lst xs) ∧ xs.length < sizeLine ∧ Q .non (upd H l (.lst (xs ++ [y])))
theorem ZG2 : MtM X "list.append" ZPc := by
 intro pins s σ H x vs v us Q I rx rv h
 obtain ⟨l, xs, y, rfl, rfl, hH, hz, q⟩ := h
 cases rx
 obtain ⟨u, rfl, ru⟩ := rv.one
 obtain ⟨z, its, n, r, hl, e⟩ := I.lstM hH
 refine call_meets F.slot_list_append ⟨_, e, rfl⟩ F.entry_list_append (F.args_list_append_2 _ _) (PySem.list_append l its.toArray n u (by rw [List.size_toArray]; omega)) ⟨e, ?_⟩
 refine ⟨.non, _, I.lset (its' := its ++ [u]) hH e (by simp) (r.append (.cons ru .nil)) ?_, rfl, q⟩
 rw [List.length_append, List.length_singleton]
 omega
end
end L2
namespace Att
open PySem PySem.W PySem.Calls PyProof.Rows
theorem ZL6 {P : Params} {h : Heap} : ∀ (ns : List Int) (vs : List Value), WellAll P h vs (ns.map WData.int) → IntsAre vs ns := by
 intro ns
 induction ns with
 | nil =>
  intro vs w
  rw [List.map_nil] at w
  cases w
  exact .nil
 | cons n ns ih =>
  intro vs w
  rw [List.map_cons] at w
  cases w with
  | cons a b =>
   cases a
   exact .cons _ _ (ih _ b)
theorem ZRM {l : OpenLaw} {n : Nat} (hn : l.most = some n) {P : Params} {h : Heap} {args : List WData} {vals : List Value}
  (hpre : l.row.toRowW.claim.pre args = true) (hwl : WellAll P h vals args) :
  ∃ a vs ns, vals = [Value.ref a] ∧ args = [WData.list (ns.map WData.int)] ∧ h.get? a = some { cls := .type "list", data := .seq vs.toArray } ∧ IntsAre vs ns ∧ ns.length ≤ n := by
 have hsh : WShape.hasAll [] args [.list .int] = true := (pre_splitW hpre).1
 have hc : l.pre.holds [] { args := args } = true := (pre_splitW hpre).2
 obtain ⟨d, r, rfl, h1, h2⟩ := hasAllW_cons hsh
 obtain rfl := hasAllW_nil h2
 obtain ⟨xs, rfl, h3⟩ := hasW_list h1
 obtain ⟨ns, rfl⟩ := items_int h3
 have hlen : ns.length ≤ n := by
  unfold OpenLaw.pre at hc
  have h4 : (WTm.not (.lt (.lit (.int (n : Int))) (.len (.arg 0)))).holds [] { args := [.list (ns.map .int)] } = true := by
   have h4 := (holds_andW hc).1
   rw [hn] at h4
   exact h4
  have h5 := condW_of h4 (w_not (w_lt w_lit (w_len_list (w_arg rfl))))
  rw [List.length_map] at h5
  refine Nat.le_of_not_lt fun q => ?_
  have q' : (n : Int) < ((ns.length : Nat) : Int) := by omega
  first
   | (rw [decide_eq_true q'] at h5; exact absurd h5 (by decide))
   | (simp at h5; omega)
 cases hwl with
 | cons w1 w2 =>
  cases w2
  cases w1 with
  | list ho hall => exact ⟨_, _, ns, rfl, rfl, ho, ZL6 ns _ hall, hlen⟩
theorem ZRN (l : OpenLaw) (args : List WData) : l.row.toRowW.claim.post args (.bool true) args = true :=
 postW_of (r := l.row.toRowW) (X := (true == true))
  (show WShape.has [] (.bool true) .bool = true by first | rfl | decide | simp [WShape.has, WShape.arms, WShape.armsAll])
  (show (WTm.eq .res (.lit (.bool true))).value [] { args := args, res := some (.bool true), after := args } = some (.bool (true == true)) from w_eq_bool (w_res rfl) w_lit) rfl
theorem attach_call {l : OpenLaw} {n : Nat} {q : Program} {loose : List Str} {XP : (Str → Option Value) → Heap → Prop} {YP : World → Heap → Prop} {d : DefRec}
  (hn : l.most = some n) (hdf : d.params.defaults = [])
  (call : ∀ (w : World) (s₀ s₁ : Shared) (mg mb : Str → Option Value) (fa : Addr) (o : Obj) (pm cd doc : Value) (a : Addr) (vs : List Value) (ns : List Int),
   Ground q loose [] XP w s₀ mg mb s₁.heap → YP w s₁.heap →
   s₁.heap.get? fa = some o → o.data = .func (docDef d.name d.params d.body d.scope pm cd doc) → s₁.heap.CodeRec cd d.name → mg d.name = some (.ref fa) →
   s₁.heap.get? a = some { cls := .type "list", data := .seq vs.toArray } → IntsAre vs ns → ns.length ≤ n → s₁.gens = #[] →
   codeAny (model l.prog w) callerA (.call (.ref fa) ⟨[.ref a], []⟩) (fun r s' => r = .ok (.ret (.bool true)) ∧ OldK s₁.heap s'.heap ∧ s'.os = s₁.os ∧ AllBare s'.gens) s₁) :
  WalkO q loose XP YP l.row.toRowW d [] (fun f vs => PySem.call f vs) := by
 intro w s₀ s₁ mg mb G Y fa o pm cd doc dV kV ho hd hcd hD hmg hg args vals as hpre hlay hrd hwl hlo
 obtain rfl : dV = .none := Dflts.none hD hdf
 obtain rfl : kV = .none := Dflts.noKw hD
 obtain ⟨a, vs, ns, rfl, rfl, hobj, hints, hlen⟩ := ZRM hn hpre hwl
 refine enter_call (codeAny_mono (call w s₀ s₁ mg mb fa o pm cd doc a vs ns G Y ho (fd_plain hd) hcd hmg hobj hints hlen hg) fun r s' hq => ?_)
 obtain ⟨rfl, h2, h3, h4⟩ := hq
 exact ⟨.inl ⟨.bool true, .bool true, [], rfl, fun _ => rfl, .bool true, ZRN l _, fun _ => ⟨List.Pairwise.nil, fun _ hm => (nomatch hm)⟩⟩, h2, h3, h4⟩
section
variable {prog : Program} {w : World} {A : Around} {E : Value → Shared → Prop} {s : Shared} {K : Frag}
def ZZG (h : Heap) (L d : Addr) : List (Addr × Obj) := (List.range h.objs.size).filterMap fun a => if a = L ∨ a = d then none else (h.get? a).map fun o => (a, o)
end
end Att
namespace L2
open PySem PySem.Spec PyProof.Rows
theorem ZM3 : ∀ {vs : List Value} {ns : List Int}, IntsAre vs ns → ZFj (ns.map V.int) vs
 | _, _, .nil => .nil
 | _, _, .cons n t h => .cons ⟨t, rfl⟩ (ZM3 h)
def ZSx (H : Hp) : Prop := ∀ b, H b = none ∨ ∃ o xs, H b = some (.frz o (.lst xs))
theorem ZSy {P : Program} {w : World} {K : W.Frag} {mg mb : Str → Option Value} {CX : CXT} {k : Nat} {fa a : Addr} {fd : FuncData} {x : Str} {sp : Sp} {s₁ : Shared} {vs : List Value} {ns : List Int}
  (KX : K.In s₁.heap) (hns : s₁.heap.Ns mainGlobals mg) (hb : s₁.heap.Ns builtinsNs mb) (hbb : ∀ x : Str, x ≠ "__name__" → mb x = bootBuiltins x) (hlim : s₁.heap.NoLimit) (hg : s₁.gens = #[])
  (ha : s₁.heap.get? a = some { cls := .type "list", data := .seq vs.toArray }) (hi : IntsAre vs ns) (hl : ns.length ≤ sizeLine) (hr : Room k callerA)
  (F : ∀ base : Heap, K.In base → base.Ns mainGlobals mg → ZFc P w K mg base CX k fa fd [x] sp) (hbind : ∀ (s : Shared) (u : Value), BindsTo s fd ⟨[u], []⟩ [(x, u)])
  (hsp : ∀ H : Hp, ZSx H → SqL K H a (ns.map V.int) → sp [.ref a] H (fun v _ => v = .bl true) fun _ _ _ => False)
  (hCX : ∀ H e s', CX [] H s₁ (fun _ _ _ => False) e s' → False) :
  codeAny (model P w) callerA (.call (.ref fa) ⟨[.ref a], []⟩) (fun r s' => r = .ok (.ret (.bool true)) ∧ OldK s₁.heap s'.heap ∧ s'.os = s₁.os ∧ AllBare s'.gens) s₁ := by
 have rv := ZM3 hi
 have lenV := hi.length
 -- from an abstract heap in which nothing but the script may be tracked
 have core : ∀ H : Hp, ZSx H → SqL K H a (ns.map V.int) → HOk P w H s₁.heap → (∀ b, H b ≠ none → b = a) → (H a ≠ none → K.lookup a = none) →
   codeAny (model P w) callerA (.call (.ref fa) ⟨[.ref a], []⟩) (fun r s' => r = .ok (.ret (.bool true)) ∧ OldK s₁.heap s'.heap ∧ s'.os = s₁.os ∧ AllBare s'.gens) s₁ := by
  intro H hO hS hok hA hK
  have base_of : ∀ {b : Addr} {o : Obj}, s₁.heap.get? b = some o → H b = none → (ZJq s₁.heap H).get? b = some o := fun e n => ZSK e n
  have noA : ∀ {b : Addr} {o : Obj} {es : Array DictEntry} {ep : Nat}, s₁.heap.get? b = some o → o.data = .dict es ep → H b = none := fun {b o es ep} e d => by
   cases q : H b with
   | none => rfl
   | some u =>
    have e' : b = a := hA b (by rw [q]; simp)
    subst e'
    rw [ha] at e; cases e
    have d' : Data.seq vs.toArray _ = Data.dict es ep := d
    cases d'
  have nsK : ∀ {b : Addr} {m : Str → Option Value}, s₁.heap.Ns b m → (ZJq s₁.heap H).Ns b m := fun {b m} ⟨o, es, ep, e, d, r⟩ => ⟨o, es, ep, base_of e (noA e d), d, r⟩
  have hKb : K.In (ZJq s₁.heap H) := fun b o e => base_of (KX b o e) (by
   cases q : H b with
   | none => rfl
   | some u =>
    have e' : b = a := hA b (by rw [q]; simp)
    subst e'
    rw [hK (by rw [q]; simp)] at e; cases e)
  have hM : Mod K mg (ZJq s₁.heap H) := ⟨hKb, nsK hns, ⟨mb, nsK hb, hbb⟩, let ⟨mc, h1, h2⟩ := hlim; ⟨mc, nsK h1, h2⟩⟩
  have e0 : ZIY P w K mg (ZJq s₁.heap H) callerA [] s₁ H := ⟨rfl, hM, fun b o e => ZUl e, Nat.le_of_eq (ZQ9 _ _), trivial, fun b hb => absurd (show b ∈ ([] : List Addr) from hb) (by simp), hok, .of_eq hg⟩
  refine codeAny_mono ((F _ hKb (nsK hns)).run callerA [] s₁ H ⟨[.ref a], []⟩ [.ref a] [.ref a] _ _ hr e0 (hbind s₁ (.ref a)) (.cons rfl .nil) (hsp H hO hS)) fun r s' h => ?_
  cases r with
  | error e => exact (hCX H e s' h).elim
  | ok fl =>
   cases fl with
   | next => exact False.elim h
   | brk => exact False.elim h
   | cont => exact False.elim h
   | ret u =>
    obtain ⟨v, H', os, bare, un, hok', r', q⟩ := h
    have q' : v = .bl true := q
    subst q'
    obtain rfl : u = Value.bool true := r'
    refine ⟨rfl, OldK.of_keep fun b o e => ?_, os, bare⟩
    cases q : H b with
    | none => exact un.keep b o e q (by intro z; exact absurd (show b ∈ ([] : List Addr) from z) (by simp)) (by simp)
    | some u =>
     rcases hO b with z | ⟨ob, xs, z⟩
     ·rw [q] at z; cases z
     ·have z2 := un.frzs b ob _ z
      obtain ⟨e1, _⟩ := hok b _ z
      obtain ⟨e2, _⟩ := hok' b _ z2
      rw [e] at e1; cases e1
      exact e2
 cases hk : K.lookup a with
 | some o =>
  -- the script is one of the module's own objects
  have e := KX a o hk
  rw [ha] at e
  cases e
  refine core (fun _ => none) (fun _ => .inl rfl) (.inr ⟨_, vs.toArray, _, hk, rfl, rfl, rfl, by rw [List.size_toArray, lenV]; exact hl, by simpa using rv⟩) (fun b u z => by have z' : (none : Option HO) = some u := z; cases z') (fun b z => absurd rfl z) fun z => absurd rfl z
 | none =>
  refine core (fun b => if b = a then some (.frz { cls := .type "list", data := .seq vs.toArray } (.lst (ns.map V.int))) else none) (fun b => ?_) (.inl (.inr ⟨{ cls := .type "list", data := .seq vs.toArray }, if_pos rfl⟩)) (fun b u z => ?_) (fun b z => ?_) fun _ => hk
  ·by_cases hb : b = a
   ·exact .inr ⟨_, _, if_pos hb⟩
   ·exact .inl (if_neg hb)
  ·by_cases hb : b = a
   ·have z' := (if_pos hb).symm.trans z
    cases z'
    subst hb
    exact ⟨ha, by rw [List.length_map]; exact hl, vs, _, rv, ha⟩
   ·have z' := (if_neg hb).symm.trans z
    cases z'
  ·by_cases hb : b = a
   ·exact hb
   ·exact absurd (if_neg hb) z
theorem walk_of {l : PySem.W.OpenLaw} {n k : Nat} {q : Program} {loose : List Str} {XP : (Str → Option Value) → Heap → Prop} {YP : World → Heap → Prop} {d : DefRec} {K : Params → W.Frag} {CX : World → CXT} {sp : World → Sp} {x : Str}
  (hn : l.most = some n) (hn2 : n ≤ sizeLine) (hdf : d.params.defaults = []) (hr : Room k callerA)
  (hY : ∀ (w : World) (h : Heap), YP w h → (K w.params).In h)
  (F : ∀ (w : World) (mg : Str → Option Value) (fa : Addr) (h : Heap), (K w.params).In h → h.Ns mainGlobals mg → mg d.name = some (.ref fa) →
   ∃ fd : FuncData, (∀ (s : Shared) (u : Value), BindsTo s fd ⟨[u], []⟩ [(x, u)]) ∧
    ∀ base : Heap, (K w.params).In base → base.Ns mainGlobals mg → ZFc l.prog w (K w.params) mg base (CX w) k fa fd [x] (sp w))
  (hsp : ∀ (w : World) (H : Hp) (a : Addr) (ns : List Int), ns.length ≤ n → ZSx H → SqL (K w.params) H a (ns.map V.int) → sp w [.ref a] H (fun v _ => v = .bl true) fun _ _ _ => False)
  (hCX : ∀ (w : World) (H : Hp) (s : Shared) (e : Value) (s' : Shared), CX w [] H s (fun _ _ _ => False) e s' → False) :
  PySem.W.WalkO q loose XP YP l.row.toRowW d [] (fun f vs => PySem.call f vs) := by
 refine Att.attach_call hn hdf fun w s₀ s₁ mg mb fa o pm cd doc a vs ns G Y ho hd hcd hmg hobj hints hlen hg => ?_
 have KX := hY w _ Y
 obtain ⟨fd, hb, hF⟩ := F w mg fa _ KX G.T.g hmg
 exact ZSy KX G.T.g G.T.b G.T.builtins G.T.nolimit hg hobj hints (Nat.le_trans hlen hn2) hr hF hb (fun H hO hS => hsp w H a ns hlen hO hS) fun H e s' => hCX w H s₁ e s'
end L2
namespace L2
open PySem PySem.Spec PyProof.Rows
def ZF3 (s : Stmt) (j : Nat) : Stmt := match s with
 | .ClassDef _ _ _ body _ _ _ _ _ _ _ => body.getD j (.Pass ⟨0, 0, 0, 0⟩)
 | _ => .Pass ⟨0, 0, 0, 0⟩
def ZGS (s : Stmt) : Arguments := match s with
 | .FunctionDef _ a _ _ _ _ _ _ _ _ => a
 | _ => { posonlyargs := [], args := [], vararg := none, kwonlyargs := [], kw_defaults := [], kwarg := none, defaults := [] }
def ZGE (s : Stmt) : List Stmt := match s with
 | .FunctionDef _ _ b _ _ _ _ _ _ _ => b
 | _ => []
def ZFW (s : Stmt) : Scope := match s with
 | .FunctionDef _ _ _ _ _ _ sc _ _ _ => sc
 | _ => { kind := .function, names := [], isGenerator := false, isCoroutine := false }
abbrev CX0 : CXT := fun _ _ _ _ _ _ => False
abbrev E0 : XK := fun _ _ _ => False
theorem ZGm {X : Cx} : ZGt CX0 X E0 := fun _ _ _ _ _ _ _ h => h.elim
structure Fun (K : W.Frag) (x qual : Str) (st : Stmt) (f : Addr) (fd : FuncData) : Prop where
 ex : ∃ (oc : Value) (od : Option Addr) (kV doc pm : Value) (an : Option Addr) (cdv ct : Value) (osl : Array (Option Value)),
  fd = W.fnOf x qual (ZGS st) (ZGE st) (ZFW st) .none kV doc pm an cdv ct ∧ K.lookup f = some ⟨oc, od, .func fd, osl⟩ ∧ W.codeIn K cdv qual = true
 kp : W.keepIn K (.ref f) = true
section
variable {P : Program} {w : World} {K : W.Frag} {mg : Str → Option Value} {base : Heap}
theorem Fun.ok {x qual : Str} {st : Stmt} {f : Addr} {fd : FuncData} {N ps : List Str} {k : Nat} {sp : Sp} (F : Fun K x qual st f fd) (S : ZFa N ps (ZFW st)) (len : ∀ vs H Q E, sp vs H Q E → vs.length = ps.length)
  (hbody : ∀ (cdv : Value) (A : Around) (outer : List Env) (s : Shared) (H : Hp) (vs : List V) (Q : VK) (E : XK), Room k (A.deeper (envOfC qual (ZFW st) s.heap.objs.size f cdv)) → sp vs H Q E →
   ∃ t, PSs (ZJO CX0 P w K mg base N qual (ZFW st) f cdv A outer s H E).nox (ZGE st) t ∧ t { nx := fun _ H' => Q .non H', rt := Q } (start N vs) H) : ZFc P w K mg base CX0 (k + 1) f fd ps sp := by
 obtain ⟨oc, od, kV, doc, pm, an, cdv, ct, osl, rfl, lk, hcd⟩ := F.ex
 refine ZQA lk hcd S len fun A outer s H vs Q E hr hsp => ?_
 obtain ⟨t, h, q⟩ := hbody cdv A outer s H vs Q E hr hsp
 exact ⟨t, h.nox, q⟩
theorem Fun.binds {x qual : Str} {st : Stmt} {f : Addr} {fd : FuncData} {ps : List Str} (F : Fun K x qual st f fd)
  (h : ∀ (kV doc pm : Value) (an : Option Addr) (cdv ct : Value) (us : List Value), us.length = ps.length → bindArgs (W.fnOf x qual (ZGS st) (ZGE st) (ZFW st) .none kV doc pm an cdv ct) ⟨us, []⟩ = pure (ps.zip us)) : ZFZ K fd ps [] := by
 obtain ⟨oc, od, kV, doc, pm, an, cdv, ct, osl, rfl, lk, hcd⟩ := F.ex
 exact .all (h kV doc pm an cdv ct)
theorem fun_mk {x qual : Str} {st : Stmt} {f : Addr} {oc : Value} {od an : Option Addr} {osl : Array (Option Value)} {kV doc pm cdv ct : Value} (l : K.lookup f = some ⟨oc, od, .func (W.fnOf x qual (ZGS st) (ZGE st) (ZFW st) .none kV doc pm an cdv ct), osl⟩)
 (c : W.codeIn K cdv qual = true) (k : W.keepIn K (.ref f) = true) : Fun K x qual st f (W.fnOf x qual (ZGS st) (ZGE st) (ZFW st) .none kV doc pm an cdv ct) := ⟨⟨oc, od, kV, doc, pm, an, cdv, ct, osl, rfl, l, c⟩, k⟩
end
theorem ZIh {A : Around} {k : Nat} (hr : Room k A) : A.units + 1 < cLine := Nat.lt_of_le_of_lt (Nat.add_le_add_left (by decide : 1 ≤ 64) _) hr.units
theorem ZGH {A B : Prop} (h : B) : if false = true then A else B := by
 rw [if_neg Bool.false_ne_true]
 exact h
theorem ZGX {A B : Prop} (h : A) : if true = true then A else B := by
 rw [if_pos rfl]
 exact h
def ZFY (H H' : Hp) : Prop := ∀ b o, H b = some o → H' b = some o
theorem ZFY.refl (H : Hp) : ZFY H H := fun _ _ h => h
theorem ZFY.trans {H H1 H2 : Hp} (a : ZFY H H1) (b : ZFY H1 H2) : ZFY H H2 := fun c o h => b c o (a c o h)
theorem ZFY.free {H H' : Hp} (e : ZFY H H') {l : Addr} (h : H' l = Option.none) : H l = Option.none := by
 cases q : H l with
 | none => rfl
 | some o =>
  rw [e l o q] at h
  cases h
theorem ZFY.seq {K : W.Frag} {H H' : Hp} {a : Addr} {xs : List V} (e : ZFY H H') (h : SqL K H a xs) : SqL K H' a xs := by
 rcases h with (h | ⟨o, h⟩) | h
 ·exact .inl (.inl (e _ _ h))
 ·exact .inl (.inr ⟨o, e _ _ h⟩)
 ·exact .inr h
end L2
namespace L2
open PySem PySem.Spec PyProof.Rows PySem.W
section
variable {X : Cx}
theorem ZGF : OpR X (binaryOp .Mult) (rI IntMulOk fun i j => .int (i * j)) := opI fun _ _ _ _ _ _ _ hc q => mul_int q hc
def ZJB (_ j : Int) : Prop := 0 < j ∧ j.natAbs.log2 < 9000
theorem ZIs : OpR X (binaryOp .FloorDiv) (rI ZJB fun i j => .int (i / j)) := opI fun i j _ _ _ _ _ hc q => by
 have h1 : (0 : Int) < j := hc.1
 exact floordiv_int (by omega) (by rw [Int.fdiv_eq_ediv_of_nonneg i (by omega)]; exact q) (.inl (PyProof.noPylong_of_log2 hc.2))
theorem ZJB.of {i j : Int} (h : 0 < j) {k : Nat} (h2 : j < 2 ^ k) (hk : k ≤ 9000) : ZJB i j := by
 refine ⟨h, ?_⟩
 have h3 : j.natAbs < 2 ^ k := by
  have e : ((j.natAbs : Nat) : Int) = j := by omega
  have e2 : ((2 ^ k : Nat) : Int) = (2 : Int) ^ k := by simp
  have : ((j.natAbs : Nat) : Int) < ((2 ^ k : Nat) : Int) := by rw [e, e2]; exact h2
  exact Int.ofNat_lt.mp this
 have h4 : j.natAbs.log2 < k := (Nat.log2_lt (by omega)).mpr h3
 omega
theorem ZY5 {i j : Int} (h1 : -(2 ^ 64) < i) (h2 : i < 2 ^ 64) : IntMulOk i j := .of_left (intBits_le_64 h1 h2)
theorem ZY6 {i j : Int} (h1 : -(2 ^ 64) < j) (h2 : j < 2 ^ 64) : IntMulOk i j := .of_right (intBits_le_64 h1 h2)
theorem ZL7 : ∀ {bs : List Bool} {us : List Value}, ZFj (bs.map V.bl) us → ∀ (i : Nat) (v : Value), us[i]? = some v → ∃ b, bs[i]? = some b ∧ v = .bool b
 | [], _, .nil, i, v, h => by simp at h
 | b :: bs, _, .cons r t, 0, v, h => by
  simp at h; subst h
  exact ⟨b, rfl, r⟩
 | b :: bs, _, .cons r t, i + 1, v, h => by
  simpa using ZL7 t i v (by simpa using h)
theorem ZSz (hc : X.calm = true) : ZF5 X (.builtin "all") (fun xs H Q => ∃ (p : Addr) (bs : List Bool), xs = [.ref p] ∧ SqL X.K H p (bs.map V.bl) ∧ Q (.bl (bs.all id)) H) := by
 intro pins s σ H xs us Q I r h
 obtain ⟨p, bs, rfl, hq, q⟩ := h
 cases r with
 | cons r1 r2 =>
 cases r2
 cases r1
 obtain ⟨its, rv, pl, hz⟩ := I.list hq
 have hl : s.heap.IsList p its.toArray := pl.isList
 have hlt : p < s.heap.objs.size := by obtain ⟨_, e, _⟩ := hl; exact Heap.lt_size e
 refine call_all_walk (wpAny_pyIter_list hl ?_)
 refine ⟨s.heap.objs.size, [s.heap.objs.size, p], [s.heap.objs.size], its.toArray.size, _, _, fun i => (bs[i]?).getD true, rfl, Walks.list (A := X.A.in1) (I.ok.hd hc) _ p (Nat.ne_of_lt hlt) its.toArray,
  ⟨⟨_, Heap.get?_push_size _ rfl, rfl, rfl⟩, hl.push _⟩, fun i v s' Q' E' hP hQ => ?_, fun h' tk hk => ?_⟩
 ·obtain ⟨b, e, rfl⟩ := ZL7 rv i v (by simpa using hP)
  simp only [e, Option.getD_some] at hQ
  exact wpAny_truthy_bool hQ
 ·have e : ((List.range its.toArray.size).all fun i => (bs[i]?).getD true) = bs.all id := by
   have hl2 := rv.length
   rw [List.length_map] at hl2
   rw [List.size_toArray, ← hl2]; exact PyProof.Rows.LSm.range_all bs
  rw [e]
  refine ⟨.bl _, H, I.kept fun b x e => hk b x (fun hm => by rw [List.mem_singleton.mp hm] at e; exact Nat.lt_irrefl _ (Heap.lt_size e)) (Heap.get?_push_of_some _ e), rfl, q⟩
def ZS0 (K : W.Frag) : List V → Hp → VK → Prop := fun xs H Q => ∃ x n t b, xs = [x, .ty n] ∧ ZHt K H x t ∧ W.kitOne K t (.type n) = some b ∧ Q (.bl b) H
theorem ZS1 : ZF5 X (.builtin "isinstance") (ZS0 X.K) := by
 intro pins s σ H xs us Q I r h
 obtain ⟨x, n, t, b, rfl, ty, e, q⟩ := h
 obtain ⟨u, v, rfl, ru, rv⟩ := r.two
 obtain rfl : v = Value.type n := rv
 exact ZRK I ru ty e fun tk => ⟨.bl b, H, I.tok _, rfl, q⟩
end
theorem ZNR {l : List (Str × Addr)} {x : Str} {c : Addr} (h : (x, c) ∈ l) : ∃ d, l.lookup x = some d := by
 induction l with
 | nil => cases h
 | cons p r ih =>
  obtain ⟨y, d⟩ := p
  cases hx : x == y with
  | true => exact ⟨d, by simp [List.lookup_cons, hx]⟩
  | false =>
   have hr : (x, c) ∈ r := by
    rcases List.mem_cons.mp h with e | e
    ·cases e
     simp at hx
    ·exact e
   obtain ⟨d', e⟩ := ih hr
   exact ⟨d', by simp only [List.lookup_cons, hx]; exact e⟩
theorem ZIt {env : Env} : ∀ (names : List (Str × NameKind)) (acc : List (Str × Addr)), (∀ y ∈ names, y.2 = NameKind.free → ∃ c, env.cells.lookup y.1 = some c) → (∀ p ∈ acc, env.cells.lookup p.1 = some p.2) →
  ∃ cl : List (Str × Addr), (forIn names acc fun (x : Str × NameKind) (r : List (Str × Addr)) => (match x with | (name, kind) => if (kind == NameKind.free) = true then (do let a ← cellOf env name; pure (ForInStep.yield ((name, a) :: r))) else pure (ForInStep.yield r) : Sem (ForInStep (List (Str × Addr))))) = pure cl
   ∧ (∀ p ∈ cl, env.cells.lookup p.1 = some p.2) ∧ (∀ p ∈ acc, p ∈ cl) ∧ ∀ y ∈ names, y.2 = NameKind.free → ∃ c, (y.1, c) ∈ cl
 | [], acc, _, ha => ⟨acc, by simp, ha, fun _ h => h, fun y h => by cases h⟩
 | (n, k) :: r, acc, h, ha => by
  by_cases hk : k = NameKind.free
  ·subst hk
   obtain ⟨c, hc⟩ := h (n, .free) List.mem_cons_self rfl
   obtain ⟨cl, e, h1, h2, h3⟩ := ZIt r ((n, c) :: acc) (fun y hy => h y (List.mem_cons_of_mem _ hy)) (fun p hp => by
    rcases List.mem_cons.mp hp with rfl | hp
    ·exact hc
    ·exact ha p hp)
   refine ⟨cl, ?_, h1, fun p hp => h2 p (List.mem_cons_of_mem _ hp), fun y hy hf => ?_⟩
   ·rw [List.forIn_cons]
    simp only [beq_self_eq_true, if_true, cellOf, hc, pure_bind]
    exact e
   ·rcases List.mem_cons.mp hy with rfl | hy
    ·exact ⟨c, h2 _ List.mem_cons_self⟩
    ·exact h3 y hy hf
  ·obtain ⟨cl, e, h1, h2, h3⟩ := ZIt r acc (fun y hy => h y (List.mem_cons_of_mem _ hy)) ha
   have hb : (k == NameKind.free) = false := by simpa using hk
   refine ⟨cl, ?_, h1, h2, fun y hy hf => ?_⟩
   ·rw [List.forIn_cons]
    simp only [hb, Bool.false_eq_true, if_false, pure_bind]
    exact e
   ·rcases List.mem_cons.mp hy with rfl | hy
    ·exact absurd hf hk
    ·exact h3 y hy hf
theorem ZL8 {scope : Scope} {env : Env} (h : ∀ y ∈ scope.names, y.2 = NameKind.free → ∃ c, env.cells.lookup y.1 = some c) :
  ∃ cl, closureFor scope env = pure cl ∧ (∀ x c, cl.lookup x = some c → env.cells.lookup x = some c) ∧ ∀ y ∈ scope.names, y.2 = .free → ∃ c, cl.lookup y.1 = some c := by
 obtain ⟨cl, e, h1, _, h3⟩ := ZIt scope.names [] h (fun p hp => by cases hp)
 refine ⟨cl, ?_, fun x c hx => h1 (x, c) (PySem.mem_of_lookup hx), fun y hy hf => ?_⟩
 ·simp only [closureFor]
  rw [e]
  rfl
 ·obtain ⟨c, hc⟩ := h3 y hy hf
  exact ZNR hc
theorem ZIB {env : Env} : ∀ (names : List (Str × NameKind)) (x : Str),
  (names.map fun (n, k) => if (k == NameKind.free && env.scope.kind == .function && env.kindOf n == some .cell) then (n, NameKind.cell) else (n, k)).lookup x =
   (names.lookup x).map fun k => if (k == NameKind.free && env.scope.kind == .function && env.kindOf x == some .cell) then NameKind.cell else k
 | [], _ => rfl
 | (n, k) :: r, x => by
  have ih := ZIB (env := env) r x
  show List.lookup x ((if (k == NameKind.free && env.scope.kind == .function && env.kindOf n == some .cell) = true then (n, NameKind.cell) else (n, k)) :: _) = _
  cases hx : x == n with
  | true =>
   have e : x = n := eq_of_beq hx
   subst e
   by_cases hc : (k == NameKind.free && env.scope.kind == .function && env.kindOf x == some .cell) = true
   ·rw [if_pos hc]
    simp only [List.lookup_cons, beq_self_eq_true, Option.map_some]
    rw [if_pos hc]
   ·rw [if_neg hc]
    simp only [List.lookup_cons, beq_self_eq_true, Option.map_some]
    rw [if_neg hc]
  | false =>
   by_cases hc : (k == NameKind.free && env.scope.kind == .function && env.kindOf n == some .cell) = true
   ·rw [if_pos hc]; simp only [List.lookup_cons, hx]; exact ih
   ·rw [if_neg hc]; simp only [List.lookup_cons, hx]; exact ih
structure ZKP (N : List Str) (sc : Scope) (own caps : List Str) (ks : List Nat) (scope : Scope) : Prop where
 kind : scope.kind = .function
 nocell : ∀ y ∈ scope.names, y.2 ≠ .cell
 names : ∀ y ∈ scope.names, y.2 = .local → scope.names.lookup y.1 = some .local
 free : ∀ y ∈ scope.names, y.2 = .free → sc.names.lookup y.1 = some .cell
 nd : (own ++ caps).Nodup
 cap : ks.map (fun k => N[k]?) = caps.map some
 fr : ∀ x ∈ caps, scope.names.lookup x = some .free
def ZFx (X : Cx) (N' : List Str) (scope : Scope) (cl : List (Str × Addr)) (C : Addr) (s₂ : Shared) (H₂ : Hp) (fp : List Addr) : Cx :=
 { X with N := N', s₀ := s₂, H₀ := H₂, env := compEnvC scope cl C X.env, outer := X.stack, stack := X.stack, ex := fp, fn := fun _ => false, pn := [], xe := fun _ _ => False }
def ZHh (own : Nat) (ks : List Nat) (σ : St) : St := List.replicate own none ++ ks.map fun k => (σ[k]?).join
section
variable {prog : Program} {w : World} {A : Around} {R : Result → Shared → Prop} {s : Shared}
theorem ZHu {elt target iter : Expr} {ifs : List Expr} {scope : Scope} {pos : Pos} {it acc : Value} {env : Env} (I : Nat → Shared → Prop)
  (turn : ∀ n s, I n s → wpAny (model prog w) A (pyNext it) (fun r s₁ => match r with
   | none => R (.ok .next) s₁
   | some v => wpAny (model prog w) A (letOwnedTupleGo target it v) (fun _ s₁' => wpAny (model prog w) A (assign target env v) (fun _ s₂ =>
    wpAny (model prog w) A (forIn ifs true fun c r => if r = true then do let ok ← isTrue c env (eval c env); pure (ForInStep.yield ok) else pure (ForInStep.yield r)) (fun ok s₃ =>
     if ok = true then wpAny (model prog w) A (eval elt env) (fun x s₄ =>
      wpAny (model prog w) A (call (.builtin "list.append") [acc, x]) (fun _ s₅ => ∃ m, m < n ∧ I m s₅) (notedBy (model prog w) A env fun e s' => R (.error e) s') s₄) (notedBy (model prog w) A env fun e s' => R (.error e) s') s₃
     else ∃ m, m < n ∧ I m s₃) (notedBy (model prog w) A env fun e s' => R (.error e) s') s₂) (notedBy (model prog w) A env fun e s' => R (.error e) s') s₁') (notedBy (model prog w) A env fun e s' => R (.error e) s') s₁) (notedBy (model prog w) A env fun e s' => R (.error e) s') s)
  (n : Nat) (h : I n s) :
  codeAny (model prog w) A (.compLoop (.ListComp elt [⟨target, iter, ifs, 0⟩] scope pos) 0 it acc env) R s := by
 refine codeAny_loop rfl I (fun n s hI => ?_) n h
 show wpAny _ A ((compTurn (.ListComp elt [⟨target, iter, ifs, 0⟩] scope pos) 0 it acc env).onRaise (fun x => do noteFrame x env; theTreesLotGoes x)) _ _ s
 refine wpAny_noted ?_
 rw [compTurn_list]
 refine wpAny_bind (wpAny_standAt (wpAny_bind (wpAny_mono (turn n s hI) (fun r s₁ h₁ => ?_) fun _ _ h' => h')))
 cases r with
 | none => exact wpAny_pure h₁
 | some v =>
  refine wpAny_bind (wpAny_mono h₁ (fun _ s₁' h₁' => ?_) fun _ _ h' => h')
  refine wpAny_bind (wpAny_mono h₁' (fun _ s₂ h₂ => wpAny_bind (wpAny_mono h₂ (fun ok s₃ h₃ => ?_) fun _ _ h' => h')) fun _ _ h' => h')
  cases ok with
  | false => exact wpAny_pure ⟨rfl, h₃⟩
  | true =>
   exact wpAny_bind (wpAny_bind (wpAny_mono h₃ (fun x s₄ h₄ => wpAny_bind (wpAny_mono h₄ (fun _ s₅ h₅ => wpAny_pure (wpAny_pure ⟨rfl, h₅⟩)) fun _ _ h' => h')) fun _ _ h' => h'))
end
def ZMU (X : Cx) (ifs : List Expr) (t : TT) : Prop :=
 ∀ (pins : List (Addr × Obj)) (s : Shared) (σ : St) (H : Hp) (Q : Bool → Hp → Prop), Inv X pins σ H s → t σ H Q →
  wpAny (model X.prog X.w) X.A (forIn ifs true fun c r => if r = true then do let ok ← isTrue c X.env (eval c X.env); pure (ForInStep.yield ok) else pure (ForInStep.yield r)) (TP X pins σ Q) X.xe s
def ZQH : TT := fun _ H Q => Q true H
section
variable {X : Cx}
theorem ZS2 : ZMU X [] ZQH := fun _ _ _ H _ I h => wpAny_tests_nil ⟨H, I, h⟩
theorem ZS3 {c : Expr} {t : TT} (hc : PT X c t) : ZMU X [c] t := fun pins s σ H Q I h => wpAny_tests_one (hc pins s σ H Q I h)
def ZK1 (own : Nat) (ks : List Nat) (wi : TI) (g : TG) (tt : TT) (te : TE) : TE := fun σ H Q => wi σ H fun J H1 => ∀ l, H1 l = none →
 ∃ W : Nat → Nat → St → Hp → Prop, (∃ m, W 0 m (ZHh own ks σ) (upd H1 l (.lst []))) ∧ ∀ i m σ' H', W i m σ' H' →
  (J.stop i H' ∧ Q (.ref l) H') ∨ (J.go i H' ∧ ∃ N : St → Hp → Prop, (∀ σ2 H2, N σ2 H2 → ∃ m', m' < m ∧ W (i + 1) m' σ2 H2) ∧
   ∀ x H'', J.yld i H' x H'' → g x σ' H'' fun σ2 H2 => tt σ2 H2 fun b H3 =>
    if b = true then te σ2 H3 fun v H4 => ∃ xs, H4 l = some (.lst xs) ∧ xs.length < sizeLine ∧ N σ2 (upd H4 l (.lst (xs ++ [v]))) else N σ2 H3)
theorem ZM4 {α : Type} {o : Option (Option α)} {v : α} (h : o.join = some v) : o = some (some v) := by
 cases o with
 | none => cases h
 | some x => exact congrArg some h
theorem ZVB {N : List Str} {sc : Scope} {own caps : List Str} {ks : List Nat} {elt tg iter : Expr} {ifs : List Expr} {scope : Scope} {pos : Pos} {wi : TI} {g : TG} {tt : TT} {te : TE}
  (hN : X.N = N) (hsc : X.env.scope = sc) (hc : X.calm = true) (S : ZKP N sc own caps ks scope) (hi : PI X tg iter wi)
  (hg : ∀ cl C s₂ H₂ fp, PG (ZFx X (own ++ caps) scope cl C s₂ H₂ fp) tg g)
  (ht : ∀ cl C s₂ H₂ fp, ZMU (ZFx X (own ++ caps) scope cl C s₂ H₂ fp) ifs tt)
  (he : ∀ cl C s₂ H₂ fp, PE (ZFx X (own ++ caps) scope cl C s₂ H₂ fp) elt te)
  (hs : ∀ x, foldedSetIterable iter X.env x = pure x := by intro _; rfl) :
  PE X (.ListComp elt [⟨tg, iter, ifs, 0⟩] scope pos) (ZK1 own.length ks wi g tt te) := by
 intro pins s σ H Q I h
 subst hN hsc
 rw [eval_ListComp]
 obtain ⟨cl, hclos, hcl, hclf⟩ := ZL8 (scope := scope) (env := X.env) fun y hy hf => I.ok.has y.1 (.inl (S.free y hy hf))
 refine wpAny_comprehension_free (use := none) rfl hs hclos S.kind S.names (wpAny_mono (hi pins s σ H _ I h) (fun xv s₁ h₁ => wpAny_mono h₁ (fun it s₂ h₂ => ?_) fun _ _ e => e) fun _ _ e => e)
 obtain ⟨it, fp, tn, J, H2, e, I2, T, st2, f2, q⟩ := h₂
 subst e
 refine wpAny_newObj_type (wpAny_newFunctionEnv S.nocell (by intro y hy; simp at hy) (fun h₁ hns₁ hsb₁ => ?_) S.kind)
 dsimp only at hns₁ hsb₁ ⊢
 generalize hH2 : s₂.heap.push { cls := .type "list", dict := none, data := .seq ([] : List Value).toArray } = HP at hns₁ hsb₁ ⊢
 have hC : HP.objs.size = s₂.heap.objs.size + 1 := by rw [← hH2, Heap.size_push]
 have hDC : s₂.heap.objs.size ≠ HP.objs.size := by rw [hC]; exact Nat.ne_of_lt (Nat.lt_succ_self _)
 have hCle : s₂.heap.objs.size ≤ HP.objs.size := by rw [hC]; exact Nat.le_succ _
 have old : ∀ b o, s₂.heap.get? b = some o → h₁.get? b = some o := fun b o e => by
  have hb : b < s₂.heap.objs.size := Heap.lt_size e
  exact hsb₁.extBut b o (by rw [hC]; exact Nat.ne_of_lt (Nat.lt_succ_of_lt hb)) (Heap.get?_push_of_some _ (hH2 ▸ Heap.get?_push_of_some _ e))
 have hacc : h₁.get? s₂.heap.objs.size = some { cls := .type "list", dict := none, data := .seq ([] : List Value).toArray } := hsb₁.extBut _ _ hDC (Heap.get?_push_of_some _ (hH2 ▸ Heap.get?_push_size _ rfl))
 have fpl : ∀ b ∈ fp, b < s₂.heap.objs.size := fun b hb => by
  obtain ⟨o, e, _⟩ := T.obj _ _ st2 b hb
  exact Heap.lt_size e
 have hfD : H2 s₂.heap.objs.size = none := I2.hok.fresh (Nat.le_refl _)
 obtain ⟨W, ⟨m0, w0⟩, turn⟩ := q s₂.heap.objs.size hfD
 have hkr : ∀ x, (compEnvC scope cl HP.objs.size X.env).kindOf x = (scope.names.lookup x).map fun k => if (k == NameKind.free && X.env.scope.kind == .function && X.env.kindOf x == some .cell) then NameKind.cell else k := fun x => ZIB (env := X.env) scope.names x
 have cellOfN : ∀ x, scope.names.lookup x = some .free → X.env.kindOf x = some .cell := fun x e => S.free (x, .free) (PySem.mem_of_lookup e) rfl
 -- the context within
 have ok : (ZFx X (own ++ caps) scope cl HP.objs.size s₂ H2 fp).Ok := by
  refine ⟨I2.ok.mod, S.kind, I2.ok.glob, I2.ok.blt, hCle, fun x y c e1 e2 => I2.ok.inj x y c (hcl x c e1) (hcl y c e2), fun x hx => ?_, fun x c z => (by cases z), I2.ok.hd, I2.ok.frames, .inl rfl, fun b hb => ⟨?_, fun x c e => (f2 b hb).2.2.2.2.1 x c (hcl x c e)⟩,
   I2.bs, Nat.le_trans I2.ok.bsz I2.sz, fun b o e hb => ?_, fun b hb z => ?_, I2.stack, I2.stkFree⟩
  ·have hx' : (scope.names.lookup x).map (fun k => if (k == NameKind.free && X.env.scope.kind == .function && X.env.kindOf x == some .cell) then NameKind.cell else k) = some .cell ∨
     (scope.names.lookup x).map (fun k => if (k == NameKind.free && X.env.scope.kind == .function && X.env.kindOf x == some .cell) then NameKind.cell else k) = some .free := by rw [← hkr x]; exact hx
   cases e : scope.names.lookup x with
   | none => rw [e] at hx'; rcases hx' with z | z <;> cases z
   | some k =>
    have hm := PySem.mem_of_lookup e
    have hk : k = .free := by
     by_cases hkf : k = .free
     ·exact hkf
     ·have hb : (k == NameKind.free) = false := by simpa using hkf
      rw [e] at hx'
      simp only [Option.map_some, hb, Bool.false_and, Bool.false_eq_true, if_false, Option.some.injEq] at hx'
      rcases hx' with z | z
      ·exact absurd z (S.nocell _ hm)
      ·exact z
    exact hclf _ hm hk
  ·exact Nat.ne_of_lt (Nat.lt_of_lt_of_le (fpl b hb) hCle)
  ·rcases (f2 b hb).2.2.2.1 with z | z
   ·exact I2.ok.noex b o e z
   ·exact absurd (Nat.lt_of_lt_of_le (Heap.lt_size e) (Nat.le_trans I2.ok.bsz z)) (Nat.lt_irrefl _)
  ·rcases List.mem_cons.mp (I2.stkSub b z) with r | r
   ·exact (f2 b hb).2.1 r
   ·exact (f2 b hb).2.2.1 r
 have hlen : (ZHh own.length ks σ).length = (own ++ caps).length := by
  have := congrArg List.length S.cap
  simp only [List.length_map] at this
  simp [ZHh, this]
 have I4 : Inv (ZFx X (own ++ caps) scope cl HP.objs.size s₂ H2 fp) [] (ZHh own.length ks σ) (upd H2 s₂.heap.objs.size (.lst [])) { s₂ with heap := h₁, toks := s₂.toks + ([] : List (Str × Value)).length } := by
  obtain ⟨mX, hnX, hlX⟩ := I2.loc
  refine ⟨ok, rfl, I2.bare, Un.laid old (Nat.le_refl _) hfD, ⟨_, hns₁, fun i x v e1 e2 e3 => ?_⟩, fun x c e => ?_, ?_, fun x c e => ?_, fun p hp => (by cases hp), I2.hok.laid old (Nat.le_refl _) ⟨Nat.zero_le _, [], 0, .nil, hacc⟩, hlen⟩
  ·have e1 : (own ++ caps)[i]? = some x := e1
   by_cases hio : i < own.length
   ·unfold ZHh at e2
    rw [List.getElem?_append_left (by simpa using hio), List.getElem?_replicate] at e2
    rw [if_pos hio] at e2
    cases e2
   ·unfold ZHh at e2
    rw [List.getElem?_append_right (by simpa using hio), List.length_replicate, List.getElem?_map] at e2
    rw [List.getElem?_append_right (by simpa using hio)] at e1
    cases ek : ks[i - own.length]? with
    | none => rw [ek] at e2; cases e2
    | some k =>
     rw [ek] at e2
     have e2' := ZM4 (Option.some.inj e2)
     have hcap := congrArg (fun l => l[i - own.length]?) S.cap
     simp only [List.getElem?_map, ek, e1, Option.map_some] at hcap
     have hNk : X.N[k]? = some x := Option.some.inj hcap
     have hfx := S.fr x (List.mem_of_getElem? e1)
     have hkX := cellOfN x hfx
     obtain ⟨u, ru, lk⟩ := hlX k x v hNk e2' (.inr (.inl hkX))
     refine ⟨u, ru, .inr ⟨.inl ?_, ?_⟩⟩
     ·show (compEnvC scope cl HP.objs.size X.env).kindOf x = some .cell
      rw [hkr x, hfx]
      simp [I2.ok.kind, hkX]
     ·rcases lk with ⟨z, _⟩ | ⟨_, c, ec, o, ho, hd⟩
      ·rw [hkX] at z; cases z
      ·obtain ⟨c', ec'⟩ := hclf (x, .free) (PySem.mem_of_lookup hfx) rfl
       have := hcl _ _ ec'
       rw [ec] at this
       cases this
       exact ⟨c, ec', o, old _ _ ho, hd⟩
  ·obtain ⟨v, o, ho, hd⟩ := I2.cell x c (hcl x c e)
   exact ⟨v, o, old _ _ ho, hd⟩
  ·show upd H2 s₂.heap.objs.size (.lst []) HP.objs.size = none
   rw [ZFg (Ne.symm hDC)]
   exact I2.hok.fresh hCle
  ·obtain ⟨v, o, ho, hd⟩ := I2.cell x c (hcl x c e)
   show upd H2 s₂.heap.objs.size (.lst []) c = none
   rw [ZFg (Nat.ne_of_lt (Heap.lt_size ho))]
   exact I2.freeC x c (hcl x c e)
 -- the way out
 have out : ∀ {σ' : St} {H' : Hp} {s' : Shared}, Inv (ZFx X (own ++ caps) scope cl HP.objs.size s₂ H2 fp) [] σ' H' s' → Q (.ref s₂.heap.objs.size) H' →
   ∃ m, s'.heap.Ns HP.objs.size m ∧ ∀ h', Heap.SameBut HP.objs.size s'.heap h' → EP X pins σ Q (.ref s₂.heap.objs.size) { s' with heap := h' } := fun {σ' H' s'} I' q' => by
  obtain ⟨m, hn, _⟩ := I'.loc
  refine ⟨m, hn, fun h' hs' => ⟨.ref s₂.heap.objs.size, H', ?_, rfl, q'⟩⟩
  have hfree : H' HP.objs.size = none := I'.free
  have neC : ∀ {b : Addr} {o : Obj}, s₂.heap.get? b = some o → b ≠ HP.objs.size := fun e => Nat.ne_of_lt (Nat.lt_of_lt_of_le (Heap.lt_size e) hCle)
  refine I2.call' (ch := fp) (s' := { s' with heap := h' }) I'.os ⟨fun b o e n hb hx => ?_, fun b o e n hb hx => ?_, I'.base.free, fun b o e hx => ?_, I'.base.tups, I'.base.frzs, I'.base.tbls⟩ (fun b ob e => ?_) I'.bare fun b hb => ⟨(f2 b hb).2.2.2.1, (f2 b hb).2.1, (f2 b hb).2.2.2.2.1, (f2 b hb).2.2.2.2.2⟩
  ·exact (hs'.2 b (neC e)).trans (I'.base.keep b o e n hb hx)
  ·obtain ⟨sl, e1⟩ := I'.base.slot b o e n hb hx
   exact ⟨sl, (hs'.2 b (neC e)).trans e1⟩
  ·obtain ⟨o', e1⟩ := I'.base.there b o e hx
   exact ⟨o', (hs'.2 b (neC e)).trans e1⟩
  ·refine (I'.hok b ob e).stay (fun c w' hc q => (hs'.2 c ?_).trans q) (fun _ q => q) fun _ _ q => q
   rintro rfl
   rcases hc with rfl | hc
   ·rw [hfree] at e; cases e
   ·rw [hfree] at hc; cases hc
 have stat : ∀ {H' : Hp}, (∀ b ∈ fp, H' b = none) → ∀ b ∈ fp, ZGz (ZFx X (own ++ caps) scope cl HP.objs.size s₂ H2 fp) [] H' b := fun hn b hb =>
  ⟨hn b hb, Nat.ne_of_lt (Nat.lt_of_lt_of_le (fpl b hb) hCle), ok.exfs b hb, .inl hb, (ok.exf b hb).2, fun p hp => by cases hp⟩
 have fr4 : ∀ b ∈ fp, upd H2 s₂.heap.objs.size (.lst []) b = none := fun b hb => by
  rw [ZFg (Nat.ne_of_lt (fpl b hb))]
  exact (f2 b hb).1
 have tn4 : tn 0 h₁ := T.keep _ _ _ st2 fun b _ o e => old b o e
 have loop : ∀ s4 : Shared, s4 = { s₂ with heap := h₁, toks := s₂.toks + ([] : List (Str × Value)).length } →
   codeAny (model X.prog X.w) X.A (.compLoop (.ListComp elt [⟨tg, iter, ifs, 0⟩] scope pos) 0 (.ref it) (.ref s₂.heap.objs.size) (compEnvC scope cl HP.objs.size X.env))
    (compPost (model X.prog X.w) X.A X.xe none (EP X pins σ Q) (.ref s₂.heap.objs.size) HP.objs.size) s4 := by
  rintro s4 rfl
  refine ZHu (fun n s' => ∃ i σ' H', Inv (ZFx X (own ++ caps) scope cl HP.objs.size s₂ H2 fp) [] σ' H' s' ∧ tn i s'.heap ∧ (∀ b ∈ fp, H' b = none) ∧ W i n σ' H') ?_ m0 ⟨0, _, _, I4, tn4, fr4, w0⟩
  rintro n s3 ⟨i, σ3, H3, I3, st3, fr3, w3⟩
  rcases turn i n σ3 H3 w3 with ⟨stop, qn⟩ | ⟨go, N, hN, step⟩
  ·refine wpAny_mono (T.done (ZFx X (own ++ caps) scope cl HP.objs.size s₂ H2 fp) rfl rfl rfl hc i [] s3 σ3 H3 (fun _ _ => False) I3 (stat fr3) st3 stop) (fun r s4 ⟨hr, I4'⟩ => ?_) fun _ _ z => False.elim z
   subst hr
   exact out I4' qn
  ·refine wpAny_mono (T.item (ZFx X (own ++ caps) scope cl HP.objs.size s₂ H2 fp) rfl rfl rfl hc i [] s3 σ3 H3 (fun _ _ => False) I3 (stat fr3) st3 go) (fun r s4 ⟨u, hr, h4⟩ => ?_) fun _ _ z => False.elim z
   subst hr
   refine wpAny_mono h4 (fun _ s5 ⟨x, H5, I5, r5, y5, st5, fr5⟩ => ?_) fun _ _ z => False.elim z
   have I5' := I5.pinned (stat fr5) (T.obj _ _ st5)
   have back : ∀ {s7 : Shared} {σ7 : St} {H7 : Hp}, Inv (ZFx X (own ++ caps) scope cl HP.objs.size s₂ H2 fp) ([] ++ ZJc fp s5.heap) σ7 H7 s7 → N σ7 H7 →
     ∃ m, m < n ∧ ∃ i σ' H', Inv (ZFx X (own ++ caps) scope cl HP.objs.size s₂ H2 fp) [] σ' H' s7 ∧ tn i s7.heap ∧ (∀ b ∈ fp, H' b = none) ∧ W i m σ' H' := fun {s7 σ7 H7} I7 n7 => by
    obtain ⟨m', hm, w7⟩ := hN σ7 H7 n7
    refine ⟨m', hm, i + 1, σ7, H7, I7.unpinned, T.keep _ _ _ st5 fun b hb o e => (I7.pin (b, o) (List.mem_append_right _ (List.mem_append_right _ (ZHb hb e)))).1, fun b hb => ?_, w7⟩
    obtain ⟨o, e, d⟩ := T.obj _ _ st5 b hb
    exact (I7.pin (b, o) (List.mem_append_right _ (List.mem_append_right _ (ZHb hb e)))).2.1
   refine wpAny_mono (hg _ _ _ _ _ _ s5 σ3 H5 x u _ I5' r5 (step x H5 y5)) (fun _ s6 ⟨σ6, H6, I6, q6⟩ => ?_) fun _ _ z => False.elim z
   refine wpAny_mono (ht _ _ _ _ _ _ s6 σ6 H6 _ I6 q6) (fun b s7 ⟨H7, I7, q7⟩ => ?_) fun _ _ z => False.elim z
   cases b with
   | false =>
    rw [if_neg Bool.false_ne_true]
    rw [if_neg Bool.false_ne_true] at q7
    exact back I7 q7
   | true =>
    rw [if_pos rfl]
    rw [if_pos rfl] at q7
    refine wpAny_mono (he _ _ _ _ _ _ s7 σ6 H7 _ I7 q7) (fun y s8 ⟨v, H8, I8, r8, xs, hx8, hz8, n8⟩ => ?_) fun _ _ z => False.elim z
    refine wpAny_mono (ZG2 (X := ZFx X (own ++ caps) scope cl HP.objs.size s₂ H2 fp) _ s8 σ6 H8 (.ref s₂.heap.objs.size) [v] (.ref s₂.heap.objs.size) [y] (fun _ H' => N σ6 H') I8 rfl (.cons r8 .nil) ⟨_, xs, v, rfl, rfl, hx8, hz8, n8⟩) (fun _ s9 ⟨_, H9, I9, _, n9⟩ => ?_) fun _ _ z => False.elim z
    exact back I9 n9
 exact codeAny_compStart_list (loop _ rfl) (T.self _ 0 _ _ _ tn4 (loop _ rfl))
end
theorem ZW6 : bootBuiltins "int" = some (.type "int") := by decide +kernel
theorem ZVC : bootBuiltins "bool" = some (.type "bool") := by decide +kernel
theorem ZW7 : bootBuiltins "str" = some (.type "str") := by decide +kernel
theorem ZIu : bootBuiltins "tuple" = some (.type "tuple") := by decide +kernel
theorem ZIT : bootBuiltins "len" = some (.builtin "len") := by decide +kernel
theorem ZW8 : bootBuiltins "abs" = some (.builtin "abs") := by decide +kernel
theorem ZKQ : bootBuiltins "max" = some (.builtin "max") := by decide +kernel
theorem ZKR : bootBuiltins "min" = some (.builtin "min") := by decide +kernel
theorem ZW9 : bootBuiltins "all" = some (.builtin "all") := by decide +kernel
theorem ZM5 : bootBuiltins "sorted" = some (.builtin "sorted") := by decide +kernel
theorem ZGo : bootBuiltins "isinstance" = some (.builtin "isinstance") := by decide +kernel
def ZG3 : Expr → Bool
 | .Starred _ _ => true
 | _ => false
def ZGG (es : List Expr) : Bool := es.all fun e => !ZG3 e
theorem ZGd {e : Expr} {es : List Expr} {env : Env} (h : ZG3 e = false) : starEach (e :: es) env = (false, eval e env) :: starEach es env := by
 cases e <;> first | rfl | cases h
theorem ZHA {e : Expr} {es : List Expr} {env : Env} (h : ZGG (e :: es) = true) : starEach (e :: es) env = (false, eval e env) :: starEach es env := by
 refine ZGd ?_
 unfold ZGG at h
 rw [List.all_cons, Bool.and_eq_true] at h
 simpa using h.1
theorem ZGu {pos : Pos} {env : Env} : ∀ {es : List Expr}, ZGG es = true → (backTo pos (starEach es env)).any (·.1) = false
 | [], _ => rfl
 | e :: es, h => by
  rw [ZHA h]
  have h2 : ZGG es = true := by
   unfold ZGG at h ⊢
   rw [List.all_cons, Bool.and_eq_true] at h
   exact h.2
  exact ZGu h2
theorem ZGr {e : Expr} {es : List Expr} (h : ZGG (e :: es) = true) : ZGG es = true := by
 unfold ZGG at h ⊢
 rw [List.all_cons, Bool.and_eq_true] at h
 exact h.2
section
variable {X : Cx} {CX : CXT} {k : Nat} {f : Addr} {fd : FuncData} {ps : List Str} {sp : Sp} {dvs : List V} {ds : List Value} {E : XK} {x : Str} {p pos : Pos} {e : Expr} {es : List Expr} {te : TE} {t : TA} {id T : String} {r : List V → Hp → VK → Prop}
theorem ZY7 (ha : PE X e te) (hr : PA X es t) (hs : ZG3 e = false := by rfl) : PA X (e :: es) (ZNg te t) := ZU4 ha hr (ZGd hs)
theorem ZS4 (F : ZFc X.prog X.w X.K X.mg X.base CX k f fd ps sp) (hr : Room k X.A) (hg : Gl X x) (hm : X.mg x = some (.ref f)) (hk : W.keepIn X.K (.ref f) = true) (hb : ZFZ X.K fd ps ds) (hd : ZFj dvs ds) (hx : ZGt CX X E)
  (ha : PA X (e :: es) t) (hns : ZGG (e :: es) = true := by rfl) (hdb : (x == ("__debug__" : Str)) = false := by decide) : PE X (.Call (.Name x p) (e :: es) [] pos) (ZK0 sp dvs E t) :=
 ZU5 F hr hg hm hk hb hd hx ha hdb (ZHA hns) (ZGu (ZGr hns))
theorem ZRO (hc : ZF5 X (.builtin id) r) (hg : Gl X x) (hm : X.mg x = none) (hv : bootBuiltins x = some (.builtin id)) (ha : PA X (e :: es) t) (hns : ZGG (e :: es) = true := by rfl) (hn : x ≠ "__name__" := by decide) (hdb : (x == ("__debug__" : Str)) = false := by decide) :
 PE X (.Call (.Name x p) (e :: es) [] pos) (tCB r t) := ZSs hc hg hm hv ha hn hdb (ZHA hns) (ZGu (ZGr hns))
theorem ZQI (hc : ZF5 X (.type T) r) (hg : Gl X x) (hm : X.mg x = none) (hv : bootBuiltins x = some (.type T)) (ha : PA X (e :: es) t) (hns : ZGG (e :: es) = true := by rfl) (hn : x ≠ "__name__" := by decide) (hdb : (x == ("__debug__" : Str)) = false := by decide) :
 PE X (.Call (.Name x p) (e :: es) [] pos) (tCB r t) := ZRL hc hg hm hv ha hn hdb (ZHA hns) (ZGu (ZGr hns))
end
def ZHR : Expr → Bool
 | .ListComp _ _ _ _ => true
 | .SetComp _ _ _ _ => true
 | .DictComp _ _ _ _ _ => true
 | _ => false
theorem ZIC {e : Expr} {tg : Option Expr} {n : Nat} {env : Env} (h : ZHR e = false) : swapsWith e tg n env = pure false := by
 cases e <;> first | rfl | cases h
section
variable {X : Cx} {e : Expr} {te : TE} {pos : Pos}
theorem ZS5 (he : PE X e te) (hs : ZHR e = false := by rfl) : PS X (.Expr e pos) (ZNc te) := ZUs he (ZIC hs)
theorem ZVD {i : Nat} {x : Str} {pos' : Pos} (hN : X.N.Nodup) (hi : X.N[i]? = some x) (hx : Loc X.env.scope x) (he : PE X e te) (hs : ZHR e = false := by rfl) (hf : X.fn x = true ∨ X.env.scope.names.lookup x = some .local := by first | exact .inl rfl | exact .inr rfl | assumption) :
 PS X (.Assign [.Name x pos'] e pos) (ZJs te (ZIK i)) := ZWn hN hi hx he (ZIC hs) hf
end
def ZQJ (K : W.Frag) : List V → Hp → VK → Prop := fun xs H Q => ∃ p ys, xs = [.ref p] ∧ (SqL K H p ys ∨ SqT K H p ys) ∧ Q (.int ys.length) H
def ZXA : List V → Hp → VK → Prop := fun xs H Q => ∃ i, xs = [.int i] ∧ Q (.int (if i < 0 then -i else i)) H
def ZXB : List V → Hp → VK → Prop := fun xs H Q => ∃ i j, xs = [.int i, .int j] ∧ Q (.int (if j > i then j else i)) H
def ZXC : List V → Hp → VK → Prop := fun xs H Q => ∃ i j, xs = [.int i, .int j] ∧ Q (.int (if j < i then j else i)) H
def ZS6 (K : W.Frag) : List V → Hp → VK → Prop := fun xs H Q => ∃ (p : Addr) (bs : List Bool), xs = [.ref p] ∧ SqL K H p (bs.map V.bl) ∧ Q (.bl (bs.all id)) H
def ZNu (K : W.Frag) : List V → Hp → VK → Prop := fun xs H Q => ∃ p ys, xs = [.ref p] ∧ ((SqL K H p ys ∧ ∀ l, H l = none → Q (.ref l) (upd H l (.tup ys))) ∨ (SqT K H p ys ∧ Q (.ref p) H))
def ZXD : R2 := fun x y H Q => y = .non ∧ Q (.bl (decide (x = .non))) H
def ZUT : R2 := fun x y H Q => y = .non ∧ Q (.bl (!decide (x = .non))) H
section
variable {X : Cx}
theorem ZXE : ZF5 X (.builtin "len") (ZQJ X.K) := ZNs
theorem ZXF : ZF5 X (.builtin "abs") ZXA := ZSj
theorem ZNv (hc : X.calm = true) : ZF5 X (.builtin "max") ZXB := ZRF hc
theorem ZNw (hc : X.calm = true) : ZF5 X (.builtin "min") ZXC := ZRG hc
theorem ZXG (hc : X.calm = true) : ZF5 X (.builtin "all") (ZS6 X.K) := ZSz hc
theorem ZS7 : ZF5 X (.type "tuple") (ZNu X.K) := ZNQ
theorem ZNx : OpR X (compareOp .Is) ZXD := ZWs
theorem ZMV : OpR X (compareOp .IsNot) ZUT := ZUy
end
section
variable {K : W.Frag} {σ : St} {H : Hp} {Q : VK} {D : ZGW}
theorem ZXH {t u : TS} (h : t { D with nx := u D } σ H) : ZSQ t u D σ H := h
theorem ZXI {te : TE} (h : te σ H D.rt) : ZSS te D σ H := h
theorem ZVE {te : TE} (h : te σ H fun _ H1 => D.nx σ H1) : ZNc te D σ H := h
theorem ZVF (h : D.nx σ H) : ZP0 D σ H := h
theorem ZXJ {te : TE} {g : TG} (h : te σ H fun x H1 => g x σ H1 D.nx) : ZJs te g D σ H := h
theorem ZS8 {i : Nat} {v : V} {R : St → Hp → Prop} (h : R (σ.set i (some v)) H) : ZIK i v σ H R := h
theorem ZVG {R : St → Hp → Prop} (h : R σ H) : ZSV [] σ H R := ⟨rfl, h⟩
theorem ZS9 {t : TG} {u : TGs} {v : V} {r : List V} {R : St → Hp → Prop} (h : t v σ H fun σ' H' => u r σ' H' R) : ZP1 t u (v :: r) σ H R := ⟨v, r, rfl, h⟩
theorem ZVH {to ti : TE} {t : ZNm} {v : V} {R : St → Hp → Prop} (h : to σ H fun o H1 => ti σ H1 fun i H2 => t o i v H2 fun H3 => R σ H3) : ZSX to ti t v σ H R := h
theorem ZXK {c : TT} {t u : TS} (h : c σ H fun b H1 => if b = true then t D σ H1 else u D σ H1) : ZNl c t u D σ H := h
theorem ZVI {t : TE} {R : Bool → Hp → Prop} (h : t σ H fun x H' => ∃ k, x = .bl k ∧ R k H') : ZL0 t σ H R := h
theorem ZY8 {t : TE} {R : Bool → Hp → Prop} (h : t σ H fun x H' => ∃ k, x = .bl k ∧ R k H') : tB t σ H R := h
theorem ZMW {b : Bool} {R : Bool → Prop} (h : R b) : ∃ k, V.bl b = .bl k ∧ R k := ⟨b, rfl, h⟩
theorem ZXL {t u : TT} {R : Bool → Hp → Prop} (h : t σ H fun c H1 => if c = true then u σ H1 R else R false H1) : ZSM t u σ H R := h
theorem ZYj {t u : TT} {R : Bool → Hp → Prop} (h : t σ H fun c H1 => if c = true then R true H1 else u σ H1 R) : tOr t u σ H R := h
theorem ZXM {t : TT} {R : Bool → Hp → Prop} (h : t σ H fun c H1 => R (!c) H1) : ZSN t σ H R := h
theorem ZVJ {t u : TE} (h : t σ H fun x H1 => ∃ c, x = .bl c ∧ if c = true then u σ H1 Q else Q (.bl false) H1) : ZPy t u σ H Q := h
theorem ZXN {t u : TE} (h : t σ H fun x H1 => ∃ c, x = .bl c ∧ if c = true then Q (.bl true) H1 else u σ H1 Q) : ZSO t u σ H Q := h
theorem ZVK {t : TE} (h : t σ H fun x H1 => ∃ c, x = .bl c ∧ Q (.bl (!c)) H1) : ZPz t σ H Q := h
theorem ZYk {t : TT} {ta tb : TE} (h : t σ H fun c H1 => if c = true then ta σ H1 Q else tb σ H1 Q) : tIf t ta tb σ H Q := h
theorem ZXO {i : Nat} {v : V} (e : σ[i]? = some (some v)) (h : Q v H) : ZSL i σ H Q := ⟨v, e, h⟩
theorem ZNy {i j : Int} (h1 : 0 ≤ j) (h2 : j ≤ 1000000) (h3 : i.natAbs < 2 ^ 64) : ZSf i j := ⟨h1, h2, h3⟩
theorem ZY9 {v : V} (h : Q v H) : tC v σ H Q := h
theorem ZYl {r : R2} {ta tb : TE} (h : ta σ H fun x H1 => tb σ H1 fun y H2 => r x y H2 Q) : tOp r ta tb σ H Q := h
theorem ZYm {r : V → Hp → VK → Prop} {ta : TE} (h : ta σ H fun x H1 => r x H1 Q) : tUn r ta σ H Q := h
theorem ZYn {g : Int → Int → V} {i j : Int} (h : Q (g i j) H) : rI0 g (.int i) (.int j) H Q := ⟨i, j, rfl, rfl, h⟩
theorem ZLX {C : Int → Int → Prop} {g : Int → Int → V} {i j : Int} (c : C i j) (h : Q (g i j) H) : rI C g (.int i) (.int j) H Q := ⟨i, j, rfl, rfl, c, h⟩
theorem ZZA {g : Int → V} {i : Int} (h : Q (g i) H) : rU g (.int i) H Q := ⟨i, rfl, h⟩
theorem ZXP {i j : Int} (h : Q (.bl (decide (V.int i = V.int j))) H) : rEq (.int i) (.int j) H Q := ⟨rfl, h⟩
theorem ZYo {r : List V → Hp → VK → Prop} {t : TA} (h : t σ H fun vs H1 => r vs H1 Q) : tCB r t σ H Q := h
theorem ZVL {sp : Sp} {dvs : List V} {E : XK} {t : TA} (h : t σ H fun vs H1 => sp (vs ++ dvs) H1 Q E) : ZK0 sp dvs E t σ H Q := h
theorem ZVM {ta : TE} {tr : TA} {R : List V → Hp → Prop} (h : ta σ H fun x H1 => tr σ H1 fun xs H2 => R (x :: xs) H2) : ZNg ta tr σ H R := h
theorem ZXQ {R : List V → Hp → Prop} (h : R [] H) : ZLV σ H R := h
def ZTA (n : Nat) (o : HO) (H : Hp) (Q : VK) : Prop := n ≤ sizeLine ∧ ∀ p, H p = none → Q (.ref p) (upd H p o)
theorem ZXR {t : TA} (h : t σ H fun xs H1 => ZTA xs.length (.tup xs) H1 Q) : ZSo t σ H Q := h
theorem ZXS {t : TA} (h : t σ H fun xs H1 => ZTA xs.length (.lst xs) H1 Q) : ZSp t σ H Q := h
theorem ZFd {n : Nat} {o : HO} (hz : n ≤ sizeLine) (h : ∀ p H2, H p = none → H2 p = some o → ZFY H H2 → Q (.ref p) H2) : ZTA n o H Q :=
 ⟨hz, fun p hp => h p _ hp ZFf (fun b u e => by rw [ZFg (ZF2 e hp)]; exact e)⟩
theorem ZTB {r r' : R2} {ta tb tc : TE} (h : ta σ H fun x H1 => tb σ H1 fun y H2 => r x y H2 fun z H3 => ∃ k, z = .bl k ∧ (if k = true then tc σ H3 fun w' H4 => r' y w' H4 Q else Q (.bl false) H3)) : ZKN r r' ta tb tc σ H Q := h
theorem ZL9 {p : Addr} {xs : List V} {i : Int} {v : V} (h1 : SqL K H p xs) (h2 : atI xs i = some v) (h : Q v H) : ZQE K (.ref p) (.int i) H Q := ⟨p, xs, i, v, rfl, rfl, h1, h2, h⟩
theorem ZMA {p : Addr} {xs : List V} {i : Int} {v : V} (h1 : SqT K H p xs) (h2 : atI xs i = some v) (h : Q v H) : ZSv K (.ref p) (.int i) H Q := ⟨p, xs, i, v, rfl, rfl, h1, h2, h⟩
theorem ZPd {p : Addr} {xs : List V} {k : Int} {j : Nat} {v : V} {R : Hp → Prop} (h1 : H p = some (.lst xs)) (h2 : ixN xs.length k = some j)
  (h : ∀ H2, H2 p = some (.lst (xs.set j v)) → (∀ q o, H q = some o → q ≠ p → H2 q = some o) → R H2) : ZQG (.ref p) (.int k) v H R :=
 ⟨p, xs, k, j, rfl, rfl, h1, h2, h _ ZFf fun q o e n => by rw [ZFg n]; exact e⟩
theorem ZVN {p : Addr} {xs : List V} {k : Int} {j : Nat} {v : V} {R : Hp → Prop} (h1 : H p = some (.lst xs)) (h2 : ixN xs.length k = some j) (h : R (upd H p (.lst (xs.set j v)))) : ZQG (.ref p) (.int k) v H R := ⟨p, xs, k, j, rfl, rfl, h1, h2, h⟩
def rFor (J : It) (g : TG) (tb : TS) (D : ZGW) (σ : St) (H : Hp) : Prop := ∃ W : Nat → Nat → St → Hp → Prop, (∃ m, W 0 m σ H) ∧ ∀ i m σ H, W i m σ H →
 (J.stop i H ∧ D.nx σ H) ∨ (J.go i H ∧ ∃ N : St → Hp → Prop, (∀ σ' H', N σ' H' → ∃ m', m' < m ∧ W (i + 1) m' σ' H') ∧ ∀ x H', J.yld i H x H' → g x σ H' fun σ2 H2 => tb { D with nx := N, ct := N, bk := D.nx } σ2 H2)
theorem ZXT {wi : TI} {g : TG} {tb : TS} (h : wi σ H fun J H1 => rFor J g tb D σ H1) : ZSb wi g tb D σ H := h
def ZUU (vs : List V) (H : Hp) (R : It → Hp → Prop) : Prop := ∃ j : Int, vs = [.int j] ∧ -(2 ^ 62) ≤ j ∧ j < 2 ^ 62 ∧ R (Itr 0 j.toNat) H
theorem ZVO {ta : TA} {R : It → Hp → Prop} (h : ta σ H fun vs H1 => ZUU vs H1 R) : ZP5 ta σ H R := h
theorem ZMB {j : Int} {R : It → Hp → Prop} (h1 : -(2 ^ 62) ≤ j) (h2 : j < 2 ^ 62) (h : R (Itr 0 j.toNat) H) : ZUU [.int j] H R := ⟨j, rfl, h1, h2, h⟩
theorem ZXU {i : Int} (h : Q (.int (if i < 0 then -i else i)) H) : ZXA [.int i] H Q := ⟨i, rfl, h⟩
theorem ZXV {i j : Int} (h : Q (.int (if j > i then j else i)) H) : ZXB [.int i, .int j] H Q := ⟨i, j, rfl, h⟩
theorem ZXW {i j : Int} (h : Q (.int (if j < i then j else i)) H) : ZXC [.int i, .int j] H Q := ⟨i, j, rfl, h⟩
theorem ZVP {p : Addr} {ys : List V} (h1 : SqL K H p ys) (h : Q (.int ys.length) H) : ZQJ K [.ref p] H Q := ⟨p, ys, rfl, .inl h1, h⟩
theorem ZVQ {p : Addr} {ys : List V} (h1 : SqT K H p ys) (h : Q (.int ys.length) H) : ZQJ K [.ref p] H Q := ⟨p, ys, rfl, .inr h1, h⟩
theorem ZXX {p : Addr} {bs : List Bool} (h1 : SqL K H p (bs.map V.bl)) (h : Q (.bl (bs.all id)) H) : ZS6 K [.ref p] H Q := ⟨p, bs, rfl, h1, h⟩
theorem ZIv {x : V} {n : String} {t : Value} {b : Bool} (ty : ZHt K H x t) (e : W.kitOne K t (.type n) = some b) (h : Q (.bl b) H) : ZS0 K [x, .ty n] H Q := ⟨x, n, t, b, rfl, ty, e, h⟩
theorem ZXY {x : V} (h : Q (.bl (decide (x = .non))) H) : ZXD x .non H Q := ⟨rfl, h⟩
theorem ZVR {x : V} (h : Q (.bl (!decide (x = .non))) H) : ZUT x .non H Q := ⟨rfl, h⟩
theorem ZVS {n : Nat} {t : TGs} {p : Addr} {xs : List V} {R : St → Hp → Prop} (h1 : SqT K H p xs) (h2 : xs.length = n) (h : t xs σ H R) : ZP2 K n t (.ref p) σ H R := ⟨p, xs, rfl, h1, h2, h⟩
theorem ZJe {p : Addr} {ys : List V} (h1 : SqL K H p ys) (h : ∀ l H2, H l = none → H2 l = some (.tup ys) → ZFY H H2 → Q (.ref l) H2) :
  ZNu K [.ref p] H Q :=
 ⟨p, ys, rfl, .inl ⟨h1, fun l hl => h l _ hl ZFf (fun b u e => by rw [ZFg (ZF2 e hl)]; exact e)⟩⟩
theorem ZYp {r : V → Option Int → Option Int → Hp → VK → Prop} {te : TE} {tl th : TO} (h : te σ H fun x H1 => tl σ H1 fun l H2 => th σ H2 fun u H3 => r x l u H3 Q) : tSl r te tl th σ H Q := h
theorem ZRP {R : Option Int → Hp → Prop} (h : R none H) : ZMS σ H R := h
theorem ZVT {t : TE} {R : Option Int → Hp → Prop} (h : t σ H fun x H1 => ∃ i, x = .int i ∧ R (some i) H1) : ZQD t σ H R := h
theorem ZZB {i : Int} {R : Int → Prop} (h : R i) : ∃ j, V.int i = .int j ∧ R j := ⟨i, rfl, h⟩
theorem ZFt {c A B : Prop} [Decidable c] (h1 : c → A) (h2 : ¬ c → B) : if decide c = true then A else B := by
 by_cases h : c
 ·rw [decide_eq_true h]; exact ZGX (h1 h)
 ·rw [decide_eq_false h]; exact ZGH (h2 h)
theorem ZJu {c A B : Prop} [Decidable c] (h1 : ¬ c → A) (h2 : c → B) : if (!decide c) = true then A else B := by
 by_cases h : c
 ·rw [decide_eq_true h]; exact ZGH (h2 h)
 ·rw [decide_eq_false h]; exact ZGX (h1 h)
theorem ZGV {i j : Int} : decide (V.int i = V.int j) = decide (i = j) := by
 by_cases h : i = j
 ·subst h; simp
 ·rw [decide_eq_false h, decide_eq_false (fun z => h (V.int.inj z))]
theorem ZPe {lo : Int} {n : Nat} {g : TG} {tb : TS} (Pv : Nat → St → Hp → Prop) (h0 : Pv 0 σ H)
 (hs : ∀ i σ H, i < n → Pv i σ H → g (.int (lo + i)) σ H fun σ2 H2 => tb { D with nx := Pv (i + 1), ct := Pv (i + 1), bk := D.nx } σ2 H2) (hd : ∀ σ H, Pv n σ H → D.nx σ H) :
 rFor (Itr lo n) g tb D σ H := ZRD Pv h0 hs hd
theorem ZPf {a : Addr} {xs : List V} {g : TG} {tb : TS} (Pv : Nat → St → Hp → Prop) (h0 : Pv 0 σ H) (hl : ∀ i σ H, i ≤ xs.length → Pv i σ H → SqL K H a xs)
 (hs : ∀ i x σ H, xs[i]? = some x → Pv i σ H → g x σ H fun σ2 H2 => tb { D with nx := Pv (i + 1), ct := Pv (i + 1), bk := D.nx } σ2 H2) (hd : ∀ σ H, Pv xs.length σ H → D.nx σ H) :
 rFor (Itl K a) g tb D σ H := ZSc Pv h0 hl hs hd
theorem ZK2 {a : Addr} {xs : List V} {g : TG} {tb : TS} (Pv : Nat → St → Hp → Prop) (h0 : Pv 0 σ H) (hl : ∀ i σ H, i ≤ xs.length → Pv i σ H → SqT K H a xs)
 (hs : ∀ i x σ H, xs[i]? = some x → Pv i σ H → g x σ H fun σ2 H2 => tb { D with nx := Pv (i + 1), ct := Pv (i + 1), bk := D.nx } σ2 H2) (hd : ∀ σ H, Pv xs.length σ H → D.nx σ H) :
 rFor (Itt K a) g tb D σ H := ZUw Pv h0 hl hs hd
def ZUV (J : It) (g : TG) (tt : TT) (te : TE) (l : Addr) (σ0 : St) (H : Hp) (Q : VK) : Prop :=
 ∃ W : Nat → Nat → St → Hp → Prop, (∃ m, W 0 m σ0 (upd H l (.lst []))) ∧ ∀ i m σ' H', W i m σ' H' →
  (J.stop i H' ∧ Q (.ref l) H') ∨ (J.go i H' ∧ ∃ N : St → Hp → Prop, (∀ σ2 H2, N σ2 H2 → ∃ m', m' < m ∧ W (i + 1) m' σ2 H2) ∧
   ∀ x H'', J.yld i H' x H'' → g x σ' H'' fun σ2 H2 => tt σ2 H2 fun b H3 =>
    if b = true then te σ2 H3 fun v H4 => ∃ xs, H4 l = some (.lst xs) ∧ xs.length < sizeLine ∧ N σ2 (upd H4 l (.lst (xs ++ [v]))) else N σ2 H3)
theorem ZHB {J : It} {g : TG} {tt : TT} {te : TE} {σ0 : St} {l : Addr} (n : Nat) (Pv : Nat → St → Hp → Prop) (h0 : Pv 0 σ0 (upd H l (.lst [])))
  (stop : ∀ σ H, Pv n σ H → J.stop n H ∧ Q (.ref l) H)
  (go : ∀ i σ H, i < n → Pv i σ H → J.go i H ∧ ∀ x H', J.yld i H x H' → g x σ H' fun σ2 H2 => tt σ2 H2 fun b H3 =>
   if b = true then te σ2 H3 fun v H4 => ∃ xs, H4 l = some (.lst xs) ∧ xs.length < sizeLine ∧ Pv (i + 1) σ2 (upd H4 l (.lst (xs ++ [v]))) else Pv (i + 1) σ2 H3) :
  ZUV J g tt te l σ0 H Q := by
 refine ⟨fun i m σ H => m = n - i ∧ i ≤ n ∧ Pv i σ H, ⟨n, by simp, Nat.zero_le _, h0⟩, ?_⟩
 rintro i m σ H ⟨rfl, hi, p⟩
 by_cases hlt : i < n
 ·obtain ⟨hgo, h⟩ := go i σ H hlt p
  exact .inr ⟨hgo, Pv (i + 1), fun σ' H' p' => ⟨n - (i + 1), by omega, rfl, hlt, p'⟩, h⟩
 ·have e : i = n := by omega
  subst e
  exact .inl (stop σ H p)
theorem ZVU {own : Nat} {ks : List Nat} {wi : TI} {g : TG} {tt : TT} {te : TE} (h : wi σ H fun J H1 => ∀ l, H1 l = none → ZUV J g tt te l (ZHh own ks σ) H1 Q) : ZK1 own ks wi g tt te σ H Q := h
def ZXZ (K : W.Frag) (x : V) (H : Hp) (R : It → Hp → Prop) : Prop := ∃ a, x = .ref a ∧ (∃ xs, SqT K H a xs) ∧ R (Itt K a) H
def ZXa (K : W.Frag) (x : V) (H : Hp) (R : It → Hp → Prop) : Prop := ∃ a, x = .ref a ∧ (∃ xs, SqL K H a xs) ∧ R (Itl K a) H
theorem ZVV {tl : TE} {R : It → Hp → Prop} (h : tl σ H fun x H1 => ZXZ K x H1 R) : ZP4 K tl σ H R := h
theorem ZTC {tl : TE} {R : It → Hp → Prop} (h : tl σ H fun x H1 => ZXa K x H1 R) : ZNd K tl σ H R := h
theorem ZXb {p : Addr} {xs : List V} {R : It → Hp → Prop} (h1 : SqT K H p xs) (h : R (Itt K p) H) : ZXZ K (.ref p) H R := ⟨p, rfl, ⟨xs, h1⟩, h⟩
theorem ZXc {p : Addr} {xs : List V} {R : It → Hp → Prop} (h1 : SqL K H p xs) (h : R (Itl K p) H) : ZXa K (.ref p) H R := ⟨p, rfl, ⟨xs, h1⟩, h⟩
theorem ZVW {R : Bool → Hp → Prop} (h : R true H) : ZQH σ H R := h
end
theorem ZFY.seqT {K : W.Frag} {H H' : Hp} {a : Addr} {xs : List V} (e : ZFY H H') (h : SqT K H a xs) : SqT K H' a xs := by
 rcases h with (h | ⟨o, h⟩) | h
 ·exact .inl (.inl (e _ _ h))
 ·exact .inl (.inr ⟨o, e _ _ h⟩)
 ·exact .inr h
def Kp (p : Addr) (H H' : Hp) : Prop := ∀ q o, H q = some o → q ≠ p → H' q = some o
theorem Kp.trans {p : Addr} {H H1 H2 : Hp} (a : Kp p H H1) (b : Kp p H1 H2) : Kp p H H2 := fun q o h n => b q o (a q o h n) n
theorem Kp.upd {p : Addr} {H : Hp} {o : HO} : Kp p H (upd H p o) := fun q u h n => by rw [ZFg n]; exact h
theorem Kp.same {p : Addr} {H H' : Hp} (a : ZFY H H') : Kp p H H' := fun q o h _ => a q o h
theorem ZFY.new {H : Hp} {l : Addr} {o : HO} (h : H l = none) : ZFY H (upd H l o) := fun b u e => by rw [ZFg (ZF2 e h)]; exact e
theorem Kp.then {H H1 H2 : Hp} {p : Addr} (h : Kp p H H1) (s : ZFY H1 H2) : Kp p H H2 := h.trans (Kp.same s)
structure QE (X : Cx) (e : Expr) (t : TE) : Prop where
 h : PE X e t
structure QT (X : Cx) (e : Expr) (t : TT) : Prop where
 h : PT X e t
structure QW (X : Cx) (e : Expr) (t : TT) : Prop where
 h : PW X e t
structure QA (X : Cx) (es : List Expr) (t : TA) : Prop where
 h : PA X es t
structure QS (X : Cx) (st : Stmt) (t : TS) : Prop where
 h : PS X st t
structure QB (X : Cx) (st : List Stmt) (t : TS) : Prop where
 h : PSs X st t
structure QG (X : Cx) (e : Expr) (t : TG) : Prop where
 h : PG X e t
structure QGs (X : Cx) (es : List Expr) (t : TGs) : Prop where
 h : PGs X es t
structure QI (X : Cx) (tg e : Expr) (t : TI) : Prop where
 h : PI X tg e t
structure QF (X : Cx) (es : List Expr) (t : TT) : Prop where
 h : ZMU X es t
structure QO (X : Cx) (e : Option Expr) (t : TO) : Prop where
 h : PO X e t
def ZNh : Expr → Bool
 | .Slice _ _ _ _ => true
 | _ => false
theorem ZVX {b : Expr} (h : ZNh b = false) : ZPb b := by
 intro o i
 cases b <;> first | rfl | cases h
def ZNz : Expr → Bool
 | .UnaryOp _ _ _ => false
 | .BoolOp _ _ _ => false
 | .IfExp _ _ _ _ => false
 | .Compare _ _ _ _ => false
 | _ => true
theorem ZXd {e : Expr} {env : Env} (h : ZNz e = true) : ∀ whole, isTrue e env whole = (do let v ← whole; standAt e.pos; holding [v] (truthy v)) := by
 intro whole
 cases e <;> first | rfl | cases h
section
variable {X : Cx} {a b c e o : Expr} {es ZGe : List Expr} {ta tb tc te to ti : TE} {tA tB' : TT} {t tr : TA} {pos p p2 pos' : Pos} {x : Str}
theorem qv (i : Nat) {x : Str} {pos : Pos} (hN : X.N[i]? = some x := by rfl) (hv : Vis X.env.scope x := by first | exact Or.inl rfl | exact Or.inr (Or.inl rfl) | exact Or.inr (Or.inr rfl)) (hd : (x == ("__debug__" : Str)) = false := by decide)
 (hcd : (x == ("__classdict__" : Str)) = false := by decide) : QE X (.Name x pos) (ZSL i) := ⟨ZWY hN hv hd hcd⟩
theorem ZFU {i j pos} : QE X (.Constant (.int i) j pos) (tC (.int i)) := ⟨ZWZ⟩
theorem ZHK {b j pos} : QE X (.Constant (.bool b) j pos) (tC (.bl b)) := ⟨ZYb⟩
theorem ZHO {j pos} : QE X (.Constant .none j pos) (tC .non) := ⟨ZWa⟩
theorem ZGB {x j pos} : QE X (.Constant (.str x) j pos) (tC (.str x)) := ⟨ZWb⟩
theorem ZGn {v : V} {u : Value} (hg : Gl X x) (hm : X.mg x = some u) (r : ZFl v u) (hd : (x == ("__debug__" : Str)) = false := by decide) : QE X (.Name x pos) (tC v) := ⟨ZUn hg hm r hd⟩
theorem ZMX {v : V} {u : Value} (hg : Gl X x) (hm : X.mg x = none) (hv : bootBuiltins x = some u) (r : ZFl v u) (hn : x ≠ "__name__" := by decide) (hd : (x == ("__debug__" : Str)) = false := by decide) : QE X (.Name x pos) (tC v) := ⟨ZUo hg hm hv r hn hd⟩
theorem ZFb {op : Operator} {r : R2} (ho : OpR X (binaryOp op) r) (ha : QE X a ta) (hb : QE X b tb) : QE X (.BinOp a op b pos) (tOp r ta tb) := ⟨ZYf ho ha.h hb.h⟩
theorem ZJv {op : UnaryOp} {r : V → Hp → VK → Prop} (ho : UnR X (unaryOp op) r) (ha : QE X a ta) : QE X (.UnaryOp op a pos) (tUn r ta) := ⟨ZYg ho ha.h⟩
theorem ZXe (ha : QE X a ta) : QE X (.UnaryOp .Not a pos) (ZPz ta) := ⟨ZWi ha.h⟩
theorem ZIw {op} (h : QE X a ta) : QE X (.BoolOp op [a] pos) ta := ⟨ZWg h.h⟩
theorem ZIx (ha : QE X a ta) (hb : QE X (.BoolOp .And (b :: ZGe) pos) tb) : QE X (.BoolOp .And (a :: b :: ZGe) pos) (ZPy ta tb) := ⟨ZWh ha.h hb.h⟩
theorem ZYq (ha : QE X a ta) (hb : QE X (.BoolOp .Or (b :: ZGe) pos) tb) : QE X (.BoolOp .Or (a :: b :: ZGe) pos) (ZSO ta tb) := ⟨ZYd ha.h hb.h⟩
theorem ZHU (hc : QT X c tA) (ha : QE X a ta) (hb : QE X b tb) : QE X (.IfExp c a b pos) (tIf tA ta tb) := ⟨ZSP hc.h ha.h hb.h⟩
theorem ZHp {op : CmpOp} {r : R2} (ho : OpR X (compareOp op) r) (ha : QE X a ta) (hb : QE X b tb) (hm : behindInMarks op b = false) : QE X (.Compare a [op] [b] pos) (tOp r ta tb) := ⟨ZUz ho ha.h hb.h hm⟩
theorem ZFk {op : CmpOp} {r : R2} (ho : OpR X (compareOp op) r) (ha : QE X a ta) (hb : QE X b tb) (hm : behindInMarks op b = false) : QT X (.Compare a [op] [b] pos) (ZL0 (tOp r ta tb)) := ⟨ZU0 ho ha.h hb.h hm⟩
theorem ZLY {op op' : CmpOp} {r r' : R2} (ho : OpR X (compareOp op) r) (ho' : OpR X (compareOp op') r') (ha : QE X a ta) (hb : QE X b tb) (hc : QE X c tc)
 (hm : lastMarks [op, op'] [b, c] = false := by with_unfolding_all rfl) : QE X (.Compare a [op, op'] [b, c] pos) (ZKN r r' ta tb tc) := ⟨ZSh ho ho' ha.h hb.h hc.h hm⟩
theorem ZIy {op op' : CmpOp} {r r' : R2} (ho : OpR X (compareOp op) r) (ho' : OpR X (compareOp op') r') (ha : QE X a ta) (hb : QE X b tb) (hc : QE X c tc)
 (hm : lastMarks [op, op'] [b, c] = false := by with_unfolding_all rfl) : QT X (.Compare a [op, op'] [b, c] pos) (ZL0 (ZKN r r' ta tb tc)) := ⟨ZSi ho ho' ha.h hb.h hc.h hm⟩
theorem ZG4 (h : QE X e te) (he : ZNz e = true := by rfl) : QT X e (tB te) := ⟨ZWc h.h (ZXd he)⟩
theorem QW.pt (h : QW X e tA) : QT X e tA := ⟨h.h.pt⟩
theorem ZIo (ha : QT X a tA) : QW X (.BoolOp .And [a] pos) tA := ⟨ZUp ha.h⟩
theorem ZHv (ha : QT X a tA) : QW X (.BoolOp .Or [a] pos) tA := ⟨ZWd ha.h⟩
theorem ZJf (ha : QT X a tA) (hb : QW X (.BoolOp .And (b :: ZGe) pos) tB') : QW X (.BoolOp .And (a :: b :: ZGe) pos) (ZSM tA tB') := ⟨ZWe ha.h hb.h⟩
theorem ZHw (ha : QT X a tA) (hb : QW X (.BoolOp .Or (b :: ZGe) pos) tB') : QW X (.BoolOp .Or (a :: b :: ZGe) pos) (tOr tA tB') := ⟨ZYc ha.h hb.h⟩
theorem ZG5 (ha : QT X a tA) : QT X (.UnaryOp .Not a pos) (ZSN tA) := ⟨ZWf ha.h⟩
theorem ZFT : QA X [] ZLV := ⟨ZWx⟩
theorem ZFS (ha : QE X e te) (hr : QA X es t) (hs : ZG3 e = false := by rfl) : QA X (e :: es) (ZNg te t) := ⟨ZY7 ha.h hr.h hs⟩
theorem ZFw {x1} (h : QA X es t) : QE X (.Tuple es x1 pos) (ZSo t) := ⟨ZWy h.h⟩
theorem ZGp (h : QA X es t) : QE X (.List es pos) (ZSp t) := ⟨ZWz h.h⟩
theorem ZFn {r : R2} (hr : IxR X r) (ha : QE X a ta) (hb : QE X b tb) (hs : ZNh b = false := by rfl) : QE X (.Subscript a b pos) (tOp r ta tb) := ⟨ZYh hr ha.h hb.h (ZVX hs)⟩
theorem ZVY : QO X none ZMS := ⟨ZU8⟩
theorem ZVZ (h : QE X e te) : QO X (some e) (ZQD te) := ⟨ZU9 h.h⟩
theorem ZTD {lo hi : Option Expr} {tl th : TO} {r : V → Option Int → Option Int → Hp → VK → Prop} (hr : SlR X r) (he : QE X e te) (hl : QO X lo tl) (hu : QO X hi th) : QE X (.Subscript e (.Slice lo hi none p2) pos) (tSl r te tl th) := ⟨ZSu hr he.h hl.h hu.h⟩
theorem ZHV {CX : CXT} {k : Nat} {f : Addr} {fd : FuncData} {ps : List Str} {sp : Sp} {dvs : List V} {ds : List Value} {E : XK} (F : ZFc X.prog X.w X.K X.mg X.base CX k f fd ps sp) (hr : Room k X.A) (hg : Gl X x) (hm : X.mg x = some (.ref f)) (hk : W.keepIn X.K (.ref f) = true) (hb : ZFZ X.K fd ps ds) (hd : ZFj dvs ds) (hx : ZGt CX X E)
 (ha : QA X (e :: es) t) (hns : ZGG (e :: es) = true := by rfl) (hdb : (x == ("__debug__" : Str)) = false := by decide) : QE X (.Call (.Name x p) (e :: es) [] pos) (ZK0 sp dvs E t) := ⟨ZS4 F hr hg hm hk hb hd hx ha.h hns hdb⟩
theorem ZFr {id : String} {r : List V → Hp → VK → Prop} (hc : ZF5 X (.builtin id) r) (hg : Gl X x) (hm : X.mg x = none) (hv : bootBuiltins x = some (.builtin id)) (ha : QA X (e :: es) t) (hns : ZGG (e :: es) = true := by rfl) (hn : x ≠ "__name__" := by decide) (hdb : (x == ("__debug__" : Str)) = false := by decide) :
 QE X (.Call (.Name x p) (e :: es) [] pos) (tCB r t) := ⟨ZRO hc hg hm hv ha.h hns hn hdb⟩
theorem ZHx {T : String} {r : List V → Hp → VK → Prop} (hc : ZF5 X (.type T) r) (hg : Gl X x) (hm : X.mg x = none) (hv : bootBuiltins x = some (.type T)) (ha : QA X (e :: es) t) (hns : ZGG (e :: es) = true := by rfl) (hn : x ≠ "__name__" := by decide) (hdb : (x == ("__debug__" : Str)) = false := by decide) :
 QE X (.Call (.Name x p) (e :: es) [] pos) (tCB r t) := ⟨ZQI hc hg hm hv ha.h hns hn hdb⟩
theorem ZG6 : QF X [] ZQH := ⟨ZS2⟩
theorem ZTE (hc : QT X c tA) : QF X [c] tA := ⟨ZS3 hc.h⟩
theorem ZVa {tg : Expr} (hl : QE X e te) : QI X tg e (ZNd X.K te) := ⟨ZUv hl.h⟩
theorem ZXf {tg : Expr} (hl : QE X e te) : QI X tg e (ZP4 X.K te) := ⟨ZWp hl.h⟩
theorem ZJC {tg : Expr} (hg : Gl X "range") (hm : X.mg "range" = none) (ha : QA X [a] t) (hs : ZG3 a = false := by rfl) : QI X tg (.Call (.Name "range" p) [a] [] pos) (ZP5 t) := ⟨ZRB hg hm ha.h (ZGd hs)⟩
theorem ZGg {i : Nat} (hN : X.N.Nodup) (hi : X.N[i]? = some x) (hx : Loc X.env.scope x) (hf : X.fn x = true ∨ X.env.scope.names.lookup x = some .local := by first | exact .inl rfl | exact .inr rfl | assumption) : QG X (.Name x pos) (ZIK i) := ⟨ZUt hN hi hx hf⟩
theorem ZGO : QGs X [] ZSV := ⟨ZUu⟩
theorem ZRQ {e : Expr} {es : List Expr} {env : Env} (h : ZG3 e = false) : (assignEach (e :: es) env).map (·.2) = assign e env :: (assignEach es env).map (·.2) := by
 cases e <;> first | rfl | cases h
theorem ZFi {g : TG} {u : TGs} (h1 : QG X e g) (h2 : QGs X es u) (hs : ZG3 e = false := by rfl) : QGs X (e :: es) (ZP1 g u) := ⟨ZSW h1.h h2.h (ZRQ hs)⟩
theorem ZXg {k : Nat} {u : TGs} {n : Nat} (hc : X.calm = true) (h : QGs X es u) (hn : (assignEach es X.env).length = n := by rfl) (hst : (assignEach es X.env).findIdx? (·.1) = none := by rfl) : QG X (.Tuple es k pos) (ZP2 X.K n u) := ⟨ZWk hc h.h hn hst⟩
theorem ZN0 {s : ZNm} (ho : QE X o to) (hi : QE X e ti) (hs : ZSU X s)
 (ha : ∀ v, assign (.Subscript o e pos) X.env v = (do
  let ov ← holding [v] (eval o X.env)
  let iv ← holding [v, ov] (eval e X.env)
  standAt pos
  holding [v, ov, iv] (setItem ov iv v)
  release [v, ov, iv] []) := by intro _; rfl) : QG X (.Subscript o e pos) (ZSX to ti s) := ⟨ZWl ho.h hi.h hs ha⟩
theorem ZHc {N : List Str} {sc : Scope} {own caps : List Str} {ks : List Nat} {elt tg iter : Expr} {ifs : List Expr} {scope : Scope} {wi : TI} {g : TG} {tt : TT}
  (hN : X.N = N) (hsc : X.env.scope = sc) (hc : X.calm = true) (S : ZKP N sc own caps ks scope) (hi : QI X tg iter wi)
  (hg : ∀ cl C s₂ H₂ fp, QG (ZFx X (own ++ caps) scope cl C s₂ H₂ fp) tg g)
  (ht : ∀ cl C s₂ H₂ fp, QF (ZFx X (own ++ caps) scope cl C s₂ H₂ fp) ifs tt)
  (he : ∀ cl C s₂ H₂ fp, QE (ZFx X (own ++ caps) scope cl C s₂ H₂ fp) elt te)
  (hs : ∀ x, foldedSetIterable iter X.env x = pure x := by intro _; rfl) :
  QE X (.ListComp elt [⟨tg, iter, ifs, 0⟩] scope pos) (ZK1 own.length ks wi g tt te) :=
 ⟨ZVB hN hsc hc S hi.h (fun cl C s₂ H₂ fp => (hg cl C s₂ H₂ fp).h) (fun cl C s₂ H₂ fp => (ht cl C s₂ H₂ fp).h) (fun cl C s₂ H₂ fp => (he cl C s₂ H₂ fp).h) hs⟩
theorem ZIL {T : String} {name : Str} {id : String} {r : V → List V → Hp → VK → Prop} {apos cpos : Pos} (pa : PlainAttrs T) (slot : Slot T name id) (hty : typeOf (.builtin id) = pure (.type "method_descriptor")) (hm : MtR X id r) (ho : QE X o to) (ha : QA X (e :: es) t)
  (hst : ZGG (e :: es) = true := by rfl) (hbase : attributeBase o name X.env (eval o X.env) = eval o X.env := by rfl)
  (hfew : ((backTo cpos (starEach (e :: es) X.env)).all (fun x => !x.1) && (backToKw cpos (keywordEach [] X.env)).all (fun x => x.1.isSome)
   && decide ((e :: es).length + ([] : List Keyword).length + (if ([] : List Keyword).isEmpty then 0 else 1) < 30)) = true := by rfl)
  (hline : (apos.endLine == cpos.line) = true := by rfl) : QE X (.Call (.Attribute o name apos) (e :: es) [] cpos) (tBM X.K T r to t) :=
 ⟨ZYi pa slot hty hm ho.h ha.h hbase hfew hline (ZHA hst) (ZGu (ZGr hst))⟩
end
section
variable {X : Cx} {st : Stmt} {ZGe sa sb : List Stmt} {t u : TS} {e c : Expr} {te : TE} {tA : TT} {pos pos' : Pos} {x : Str}
theorem ZFq : QB X [] ZP0 := ⟨ZUq⟩
theorem ZFV (h1 : QS X st t) (h2 : QB X ZGe u) : QB X (st :: ZGe) (ZSQ t u) := ⟨ZSR h1.h h2.h⟩
theorem ZFX (h1 : QS X st t) : QB X [st] t := ⟨ZUr h1.h⟩
theorem ZFu (he : QE X e te) (hs : ZHR e = false := by rfl) : QS X (.Expr e pos) (ZNc te) := ⟨ZS5 he.h hs⟩
theorem ZFh (he : QE X e te) : QS X (.Return (some e) pos) (ZSS te) := ⟨ZWj he.h⟩
theorem ZF1 (hc : QT X c tA) (ha : QB X sa t) (hb : QB X sb u) : QS X (.If c sa sb pos) (ZNl tA t u) := ⟨ZYe hc.h ha.h hb.h⟩
theorem ZF7 : QS X st ZRA := ⟨ZST⟩
theorem ZVb {i : Nat} (hN : X.N.Nodup) (hi : X.N[i]? = some x) (hx : Loc X.env.scope x) (he : QE X e te) (hs : ZHR e = false := by rfl) (hf : X.fn x = true ∨ X.env.scope.names.lookup x = some .local := by first | exact .inl rfl | exact .inr rfl | assumption) :
 QS X (.Assign [.Name x pos'] e pos) (ZJs te (ZIK i)) := ⟨ZVD hN hi hx he.h hs hf⟩
theorem ZGv {tg : Expr} {g : TG} (he : QE X e te) (hg : QG X tg g) (hs : ZHR e = false := by rfl) (hw : swappedStores [tg] e X.env = pure none := by rfl)
 (h1 : (assignEach [tg] X.env).map (·.2) = [assign tg X.env] := by rfl) : QS X (.Assign [tg] e pos) (ZJs te g) := ⟨ZWm he.h hg.h (ZIC hs) hw h1⟩
theorem ZIU {tg iter : Expr} {wi : TI} {g : TG} (hp : PassesOwn (model X.prog X.w) X.A X.env X.xe) (hc : X.calm = true) (hi : QI X tg iter wi) (hg : QG X tg g) (hb : QB X sa t)
 (hs : ∀ x, foldedSetIterable iter X.env x = pure x := by intro _; rfl) : QS X (.For tg iter sa [] pos) (ZSb wi g t) := ⟨ZWq hp hc hi.h hg.h hb.h hs⟩
theorem ZN1 (hp : PassesOwn (model X.prog X.w) X.A X.env X.xe) (hc : QT X c tA) (hb : QB X sa t) : QS X (.While c sa [] pos) (ZNn tA t) := ⟨ZSZ hp hc.h hb.h⟩
end
section
variable {X : Cx} {e : Expr} {es : List Expr} {te : TE} {pos : Pos} (K : W.Frag) (h : X.K = K)
include h
theorem ZIz : ZF5 X (.builtin "len") (ZQJ K) := h ▸ ZXE
theorem ZXh (hc : X.calm = true) : ZF5 X (.builtin "all") (ZS6 K) := h ▸ ZXG hc
theorem ZI0 : ZF5 X (.type "tuple") (ZNu K) := h ▸ ZS7
theorem ZN2 : ZF5 X (.builtin "isinstance") (ZS0 K) := h ▸ ZS1
theorem ZG1 : IxR X (ZQE K) := h ▸ ZVA
theorem ZFp : IxR X (ZSv K) := h ▸ ZW3
theorem ZJg {tg : Expr} (hl : QE X e te) : QI X tg e (ZNd K te) := h ▸ ZVa hl
theorem ZKS {tg : Expr} (hl : QE X e te) : QI X tg e (ZP4 K te) := h ▸ ZXf hl
theorem ZGb {k : Nat} {u : TGs} {n : Nat} (hc : X.calm = true) (hg : QGs X es u) (hn : (assignEach es X.env).length = n := by rfl) (hst : (assignEach es X.env).findIdx? (·.1) = none := by rfl) : QG X (.Tuple es k pos) (ZP2 K n u) := h ▸ ZXg hc hg hn hst
end
mutual
inductive Dat (K : W.Frag) (H : Hp) : V → PyData → Prop
 | non : Dat K H .non .none
 | bl (b : Bool) : Dat K H (.bl b) (.bool b)
 | int (i : Int) : Dat K H (.int i) (.int i)
 | str (x : Str) : Dat K H (.str x) (.str x)
 | tup {a : Addr} {xs : List V} {ds : List PyData} (h : SqT K H a xs) (r : ZHW K H xs ds) : Dat K H (.ref a) (.tuple ds)
 | lst {a : Addr} {xs : List V} {ds : List PyData} (h : SqL K H a xs) (r : ZHW K H xs ds) : Dat K H (.ref a) (.list ds)
inductive ZHW (K : W.Frag) (H : Hp) : List V → List PyData → Prop
 | nil : ZHW K H [] []
 | cons {x : V} {d : PyData} {xs : List V} {ds : List PyData} (h : Dat K H x d) (r : ZHW K H xs ds) : ZHW K H (x :: xs) (d :: ds)
end
section
variable {X : Cx} {pins : List (Addr × Obj)} {σ : St} {H : Hp} {s : Shared}
mutual
theorem Dat.reads (I : Inv X pins σ H s) : ∀ {x : V} {d : PyData} {u : Value}, Dat X.K H x d → ZFl x u → ∃ as, Reads s.heap u d as
 | _, _, u, .non, r => by cases (show u = Value.none from r); exact ⟨_, .none⟩
 | _, _, u, .bl b, r => by cases (show u = Value.bool b from r); exact ⟨_, .bool b⟩
 | _, _, u, .int i, r => by obtain ⟨t, rfl⟩ := (show ∃ t, u = Value.int i t from r); exact ⟨_, .int i t⟩
 | _, _, u, .str x, r => by obtain ⟨t, rfl⟩ := (show ∃ t, u = Value.str x t from r); exact ⟨_, .str x t⟩
 | _, _, u, @Dat.tup _ _ a xs ds h rs, r => by
  cases (show u = Value.ref a from r)
  obtain ⟨its, rv, ⟨o, ho, hc, n, hd⟩, _⟩ := I.tuple h
  obtain ⟨as, ra⟩ := ZHW.reads I rs rv
  exact ⟨_, .tuple ho hc hd (by simpa using ra)⟩
 | _, _, u, @Dat.lst _ _ a xs ds h rs, r => by
  cases (show u = Value.ref a from r)
  obtain ⟨its, rv, ⟨o, n, ho, hc, _, hd⟩, _⟩ := I.list h
  obtain ⟨as, ra⟩ := ZHW.reads I rs rv
  exact ⟨_, .list ho hc hd (by simpa using ra)⟩
theorem ZHW.reads (I : Inv X pins σ H s) : ∀ {xs : List V} {ds : List PyData} {us : List Value}, ZHW X.K H xs ds → ZFj xs us → ∃ as, ReadsAll s.heap us ds as
 | _, _, _, .nil, .nil => ⟨_, .nil⟩
 | _, _, _, .cons h r, .cons r1 r2 => by
  obtain ⟨as, ra⟩ := Dat.reads I h r1
  obtain ⟨bs, rb⟩ := ZHW.reads I r r2
  exact ⟨_, .cons ra rb⟩
end
end
section
variable {X : Cx}
def ZXi (K : W.Frag) : R2 := fun x y H Q => ∃ d e, Dat K H x d ∧ Dat K H y e ∧ d.canLay0 = true ∧ e.canLay0 = true ∧ d.depth ≤ 60 ∧ Q (.bl (PyData.eqv d e)) H
def ZTF (K : W.Frag) : R2 := fun x y H Q => ∃ d e, Dat K H x d ∧ Dat K H y e ∧ d.canLay0 = true ∧ e.canLay0 = true ∧ d.depth ≤ 60 ∧ Q (.bl (!PyData.eqv d e)) H
theorem ZN3 (K : W.Frag) (hK : X.K = K) (hu : X.A.units + 64 < cLine) : OpR X (compareOp .Eq) (ZXi K) := by
 subst hK
 intro pins s σ H x y v u Q I rx ry h
 obtain ⟨d, e, h1, h2, c1, c2, hd, q⟩ := h
 obtain ⟨as, ra⟩ := h1.reads I rx
 obtain ⟨bs, rb⟩ := h2.reads I ry
 exact SeqAt.compareEq_reads ra rb c1 c2 (by have := Nat.min_le_left d.depth e.depth; omega) ⟨.bl _, H, I, rfl, q⟩
theorem ZXj (K : W.Frag) (hK : X.K = K) (hu : X.A.units + 64 < cLine) : OpR X (compareOp .NotEq) (ZTF K) := by
 subst hK
 intro pins s σ H x y v u Q I rx ry h
 obtain ⟨d, e, h1, h2, c1, c2, hd, q⟩ := h
 obtain ⟨as, ra⟩ := h1.reads I rx
 obtain ⟨bs, rb⟩ := h2.reads I ry
 exact SeqAt.compareNe_reads ra rb c1 c2 (by have := Nat.min_le_left d.depth e.depth; omega) ⟨.bl _, H, I, rfl, q⟩
theorem ZN4 {K : W.Frag} {H : Hp} {Q : VK} {x y : V} {d e : PyData} (h1 : Dat K H x d) (h2 : Dat K H y e) (c1 : d.canLay0 = true) (c2 : e.canLay0 = true) (hd : d.depth ≤ 60) (h : Q (.bl (PyData.eqv d e)) H) : ZXi K x y H Q := ⟨d, e, h1, h2, c1, c2, hd, h⟩
theorem ZXk {K : W.Frag} {H : Hp} {Q : VK} {x y : V} {d e : PyData} (h1 : Dat K H x d) (h2 : Dat K H y e) (c1 : d.canLay0 = true) (c2 : e.canLay0 = true) (hd : d.depth ≤ 60) (h : Q (.bl (!PyData.eqv d e)) H) : ZTF K x y H Q := ⟨d, e, h1, h2, c1, c2, hd, h⟩
theorem ZYr {K : W.Frag} {T : String} {r : V → List V → Hp → VK → Prop} {to : TE} {t : TA} {σ : St} {H : Hp} {Q : VK} (h : to σ H fun x H1 => tyV K T x H1 ∧ t σ H1 fun xs H2 => r x xs H2 Q) : tBM K T r to t σ H Q := h
theorem tyL {K : W.Frag} {H : Hp} {p : Addr} {xs : List V} (h : H p = some (.lst xs)) : tyV K "list" (.ref p) H := .inl ⟨rfl, xs, SqL.of h⟩
theorem ZHI {H : Hp} {Q : VK} {p : Addr} {xs : List V} {y : V} (h1 : H p = some (.lst xs)) (hz : xs.length < sizeLine) (h : ∀ H2, H2 p = some (.lst (xs ++ [y])) → Kp p H H2 → Q .non H2) : ZPc (.ref p) [y] H Q :=
 ⟨p, xs, y, rfl, rfl, h1, hz, h _ ZFf Kp.upd⟩
end
def ZFe (H : Hp) (vs : List V) (l : PL) : Prop := Paired (fun v (p : Int × Int) => ∃ a, v = V.ref a ∧ H a = some (.tup [.int p.1, .int p.2])) vs l
theorem ZFe.same {H H' : Hp} {vs : List V} {l : PL} (h : ZFe H vs l) (s : ZFY H H') : ZFe H' vs l := Paired.mapP h fun _ _ ⟨a, e, z⟩ => ⟨a, e, s _ _ z⟩
section
variable {κ : Type} [DecidableEq κ]
def ZGN (kvs : List (κ × V)) (k : κ) : Option V := (kvs.find? fun kv => decide (kv.1 = k)).map (·.2)
def ZG0 (kvs : List (κ × V)) (k : κ) (v : V) : List (κ × V) :=
 if (kvs.any fun kv => decide (kv.1 = k)) = true then kvs.map (fun kv => if kv.1 = k then (kv.1, v) else kv) else kvs ++ [(k, v)]
def ZJD (kvs : List (κ × V)) (k : κ) : List (κ × V) := kvs.filter fun kv => decide (kv.1 ≠ k)
theorem ZGh {p : κ × V} {r : List (κ × V)} {k : κ} (e : p.1 = k) : ZGN (p :: r) k = some p.2 := by simp [ZGN, List.find?_cons, e]
theorem ZGi {p : κ × V} {r : List (κ × V)} {k : κ} (e : ¬ p.1 = k) : ZGN (p :: r) k = ZGN r k := by simp [ZGN, List.find?_cons, e]
theorem ZJw (k : κ) : ∀ kvs : List (κ × V), (kvs.any fun kv => decide (kv.1 = k)) = (ZGN kvs k).isSome
 | [] => rfl
 | p :: r => by
  rw [List.any_cons]
  by_cases e : p.1 = k
  ·simp only [ZGh e, decide_eq_true e, Bool.true_or, Option.isSome_some]
  ·rw [ZGi e, decide_eq_false e, Bool.false_or]; exact ZJw k r
theorem ZN5 (k j : κ) (y : V) : ∀ kvs : List (κ × V), ZGN (kvs.map fun kv => if kv.1 = k then (kv.1, y) else kv) j = (ZGN kvs j).map fun x => if j = k then y else x
 | [] => rfl
 | p :: r => by
  have ih := ZN5 k j y r
  rw [List.map_cons]
  by_cases h : p.1 = k
  ·rw [if_pos h]
   by_cases e : p.1 = j
   ·rw [ZGh (p := (p.1, y)) e, ZGh e, Option.map_some, if_pos (e.symm.trans h)]
   ·rw [ZGi (p := (p.1, y)) e, ZGi e, ih]
  ·rw [if_neg h]
   by_cases e : p.1 = j
   ·rw [ZGh (p := p) e, ZGh e, Option.map_some, if_neg (fun z => h (e.trans z))]
   ·rw [ZGi (p := p) e, ZGi e, ih]
theorem ZM6 (k j : κ) (y : V) : ∀ kvs : List (κ × V), ZGN kvs k = none → ZGN (kvs ++ [(k, y)]) j = if j = k then some y else ZGN kvs j
 | [], _ => by
  by_cases e : k = j
  ·rw [if_pos e.symm]; exact ZGh (p := (k, y)) e
  ·rw [if_neg (fun z => e z.symm)]; exact ZGi (p := (k, y)) e
 | p :: r, hn => by
  rw [List.cons_append]
  have hk : ¬ p.1 = k := fun z => by rw [ZGh z] at hn; cases hn
  rw [ZGi hk] at hn
  have ih := ZM6 k j y r hn
  by_cases e : p.1 = j
  ·rw [ZGh e, ZGh e, if_neg (fun z => hk (e.trans z))]
  ·rw [ZGi e, ZGi e, ih]
theorem ZLZ (kvs : List (κ × V)) (k j : κ) (y : V) : ZGN (ZG0 kvs k y) j = if j = k then some y else ZGN kvs j := by
 unfold ZG0
 by_cases a : (kvs.any fun kv => decide (kv.1 = k)) = true
 ·rw [if_pos a, ZN5]
  rw [ZJw] at a
  by_cases e : j = k
  ·obtain ⟨x, hx⟩ := Option.isSome_iff_exists.mp a
   rw [if_pos e, e, hx, Option.map_some, if_pos rfl]
  ·rw [if_neg e]
   cases ZGN kvs j with
   | none => rfl
   | some x => rw [Option.map_some, if_neg e]
 ·rw [if_neg a]
  refine ZM6 k j y kvs ?_
  rw [ZJw] at a
  cases q : ZGN kvs k with
  | none => rfl
  | some x => rw [q] at a; exact (a rfl).elim
theorem ZIM (kvs : List (κ × V)) (k : κ) (v : V) : (ZG0 kvs k v).length ≤ kvs.length + 1 := by
 unfold ZG0
 split
 ·rw [List.length_map]; omega
 ·rw [List.length_append, List.length_cons, List.length_nil]; omega
theorem ZHJ.isSome_eq {o : Option V} {u : Option Value} (r : ZHJ o u) : o.isSome = u.isSome := by
 cases o with
 | none => cases u with
  | none => rfl
  | some _ => exact (show False from r).elim
 | some _ => cases u with
  | none => exact (show False from r).elim
  | some _ => rfl
theorem ZHJ.getD {o : Option V} {u : Option Value} {d : V} {d' : Value} (r : ZHJ o u) (rd : ZFl d d') : ZFl (o.getD d) (u.getD d') := by
 cases o with
 | none => cases u with
  | none => exact rd
  | some _ => exact (show False from r).elim
 | some _ => cases u with
  | none => exact (show False from r).elim
  | some _ => exact r
theorem KV.val {kvs : List (κ × V)} {vs : List (κ × Value)} (r : KV kvs vs) (k : κ) : ZHJ (ZGN kvs k) (valueAt vs k) := by
 unfold KV at r
 induction r with
 | nil => exact True.intro
 | @cons p q ps qs h t ih =>
  obtain ⟨h1, h2⟩ := h
  by_cases e : p.1 = k
  ·have e' : q.1 = k := h1.symm.trans e
   have b : valueAt (q :: qs) k = some q.2 := by simp [valueAt, List.find?_cons, e']
   rw [ZGh e, b]; exact h2
  ·have e' : ¬ q.1 = k := fun z => e (h1.trans z)
   have b : valueAt (q :: qs) k = valueAt qs k := by simp [valueAt, List.find?_cons, e']
   rw [ZGi e, b]; exact ih
theorem KV.any {kvs : List (κ × V)} {vs : List (κ × Value)} (r : KV kvs vs) (k : κ) : (kvs.any fun kv => decide (kv.1 = k)) = vs.any fun kv => decide (kv.1 = k) := by
 unfold KV at r
 induction r with
 | nil => rfl
 | cons h t ih => rw [List.any_cons, List.any_cons, ih, h.1]
theorem KV.repl {kvs : List (κ × V)} {vs : List (κ × Value)} (r : KV kvs vs) (k : κ) {y : V} {u : Value} (ry : ZFl y u) :
  KV (kvs.map fun kv => if kv.1 = k then (kv.1, y) else kv) (vs.map fun kv => if kv.1 = k then (kv.1, u) else kv) := by
 unfold KV at r ⊢
 induction r with
 | nil => exact .nil
 | @cons p q ps qs h t ih =>
  rw [List.map_cons, List.map_cons]
  refine .cons ?_ ih
  obtain ⟨h1, h2⟩ := h
  by_cases e : p.1 = k
  ·rw [if_pos e, if_pos (h1.symm.trans e)]; exact ⟨h1, ry⟩
  ·rw [if_neg e, if_neg (fun z => e (h1.trans z))]; exact ⟨h1, h2⟩
theorem KV.put {kvs : List (κ × V)} {vs : List (κ × Value)} (r : KV kvs vs) (k : κ) {y : V} {u : Value} (ry : ZFl y u) : KV (ZG0 kvs k y) (stored vs k u) := by
 unfold ZG0 stored
 rw [r.any k]
 by_cases e : (vs.any fun kv => decide (kv.1 = k)) = true
 ·rw [if_pos e, if_pos e]; exact r.repl k ry
 ·rw [if_neg e, if_neg e]; exact Paired.snoc r ⟨rfl, ry⟩
theorem KV.drop {kvs : List (κ × V)} {vs : List (κ × Value)} (r : KV kvs vs) (k : κ) : KV (ZJD kvs k) (without vs k) := by
 unfold KV at r ⊢
 unfold ZJD without
 induction r with
 | nil => exact .nil
 | @cons p q ps qs h t ih =>
  obtain ⟨h1, h2⟩ := h
  rw [List.filter_cons, List.filter_cons]
  by_cases e : p.1 = k
  ·have a : ¬ decide (p.1 ≠ k) = true := by simp [e]
   have b : ¬ decide (q.1 ≠ k) = true := by simp [h1.symm.trans e]
   rw [if_neg a, if_neg b]; exact ih
  ·have e' : ¬ q.1 = k := fun z => e (h1.trans z)
   have a : decide (p.1 ≠ k) = true := by simp [e]
   have b : decide (q.1 ≠ k) = true := by simp [e']
   rw [if_pos a, if_pos b]; exact .cons ⟨h1, h2⟩ ih
theorem KV.length {kvs : List (κ × V)} {vs : List (κ × Value)} (r : KV kvs vs) : kvs.length = vs.length := Paired.length r
theorem ZTG (kvs : List (κ × V)) (k : κ) : (ZJD kvs k).length ≤ kvs.length := List.length_filter_le _ _
end
theorem ZK3 {P : Program} {w : World} {k : Key} {u : Value} (r : ZFl (kV k) u) : (ZGM P w).is k u = true := by
 cases k with
 | inl i => obtain ⟨t, e⟩ := (show ∃ t, u = Value.int i t from r); subst e; exact ZPB P w i t
 | inr x => obtain ⟨t, e⟩ := (show ∃ t, u = Value.str x t from r); subst e; exact ZPC P w x t
theorem ZM7 {P : Program} {w : World} : ∀ {ks : List Key} {us : List Value}, ZFj (ks.map kV) us → ItemsAre (ZGM P w) ks us
 | [], _, r => by rw [List.map_nil] at r; cases r; exact .nil
 | k :: ks, _, r => by
  rw [List.map_cons] at r
  cases r with
  | cons h t => exact .cons (ZK3 h) (ZM7 t)
abbrev KT (H : Hp) : List (List Key × V) → List (List Key × Addr × Value) → Prop := Paired fun p q => p.1 = q.1 ∧ H q.2.1 = some (.tup (p.1.map kV)) ∧ ZFl p.2 q.2.2
theorem KT.val {H : Hp} {kvs : List (List Key × V)} {xs : List (List Key × Addr × Value)} (r : KT H kvs xs) (k : List Key) : ZHJ (ZGN kvs k) ((atKey xs k).map (·.2)) := by
 induction r with
 | nil => exact True.intro
 | @cons p q ps qs h t ih =>
  obtain ⟨h1, _, h2⟩ := h
  by_cases e : p.1 = k
  ·have e' : q.1 = k := h1.symm.trans e
   have b : atKey (q :: qs) k = some q.2 := by simp [atKey, List.find?_cons, e']
   rw [ZGh e, b]; exact h2
  ·have e' : ¬ q.1 = k := fun z => e (h1.trans z)
   have b : atKey (q :: qs) k = atKey qs k := by simp [atKey, List.find?_cons, e']
   rw [ZGi e, b]; exact ih
theorem KT.repl {H : Hp} {kvs : List (List Key × V)} {xs : List (List Key × Addr × Value)} (r : KT H kvs xs) (k : List Key) {y : V} {u : Value} (ry : ZFl y u) :
  KT H (kvs.map fun kv => if kv.1 = k then (kv.1, y) else kv) (xs.map (putAt k u)) := by
 induction r with
 | nil => exact .nil
 | @cons p q ps qs h t ih =>
  rw [List.map_cons, List.map_cons]
  refine .cons ?_ ih
  obtain ⟨h1, h2, h3⟩ := h
  unfold putAt
  by_cases e : p.1 = k
  ·rw [if_pos e, if_pos (h1.symm.trans e)]; exact ⟨h1, h2, ry⟩
  ·rw [if_neg e, if_neg (fun z => e (h1.trans z))]; exact ⟨h1, h2, h3⟩
theorem KT.put {H : Hp} {kvs : List (List Key × V)} {xs : List (List Key × Addr × Value)} (r : KT H kvs xs) (k : List Key) {b : Addr} {y : V} {u : Value} (hb : H b = some (.tup (k.map kV))) (ry : ZFl y u) :
  KT H (ZG0 kvs k y) (storedH xs k b u) := by
 have e : (kvs.any fun kv => decide (kv.1 = k)) = (atKey xs k).isSome := by
  rw [ZJw, (r.val k).isSome_eq, Option.isSome_map]
 unfold ZG0 storedH
 rw [e]
 by_cases q : (atKey xs k).isSome = true
 ·rw [if_pos q, if_pos q]; exact r.repl k ry
 ·rw [if_neg q, if_neg q]; exact Paired.snoc r ⟨rfl, hb, ry⟩
theorem KT.keeps {H H' : Hp} {kvs : List (List Key × V)} {xs : List (List Key × Addr × Value)} (r : KT H kvs xs) (ht : ∀ b ys, H b = some (.tup ys) → H' b = some (.tup ys)) : KT H' kvs xs :=
 Paired.mapP r fun _ _ z => ⟨z.1, ht _ _ z.2.1, z.2.2⟩
section
variable {P : Program} {w : World} {H : Hp} {h : Heap} {a : Addr}
theorem ZUW {u : HO} (ok : HOk P w H h) (e : Rd H a u) : ZFz P w H h a u := e.ok ok
theorem ZIi {kvs : List (Key × V)} (ok : HOk P w H h) (e : Rd H a (.dK kvs)) : kvs.length ≤ sizeLine ∧ (a == sysModules) = false ∧ ∃ vs, KV kvs vs ∧ h.DictOf (ZGM P w) a vs :=
 show ZFz P w H h a (.dK kvs) from ZUW ok e
theorem ZQK {kvs : List (Key × V)} (ok : HOk P w H h) (e : H a = some (.dK kvs)) : kvs.length ≤ sizeLine ∧ (a == sysModules) = false ∧ ∃ vs, KV kvs vs ∧ h.DictOf (ZGM P w) a vs := ZIi ok (.inl e)
theorem ZKT {ks : List Key} (ok : HOk P w H h) (e : H a = some (.tup (ks.map kV))) : (tupleKind (ZGM P w)).is h ks a := by
 obtain ⟨_, its, r, o, h1, h2, n, h3⟩ := (show ZFz P w H h a (.tup (ks.map kV)) from ok a _ e)
 exact ⟨o, its.toArray, n, h1, h2, h3, by simpa using ZM7 r⟩
theorem ZJx {kvs : List (List Key × V)} (ok : HOk P w H h) (e : Rd H a (.dT kvs)) : kvs.length ≤ sizeLine ∧ (a == sysModules) = false ∧
  ∃ xs, KT H kvs xs ∧ h.DictOfH (tupleKind (ZGM P w)) a xs := by
 obtain ⟨z, y, xs, r, o, es, ep, h1, h2, h3, h4, h5⟩ := (show ZFz P w H h a (.dT kvs) from ZUW ok e)
 refine ⟨z, y, xs, r, o, es, ep, h1, h2, h3, h4, fun x hx => ?_, h5⟩
 have all : ∀ {l : List (List Key × V)} {m : List (List Key × Addr × Value)}, KT H l m → ∀ x ∈ m, (tupleKind (ZGM P w)).is h x.1 x.2.1 := by
  intro l m q
  induction q with
  | nil => intro x hx; exact nomatch hx
  | @cons p q ps qs hq t ih =>
   intro x hx
   rcases List.mem_cons.mp hx with e | hx
   ·subst e
    exact ZKT ok (by rw [← hq.1]; exact hq.2.1)
   ·exact ih x hx
 exact all r x hx
theorem ZYs {kvs : List (List Key × V)} (ok : HOk P w H h) (e : H a = some (.dT kvs)) : kvs.length ≤ sizeLine ∧ (a == sysModules) = false ∧
 ∃ xs, KT H kvs xs ∧ h.DictOfH (tupleKind (ZGM P w)) a xs := ZJx ok (.inl e)
end
def ZHC (H : Hp) (a : Addr) (y : V) (r : Option V) : Prop :=
 (∃ kvs k, Rd H a (.dK kvs) ∧ y = kV k ∧ r = ZGN kvs k) ∨ ∃ kvs k b, Rd H a (.dT kvs) ∧ y = .ref b ∧ H b = some (.tup (k.map kV)) ∧ r = ZGN kvs k
def ZJQ (H : Hp) (a : Addr) (y v : V) (H' : Hp) : Prop :=
 (∃ kvs k, H a = some (.dK kvs) ∧ y = kV k ∧ kvs.length < sizeLine ∧ H' = upd H a (.dK (ZG0 kvs k v))) ∨
 ∃ kvs k b, H a = some (.dT kvs) ∧ y = .ref b ∧ H b = some (.tup (k.map kV)) ∧ kvs.length < sizeLine ∧ H' = upd H a (.dT (ZG0 kvs k v))
theorem ZHC.k {H : Hp} {a : Addr} {kvs : List (Key × V)} {k : Key} (e : H a = some (.dK kvs)) : ZHC H a (kV k) (ZGN kvs k) := .inl ⟨kvs, k, .inl e, rfl, rfl⟩
theorem ZHC.t {H : Hp} {a b : Addr} {kvs : List (List Key × V)} {k : List Key} (e : H a = some (.dT kvs)) (eb : H b = some (.tup (k.map kV))) : ZHC H a (.ref b) (ZGN kvs k) := .inr ⟨kvs, k, b, .inl e, rfl, eb, rfl⟩
theorem ZJQ.k {H : Hp} {a : Addr} {kvs : List (Key × V)} {k : Key} {v : V} (e : H a = some (.dK kvs)) (hl : kvs.length < sizeLine) : ZJQ H a (kV k) v (upd H a (.dK (ZG0 kvs k v))) := .inl ⟨kvs, k, e, rfl, hl, rfl⟩
theorem ZJQ.t {H : Hp} {a b : Addr} {kvs : List (List Key × V)} {k : List Key} {v : V} (e : H a = some (.dT kvs)) (eb : H b = some (.tup (k.map kV))) (hl : kvs.length < sizeLine) :
 ZJQ H a (.ref b) v (upd H a (.dT (ZG0 kvs k v))) := .inr ⟨kvs, k, b, e, rfl, eb, hl, rfl⟩
section
variable {X : Cx} {pins : List (Addr × Obj)} {σ : St} {H : Hp} {s : Shared} {a : Addr} {y v : V} {u r : Value} {o : Option V} {A : Around} {E : Value → Shared → Prop}
theorem Inv.big (I : Inv X pins σ H s) : sysModules < s.heap.objs.size := by
 have h : mainGlobals < s.heap.objs.size := (I.mod.glob.keeps I.bk).lt
 exact Nat.lt_trans (by decide) h
theorem ZRR {Q : Value → Shared → Prop} (hu : A.units + 1 < cLine) (I : Inv X pins σ H s) (g : ZHC H a y (some v)) (ry : ZFl y u) (h : ∀ w' s', Inv X pins σ H s' → ZFl v w' → Q w' s') :
  wpAny (model X.prog X.w) A (getItem (.ref a) u) Q E s := by
 rcases g with ⟨kvs, k, e, ey, l⟩ | ⟨kvs, k, b, e, ey, eb, l⟩
 ·subst ey
  obtain ⟨z, hd, vs, rel, dd⟩ := ZIi I.hok e
  obtain ⟨w', hw, rw'⟩ := ZHJ.some_of (v := v) (o := valueAt vs k) (by rw [l]; exact rel.val k)
  exact wpAny_getItem_of (ZK3 ry) dd.mapOf hw (h w' _ (I.tok _) rw')
 ·subst ey
  cases (show u = Value.ref b from ry)
  obtain ⟨z, hd, xs, rel, dd⟩ := ZJx I.hok e
  obtain ⟨w', hw, rw'⟩ := ZHJ.some_of (v := v) (o := (atKey xs k).map (·.2)) (by rw [l]; exact rel.val k)
  obtain ⟨p, hp, hp2⟩ := Option.map_eq_some_iff.mp hw
  refine wpAny_getItem_heap (tupleKind_room_in1 hu) (ZKT I.hok eb) dd hp ?_
  rw [hp2]
  exact h w' _ (I.tok _) rw'
theorem ZVc {Q : Value → Shared → Prop} (hu : A.units + 1 < cLine) (I : Inv X pins σ H s) (g : ZHC H a y o) (ry : ZFl y u) (h : ∀ s', Inv X pins σ H s' → Q (.bool (!o.isSome)) s') :
  wpAny (model X.prog X.w) A (compareOp .NotIn u (.ref a)) Q E s := by
 rcases g with ⟨kvs, k, e, ey, l⟩ | ⟨kvs, k, b, e, ey, eb, l⟩
 ·subst ey
  obtain ⟨z, hd, vs, rel, dd⟩ := ZIi I.hok e
  refine wpAny_notIn_of (ZK3 ry) hd dd.mapOf ?_
  rw [← (rel.val k).isSome_eq, ← l]
  exact h _ (I.tok _)
 ·subst ey
  cases (show u = Value.ref b from ry)
  obtain ⟨z, hd, xs, rel, dd⟩ := ZJx I.hok e
  refine wpAny_notIn_heap (tupleKind_room_in1 hu) (ZKT I.hok eb) hd dd ?_
  have q := (rel.val k).isSome_eq
  rw [Option.isSome_map] at q
  rw [← q, ← l]
  exact h _ (I.tok _)
theorem ZK4 {h' : Heap} {t' : Nat} {ob : HO} (I : Inv X pins σ H s) (mu : Mut (H a)) (hs : Heap.SameBut a s.heap h') (he : ∃ q, h'.get? a = some q) (new : ZFz X.prog X.w (upd H a ob) h' a ob) :
  Inv X pins σ (upd H a ob) { s with heap := h', toks := t' } :=
 I.write (x := a) (e := a) mu (.inl rfl) (fun b q hb z => (hs.2 b hb).trans z) he new
theorem ZN6 {P : Program} {w : World} {H' : Hp} {h' : Heap} {kvs : List (Key × V)} {vs : List (Key × Value)} (z : kvs.length ≤ sizeLine) (hd : (a == sysModules) = false) (rel : KV kvs vs) (dd : h'.DictOf (ZGM P w) a vs) :
 ZFz P w H' h' a (.dK kvs) := ⟨z, hd, vs, rel, dd⟩
theorem ZRS {H' : Hp} {Q : Unit → Shared → Prop} (hu : A.units + 1 < cLine) (I : Inv X pins σ H s) (g : ZJQ H a y v H') (ry : ZFl y u) (rv : ZFl v r) (h : ∀ s', Inv X pins σ H' s' → Q () s') :
  wpAny (model X.prog X.w) A (setItem (.ref a) u r) Q E s := by
 rcases g with ⟨kvs, k, e, ey, l, eH⟩ | ⟨kvs, k, b, e, ey, eb, l, eH⟩
 ·subst ey eH
  obtain ⟨z, hd, vs, rel, dd⟩ := ZQK I.hok e
  have hz : vs.length ≤ sizeLine := by rw [← rel.length]; exact z
  have hl : (ZG0 kvs k v).length ≤ sizeLine := by have := ZIM kvs k v; omega
  refine wpAny_setItem_pairs (hsz := hz) (ZK3 ry) dd fun h' dd' hs => h _ ?_
  have he : ∃ q, h'.get? a = some q := let ⟨q, _, _, hq, _⟩ := dd'; ⟨q, hq⟩
  exact ZK4 I (by rw [e]; exact True.intro) hs he (ZN6 hl hd (rel.put k rv) dd')
 ·subst ey eH
  cases (show u = Value.ref b from ry)
  obtain ⟨z, hd, xs, rel, dd⟩ := ZYs I.hok e
  have hz : xs.length ≤ sizeLine := by rw [← Paired.length rel]; exact z
  have hl : (ZG0 kvs k v).length ≤ sizeLine := by have := ZIM kvs k v; omega
  refine wpAny_setItem_heap (hsz := hz) (tupleKind_room_in1 hu) (ZKT I.hok eb) dd fun h' dd' hs => h _ ?_
  obtain ⟨q, es, ep, hq, h2, h3, h4, _, h5⟩ := dd'
  refine ZK4 I (by rw [e]; exact True.intro) hs ⟨q, hq⟩ ⟨hl, hd, _, (rel.put k eb rv).keeps fun c ys ec => ?_, q, es, ep, hq, h2, h3, h4, h5⟩
  rw [ZFg (ZYa ec e (fun z => nomatch z))]
  exact ec
end
section
variable {X : Cx} {pins : List (Addr × Obj)} {σ : St} {H : Hp} {s : Shared} {a : Addr} {kvs : List (Key × V)} {k : Key} {u : Value} {A : Around} {E : Value → Shared → Prop}
theorem ZYt {v : V} {more : List Value} {Q : Value → Shared → Prop} (I : Inv X pins σ H s) (e : H a = some (.dK kvs)) (ry : ZFl (kV k) u) (l : ZGN kvs k = some v) (hm : more = [] ∨ ∃ x, more = [x])
  (h : ∀ w' s', Inv X pins σ (upd H a (.dK (ZJD kvs k))) s' → ZFl v w' → Q w' s') : wpAny (model X.prog X.w) A (call (.builtin "dict.pop") (.ref a :: u :: more)) Q E s := by
 obtain ⟨z, hd, vs, rel, dd⟩ := ZQK I.hok e
 obtain ⟨w', hw, rw'⟩ := ZHJ.some_of (v := v) (o := valueAt vs k) (by rw [← l]; exact rel.val k)
 have hp : (keyPart u).isSome = true := by
  cases k with
  | inl i => obtain ⟨t, q⟩ := (show ∃ t, u = Value.int i t from ry); subst q; rfl
  | inr x => obtain ⟨t, q⟩ := (show ∃ t, u = Value.str x t from ry); subst q; rfl
 have ha : argsOk "dict.pop" ⟨.ref a :: u :: more, []⟩ := by
  rcases hm with q | ⟨x, q⟩
  ·subst q; exact PySem.F.args_dict_pop_2 _ _
  ·subst q; exact PySem.F.args_dict_pop_3 _ _ _
 refine call_meetsIn PySem.F.slot_dict_pop dd.typeIs PySem.F.entry_dict_pop ha (meets_dict_pop_there (ZGM X.prog X.w) a (ZK3 ry) more hm hp)
  ⟨vs, w', dd, by rw [← rel.length]; exact z, hw, fun h' dd' hs => h w' _ ?_ rw'⟩
 have he : ∃ q, h'.get? a = some q := let ⟨q, _, _, hq, _⟩ := dd'; ⟨q, hq⟩
 exact ZK4 I (by rw [e]; exact True.intro) hs he (ZN6 (Nat.le_trans (ZTG kvs k) z) hd (rel.drop k) dd')
end
def ZTH (i : Expr) : Prop := ∀ ov iv, subscripted i false ov iv = operate [ov, iv] (getItem ov iv)
theorem ZVd {prog : Program} {w : World} {A : Around} {E : Value → Shared → Prop} {s : Shared} {env : Env} {value slice : Expr} {pos : Pos} {T id : String} {Q : Value → Shared → Prop}
  (hl : typeLookup (.type T) "__getitem__" = pure (some (.builtin id))) (hs : ZTH slice)
  (h : wpAny (model prog w) A (eval value env) (fun o s₁ => wpAny (model prog w) A (eval slice env) (fun i s₂ => s₂.TypeIs o T ∧ wpAny (model prog w) A (getItem o i) Q E s₂) E s₁) E s) :
  wpAny (model prog w) A (eval (.Subscript value slice pos) env) Q E s := by
 refine Subscript_ (wpAny_mono h (fun o s₁ h₁ => wpAny_mono h₁ (fun i s₂ h₂ => ?_) fun _ _ x => x) fun _ _ x => x)
 obtain ⟨hT, h₂⟩ := h₂
 unfold subscriptTail
 refine wpAny_bind ?_
 rw [getitemInPython_of_ne hT.not_modules]
 refine wpAny_bind (wpAny_specialOf hT hl ?_)
 have fin : wpAny (model prog w) A (subscripted slice false o i) (fun r s₃ => wpAny (model prog w) A (letTemporaryGo value o r >>= fun _ => pure r) Q E s₃) E s₂ := by
  rw [hs o i]
  exact wpAny_operating (wpAny_mono h₂ (fun r s₃ h₃ => wpAny_bind (wpAny_letTemporaryGo (wpAny_pure h₃))) fun _ _ x => x)
 first
  | exact wpAny_pure (wpAny_bind fin)
  | exact wpAny_bind (wpAny_pure (wpAny_bind fin))
  | exact wpAny_bind fin
theorem ZPF {X : Cx} {pins : List (Addr × Obj)} {σ : St} {H : Hp} {s : Shared} {a : Addr} {y : V} {o : Option V} (I : Inv X pins σ H s) (g : ZHC H a y o) : s.TypeIs (.ref a) "dict" := by
 rcases g with ⟨kvs, k, e, _, _⟩ | ⟨kvs, k, b, e, _, _, _⟩
 ·obtain ⟨_, _, vs, _, dd⟩ := ZIi I.hok e
  exact dd.typeIs
 ·obtain ⟨_, _, xs, _, dd⟩ := ZJx I.hok e
  exact dd.typeIs
theorem ZPG {X : Cx} {pins : List (Addr × Obj)} {σ : St} {H : Hp} {s : Shared} {a : Addr} {y : V} {o : Option V} (I : Inv X pins σ H s) (g : ZHC H a y o) :
  ∀ b, Value.ref a = .ref b → ∃ ob, s.heap.get? b = some ob ∧ ob.dict = none := fun b q => by
 cases q
 rcases g with ⟨kvs, k, e, _, _⟩ | ⟨kvs, k, b, e, _, _, _⟩
 ·obtain ⟨_, _, vs, _, ob, _, _, h1, h2, _⟩ := ZIi I.hok e
  exact ⟨ob, h1, h2.2.1⟩
 ·obtain ⟨_, _, xs, _, ob, _, _, h1, h2, _⟩ := ZJx I.hok e
  exact ⟨ob, h1, h2.2.1⟩
def ZQL (td ty : TE) : TE := fun σ H Q => td σ H fun x H1 => ty σ H1 fun y H2 => ∃ a v, x = .ref a ∧ ZHC H2 a y (some v) ∧ Q v H2
def ZQM (td ty tv : TE) : TS := fun D σ H => tv σ H fun v H1 => td σ H1 fun x H2 => ty σ H2 fun y H3 => ∃ a H4, x = .ref a ∧ ZJQ H3 a y v H4 ∧ D.nx σ H4
section
variable {X : Cx} {o i e value : Expr} {pos pos' tpos : Pos} {td ty tv : TE}
theorem ZVe (hu : X.A.units + 1 < cLine) (ho : PE X o td) (hi : PE X i ty) (hs : ZTH i) : PE X (.Subscript o i pos) (ZQL td ty) := by
 intro pins s σ H Q I h
 refine ZVd PySem.F.slot_dict_getitem.lookup hs (thn (ho pins s σ H _ I h) fun u s1 ⟨x, H1, I1, rx, q1⟩ => thn (hi pins s1 σ H1 _ I1 q1) fun iv s2 ⟨y, H2, I2, ry, a, v, ex, g, q2⟩ => ?_)
 subst ex
 obtain rfl : u = Value.ref a := rx
 exact ⟨ZPF I2 g, ZRR hu I2 g ry fun w' s3 I3 rw' => ⟨v, H2, I3, rw', q2⟩⟩
theorem ZVf (hu : X.A.units + 1 < cLine) (ho : PE X o td) (hi : PE X i ty) (hv : PE X value tv) (hs : swapsWith value (some (.Subscript o i pos')) pos.line X.env = pure false) :
  PS X (.Assign [.Subscript o i pos'] value pos) (ZQM td ty tv) := by
 intro pins s σ H D I h
 refine wpAny_Assign_Subscript (thn (hv pins s σ H _ I h) fun r s1 ⟨v, H1, I1, rv, q1⟩ => thn (ho pins s1 σ H1 _ I1 q1) fun u s2 ⟨x, H2, I2, rx, q2⟩ => thn (hi pins s2 σ H2 _ I2 q2) fun iv s3 ⟨y, H3, I3, ry, a, H4, ex, g, q3⟩ => ?_) hs
 subst ex
 obtain rfl : u = Value.ref a := rx
 exact ZRS hu I3 g ry rv fun s4 I4 => ⟨σ, H4, I4, q3⟩
end
theorem ZTI {P : Program} {w : World} {H : Hp} (h : Heap) (hb : sysModules < h.objs.size) : ZFz P w H (h.push { cls := .type "dict", data := .dict #[] }) h.objs.size (.dK []) :=
 ⟨Nat.zero_le _, beq_eq_false_iff_ne.mpr (Ne.symm (Nat.ne_of_lt hb)), [], .nil, Heap.DictOf.new h⟩
theorem ZTJ {P : Program} {w : World} {H : Hp} (h : Heap) (hb : sysModules < h.objs.size) : ZFz P w H (h.push { cls := .type "dict", data := .dict #[] }) h.objs.size (.dT []) :=
 ⟨Nat.zero_le _, beq_eq_false_iff_ne.mpr (Ne.symm (Nat.ne_of_lt hb)), [], .nil, _, #[], 0, Heap.get?_push_size _ rfl, ⟨rfl, rfl, rfl⟩, rfl, rfl, List.nodup_nil⟩
def ZN7 : TE := fun _ H Q => ∀ p, H p = none → Q (.ref p) (upd H p (.dK []))
def ZN8 : TE := fun _ H Q => ∀ p, H p = none → Q (.ref p) (upd H p (.dT []))
section
variable {X : Cx} {pos : Pos}
theorem ZTK : PE X (.Dict [] [] pos) ZN7 := fun pins s σ H Q I h =>
 wpAny_Dict_empty ⟨.ref s.heap.objs.size, _, I.laid (a := s.heap.objs.size) (o := .dK []) (t' := s.toks) (fun _ _ q => Heap.get?_push_of_some _ q) (Nat.le_refl _) (ZTI s.heap I.big), rfl, h _ (I.hok.fresh (Nat.le_refl _))⟩
theorem ZTL : PE X (.Dict [] [] pos) ZN8 := fun pins s σ H Q I h =>
 wpAny_Dict_empty ⟨.ref s.heap.objs.size, _, I.laid (a := s.heap.objs.size) (o := .dT []) (t' := s.toks) (fun _ _ q => Heap.get?_push_of_some _ q) (Nat.le_refl _) (ZTJ s.heap I.big), rfl, h _ (I.hok.fresh (Nat.le_refl _))⟩
end
structure M1 (X : Cx) (o : Expr) (m : Str) (apos : Pos) (e : Expr) (cpos : Pos) : Prop where
 base : attributeBase o m X.env (eval o X.env) = eval o X.env
 few : ((backTo cpos (starEach [e] X.env)).all (fun x => !x.1) && (backToKw cpos (keywordEach [] X.env)).all (fun x => x.1.isSome)
  && decide (([e] : List Expr).length + ([] : List Keyword).length + (if ([] : List Keyword).isEmpty then 0 else 1) < 30)) = true
 line : (apos.endLine == cpos.line) = true
 trees : backTo cpos (starEach [e] X.env) = [(false, eval e X.env)]
def IsD (H : Hp) (a : Addr) : Prop := (∃ kvs, Rd H a (.dK kvs)) ∨ ∃ kvs, Rd H a (.dT kvs)
theorem ZRT {X : Cx} {pins : List (Addr × Obj)} {σ : St} {H : Hp} {s : Shared} {a : Addr} (I : Inv X pins σ H s) (d : IsD H a) :
  s.TypeIs (.ref a) "dict" ∧ (∀ b, Value.ref a = .ref b → ∃ ob, s.heap.get? b = some ob ∧ ob.dict = none) ∧ (a == sysModules) = false := by
 rcases d with ⟨kvs, e⟩ | ⟨kvs, e⟩
 ·obtain ⟨_, hd, vs, _, dd⟩ := ZIi I.hok e
  refine ⟨dd.typeIs, fun b q => ?_, hd⟩
  cases q
  obtain ⟨ob, _, _, h1, h2, _⟩ := dd
  exact ⟨ob, h1, h2.2.1⟩
 ·obtain ⟨_, hd, xs, _, dd⟩ := ZJx I.hok e
  refine ⟨dd.typeIs, fun b q => ?_, hd⟩
  cases q
  obtain ⟨ob, _, _, h1, h2, _⟩ := dd
  exact ⟨ob, h1, h2.2.1⟩
section
variable {X : Cx} {pins : List (Addr × Obj)} {σ : St} {H : Hp} {s : Shared} {a : Addr} {y d : V} {u r : Value} {o : Option V} {A : Around} {E : Value → Shared → Prop}
theorem ZXl {Q : Value → Shared → Prop} (hu : A.units + 1 < cLine) (I : Inv X pins σ H s) (g : ZHC H a y o) (ry : ZFl y u) (h : ∀ w' s', Inv X pins σ H s' → ZFl (o.getD .non) w' → Q w' s') :
  wpAny (model X.prog X.w) A (call (.builtin "dict.get") [.ref a, u]) Q E s := by
 rcases g with ⟨kvs, k, e, ey, l⟩ | ⟨kvs, k, b, e, ey, eb, l⟩
 ·subst ey
  obtain ⟨z, hd, vs, rel, dd⟩ := ZIi I.hok e
  refine call_meetsIn PySem.F.slot_dict_get dd.typeIs PySem.F.entry_dict_get (PySem.F.args_dict_get_2 _ _) (meets_dict_get (ZGM X.prog X.w) a (ZK3 ry) hd) ⟨_, dd.mapOf, h _ _ (I.tok _) ?_⟩
  rw [l]
  exact (rel.val k).getD rfl
 ·subst ey
  cases (show u = Value.ref b from ry)
  obtain ⟨z, hd, xs, rel, dd⟩ := ZJx I.hok e
  refine call_meetsIn PySem.F.slot_dict_get dd.typeIs PySem.F.entry_dict_get (PySem.F.args_dict_get_2 _ _) (meetsH_dict_get (tupleKind (ZGM X.prog X.w)) a b hd) ⟨tupleKind_room_in1 hu, k, xs, ZKT I.hok eb, dd, h _ _ (I.tok _) ?_⟩
  rw [l]
  exact (rel.val k).getD rfl
end
def ZN9 (td ty : TE) : TE := fun σ H Q => td σ H fun x H1 => ∃ a, x = .ref a ∧ IsD H1 a ∧ ty σ H1 fun y H2 => ∃ o, ZHC H2 a y o ∧ Q (o.getD .non) H2
def ZOA (td ty : TE) : TE := fun σ H Q => td σ H fun x H1 => ∃ a, x = .ref a ∧ IsD H1 a ∧ ty σ H1 fun y H2 => ∃ kvs k v, H2 a = some (.dK kvs) ∧ y = kV k ∧ ZGN kvs k = some v ∧ Q v (upd H2 a (.dK (ZJD kvs k)))
section
variable {X : Cx} {o e f : Expr} {apos cpos : Pos} {td ty tx : TE}
theorem ZTM (hu : X.A.units + 1 < cLine) (ho : PE X o td) (he : PE X e ty) (m : M1 X o "get" apos e cpos) : PE X (.Call (.Attribute o "get" apos) [e] [] cpos) (ZN9 td ty) := by
 intro pins s σ H Q I h
 refine wpAny_Call_method m.base m.few m.line PySem.F.plainAttrs_dict PySem.F.slot_dict_get PySem.F.type_dict_get (thn (ho pins s σ H _ I h) fun u s1 ⟨x, H1, I1, rx, a, ex, d, q1⟩ => ?_)
 subst ex
 obtain rfl : u = Value.ref a := rx
 obtain ⟨t1, t2, _⟩ := ZRT I1 d
 refine ⟨t1, t2, ?_⟩
 rw [m.trees]
 refine Calls.callWith_builtin rfl (Calls.evalArgs_plain (Calls.spliced_cons (thn (he pins s1 σ H1 _ I1 q1) fun iv s2 ⟨y, H2, I2, ry, ov, g, q2⟩ => Calls.spliced_nil ?_)))
 exact ZXl hu I2 g ry fun w' s3 I3 rw' => ⟨_, H2, I3, rw', q2⟩
theorem ZTN (ho : PE X o td) (he : PE X e ty) (m : M1 X o "pop" apos e cpos) : PE X (.Call (.Attribute o "pop" apos) [e] [] cpos) (ZOA td ty) := by
 intro pins s σ H Q I h
 refine wpAny_Call_method m.base m.few m.line PySem.F.plainAttrs_dict PySem.F.slot_dict_pop PySem.F.type_dict_pop (thn (ho pins s σ H _ I h) fun u s1 ⟨x, H1, I1, rx, a, ex, d, q1⟩ => ?_)
 subst ex
 obtain rfl : u = Value.ref a := rx
 obtain ⟨t1, t2, _⟩ := ZRT I1 d
 refine ⟨t1, t2, ?_⟩
 rw [m.trees]
 refine Calls.callWith_builtin rfl (Calls.evalArgs_plain (Calls.spliced_cons (thn (he pins s1 σ H1 _ I1 q1) fun iv s2 ⟨y, H2, I2, ry, kvs, k, v, ea, ey, l, q2⟩ => Calls.spliced_nil ?_)))
 subst ey
 exact ZYt I2 ea ry l (.inl rfl) fun w' s3 I3 rw' => ⟨v, _, I3, rw', q2⟩
end
def ZZC (H : Hp) (vs : List V) (prs : List (Key × V)) : Prop := Paired (fun v (p : Key × V) => ∃ a, v = V.ref a ∧ H a = some (.tup [kV p.1, p.2])) vs prs
section
variable {prog : Program} {w : World} {A : Around} {E : Value → Shared → Prop} {s : Shared} {κ : Type} [DecidableEq κ] {knd : KeyKind prog w κ}
theorem ZKU {d : Addr} {kvs : List (κ × Value)} {ep : Nat} {Q : List Value → Shared → Prop} (hh : A.handled = none) (hd : (d == sysModules) = false) (hm : s.heap.DictAt knd d kvs ep) (hn : kvs.length ≤ sizeLine)
  (hQ : ∀ s' acc, (∀ b o, s.heap.get? b = some o → s'.heap.get? b = some o) → s'.gens = s.gens → s'.drawn = s.drawn → s'.os = s.os → s.heap.objs.size < s'.heap.objs.size → ItemsOf (fun i v => ∃ k x, kvs[i]? = some (k, x) ∧ knd.is k v = true) acc kvs.length → Q acc.toList s') :
  wpAny (model prog w) A (collect (.ref d)) Q E s := by
 have hdl : d < s.heap.objs.size := let ⟨_, _, ho, _⟩ := hm; Heap.lt_size ho
 unfold collect
 refine wpAny_bind (wpAny_runValue (codeAny_builtin F.entry_proto_collect ?_))
 rw [Around.under_plainId F.plain_proto_collect _]
 show wpAny _ A.in1 (newList [] >>= fun l => again (.builtin "list.__iadd__" ⟨[l, .ref d], []⟩)) _ _ s
 refine wpAny_bind (wpAny_newObj_type ?_)
 refine wpAny_pure ⟨plainId_quiet F.plain_list_iadd _, codeAny_builtin F.entry_list_iadd ?_⟩
 rw [Around.under_plainId F.plain_list_iadd _]
 generalize hH : s.heap.push { cls := .type "list", data := .seq ([] : List Value).toArray } = H
 have hHs : H.objs.size = s.heap.objs.size + 1 := by rw [← hH, Heap.size_push]
 have hm1 : H.DictAt knd d kvs ep := hm.at' fun o e => hH ▸ Heap.get?_push_of_some _ e
 have hT1 : (⟨H, s.gens, s.drawn, s.toks, s.os⟩ : Shared).TypeIs (.ref d) "dict" := hm1.dictOf.typeIs
 show wpAny _ A.in1 (Builtin.List.listExtendWith (.ref s.heap.objs.size) (.ref d) (.ref s.heap.objs.size)) _ _ (⟨H, s.gens, s.drawn, s.toks, s.os⟩ : Shared)
 unfold Builtin.List.listExtendWith
 refine wpAny_bind (wpAny_typeOf hT1 ?_)
 have h1 : Builtin.List.listSameRef (.ref s.heap.objs.size) (.ref d) = false := by
  simp only [Builtin.List.listSameRef]
  exact beq_eq_false_iff_ne.mpr (Nat.ne_of_gt hdl)
 have h2 : (Value.type "dict" == Value.type "list") = false := by decide
 have h3 : (Value.type "dict" == Value.type "tuple") = false := by decide
 simp only [h1, h2, h3, Bool.or_false, Bool.false_eq_true, if_false]
 refine wpAny_bind (wpAny_pyIter_dict hd hm1 ?_)
 generalize hO : ({ cls := .type "dict_keyiterator", data := .fields #[.ref d, .int 0 0, .int kvs.length 0, .int ep 0] } : Obj) = O
 have hm2 : (H.push O).DictAt knd d kvs ep := hm1.at' fun o e => Heap.get?_push_of_some _ e
 have hT2 : (⟨H.push O, s.gens, s.drawn, s.toks, s.os⟩ : Shared).TypeIs (.ref d) "dict" := hm2.dictOf.typeIs
 refine wpAny_bind (wpAny_holding ?_)
 unfold Builtin.List.listLengthHint
 refine wpAny_bind (wpAny_specialOf hT2 PySem.F.slot_dict_len.lookup ?_)
 wp_delta
 refine wpAny_bind (wpAny_isInstance (b := true) hT2 (by rw [isSubtype_type]; kernel_rfl) ?_)
 show wpAny _ A.in1 (typeOf (Value.ref d) >>= _) _ _ _
 refine wpAny_bind (wpAny_typeOf hT2 ?_)
 refine wpAny_pure ?_
 show wpAny _ A.in1 (rule "list.extend.makes-room" >>= fun _ => Builtin.List.listTouch (.ref s.heap.objs.size) >>= fun _ =>
  again (.builtin "list.extend.loop" ⟨[.ref s.heap.objs.size, .ref H.objs.size, .ref s.heap.objs.size], []⟩)) _ _ _
 refine wpAny_bind (wpAny_rule ?_)
 have hS₁ : (H.push O).get? s.heap.objs.size = some { cls := .type "list", data := .seq ([] : List Value).toArray } := Heap.get?_push_of_some _ (hH ▸ Heap.get?_push_size _ rfl)
 refine wpAny_bind ?_
 show wpAny _ A.in1 (updateSeq s.heap.objs.size (·.push .none) >>= fun _ => updateSeq s.heap.objs.size (·.pop)) _ _ _
 refine wpAny_bind (wpAny_updateSeq hS₁ rfl ?_)
 have hS₂ := Heap.get?_update_self (Obj.mapSeq (·.push Value.none)) hS₁ rfl
 refine wpAny_updateSeq hS₂ rfl ?_
 have hS₃ := Heap.get?_update_self (Obj.mapSeq (·.pop)) hS₂ rfl
 have oth : ∀ b o, b ≠ s.heap.objs.size → (H.push O).get? b = some o → (((H.push O).update s.heap.objs.size (Obj.mapSeq (·.push Value.none))).update s.heap.objs.size (Obj.mapSeq (·.pop))).get? b = some o :=
  fun b o hb e => (Heap.get?_update_other _ _ (Ne.symm hb)).trans ((Heap.get?_update_other _ _ (Ne.symm hb)).trans e)
 have hdH : d < H.objs.size := by rw [hHs]; exact Nat.lt_succ_of_lt hdl
 have hHne : H.objs.size ≠ s.heap.objs.size := by rw [hHs]; exact Nat.succ_ne_self _
 have hSf : s.heap.objs.size ∉ [H.objs.size, d] := fun z => by
  simp only [List.mem_cons, List.not_mem_nil, or_false] at z
  rcases z with z | z
  ·exact hHne z.symm
  ·exact Nat.ne_of_gt hdl z
 have W := (Walks.dictKeys (knd := knd) (A := A.in1) hh H.objs.size d (Nat.ne_of_lt hdH) kvs ep).toS
 refine wpAny_pure ⟨plainId_quiet F.plain_extend_loop _, codeAny_extend_loopS (A := A) W hn _ hSf _ kvs.length 0 _ _ _ rfl (Nat.zero_le _) ⟨?_, ?_⟩ hS₃ (ItemsOf.nil _) fun s' acc' c' hmv hS' hacc => ?_⟩
 ·exact ⟨_, oth _ _ hHne (Heap.get?_push_size _ (by rw [← hO]; rfl)), by rw [← hO], by rw [← hO]; rfl⟩
 ·exact hm2.at' fun o e => oth _ _ (Nat.ne_of_lt hdl) e
 ·show wpAny _ A (load s.heap.objs.size >>= _) _ _ s'
  refine wpAny_bind (wpAny_load hS' ?_)
  refine wpAny_pure (hQ s' acc' (fun b ob e => hmv.heap b ob (fun hb => ?_) (oth _ _ (Nat.ne_of_lt (Heap.lt_size e)) (Heap.get?_push_of_some _ (hH ▸ Heap.get?_push_of_some _ e)))) hmv.gens hmv.drawn hmv.os (Heap.lt_size hS') hacc)
  have hlt := Heap.lt_size e
  simp only [List.mem_cons, List.not_mem_nil, or_false] at hb
  rcases hb with h | h
  ·exact Nat.ne_of_lt hlt h
  ·rw [h, hHs] at hlt; exact absurd hlt (Nat.not_lt.mpr (Nat.le_succ _))
theorem ZPH {d : Addr} {kvs : List (κ × Value)} {ep : Nat} {Q : Value → Shared → Prop} (hh : A.handled = none) (hd : (d == sysModules) = false) (hm : s.heap.DictAt knd d kvs ep) (h64 : kvs.length < 64)
  (hI : ∀ acc : Array Value, ItemsOf (fun i v => ∃ k x, kvs[i]? = some (k, x) ∧ knd.is k v = true) acc kvs.length → ∃ ns, IntsAre acc.toList ns ∧ ∀ (s' : Shared) (l : Addr) (out : Array Value) (ns' : List Int) (e : Nat), s.heap.objs.size ≤ l → (∀ b o, s.heap.get? b = some o → s'.heap.get? b = some o) → s'.gens = s.gens → s'.drawn = s.drawn → s'.os = s.os →
   s'.heap.get? l = some (seqObj "list" out e) → out.size = kvs.length → IntsAre out.toList ns' → ns'.Perm ns → ns'.Pairwise (· ≤ ·) → Q (.ref l) s') :
  wpAny (model prog w) A (call (.builtin "sorted") [.ref d]) Q E s := by
 refine Calls.call_function_entry kind_sorted plain_sorted entry_sorted (args_sorted1 _) ?_
 unfold Builtin.«sorted»
 refine wpAny_bind (m := checkCount "sorted" 1 1 _) (wpAny_pure ?_)
 refine wpAny_bind (ZKU (knd := knd) hh hd hm (by rw [sizeLine_eq]; omega) fun s1 acc hk e1 e2 e3 hlt hacc => ?_)
 obtain ⟨ns, hns, hQ⟩ := hI acc hacc
 refine wpAny_bind (wpAny_newList (hsz := by rw [Array.length_toList, hacc.1, sizeLine_eq]; omega) ?_)
 have hoL : (s1.heap.push (seqObj "list" acc.toList.toArray 0)).get? s1.heap.objs.size = some (seqObj "list" acc.toList.toArray 0) := Heap.get?_push_size _ rfl
 show wpAny _ _ _ _ _ { s1 with heap := s1.heap.push (seqObj "list" acc.toList.toArray 0) }
 refine wpAny_bind (wpAny_holding (wpAny_call_entry slot_list_sort ⟨_, hoL, rfl⟩ entry_list_sort (list_sort_tree hoL hns (by rw [Array.length_toList, hacc.1]; exact h64) fun out ns' a1 a2 a3 => ⟨_, rfl, ?_⟩) (args_list_sort _)))
 refine wpAny_pure ⟨_, rfl, ?_⟩
 obtain ⟨e, he⟩ := sortedHeap_at (out := out) hoL
 have hle : s.heap.objs.size ≤ s1.heap.objs.size := Nat.le_of_lt hlt
 refine hQ _ _ out ns' e hle (fun b o eb => ?_) e1 e2 e3 he ?_ a1 a2 a3
 ·have hb := Heap.lt_size (hk _ _ eb)
  exact (sortedHeap_old (Nat.ne_of_lt hb) (by rw [Heap.size_push]; exact Nat.lt_succ_of_lt hb)).trans (Heap.get?_push_of_some _ (hk _ _ eb))
 ·have l1 := IntsAre.length a1
  have l2 := IntsAre.length hns
  have l3 := a2.length_eq
  have l4 := hacc.1
  simp only [Array.length_toList] at l1 l2
  omega
end
theorem ZM8 : ∀ (vs : List (Key × Value)) (ns : List Int) (l : List Value), vs.map (·.1) = ns.map Sum.inl → l.length = vs.length → (∀ (j : Nat) (v : Value), l[j]? = some v → ∃ k x, vs[j]? = some (k, x) ∧ ZJA k v = true) → IntsAre l ns
 | [], [], [], _, _, _ => .nil
 | [], [], _ :: _, _, h, _ => by simp at h
 | [], _ :: _, _, h, _, _ => by simp at h
 | _ :: _, [], _, h, _, _ => by simp at h
 | _ :: _, _ :: _, [], _, h, _ => by simp at h
 | (k, x) :: vs, n :: ns, v :: l, h1, h2, h3 => by
  simp only [List.map_cons, List.cons.injEq] at h1
  obtain ⟨rfl, h1⟩ := h1
  obtain ⟨k', x', e, hk⟩ := h3 0 v rfl
  simp only [List.getElem?_cons_zero, Option.some.injEq, Prod.mk.injEq] at e
  obtain ⟨rfl, rfl⟩ := e
  rcases ZGT hk with ⟨i, t, e1, e2⟩ | ⟨y, t, e1, e2⟩
  ·cases e1; cases e2
   refine .cons _ _ (ZM8 vs ns l h1 (by simpa using h2) fun j v e => ?_)
   have := h3 (j + 1) v (by simpa using e)
   simpa using this
  ·cases e1
theorem KV.keysEq {κ : Type} : ∀ {kvs : List (κ × V)} {us : List (κ × Value)}, KV kvs us → us.map (·.1) = kvs.map (·.1)
 | _, _, .nil => rfl
 | _, _, .cons h t => by rw [List.map_cons, List.map_cons, h.1, KV.keysEq t]
theorem IntsAre.vals : ∀ {vs : List Value} {ns : List Int}, IntsAre vs ns → ZFj (ns.map V.int) vs
 | _, _, .nil => .nil
 | _, _, .cons _ t h => .cons ⟨t, rfl⟩ (IntsAre.vals h)
def ZOB : List V → Hp → VK → Prop := fun xs H Q => ∃ (p : Addr) (kvs : List (Key × V)) (ns : List Int), xs = [.ref p] ∧ Rd H p (.dK kvs) ∧ kvs.map (·.1) = ns.map Sum.inl ∧ kvs.length < 64 ∧ ∀ (l : Addr) (ns' : List Int), H l = none → ns'.Perm ns → ns'.Pairwise (· ≤ ·) → Q (.ref l) (upd H l (.lst (ns'.map V.int)))
theorem ZQN {X : Cx} (hc : X.calm = true) : ZF5 X (.builtin "sorted") ZOB := by
 intro pins s σ H xs us Q I r h
 obtain ⟨p, kvs, ns, rfl, hd, hns, h64, q⟩ := h
 obtain ⟨u, rfl, ru⟩ := r.one
 cases ru
 obtain ⟨z, hd, vs, rel, dd⟩ := ZIi I.hok hd
 obtain ⟨ep, dd⟩ := dd.dictAt
 have hlen : vs.length = kvs.length := rel.length.symm
 refine ZPH (I.ok.hd hc) hd dd (by rw [hlen]; exact h64) fun acc hacc => ⟨ns, ?_, fun s' l out ns' e hl hk e1 e2 e3 he ho a1 a2 a3 => ?_⟩
 ·exact ZM8 vs ns acc.toList (by rw [KV.keysEq rel]; exact hns) (by rw [Array.length_toList]; exact hacc.1) fun j v e => hacc.2 j v (by simpa using e)
 ·obtain ⟨h', g', d', tk, os'⟩ := s'
  simp only at e1 e2 e3
  subst e1 e2 e3
  refine ⟨.ref l, upd H l (.lst (ns'.map V.int)), I.laid (t' := tk) hk hl ?_, rfl, q l ns' (I.hok.fresh hl) a2 a3⟩
  refine ⟨?_, out.toList, e, IntsAre.vals a1, he⟩
  have l1 := a2.length_eq
  have l2 := congrArg List.length hns
  simp only [List.length_map] at l2 ⊢
  rw [sizeLine_eq]
  omega
theorem ZKV : ∀ {ns : List Int} {vs : List Value}, ZFj (ns.map V.int) vs → IntsAre vs ns
 | [], _, .nil => .nil
 | _ :: _, _, .cons ⟨t, e⟩ h => by subst e; exact .cons _ t (ZKV h)
section
variable {X : Cx} {o i value : Expr} {pos pos' : Pos} {td ty tv : TE}
theorem ZZD {b : Expr} (h : ZNh b = false) : ZTH b := by
 intro ov iv
 cases b <;> first | rfl | cases h
theorem ZMY (hu : X.A.units + 1 < cLine) (ho : QE X o td) (hi : QE X i ty) (hs : ZNh i = false := by rfl) : QE X (.Subscript o i pos) (ZQL td ty) := ⟨ZVe hu ho.h hi.h (ZZD hs)⟩
theorem ZJh (hu : X.A.units + 1 < cLine) (hv : QE X value tv) (ho : QE X o td) (hi : QE X i ty) (hs : ZHR value = false := by rfl) : QS X (.Assign [.Subscript o i pos'] value pos) (ZQM td ty tv) := ⟨ZVf hu ho.h hi.h hv.h (ZIC hs)⟩
theorem ZLa : QE X (.Dict [] [] pos) ZN7 := ⟨ZTK⟩
end
section
variable {σ : St} {H : Hp} {Q : VK} {D : ZGW}
def ZQO (x y : V) (H : Hp) (Q : VK) : Prop := ∃ a v, x = .ref a ∧ ZHC H a y (some v) ∧ Q v H
theorem ZTO {td ty : TE} (h : td σ H fun x H1 => ty σ H1 fun y H2 => ZQO x y H2 Q) : ZQL td ty σ H Q := h
def ZNi (v x y : V) (H : Hp) (R : Hp → Prop) : Prop := ∃ a H4, x = .ref a ∧ ZJQ H a y v H4 ∧ R H4
theorem ZTP {td ty tv : TE} (h : tv σ H fun v H1 => td σ H1 fun x H2 => ty σ H2 fun y H3 => ZNi v x y H3 (D.nx σ)) : ZQM td ty tv D σ H := h
def ZNj (H : Hp) (Q : VK) : Prop := ∀ p, H p = none → Q (.ref p) (upd H p (.dK []))
theorem ZTQ (h : ZNj H Q) : ZN7 σ H Q := h
theorem ZPg (h : ∀ p H2, H p = none → H2 p = some (.dK []) → ZFY H H2 → Q (.ref p) H2) : ZNj H Q := fun p hp => h p _ hp ZFf (ZFY.new hp)
end
def ZGA (m : PL) (t : Int) : Option Int := (m.find? fun kv => decide (kv.1 = t)).map (·.2)
def ZGP (m : PL) (t h : Int) : PL := if (m.any fun kv => decide (kv.1 = t)) = true then m.map fun kv => if kv.1 = t then (kv.1, h) else kv else m ++ [(t, h)]
def dkE (p : Int × Int) : Key × V := (.inl p.1, .int p.2)
def ZGf (m : PL) : List (Key × V) := m.map dkE
theorem ZOC {a b : Int} : ((Sum.inl a : Key) = Sum.inl b) ↔ a = b := ⟨fun h => Sum.inl.inj h, fun h => h ▸ rfl⟩
theorem ZXm (m : PL) (t : Int) : ((ZGf m).any fun kv => decide (kv.1 = Sum.inl t)) = m.any fun kv => decide (kv.1 = t) := by
 unfold ZGf
 rw [List.any_map]
 congr 1
 funext p
 simp only [Function.comp, dkE, ZOC]
theorem ZRU (m : PL) (t h : Int) : ZG0 (ZGf m) (.inl t) (.int h) = ZGf (ZGP m t h) := by
 unfold ZG0 ZGP
 rw [ZXm]
 by_cases c : (m.any fun kv => decide (kv.1 = t)) = true
 ·rw [if_pos c, if_pos c]
  unfold ZGf
  rw [List.map_map, List.map_map]
  refine List.map_congr_left fun p _ => ?_
  simp only [Function.comp, dkE, ZOC]
  split <;> simp
 ·rw [if_neg c, if_neg c]
  simp [ZGf, dkE]
theorem ZJi (t : Int) : ∀ m : PL, ZGN (ZGf m) (.inl t) = (ZGA m t).map V.int
 | [] => rfl
 | p :: m => by
  have ih := ZJi t m
  by_cases e : p.1 = t
  ·have : ZGN (ZGf (p :: m)) (.inl t) = some (.int p.2) := ZGh (p := dkE p) (by simp [dkE, e])
   rw [this]
   simp [ZGA, List.find?_cons, e]
  ·have : ZGN (ZGf (p :: m)) (.inl t) = ZGN (ZGf m) (.inl t) := ZGi (p := dkE p) (by simp [dkE, e])
   rw [this, ih]
   simp [ZGA, List.find?_cons, e]
theorem ZTR {H : Hp} {Q : VK} {p : Addr} {m : PL} {t v : Int} (h1 : H p = some (.dK (ZGf m))) (h2 : ZGA m t = some v) (h : Q (.int v) H) : ZQO (.ref p) (.int t) H Q :=
 ⟨p, .int v, rfl, by
  have := ZHC.k (k := Sum.inl t) h1
  rw [ZJi, h2] at this
  exact this, h⟩
theorem ZOD {H : Hp} {R : Hp → Prop} {p : Addr} {m : PL} {t v : Int} (h1 : H p = some (.dK (ZGf m))) (hz : m.length < sizeLine) (h : ∀ H2, H2 p = some (.dK (ZGf (ZGP m t v))) → Kp p H H2 → R H2) : ZNi (.int v) (.ref p) (.int t) H R :=
 ⟨p, _, rfl, ZJQ.k (k := Sum.inl t) h1 (by simpa [ZGf] using hz), by
  rw [ZRU]
  exact h _ ZFf Kp.upd⟩
theorem ZOE {H : Hp} {Q : VK} (h : ∀ p H2, H p = none → H2 p = some (.dK (ZGf [])) → ZFY H H2 → Q (.ref p) H2) : ZNj H Q := ZPg h
theorem ZOF (m : PL) (t h j : Int) : ZGA (ZGP m t h) j = if j = t then some h else ZGA m j := by
 have e1 := ZJi j (ZGP m t h)
 rw [← ZRU, ZLZ] at e1
 have e2 := ZJi j m
 rw [e2] at e1
 simp only [ZOC] at e1
 by_cases e : j = t
 ·rw [if_pos e] at e1 ⊢
  cases hg : ZGA (ZGP m t h) j with
  | none => rw [hg] at e1; cases e1
  | some x => rw [hg] at e1; simp at e1; rw [e1]
 ·rw [if_neg e] at e1 ⊢
  cases hg : ZGA (ZGP m t h) j <;> cases hm : ZGA m j <;> rw [hg, hm] at e1 <;> simp_all
theorem ZOG (m : PL) (t h : Int) : (ZGP m t h).length ≤ m.length + 1 := by
 unfold ZGP
 split <;> simp
theorem ZJE {t : Int} : ∀ {m : PL}, ZGA m t = none ↔ t ∉ m.map (·.1)
 | [] => by simp [ZGA]
 | p :: m => by
  have ih := ZJE (t := t) (m := m)
  by_cases e : p.1 = t
  ·simp [ZGA, List.find?_cons, e]
  ·have e' : ¬ t = p.1 := fun z => e z.symm
   have : ZGA (p :: m) t = ZGA m t := by simp [ZGA, List.find?_cons, e]
   rw [this, ih]
   simp [e']
theorem ZRV (m : PL) (t h : Int) : (ZGP m t h).map (·.1) = if t ∈ m.map (·.1) then m.map (·.1) else m.map (·.1) ++ [t] := by
 have ha : (m.any fun kv => decide (kv.1 = t)) = true ↔ t ∈ m.map (·.1) := by simp
 unfold ZGP
 by_cases c : (m.any fun kv => decide (kv.1 = t)) = true
 ·rw [if_pos c, if_pos (ha.mp c), List.map_map]
  refine List.map_congr_left fun p _ => ?_
  simp only [Function.comp]
  split <;> rfl
 ·rw [if_neg c, if_neg (fun z => c (ha.mpr z))]
  simp
theorem ZHy {m : PL} {t h : Int} (n : (m.map (·.1)).Nodup) : ((ZGP m t h).map (·.1)).Nodup := by
 rw [ZRV]
 split
 ·exact n
 ·rename_i c
  rw [List.nodup_append]
  exact ⟨n, by simp, fun a ha b hb e => c (by simp at hb; subst hb; subst e; exact ha)⟩
theorem ZHX {t h : Int} : ∀ {m : PL}, (m.map (·.1)).Nodup → (ZGA m t = some h ↔ (t, h) ∈ m)
 | [], _ => by simp [ZGA]
 | p :: m, n => by
  simp only [List.map_cons, List.nodup_cons] at n
  have ih := ZHX (t := t) (h := h) n.2
  by_cases e : p.1 = t
  ·have : ZGA (p :: m) t = some p.2 := by simp [ZGA, List.find?_cons, e]
   rw [this]
   constructor
   ·intro z; cases z; rw [← e]; exact List.mem_cons_self
   ·intro z
    rcases List.mem_cons.mp z with z | z
    ·rw [← z]
    ·exact absurd (List.mem_map.mpr ⟨_, z, rfl⟩) (by rw [← e] at *; exact n.1)
  ·have : ZGA (p :: m) t = ZGA m t := by simp [ZGA, List.find?_cons, e]
   rw [this, ih]
   constructor
   ·exact fun z => List.mem_cons_of_mem _ z
   ·intro z
    rcases List.mem_cons.mp z with z | z
    ·exact absurd (by rw [← z]) e
    ·exact z
def ZHL (prs : PL) : PL := prs.foldl (fun m p => ZGP m p.1 p.2) []
theorem ZLO : ∀ (prs acc : PL), (acc.map (·.1)).Nodup → ((prs.foldl (fun m p => ZGP m p.1 p.2) acc).map (·.1)).Nodup
 | [], _, h => h
 | p :: prs, acc, h => ZLO prs _ (ZHy h)
theorem ZMC (prs : PL) : ((ZHL prs).map (·.1)).Nodup := ZLO prs [] List.nodup_nil
theorem ZM9 : ∀ (prs acc : PL), (prs.foldl (fun m p => ZGP m p.1 p.2) acc).length ≤ acc.length + prs.length
 | [], acc => Nat.le_refl _
 | p :: prs, acc => by
  have h1 := ZM9 prs (ZGP acc p.1 p.2)
  have h2 := ZOG acc p.1 p.2
  show (prs.foldl (fun m p => ZGP m p.1 p.2) (ZGP acc p.1 p.2)).length ≤ acc.length + (prs.length + 1)
  omega
theorem ZOH (prs : PL) : (ZHL prs).length ≤ prs.length := by
 have := ZM9 prs []
 simpa [ZHL] using this
theorem ZFe.prs {H : Hp} : ∀ {vs : List V} {l : PL}, ZFe H vs l → ZZC H vs (l.map dkE)
 | _, _, .nil => .nil
 | _, _, .cons ⟨a, e, z⟩ t => .cons ⟨a, e, z⟩ (ZFe.prs t)
theorem ZFe.length {H : Hp} {vs : List V} {l : PL} (h : ZFe H vs l) : vs.length = l.length := Paired.length h
theorem ZFe.snoc {H : Hp} : ∀ {vs : List V} {l : PL}, ZFe H vs l → ∀ {a : Addr} {p : Int × Int}, H a = some (.tup [.int p.1, .int p.2]) → ZFe H (vs ++ [.ref a]) (l ++ [p])
 | _, _, .nil, a, p, z => .cons ⟨a, rfl, z⟩ .nil
 | _, _, .cons h t, a, p, z => .cons h (ZFe.snoc t z)
theorem ZFe.at {H : Hp} : ∀ {vs : List V} {l : PL}, ZFe H vs l → ∀ {i : Nat} {v : V}, vs[i]? = some v → ∃ a p, v = .ref a ∧ l[i]? = some p ∧ H a = some (.tup [.int p.1, .int p.2])
 | _, _, .nil, i, v, e => by simp at e
 | _, _, @Paired.cons _ _ _ _ p _ _ ⟨a, e1, z⟩ t, 0, v, e => by
  simp at e; subst e
  exact ⟨a, p, e1, rfl, z⟩
 | _, _, .cons _ t, i + 1, v, e => by
  obtain ⟨a, p, h1, h2, h3⟩ := ZFe.at t (by simpa using e)
  exact ⟨a, p, h1, by simpa using h2, h3⟩
theorem ZFe.kp {p : Addr} {H H' : Hp} (k : Kp p H H') {n : Nat} {xs : List V} (hp : H p = some (.lst xs)) : ∀ {vs : List V} {l : PL}, ZFe H vs l → ZFe H' vs l
 | _, _, .nil => .nil
 | _, _, .cons ⟨a, e, z⟩ t => .cons ⟨a, e, k _ _ z (fun c => by subst c; rw [hp] at z; cases z)⟩ (ZFe.kp k (n := n) hp t)
theorem ZQP {H : Hp} {Q : VK} {p : Addr} {m : PL} (h1 : H p = some (.dK (ZGf m))) (hz : m.length < 64) (h : ∀ l H2 (ns : List Int), H l = none → H2 l = some (.lst (ns.map V.int)) → ns.Perm (m.map (·.1)) → ns.Pairwise (· ≤ ·) → ZFY H H2 → Q (.ref l) H2) : ZOB [.ref p] H Q :=
 ⟨p, _, m.map (·.1), rfl, .inl h1, by simp [ZGf, dkE], by simpa [ZGf] using hz, fun l ns hl hp hs => h l _ ns hl ZFf hp hs (ZFY.new hl)⟩
def Asc (cv : PL) : Prop := cv.Pairwise fun a b => a.1 < b.1
def ZMZ (m cv : PL) : Prop := Asc cv ∧ ∀ t h, (t, h) ∈ cv ↔ ZGA m t = some h
def ZHD (m : PL) (ns : List Int) : PL := ns.map fun t => (t, (ZGA m t).getD 0)
theorem ZMD {m : PL} {ns : List Int} (nd : (m.map (·.1)).Nodup) (hp : ns.Perm (m.map (·.1))) (hs : ns.Pairwise (· ≤ ·)) : ZMZ m (ZHD m ns) := by
 have hn : ns.Nodup := hp.nodup_iff.mpr nd
 refine ⟨?_, fun t h => ?_⟩
 ·unfold Asc ZHD
  rw [List.pairwise_map]
  exact (hs.and hn).imp fun ⟨a, b⟩ => by
   show _ < _
   omega
 ·unfold ZHD
  rw [List.mem_map]
  constructor
  ·rintro ⟨u, hu, e⟩
   have hu' := hp.mem_iff.mp hu
   cases hg : ZGA m u with
   | none => exact absurd hu' (ZJE.mp hg)
   | some x =>
    rw [hg] at e
    cases e
    exact hg
  ·intro hg
   refine ⟨t, hp.mem_iff.mpr ?_, by rw [hg]; rfl⟩
   by_cases c : t ∈ m.map (·.1)
   ·exact c
   ·rw [ZJE.mpr c] at hg; cases hg
theorem ZXn : bootBuiltins "zip" = some (.type "zip") := by decide +kernel
theorem ZXo : bootBuiltins "sum" = some (.builtin "sum") := by decide +kernel
theorem ZLD {prog : Program} {w : World} {A : Around} {E : Value → Shared → Prop} {s : Shared} {t sl : Addr} {items : Array Value} {vl vu : Value} {lo hi : Option Int} {Q : Value → Shared → Prop} (ht : IsTup s.heap t items) (hs : s.heap.IsSliceOf sl vl vu .none) (pl : IsPart vl lo) (pu : IsPart vu hi)
  (hw : HT.sIx items.size 0 lo = 0 ∧ HT.sIx items.size items.size hi = items.size) (h : Q (.ref t) s) : wpAny (model prog w) A (getItem (.ref t) (.ref sl)) Q E s := by
 obtain ⟨os, hos, hcs, hds⟩ := id hs
 have hTs : s.TypeIs (.ref sl) "slice" := ⟨os, hos, hcs⟩
 unfold getItem
 try with_reducible refine wpAny_holding ?_
 first | refine wpAny_bind (wpAny_pure ?_) | skip
 refine wpAny_bind (wpAny_sequenceKey ht.typeIs (by decide) ?_)
 refine wpAny_bind (wpAny_callSpecial?_slot (name := Str.ofString "__getitem__") ht.typeIs PyProof.Rows.slot_tuple_getitem
  (wpAny_call_entry PyProof.Rows.slot_tuple_getitem ht.typeIs entry_tuple_getitem ?_ (args_tuple_getitem _ _)))
 show wpAny _ _ (Builtin.Tuple.tupleItemsOf (.ref t) >>= _) _ _ s
 refine wpAny_bind (tupleItemsOf_ ht ?_)
 refine wpAny_bind (wpAny_typeOf hTs ?_)
 rw [if_pos (by decide)]
 refine wpAny_bind (HT.sliceApplied_gen hs pl pu ?_)
 rw [hw.1, hw.2]
 have hyes : ((((0 : Nat) : Int) == 0 && (1 : Int) == 1 && (items.size - 0) == items.size) = true) := by simp
 show wpAny _ _ (if ((((0 : Nat) : Int) == 0 && (1 : Int) == 1 && (items.size - 0) == items.size) = true) then _ else _) _ _ s
 rw [if_pos hyes]
 unfold Builtin.Tuple.tupleIsExact
 refine wpAny_bind (wpAny_bind (wpAny_typeOf ht.typeIs (wpAny_pure ?_)))
 rw [if_pos (by decide)]
 refine wpAny_bind (wpAny_rule ?_)
 first
  | exact wpAny_pure ⟨_, rfl, wpAny_pure h⟩
  | exact wpAny_bind (wpAny_pure (wpAny_pure ⟨_, rfl, wpAny_pure h⟩))
def ZTS (K : W.Frag) : V → Option Int → Option Int → Hp → VK → Prop := fun x lo hi H Q => ∃ a xs, x = .ref a ∧ SqT K H a xs ∧
 ((HT.sIx xs.length 0 lo = 0 ∧ HT.sIx xs.length xs.length hi = xs.length) → Q (.ref a) H) ∧ (¬ (HT.sIx xs.length 0 lo = 0 ∧ HT.sIx xs.length xs.length hi = xs.length) → ∀ p, H p = none → Q (.ref p) (upd H p (.tup (ZJP xs lo hi))))
theorem ZVg {X : Cx} (K : W.Frag) (hK : X.K = K) : SlR X (ZTS K) := by
 subst hK
 intro pins s σ H x v vl vu lo hi sl Q I rx hs pl pu h
 obtain ⟨a, xs, rfl, hx, q1, q2⟩ := h
 by_cases hw : HT.sIx xs.length 0 lo = 0 ∧ HT.sIx xs.length xs.length hi = xs.length
 ·cases rx
  obtain ⟨its, r, ht, hz⟩ := I.tuple hx
  have hlen : its.toArray.size = xs.length := by rw [List.size_toArray]; exact r.length.symm
  refine ⟨"tuple", _, PyProof.Rows.slot_tuple_getitem.lookup, ht.typeIs, ?_⟩
  exact ZLD ht hs pl pu (by rw [hlen]; exact hw) ⟨.ref a, H, I, rfl, q1 hw⟩
 ·exact ZW1 pins s σ H (.ref a) v vl vu lo hi sl Q I rx hs pl pu ⟨a, xs, rfl, hx, hw, q2 hw⟩
theorem ZRW {xs : List V} {lo hi : Option Int} (h : HT.sIx xs.length 0 lo = 0 ∧ HT.sIx xs.length xs.length hi = xs.length) : ZJP xs lo hi = xs := by
 unfold ZJP
 rw [h.1, h.2]
 simp
section
variable {X : Cx} {pos pos' : Pos} {e : Expr} {te : TE}
theorem ZZE {op : Operator} {r : R2} (ho : OpR X (inplaceOp op) r) : PIp X op r := ho
theorem ZOI {i : Nat} {x : Str} {op : Operator} {r : R2} (hN : X.N.Nodup) (hi : X.N[i]? = some x) (hx : Loc X.env.scope x) (ho : OpR X (inplaceOp op) r) (he : QE X e te) (hf : X.fn x = true ∨ X.env.scope.names.lookup x = some .local := by first | exact .inl rfl | exact .inr rfl | assumption) :
 QS X (.AugAssign (.Name x pos') op e pos) (ZSY i te r) := ⟨ZWo hN hi hx he.h (ZZE ho) hf⟩
theorem ZXp {i : Nat} {r : R2} {D : ZGW} {σ : St} {H : Hp} {x : V} (e1 : σ[i]? = some (some x)) (h : te σ H fun y H1 => r x y H1 fun z H2 => D.nx (σ.set i (some z)) H2) : ZSY i te r D σ H := ⟨x, e1, h⟩
end
def ZUX (Pv : St → Hp → Prop) (μ : St → Hp → Nat) (tb : TS) (D : ZGW) (n : Nat) (σ : St) (H : Hp) : Prop :=
 ∃ N : St → Hp → Prop, (∀ σ' H', N σ' H' → ∃ m', m' < n ∧ m' = μ σ' H' ∧ Pv σ' H') ∧ tb { D with nx := N, ct := N, bk := D.nx } σ H
theorem ZOJ {c : TT} {tb : TS} {D : ZGW} {σ : St} {H : Hp} (Pv : St → Hp → Prop) (μ : St → Hp → Nat) (h0 : Pv σ H)
  (hs : ∀ σ H, Pv σ H → c σ H fun b H1 => if b = true then ZUX Pv μ tb D (μ σ H) σ H1 else D.nx σ H1) : ZNn c tb D σ H := by
 refine ⟨fun m σ H => m = μ σ H ∧ Pv σ H, ⟨_, rfl, h0⟩, ?_⟩
 rintro m σ H ⟨rfl, p⟩
 exact hs σ H p
theorem ZPh {Pv : St → Hp → Prop} {μ : St → Hp → Nat} {tb : TS} {D : ZGW} {n : Nat} {σ : St} {H : Hp} (h : tb { D with nx := fun σ' H' => Pv σ' H' ∧ μ σ' H' < n, ct := fun σ' H' => Pv σ' H' ∧ μ σ' H' < n, bk := D.nx } σ H) : ZUX Pv μ tb D n σ H :=
 ⟨_, fun σ' H' ⟨p, l⟩ => ⟨_, l, rfl, p⟩, h⟩
theorem ZFY.kpN {H H1 H2 : Hp} {l : Addr} (s : ZFY H H1) (hl : H l = none) (k : Kp l H1 H2) : ZFY H H2 := fun q o e => k q o (s q o e) (ZF2 e hl)
theorem ZFe.kpL {p : Addr} {H H' : Hp} (k : Kp p H H') {xs : List V} (hp : H p = some (.lst xs)) {vs : List V} {l : PL} (h : ZFe H vs l) : ZFe H' vs l := ZFe.kp k (n := 0) hp h
theorem ZFe.app {H : Hp} : ∀ {vs : List V} {l : PL}, ZFe H vs l → ∀ {ws : List V} {m : PL}, ZFe H ws m → ZFe H (vs ++ ws) (l ++ m)
 | _, _, .nil, _, _, h => h
 | _, _, .cons h t, _, _, g => .cons h (ZFe.app t g)
theorem ZFe.drop {H : Hp} : ∀ {vs : List V} {l : PL} (n : Nat), ZFe H vs l → ZFe H (vs.drop n) (l.drop n)
 | _, _, 0, h => h
 | _, _, _ + 1, .nil => .nil
 | _, _, n + 1, .cons _ t => ZFe.drop n t
theorem ZFe.take {H : Hp} : ∀ {vs : List V} {l : PL} (n : Nat), ZFe H vs l → ZFe H (vs.take n) (l.take n)
 | _, _, 0, _ => .nil
 | _, _, _ + 1, .nil => .nil
 | _, _, n + 1, .cons h t => .cons h (ZFe.take n t)
section
variable {K : W.Frag} {H H' : Hp} {Q : VK} {a b : Addr} {xs ys : List V} {cv l m : PL}
theorem ZXq {lo hi : Option Int} (h1 : H a = some (.tup xs)) (h : ∀ p H2, H2 p = some (.tup (ZJP xs lo hi)) → ZFY H H2 → Q (.ref p) H2) : ZTS K (.ref a) lo hi H Q :=
 ⟨a, xs, rfl, SqT.of h1, fun e => h a H (by rw [ZRW e]; exact h1) (ZFY.refl H), fun _ p hp => h p _ ZFf (ZFY.new hp)⟩
def PrT (H : Hp) (a : Addr) (cv : PL) : Prop := ∃ vs, H a = some (.tup vs) ∧ ZFe H vs cv
def PrL (H : Hp) (a : Addr) (cv : PL) : Prop := ∃ vs, H a = some (.lst vs) ∧ ZFe H vs cv
theorem PrT.same (h : PrT H a cv) (s : ZFY H H') : PrT H' a cv := by
 obtain ⟨vs, h1, h2⟩ := h
 exact ⟨vs, s _ _ h1, h2.same s⟩
def ZOK (l : PL) (lo hi : Option Int) : PL := (l.drop (HT.sIx l.length 0 lo)).take (HT.sIx l.length l.length hi - HT.sIx l.length 0 lo)
theorem ZFe.cut {vs : List V} {lo hi : Option Int} (h : ZFe H vs l) : ZFe H (ZJP vs lo hi) (ZOK l lo hi) := by
 unfold ZJP ZOK
 rw [h.length]
 exact (h.drop _).take _
theorem PrT.sl {lo hi : Option Int} (h1 : PrT H a l) (h : ∀ p H2, PrT H2 p (ZOK l lo hi) → ZFY H H2 → Q (.ref p) H2) : ZTS K (.ref a) lo hi H Q := by
 obtain ⟨vs, g1, p1⟩ := h1
 exact ZXq g1 fun p H2 f2 S2 => h p H2 ⟨_, f2, (p1.cut).same S2⟩ S2
end
section
variable {X : Cx}
theorem ZRX {N : List Str} {sc : Scope} {own caps : List Str} {ks : List Nat} {elt tg iter : Expr} {ifs : List Expr} {scope : Scope} {pos cpos : Pos} {wi : TI} {g : TG} {tt : TT} {te : TE}
  (hN : X.N = N) (hsc : X.env.scope = sc) (hc : X.calm = true) (S : ZKP N sc own caps ks scope) (hi : PI X tg iter wi)
  (hg : ∀ cl C s₂ H₂ fp, PG (ZFx X (own ++ caps) scope cl C s₂ H₂ fp) tg g)
  (ht : ∀ cl C s₂ H₂ fp, ZMU (ZFx X (own ++ caps) scope cl C s₂ H₂ fp) ifs tt)
  (he : ∀ cl C s₂ H₂ fp, PE (ZFx X (own ++ caps) scope cl C s₂ H₂ fp) elt te)
  (hs : ∀ x, foldedSetIterable iter X.env x = pure x) {use : Option (Value → Sem Unit)} {QQ : Value → Shared → Prop} {pins : List (Addr × Obj)} {s : Shared} {σ : St} {H : Hp} {Q : VK} (I : Inv X pins σ H s)
  (fin : ∀ (C l : Addr) (H' : Hp) (s' : Shared), (∃ m, s'.heap.Ns C m) → Inv X pins σ H' s' → ZGz X pins H' C → Q (.ref l) H' → compPost (model X.prog X.w) X.A X.xe use QQ (.ref l) C (.ok .next) s')
  (h : ZK1 own.length ks wi g tt te σ H Q) :
  wpAny (model X.prog X.w) X.A (comprehension (.ListComp elt [⟨tg, iter, ifs, 0⟩] scope pos) scope X.env cpos (newList []) false (eval iter X.env) use) QQ X.xe s := by
 subst hN hsc
 obtain ⟨cl, hclos, hcl, hclf⟩ := ZL8 (scope := scope) (env := X.env) fun y hy hf => I.ok.has y.1 (.inl (S.free y hy hf))
 refine wpAny_comprehension_free (use := use) rfl hs hclos S.kind S.names (wpAny_mono (hi pins s σ H _ I h) (fun xv s₁ h₁ => wpAny_mono h₁ (fun it s₂ h₂ => ?_) fun _ _ e => e) fun _ _ e => e)
 obtain ⟨it, fp, tn, J, H2, e, I2, T, st2, f2, q⟩ := h₂
 subst e
 refine wpAny_newObj_type (wpAny_newFunctionEnv S.nocell (by intro y hy; simp at hy) (fun h₁ hns₁ hsb₁ => ?_) S.kind)
 dsimp only at hns₁ hsb₁ ⊢
 generalize hH2 : s₂.heap.push { cls := .type "list", dict := none, data := .seq ([] : List Value).toArray } = HP at hns₁ hsb₁ ⊢
 have hC : HP.objs.size = s₂.heap.objs.size + 1 := by rw [← hH2, Heap.size_push]
 have hDC : s₂.heap.objs.size ≠ HP.objs.size := by rw [hC]; exact Nat.ne_of_lt (Nat.lt_succ_self _)
 have hCle : s₂.heap.objs.size ≤ HP.objs.size := by rw [hC]; exact Nat.le_succ _
 have old : ∀ b o, s₂.heap.get? b = some o → h₁.get? b = some o := fun b o e => by
  have hb : b < s₂.heap.objs.size := Heap.lt_size e
  exact hsb₁.extBut b o (by rw [hC]; exact Nat.ne_of_lt (Nat.lt_succ_of_lt hb)) (Heap.get?_push_of_some _ (hH2 ▸ Heap.get?_push_of_some _ e))
 have hacc : h₁.get? s₂.heap.objs.size = some { cls := .type "list", dict := none, data := .seq ([] : List Value).toArray } := hsb₁.extBut _ _ hDC (Heap.get?_push_of_some _ (hH2 ▸ Heap.get?_push_size _ rfl))
 have fpl : ∀ b ∈ fp, b < s₂.heap.objs.size := fun b hb => by
  obtain ⟨o, e, _⟩ := T.obj _ _ st2 b hb
  exact Heap.lt_size e
 have hfD : H2 s₂.heap.objs.size = none := I2.hok.fresh (Nat.le_refl _)
 obtain ⟨W, ⟨m0, w0⟩, turn⟩ := q s₂.heap.objs.size hfD
 have hkr : ∀ x, (compEnvC scope cl HP.objs.size X.env).kindOf x = (scope.names.lookup x).map fun k => if (k == NameKind.free && X.env.scope.kind == .function && X.env.kindOf x == some .cell) then NameKind.cell else k := fun x => ZIB (env := X.env) scope.names x
 have cellOfN : ∀ x, scope.names.lookup x = some .free → X.env.kindOf x = some .cell := fun x e => S.free (x, .free) (PySem.mem_of_lookup e) rfl
 -- the context within
 have ok : (ZFx X (own ++ caps) scope cl HP.objs.size s₂ H2 fp).Ok := by
  refine ⟨I2.ok.mod, S.kind, I2.ok.glob, I2.ok.blt, hCle, fun x y c e1 e2 => I2.ok.inj x y c (hcl x c e1) (hcl y c e2), fun x hx => ?_, fun x c z => (by cases z), I2.ok.hd, I2.ok.frames, .inl rfl, fun b hb => ⟨?_, fun x c e => (f2 b hb).2.2.2.2.1 x c (hcl x c e)⟩,
   I2.bs, Nat.le_trans I2.ok.bsz I2.sz, fun b o e hb => ?_, fun b hb z => ?_, I2.stack, I2.stkFree⟩
  ·have hx' : (scope.names.lookup x).map (fun k => if (k == NameKind.free && X.env.scope.kind == .function && X.env.kindOf x == some .cell) then NameKind.cell else k) = some .cell ∨
     (scope.names.lookup x).map (fun k => if (k == NameKind.free && X.env.scope.kind == .function && X.env.kindOf x == some .cell) then NameKind.cell else k) = some .free := by rw [← hkr x]; exact hx
   cases e : scope.names.lookup x with
   | none => rw [e] at hx'; rcases hx' with z | z <;> cases z
   | some k =>
    have hm := PySem.mem_of_lookup e
    have hk : k = .free := by
     by_cases hkf : k = .free
     ·exact hkf
     ·have hb : (k == NameKind.free) = false := by simpa using hkf
      rw [e] at hx'
      simp only [Option.map_some, hb, Bool.false_and, Bool.false_eq_true, if_false, Option.some.injEq] at hx'
      rcases hx' with z | z
      ·exact absurd z (S.nocell _ hm)
      ·exact z
    exact hclf _ hm hk
  ·exact Nat.ne_of_lt (Nat.lt_of_lt_of_le (fpl b hb) hCle)
  ·rcases (f2 b hb).2.2.2.1 with z | z
   ·exact I2.ok.noex b o e z
   ·exact absurd (Nat.lt_of_lt_of_le (Heap.lt_size e) (Nat.le_trans I2.ok.bsz z)) (Nat.lt_irrefl _)
  ·rcases List.mem_cons.mp (I2.stkSub b z) with r | r
   ·exact (f2 b hb).2.1 r
   ·exact (f2 b hb).2.2.1 r
 have hlen : (ZHh own.length ks σ).length = (own ++ caps).length := by
  have := congrArg List.length S.cap
  simp only [List.length_map] at this
  simp [ZHh, this]
 have I4 : Inv (ZFx X (own ++ caps) scope cl HP.objs.size s₂ H2 fp) [] (ZHh own.length ks σ) (upd H2 s₂.heap.objs.size (.lst [])) { s₂ with heap := h₁, toks := s₂.toks + ([] : List (Str × Value)).length } := by
  obtain ⟨mX, hnX, hlX⟩ := I2.loc
  refine ⟨ok, rfl, I2.bare, Un.laid old (Nat.le_refl _) hfD, ⟨_, hns₁, fun i x v e1 e2 e3 => ?_⟩, fun x c e => ?_, ?_, fun x c e => ?_, fun p hp => (by cases hp), I2.hok.laid old (Nat.le_refl _) ⟨Nat.zero_le _, [], 0, .nil, hacc⟩, hlen⟩
  ·have e1 : (own ++ caps)[i]? = some x := e1
   by_cases hio : i < own.length
   ·unfold ZHh at e2
    rw [List.getElem?_append_left (by simpa using hio), List.getElem?_replicate] at e2
    rw [if_pos hio] at e2
    cases e2
   ·unfold ZHh at e2
    rw [List.getElem?_append_right (by simpa using hio), List.length_replicate, List.getElem?_map] at e2
    rw [List.getElem?_append_right (by simpa using hio)] at e1
    cases ek : ks[i - own.length]? with
    | none => rw [ek] at e2; cases e2
    | some k =>
     rw [ek] at e2
     have e2' := ZM4 (Option.some.inj e2)
     have hcap := congrArg (fun l => l[i - own.length]?) S.cap
     simp only [List.getElem?_map, ek, e1, Option.map_some] at hcap
     have hNk : X.N[k]? = some x := Option.some.inj hcap
     have hfx := S.fr x (List.mem_of_getElem? e1)
     have hkX := cellOfN x hfx
     obtain ⟨u, ru, lk⟩ := hlX k x v hNk e2' (.inr (.inl hkX))
     refine ⟨u, ru, .inr ⟨.inl ?_, ?_⟩⟩
     ·show (compEnvC scope cl HP.objs.size X.env).kindOf x = some .cell
      rw [hkr x, hfx]
      simp [I2.ok.kind, hkX]
     ·rcases lk with ⟨z, _⟩ | ⟨_, c, ec, o, ho, hd⟩
      ·rw [hkX] at z; cases z
      ·obtain ⟨c', ec'⟩ := hclf (x, .free) (PySem.mem_of_lookup hfx) rfl
       have := hcl _ _ ec'
       rw [ec] at this
       cases this
       exact ⟨c, ec', o, old _ _ ho, hd⟩
  ·obtain ⟨v, o, ho, hd⟩ := I2.cell x c (hcl x c e)
   exact ⟨v, o, old _ _ ho, hd⟩
  ·show upd H2 s₂.heap.objs.size (.lst []) HP.objs.size = none
   rw [ZFg (Ne.symm hDC)]
   exact I2.hok.fresh hCle
  ·obtain ⟨v, o, ho, hd⟩ := I2.cell x c (hcl x c e)
   show upd H2 s₂.heap.objs.size (.lst []) c = none
   rw [ZFg (Nat.ne_of_lt (Heap.lt_size ho))]
   exact I2.freeC x c (hcl x c e)
 -- the way out
 have out : ∀ {σ' : St} {H' : Hp} {s' : Shared}, Inv (ZFx X (own ++ caps) scope cl HP.objs.size s₂ H2 fp) [] σ' H' s' → Q (.ref s₂.heap.objs.size) H' →
   compPost (model X.prog X.w) X.A X.xe use QQ (.ref s₂.heap.objs.size) HP.objs.size (.ok .next) s' := fun {σ' H' s'} I' q' => by
  obtain ⟨m, hn, _⟩ := I'.loc
  refine fin HP.objs.size s₂.heap.objs.size H' s' ⟨m, hn⟩ ?_ (I2.fpOk hCle I'.free) q'
  have hs' : Heap.SameBut HP.objs.size s'.heap s'.heap := Heap.SameBut.refl ..
  have hfree : H' HP.objs.size = none := I'.free
  have neC : ∀ {b : Addr} {o : Obj}, s₂.heap.get? b = some o → b ≠ HP.objs.size := fun e => Nat.ne_of_lt (Nat.lt_of_lt_of_le (Heap.lt_size e) hCle)
  refine I2.call' (ch := fp) (s' := s') I'.os ⟨fun b o e n hb hx => ?_, fun b o e n hb hx => ?_, I'.base.free, fun b o e hx => ?_, I'.base.tups, I'.base.frzs, I'.base.tbls⟩ (fun b ob e => ?_) I'.bare fun b hb => ⟨(f2 b hb).2.2.2.1, (f2 b hb).2.1, (f2 b hb).2.2.2.2.1, (f2 b hb).2.2.2.2.2⟩
  ·exact (I'.base.keep b o e n hb hx)
  ·obtain ⟨sl, e1⟩ := I'.base.slot b o e n hb hx
   exact ⟨sl, e1⟩
  ·obtain ⟨o', e1⟩ := I'.base.there b o e hx
   exact ⟨o', e1⟩
  ·exact I'.hok b ob e
 have stat : ∀ {H' : Hp}, (∀ b ∈ fp, H' b = none) → ∀ b ∈ fp, ZGz (ZFx X (own ++ caps) scope cl HP.objs.size s₂ H2 fp) [] H' b := fun hn b hb =>
  ⟨hn b hb, Nat.ne_of_lt (Nat.lt_of_lt_of_le (fpl b hb) hCle), ok.exfs b hb, .inl hb, (ok.exf b hb).2, fun p hp => by cases hp⟩
 have fr4 : ∀ b ∈ fp, upd H2 s₂.heap.objs.size (.lst []) b = none := fun b hb => by
  rw [ZFg (Nat.ne_of_lt (fpl b hb))]
  exact (f2 b hb).1
 have tn4 : tn 0 h₁ := T.keep _ _ _ st2 fun b _ o e => old b o e
 have loop : ∀ s4 : Shared, s4 = { s₂ with heap := h₁, toks := s₂.toks + ([] : List (Str × Value)).length } →
   codeAny (model X.prog X.w) X.A (.compLoop (.ListComp elt [⟨tg, iter, ifs, 0⟩] scope pos) 0 (.ref it) (.ref s₂.heap.objs.size) (compEnvC scope cl HP.objs.size X.env))
    (compPost (model X.prog X.w) X.A X.xe use QQ (.ref s₂.heap.objs.size) HP.objs.size) s4 := by
  rintro s4 rfl
  refine ZHu (fun n s' => ∃ i σ' H', Inv (ZFx X (own ++ caps) scope cl HP.objs.size s₂ H2 fp) [] σ' H' s' ∧ tn i s'.heap ∧ (∀ b ∈ fp, H' b = none) ∧ W i n σ' H') ?_ m0 ⟨0, _, _, I4, tn4, fr4, w0⟩
  rintro n s3 ⟨i, σ3, H3, I3, st3, fr3, w3⟩
  rcases turn i n σ3 H3 w3 with ⟨stop, qn⟩ | ⟨go, N, hN, step⟩
  ·refine wpAny_mono (T.done (ZFx X (own ++ caps) scope cl HP.objs.size s₂ H2 fp) rfl rfl rfl hc i [] s3 σ3 H3 (fun _ _ => False) I3 (stat fr3) st3 stop) (fun r s4 ⟨hr, I4'⟩ => ?_) fun _ _ z => False.elim z
   subst hr
   exact out I4' qn
  ·refine wpAny_mono (T.item (ZFx X (own ++ caps) scope cl HP.objs.size s₂ H2 fp) rfl rfl rfl hc i [] s3 σ3 H3 (fun _ _ => False) I3 (stat fr3) st3 go) (fun r s4 ⟨u, hr, h4⟩ => ?_) fun _ _ z => False.elim z
   subst hr
   refine wpAny_mono h4 (fun _ s5 ⟨x, H5, I5, r5, y5, st5, fr5⟩ => ?_) fun _ _ z => False.elim z
   have I5' := I5.pinned (stat fr5) (T.obj _ _ st5)
   have back : ∀ {s7 : Shared} {σ7 : St} {H7 : Hp}, Inv (ZFx X (own ++ caps) scope cl HP.objs.size s₂ H2 fp) ([] ++ ZJc fp s5.heap) σ7 H7 s7 → N σ7 H7 →
     ∃ m, m < n ∧ ∃ i σ' H', Inv (ZFx X (own ++ caps) scope cl HP.objs.size s₂ H2 fp) [] σ' H' s7 ∧ tn i s7.heap ∧ (∀ b ∈ fp, H' b = none) ∧ W i m σ' H' := fun {s7 σ7 H7} I7 n7 => by
    obtain ⟨m', hm, w7⟩ := hN σ7 H7 n7
    refine ⟨m', hm, i + 1, σ7, H7, I7.unpinned, T.keep _ _ _ st5 fun b hb o e => (I7.pin (b, o) (List.mem_append_right _ (List.mem_append_right _ (ZHb hb e)))).1, fun b hb => ?_, w7⟩
    obtain ⟨o, e, d⟩ := T.obj _ _ st5 b hb
    exact (I7.pin (b, o) (List.mem_append_right _ (List.mem_append_right _ (ZHb hb e)))).2.1
   refine wpAny_mono (hg _ _ _ _ _ _ s5 σ3 H5 x u _ I5' r5 (step x H5 y5)) (fun _ s6 ⟨σ6, H6, I6, q6⟩ => ?_) fun _ _ z => False.elim z
   refine wpAny_mono (ht _ _ _ _ _ _ s6 σ6 H6 _ I6 q6) (fun b s7 ⟨H7, I7, q7⟩ => ?_) fun _ _ z => False.elim z
   cases b with
   | false =>
    rw [if_neg Bool.false_ne_true]
    rw [if_neg Bool.false_ne_true] at q7
    exact back I7 q7
   | true =>
    rw [if_pos rfl]
    rw [if_pos rfl] at q7
    refine wpAny_mono (he _ _ _ _ _ _ s7 σ6 H7 _ I7 q7) (fun y s8 ⟨v, H8, I8, r8, xs, hx8, hz8, n8⟩ => ?_) fun _ _ z => False.elim z
    refine wpAny_mono (ZG2 (X := ZFx X (own ++ caps) scope cl HP.objs.size s₂ H2 fp) _ s8 σ6 H8 (.ref s₂.heap.objs.size) [v] (.ref s₂.heap.objs.size) [y] (fun _ H' => N σ6 H') I8 rfl (.cons r8 .nil) ⟨_, xs, v, rfl, rfl, hx8, hz8, n8⟩) (fun _ s9 ⟨_, H9, I9, _, n9⟩ => ?_) fun _ _ z => False.elim z
    exact back I9 n9
 exact codeAny_compStart_list (loop _ rfl) (T.self _ 0 _ _ _ tn4 (loop _ rfl))
theorem ZVh {N : List Str} {sc : Scope} {own caps : List Str} {ks : List Nat} {elt tg iter : Expr} {ifs : List Expr} {scope : Scope} {pos spos pos' : Pos} {wi : TI} {g : TG} {tt : TT} {te : TE} {i : Nat} {x : Str}
  (hN : X.N = N) (hsc : X.env.scope = sc) (hc : X.calm = true) (S : ZKP N sc own caps ks scope) (hi : PI X tg iter wi)
  (hg : ∀ cl C s₂ H₂ fp, PG (ZFx X (own ++ caps) scope cl C s₂ H₂ fp) tg g)
  (ht : ∀ cl C s₂ H₂ fp, ZMU (ZFx X (own ++ caps) scope cl C s₂ H₂ fp) ifs tt)
  (he : ∀ cl C s₂ H₂ fp, PE (ZFx X (own ++ caps) scope cl C s₂ H₂ fp) elt te)
  (hNd : X.N.Nodup) (hix : X.N[i]? = some x) (hx : Loc X.env.scope x)
  (hsw : swapsWith (.ListComp elt [⟨tg, iter, ifs, 0⟩] scope pos) (some (.Name x pos')) spos.line X.env = pure true)
  (hs : ∀ x, foldedSetIterable iter X.env x = pure x := by intro _; rfl)
  (hf : X.fn x = true ∨ X.env.scope.names.lookup x = some .local := by first | exact .inl rfl | exact .inr rfl | assumption) :
  PS X (.Assign [.Name x pos'] (.ListComp elt [⟨tg, iter, ifs, 0⟩] scope pos) spos) (ZJs (ZK1 own.length ks wi g tt te) (ZIK i)) := by
 intro pins s σ H D I h
 rw [exec_Assign_Name_used _ _ _ _ hsw]
 refine wpAny_bind (wpAny_standAt (wpAny_bind ?_))
 show wpAny _ X.A (do let _ ← comprehension (.ListComp elt [⟨tg, iter, ifs, 0⟩] scope pos) scope X.env _ (newList []) false (eval iter X.env) (some (assign (.Name x pos') X.env))) _ _ s
 refine wpAny_bind (wpAny_mono (ZRX (QQ := fun _ s' => SP X pins D .next s') hN hsc hc S hi hg ht he hs I ?_ h) (fun _ s' hq => wpAny_pure (wpAny_pure hq)) fun _ _ e => e)
 rintro C l H' s' ⟨m, hn⟩ I' hF q
 show wpAny (model X.prog X.w) X.A (assign (.Name x pos') X.env (.ref l)) (fun _ s'' => ∃ m, s''.heap.Ns C m ∧ ∀ h', Heap.SameBut C s''.heap h' → SP X pins D .next { s'' with heap := h' }) X.xe s'
 obtain ⟨f0, f1, f2, f3, f4, f5⟩ := hF
 refine wpAny_assign_Name (ZMw (v := .ref l) I' hNd hix hx rfl (fun s'' I'' ⟨b, hsb, hb⟩ => ?_) hf)
 have hCb : C ≠ b := by
  rcases hb with rfl | hb
  ·exact f1
  ·exact fun z => f4 x b hb z.symm
 refine ⟨m, hn.sameBut hsb hCb, fun h' hs' => ⟨_, H', I''.turned (t' := s''.toks) (fun c o hc e => hs'.extBut c o hc e) f0 f1 f3 f4 f5, q⟩⟩
theorem ZPi {N : List Str} {sc : Scope} {own caps : List Str} {ks : List Nat} {elt tg iter : Expr} {ifs : List Expr} {scope : Scope} {pos spos pos' : Pos} {wi : TI} {g : TG} {tt : TT} {te : TE} {i : Nat} {x : Str}
  (hN : X.N = N) (hsc : X.env.scope = sc) (hc : X.calm = true) (S : ZKP N sc own caps ks scope) (hNd : X.N.Nodup) (hix : X.N[i]? = some x) (hx : Loc X.env.scope x)
  (hi : QI X tg iter wi)
  (hg : ∀ cl C s₂ H₂ fp, QG (ZFx X (own ++ caps) scope cl C s₂ H₂ fp) tg g)
  (ht : ∀ cl C s₂ H₂ fp, QF (ZFx X (own ++ caps) scope cl C s₂ H₂ fp) ifs tt)
  (he : ∀ cl C s₂ H₂ fp, QE (ZFx X (own ++ caps) scope cl C s₂ H₂ fp) elt te)
  (hsw : swapsWith (.ListComp elt [⟨tg, iter, ifs, 0⟩] scope pos) (some (.Name x pos')) spos.line X.env = pure true := by rfl)
  (hs : ∀ x, foldedSetIterable iter X.env x = pure x := by intro _; rfl)
  (hf : X.fn x = true ∨ X.env.scope.names.lookup x = some .local := by first | exact .inl rfl | exact .inr rfl | assumption) :
  QS X (.Assign [.Name x pos'] (.ListComp elt [⟨tg, iter, ifs, 0⟩] scope pos) spos) (ZJs (ZK1 own.length ks wi g tt te) (ZIK i)) :=
 ⟨ZVh hN hsc hc S hi.h (fun cl C s₂ H₂ fp => (hg cl C s₂ H₂ fp).h) (fun cl C s₂ H₂ fp => (ht cl C s₂ H₂ fp).h) (fun cl C s₂ H₂ fp => (he cl C s₂ H₂ fp).h) hNd hix hx hsw hs hf⟩
end
section
variable {K : W.Frag} {H H' : Hp} {a p l : Addr} {cv : PL} {xs : List V}
theorem PrT.kpL (h : PrT H a cv) (k : Kp l H H') (hl : H l = some (.lst xs)) : PrT H' a cv := by
 obtain ⟨vs, h1, h2⟩ := h
 exact ⟨vs, k _ _ h1 (fun e => by subst e; rw [h1] at hl; cases hl), h2.kpL k hl⟩
end
def Itd (lo : Int) (n : Nat) : It := ⟨fun i _ => i < n, fun i H x H' => H' = H ∧ x = .int (lo + i * (-1)), fun i _ => n ≤ i⟩
theorem ZRY {P : Program} {w : World} {K : W.Frag} {tg : Expr} (it : Addr) (lo : Int) (n : Nat) : ZKM P w K tg (Itd lo n) [it] it (fun i h => IsRangeIter h it (lo + (i : Nat) * (-1)) ((n : Int) - (i : Nat)) (-1)) where
 mem := by simp
 obj := fun i h st b hb => by
  have e : b = it := by simpa using hb
  subst e
  exact ⟨_, st, fun v z => by
   have z' : Data.fields _ = Data.cell v := z
   cases z'⟩
 keep := fun i h h' st k => k it (by simp) _ st
 item := by
  intro X hP hw hK hc i pins s σ H E I hf st hg
  subst hP hw hK
  obtain ⟨f0, f1, f2, f3, f4, f5⟩ := hf it (by simp)
  have W := Walks.range (prog := X.prog) (w := X.w) (I.ok.hd hc) it lo (-1) n
  refine W.item i s _ _ hg st fun v h' tk hv st' kk => ?_
  obtain ⟨t, rfl⟩ := hv
  have I1 : Inv X pins σ H { s with heap := h', toks := tk } := I.turned (fun b o hb e => kk b o (by simpa using hb) e) f0 f1 f3 f4 f5
  exact ⟨_, rfl, ZKy (s := { s with heap := h', toks := tk }) (n := "range_iterator") st' rfl rfl (by decide) ⟨.int (lo + i * (-1)), H, I1, ⟨t, rfl⟩, ⟨rfl, rfl⟩, st', fun b hb => (hf b hb).1⟩⟩
 done := by
  intro X hP hw hK hc i pins s σ H E I hf st hg
  subst hP hw hK
  obtain ⟨f0, f1, f2, f3, f4, f5⟩ := hf it (by simp)
  exact wpAny_pyNext_range_end (I.ok.hd hc) st (by have : n ≤ i := hg; omega) fun h' eb => ⟨rfl, I.turned (t' := s.toks) (fun b o hb e => eb b o hb e) f0 f1 f3 f4 f5⟩
 self := fun _ _ _ _ _ st h => wpAny_pyIter_rangeiter st h
section
variable {X : Cx} {tg : Expr}
theorem ZRZ {pins : List (Addr × Obj)} {σ : St} {H : Hp} {s : Shared} {R : It → Hp → Prop} {E : Value → Shared → Prop} {lo hi : Int} {t u v : Tok} {tk : Nat} (I : Inv X pins σ H s) (h1 : -(2 ^ 62) ≤ lo) (h2 : lo < 2 ^ 62) (h3 : -(2 ^ 62) ≤ hi) (h4 : hi < 2 ^ 62)
  (q : R (Itd lo (lo - hi).toNat) H) : wpAny (model X.prog X.w) X.A (pyIter (.ref s.heap.objs.size)) (PIE X pins σ tg R) E { s with heap := s.heap.push { cls := .type "range", data := .fields #[.int lo t, .int hi u, .int (-1) v] }, toks := tk } := by
 refine wpAny_pyIter_range (IsRange.new ..) (PySem.W.small_down h1 h2 h3 h4) ?_
 have I1 : Inv X pins σ H { s with heap := s.heap.push { cls := .type "range", data := .fields #[.int lo t, .int hi u, .int (-1) v] }, toks := tk } := I.kept fun b o e => Heap.get?_push_of_some _ e
 refine ⟨(s.heap.push { cls := .type "range", data := .fields #[.int lo t, .int hi u, .int (-1) v] }).objs.size, [(s.heap.push { cls := .type "range", data := .fields #[.int lo t, .int hi u, .int (-1) v] }).objs.size], _, _, H, rfl,
  I1.kept (t' := tk) fun b o e => Heap.get?_push_of_some _ e, ZRY _ lo (lo - hi).toNat, ?_, fun b hb => ?_, q⟩
 ·have e1 : lo + ((0 : Nat) : Int) * (-1) = lo := by simp
  have e2 : (((lo - hi).toNat : Nat) : Int) - ((0 : Nat) : Int) = Builtin.Range.rangeSize lo hi (-1) := by rw [PySem.W.rangeSize_downNat]; simp
  show IsRangeIter _ _ (lo + ((0 : Nat) : Int) * (-1)) ((((lo - hi).toNat : Nat) : Int) - ((0 : Nat) : Int)) (-1)
  rw [e1, e2]
  exact Heap.get?_push_size _ rfl
 ·have e : b = (s.heap.push { cls := .type "range", data := .fields #[.int lo t, .int hi u, .int (-1) v] }).objs.size := by simpa using hb
  subst e
  exact I1.fpOk (Nat.le_refl _) (I1.hok.fresh (Nat.le_refl _))
def ZQQ (vs : List V) (H : Hp) (R : It → Hp → Prop) : Prop := ∃ i j : Int, vs = [.int i, .int j, .int (-1)] ∧ (-(2 ^ 62) ≤ i ∧ i < 2 ^ 62 ∧ -(2 ^ 62) ≤ j ∧ j < 2 ^ 62) ∧ R (Itd i (i - j).toNat) H
def ZUY (ta : TA) : TI := fun σ H R => ta σ H fun vs H1 => ZQQ vs H1 R
theorem ZRa {a b c : Expr} {t : TA} {p pos : Pos} (hg : Gl X "range") (hm : X.mg "range" = none) (ha : QA X [a, b, c] t) (hs : ZG3 a = false := by rfl) (hs2 : ZG3 b = false := by rfl) (hs3 : ZG3 c = false := by rfl) :
  QI X tg (.Call (.Name "range" p) [a, b, c] [] pos) (ZUY t) := by
 refine ⟨?_⟩
 intro pins s σ H R I h
 refine Call_ (ZIR I hg hm boot_range (PyProof.Rows.callWith_type1 (thn (ha.h pos pins s σ H _ I h) fun us s1 ⟨vs, H1, I1, r1, q1⟩ => ?_) (by rw [ZGd hs, ZGd hs2]) (by rw [ZGd hs2, ZGd hs3]; rfl)))
 obtain ⟨i, j, e, ⟨q1, q2, q3, q4⟩, q⟩ := q1
 subst e
 cases r1 with
 | cons r rr =>
  cases rr with
  | cons r' rr =>
   cases rr with
   | cons r'' rr =>
    cases rr
    obtain ⟨t, rfl⟩ := r
    obtain ⟨t', rfl⟩ := r'
    obtain ⟨t'', rfl⟩ := r''
    exact call_range_3 (by decide) (ZRZ I1 q1 q2 q3 q4 q) (.inl (PyProof.noPylong_small (by decide)))
end
section
variable {σ : St} {H : Hp}
theorem ZVi {ta : TA} {R : It → Hp → Prop} (h : ta σ H fun vs H1 => ZQQ vs H1 R) : ZUY ta σ H R := h
theorem ZTT {i j : Int} {R : It → Hp → Prop} (h1 : -(2 ^ 62) ≤ i) (h2 : i < 2 ^ 62) (h3 : -(2 ^ 62) ≤ j) (h4 : j < 2 ^ 62) (h : R (Itd i (i - j).toNat) H) : ZQQ [.int i, .int j, .int (-1)] H R := ⟨i, j, rfl, ⟨h1, h2, h3, h4⟩, h⟩
end
theorem ZPj : ∀ {ys : List Str} {vs : List Value}, ZFj (ys.map V.str) vs → StrsAre vs ys
 | [], _, .nil => .nil
 | _ :: _, _, .cons ⟨t, e⟩ h => by subst e; exact .cons _ t (ZPj h)
def ZUZ (K : W.Frag) : V → List V → Hp → VK → Prop := fun x vs H Q => ∃ (sep : Str) (p : Addr) (ys : List Str), x = .str sep ∧ vs = [.ref p] ∧ SqL K H p (ys.map V.str) ∧ (ys.map (·.length)).sum + ys.length * sep.length ≤ 16777216 ∧ Q (.str (Txt.join sep ys)) H
theorem ZPk {X : Cx} (K : W.Frag) (hK : X.K = K) : MtR X "str.join" (ZUZ K) := by
 subst hK
 intro pins s σ H x vs v us Q I rx rv h
 obtain ⟨sep, p, ys, rfl, rfl, hS, hz, q⟩ := h
 obtain ⟨t, rfl⟩ := rx
 obtain ⟨u, rfl, ru⟩ := rv.one
 cases ru
 obtain ⟨its, r, ht, _⟩ := I.list hS
 refine join_list (items := its.toArray) ht.isList (by simpa using ZPj r) hz fun t' k => ?_
 exact ⟨.str _, H, I.tok _, ⟨t', rfl⟩, q⟩
theorem ZPl {K : W.Frag} {H : Hp} {Q : VK} {sep : Str} {p : Addr} {ys : List Str} (h1 : SqL K H p (ys.map V.str)) (hz : (ys.map (·.length)).sum + ys.length * sep.length ≤ 16777216) (h : Q (.str (Txt.join sep ys)) H) : ZUZ K (.str sep) [.ref p] H Q := ⟨sep, p, ys, rfl, rfl, h1, hz, h⟩
theorem ZPm (a b : Str) : (a ++ b).length = a.length + b.length := by
 show (a.cps ++ b.cps).size = a.cps.size + b.cps.size
 exact Array.size_append
def ZLb (ys : List Str) : Str := ys.foldl (· ++ ·) Str.empty
theorem ZNA : ∀ (ys : List Str) (acc : Str), (ys.foldl (· ++ ·) acc).cps = ys.foldl (fun a p => a ++ p.cps) acc.cps
 | [], _ => rfl
 | y :: ys, acc => by
  show (ys.foldl (· ++ ·) (acc ++ y)).cps = ys.foldl (fun a p => a ++ p.cps) (acc.cps ++ y.cps)
  rw [ZNA ys (acc ++ y)]
  rfl
theorem ZME (ys : List Str) : Txt.join "" ys = ZLb ys := by
 cases ys with
 | nil => rfl
 | cons y ys =>
  have e : (ZLb (y :: ys)).cps = (Txt.join "" (y :: ys)).cps := by
   unfold ZLb
   rw [ZNA]
   show _ = ys.foldl (fun acc p => acc ++ (Str.ofString "").cps ++ p.cps) y.cps
   have e2 : (Str.ofString "").cps = #[] := by decide
   simp only [e2, Array.append_empty]
   show ys.foldl (fun a p => a ++ p.cps) (Str.empty.cps ++ y.cps) = _
   congr 1
   show #[] ++ y.cps = y.cps
   simp
  cases h1 : ZLb (y :: ys)
  cases h2 : Txt.join "" (y :: ys)
  rw [h1, h2] at e
  simp only at e
  rw [e]
theorem ZTU : ∀ (ys : List Str), (ZLb ys).length = (ys.map (·.length)).sum := by
 intro ys
 have : ∀ (ys : List Str) (acc : Str), (ys.foldl (· ++ ·) acc).length = acc.length + (ys.map (·.length)).sum := by
  intro ys
  induction ys with
  | nil => intro acc; simp
  | cons y ys ih =>
   intro acc
   show (ys.foldl (· ++ ·) (acc ++ y)).length = _
   rw [ih, ZPm]
   simp
   omega
 have h := this ys Str.empty
 have e : Str.empty.length = 0 := rfl
 rw [e, Nat.zero_add] at h
 exact h
section
variable {X : Cx}
def ZUa : R2 := fun x y H Q => ∃ i j, x = .str i ∧ y = .str j ∧ i.length + j.length ≤ sizeLine ∧ Q (.str (i ++ j)) H
theorem ZVj : OpR X (binaryOp .Add) ZUa := ZP7
theorem ZVk {H : Hp} {Q : VK} {i j : Str} (hz : i.length + j.length ≤ sizeLine) (h : Q (.str (i ++ j)) H) : ZUa (.str i) (.str j) H Q := ⟨i, j, rfl, rfl, hz, h⟩
theorem ZKW {H : Hp} {Q : VK} {i j : Str} (h : Q (.bl (!decide (i = j))) H) : rNe (.str i) (.str j) H Q := ⟨rfl, by
 have : decide (V.str i = V.str j) = decide (i = j) := by
  by_cases e : i = j
  ·subst e; simp
  ·rw [decide_eq_false e, decide_eq_false (fun z => e (V.str.inj z))]
 rw [this]; exact h⟩
theorem tyS {K : W.Frag} {H : Hp} {x : Str} : tyV K "str" (.str x) H := rfl
end
def ZTV (K : W.Frag) (x : V) (H : Hp) (R : It → Hp → Prop) : Prop := (∃ a, x = .ref a ∧ (∃ xs, SqL K H a xs) ∧ R (Itl K a) H) ∨ (∃ a, x = .ref a ∧ (∃ xs, SqT K H a xs) ∧ R (Itt K a) H)
def ZXr (K : W.Frag) (tl : TE) : TI := fun σ H R => tl σ H fun x H1 => ZTV K x H1 R
theorem ZXs {X : Cx} {tg e : Expr} {te : TE} (K : W.Frag) (hK : X.K = K) (hl : QE X e te) : QI X tg e (ZXr K te) := by
 subst hK
 refine ⟨?_⟩
 intro pins s σ H R I h
 refine thn (hl.h pins s σ H _ I h) fun v s1 ⟨x, H1, I1, r1, q1⟩ => ?_
 rcases q1 with ⟨a, e, ⟨xs, hq⟩, q⟩ | ⟨a, e, ⟨xs, hq⟩, q⟩
 ·subst e
  cases r1
  obtain ⟨its, rv, p, hz⟩ := I1.list hq
  refine wpAny_pyIter_list p.isList ?_
  refine ⟨s1.heap.objs.size, [s1.heap.objs.size], _, _, H1, rfl, I1.kept (t' := s1.toks) fun b o e => Heap.get?_push_of_some _ e, ZMx a _, ⟨_, Heap.get?_push_size _ rfl, rfl, rfl⟩, fun b hb => ?_, q⟩
  have e : b = s1.heap.objs.size := by simpa using hb
  subst e
  exact I1.fpOk (Nat.le_refl _) (I1.hok.fresh (Nat.le_refl _))
 ·subst e
  cases r1
  obtain ⟨its, rv, p, hz⟩ := I1.tuple hq
  refine wpAny_pyIter_tuple (show s1.heap.IsTuple a its.toArray from p) ?_
  refine ⟨s1.heap.objs.size, [s1.heap.objs.size], _, _, H1, rfl, I1.kept (t' := s1.toks) fun b o e => Heap.get?_push_of_some _ e, ZLy a _, ⟨_, Heap.get?_push_size _ rfl, rfl, rfl⟩, fun b hb => ?_, q⟩
  have e : b = s1.heap.objs.size := by simpa using hb
  subst e
  exact I1.fpOk (Nat.le_refl _) (I1.hok.fresh (Nat.le_refl _))
def SQ (b : Bool) (H : Hp) (a : Addr) (vs : List V) : Prop := H a = some (if b then .lst vs else .tup vs)
section
variable {K : W.Frag} {σ : St} {H : Hp} {D : ZGW}
theorem ZVl {tl : TE} {R : It → Hp → Prop} (h : tl σ H fun x H1 => ZTV K x H1 R) : ZXr K tl σ H R := h
theorem ZVm {b : Bool} {a : Addr} {xs : List V} {g : TG} {tb : TS} (Pv : Nat → St → Hp → Prop) (hq : SQ b H a xs) (h0 : Pv 0 σ H) (hl : ∀ i σ H, i ≤ xs.length → Pv i σ H → SQ b H a xs)
  (hs : ∀ i x σ H, xs[i]? = some x → Pv i σ H → g x σ H fun σ2 H2 => tb { D with nx := Pv (i + 1), ct := Pv (i + 1), bk := D.nx } σ2 H2) (hd : ∀ σ H, Pv xs.length σ H → D.nx σ H) :
  ZTV K (.ref a) H (fun J H1 => rFor J g tb D σ H1) := by
 cases b with
 | true => exact .inl ⟨a, rfl, ⟨xs, SqL.of hq⟩, ZPf Pv h0 (fun i σ H hi p => SqL.of (hl i σ H hi p)) hs hd⟩
 | false => exact .inr ⟨a, rfl, ⟨xs, SqT.of hq⟩, ZK2 Pv h0 (fun i σ H hi p => SqT.of (hl i σ H hi p)) hs hd⟩
end
theorem SQ.same {b : Bool} {H H' : Hp} {a : Addr} {vs : List V} (h : SQ b H a vs) (s : ZFY H H') : SQ b H' a vs := s _ _ h
section
variable {X : Cx} {pins : List (Addr × Obj)} {σ : St} {H H' : Hp} {s : Shared} {h' : Heap}
theorem Inv.old (I : Inv X pins σ H s) {b : Addr} {o : HO} (e : H b = some o) : b < s.heap.objs.size := by
 by_cases h : b < s.heap.objs.size
 ·exact h
 ·rw [I.hok.fresh (Nat.le_of_not_lt h)] at e
  cases e
end
def SIt (b : Bool) (h : Heap) (i l : Addr) (k : Nat) : Prop := if b then h.IsListIter i l k else h.IsTupleIter i l k
def SOb (b : Bool) (h : Heap) (l : Addr) (xs : Array Value) : Prop := if b then h.IsList l xs else h.IsTuple l xs
theorem SIt.at {b : Bool} {h h' : Heap} {i l : Addr} {k : Nat} (x : SIt b h i l k) (e : ∀ o, h.get? i = some o → h'.get? i = some o) : SIt b h' i l k := by
 cases b with
 | true => obtain ⟨o, ho, r⟩ := (show h.IsListIter i l k from x); exact ⟨o, e _ ho, r⟩
 | false => obtain ⟨o, ho, r⟩ := (show h.IsTupleIter i l k from x); exact ⟨o, e _ ho, r⟩
theorem SOb.at {b : Bool} {h h' : Heap} {l : Addr} {xs : Array Value} (x : SOb b h l xs) (e : ∀ o, h.get? l = some o → h'.get? l = some o) : SOb b h' l xs := by
 cases b with
 | true => obtain ⟨o, ho, r⟩ := (show h.IsList l xs from x); exact ⟨o, e _ ho, r⟩
 | false => obtain ⟨o, ho, r⟩ := (show h.IsTuple l xs from x); exact ⟨o, e _ ho, r⟩
theorem SIt.lt {b : Bool} {h : Heap} {i l : Addr} {k : Nat} (x : SIt b h i l k) : i < h.objs.size := by
 cases b with
 | true => obtain ⟨o, ho, r⟩ := (show h.IsListIter i l k from x); exact Heap.lt_size ho
 | false => obtain ⟨o, ho, r⟩ := (show h.IsTupleIter i l k from x); exact Heap.lt_size ho
theorem SOb.lt {b : Bool} {h : Heap} {l : Addr} {xs : Array Value} (x : SOb b h l xs) : l < h.objs.size := by
 cases b with
 | true => obtain ⟨o, ho, r⟩ := (show h.IsList l xs from x); exact Heap.lt_size ho
 | false => obtain ⟨o, ho, r⟩ := (show h.IsTuple l xs from x); exact Heap.lt_size ho
section
variable {prog : Program} {w : World} {A : Around} {E : Value → Shared → Prop} {s : Shared}
theorem ZJR {b : Bool} {i l : Addr} {k : Nat} {xs : Array Value} {x : Value} {Q : Value → Shared → Prop} (hit : SIt b s.heap i l k) (hl : SOb b s.heap l xs) (hx : xs[k]? = some x)
  (hQ : ∀ h', SIt b h' i l (k + 1) → Heap.SameBut i s.heap h' → Q x { s with heap := h' }) : wpAny (model prog w) A (Builtin.SmallTypes.nextOf (.ref i)) Q E s := by
 cases b with
 | true => exact wpAny_nextOf_list_item (show s.heap.IsListIter i l k from hit) (show s.heap.IsList l xs from hl) hx hQ
 | false =>
  have hit' : s.heap.IsTupleIter i l k := hit
  obtain ⟨o, ho, hc, hd⟩ := id hit'
  obtain ⟨ol, hol, _, nl, hdl⟩ := (show s.heap.IsTuple l xs from hl)
  have hT : s.TypeIs (.ref i) "tuple_iterator" := ⟨o, ho, hc⟩
  unfold Builtin.SmallTypes.nextOf
  refine wpAny_bind (wpAny_callSpecial?_slot (name := Str.ofString "__next__") hT slot_tupleiter_next (wpAny_call_entry slot_tupleiter_next hT entry_tupleiter_next ?_ (args_tupleiter_next _)))
  show wpAny _ _ (field (.ref i) 0 >>= _) _ _ s
  refine wpAny_bind (wpAny_field ho hd (x := .ref l) rfl ?_)
  show wpAny _ _ (if (Value.ref l == Value.none) = true then _ else _) _ _ s
  rw [if_neg (show ¬ ((Value.ref l == Value.none) = true) from Bool.false_ne_true)]
  show wpAny _ _ (field (.ref i) 1 >>= _) _ _ s
  refine wpAny_bind (wpAny_field ho hd (x := .int k 0) rfl ?_)
  show wpAny _ _ (seqItems? (.ref l) >>= _) _ _ s
  refine wpAny_bind (wpAny_seqItems hol hdl ?_)
  simp only [Int.toNat_natCast, hx]
  refine wpAny_bind (wpAny_setField ho hd (by simp) (wpAny_pure ⟨x, rfl, wpAny_pure (hQ _ ?_ (Heap.SameBut.update ..))⟩))
  exact ⟨_, Heap.get?_update_self _ ho (Obj.isFreed_of_fields (Obj.data_mapFields hd _)), (Obj.cls_mapFields ..).trans hc, by rw [Obj.data_mapFields hd]; simp [rawInt]⟩
theorem ZMF {b : Bool} {i l : Addr} {k : Nat} {xs : Array Value} {Q : Value → Shared → Prop} (hh : A.handled = none) (hit : SIt b s.heap i l k) (hl : SOb b s.heap l xs) (hx : xs[k]? = none)
  (hE : ∀ h' e, Heap.ExtBut i s.heap h' → (∃ o, h'.get? e = some o ∧ o.cls = .type "StopIteration") → E (.ref e) { s with heap := h' }) : wpAny (model prog w) A (Builtin.SmallTypes.nextOf (.ref i)) Q E s := by
 cases b with
 | true => exact wpAny_nextOf_list_end hh (show s.heap.IsListIter i l k from hit) (show s.heap.IsList l xs from hl) hx hE
 | false =>
  have hit' : s.heap.IsTupleIter i l k := hit
  obtain ⟨o, ho, hc, hd⟩ := id hit'
  obtain ⟨ol, hol, _, nl, hdl⟩ := (show s.heap.IsTuple l xs from hl)
  have hT : s.TypeIs (.ref i) "tuple_iterator" := ⟨o, ho, hc⟩
  unfold Builtin.SmallTypes.nextOf
  refine wpAny_bind (wpAny_callSpecial?_slot (name := Str.ofString "__next__") hT slot_tupleiter_next (wpAny_call_entry slot_tupleiter_next hT entry_tupleiter_next ?_ (args_tupleiter_next _)))
  show wpAny _ _ (field (.ref i) 0 >>= _) _ _ s
  refine wpAny_bind (wpAny_field ho hd (x := .ref l) rfl ?_)
  show wpAny _ _ (if (Value.ref l == Value.none) = true then _ else _) _ _ s
  rw [if_neg (show ¬ ((Value.ref l == Value.none) = true) from Bool.false_ne_true)]
  show wpAny _ _ (field (.ref i) 1 >>= _) _ _ s
  refine wpAny_bind (wpAny_field ho hd (x := .int k 0) rfl ?_)
  show wpAny _ _ (seqItems? (.ref l) >>= _) _ _ s
  refine wpAny_bind (wpAny_seqItems hol hdl ?_)
  simp only [Int.toNat_natCast, hx]
  refine wpAny_bind (wpAny_rule (wpAny_bind (wpAny_setField ho hd (by simp) ?_)))
  show wpAny _ _ (newExc (.type "StopIteration") [] >>= _) _ _ _
  refine wpAny_bind ?_
  simp only [newExc, newTuple]
  refine wpAny_bind (wpAny_newObj_type ?_ (by size_fits))
  refine wpAny_bind (m := firstArgMember _ _) (wpAny_of_eq (a := Value.none) (by first | rfl | (simp only [firstArgMember]; rfl)) ?_)
  refine wpAny_newObj_type ?_ (by size_fits)
  simp only [raiseNew]
  refine wpAny_bind (wpAny_handled ?_)
  first | rw [show A.in1.handled = none from hh] | rw [hh]
  refine wpAny_bind (wpAny_pure (wpAny_throw ?_))
  exact hE _ _ (((Heap.SameBut.update ..).extBut.push _).push _) ⟨_, Heap.get?_push_size _ rfl, rfl⟩
structure Zp (b1 b2 : Bool) (h : Heap) (z TI TO i1 i2 l1 l2 : Addr) (k : Nat) (xs ys : Array Value) (f0 : Value) : Prop where
 hz : IsZip h z TI TO f0
 hTI : IsPair h TI (.ref i1) (.ref i2)
 hTO : ∃ a b, IsPair h TO a b
 h1 : SIt b1 h i1 l1 k
 h2 : SIt b2 h i2 l2 k
 hl1 : SOb b1 h l1 xs
 hl2 : SOb b2 h l2 ys
theorem ZTW {b1 b2 : Bool} {z TI TO i1 i2 l1 l2 : Addr} {k : Nat} {xs ys : Array Value} {x y : Value} {Q : Option Value → Shared → Prop} (D : ZipApart z TI TO i1 i2 l1 l2) (Z : Zp b1 b2 s.heap z TI TO i1 i2 l1 l2 k xs ys .none)
  (hx : xs[k]? = some x) (hy : ys[k]? = some y)
  (hQ : ∀ h', Zp b1 b2 h' z TI TO i1 i2 l1 l2 (k + 1) xs ys (rawInt s.heap.objs.size) → IsPair h' s.heap.objs.size x y →
   (∀ c o, c ≠ z → c ≠ TO → c ≠ i1 → c ≠ i2 → s.heap.get? c = some o → h'.get? c = some o) → Q (some (.ref s.heap.objs.size)) { s with heap := h' }) :
  wpAny (model prog w) A (pyNext (.ref z)) Q E s := by
 obtain ⟨hz, hTI, ⟨a, b, hTO⟩, h1, h2, hl1, hl2⟩ := Z
 have hT : s.TypeIs (.ref z) "zip" := ⟨_, hz, rfl⟩
 unfold pyNext
 refine wpAny_bind (wpAny_attempt (wpAny_callSpecial?_slot (name := Str.ofString "__next__") hT F.slot_zip_next (wpAny_call_entry F.slot_zip_next hT F.entry_zip_next ?_ (F.args_zip_next_1 _))))
 show wpAny _ _ (field (.ref z) 2 >>= _) _ _ _
 refine wpAny_bind (wpAny_field hz rfl (x := .bool false) rfl ?_)
 show wpAny _ _ (field (.ref z) 3 >>= _) _ _ _
 refine wpAny_bind (wpAny_field hz rfl (x := .ref TI) rfl ?_)
 refine wpAny_bind (wpAny_seqItems hTI rfl ?_)
 show wpAny _ _ (Builtin.SmallTypes.ownedTupleIsFree (.ref z) >>= _) _ _ _
 refine wpAny_bind ?_
 unfold Builtin.SmallTypes.ownedTupleIsFree
 refine wpAny_bind (wpAny_field hz rfl (x := .none) rfl (wpAny_pure ?_))
 simp only [if_true]
 refine wpAny_bind (wpAny_rule ?_)
 refine wpAny_bind (wpAny_field hz rfl (x := .ref TO) rfl ?_)
 refine wpAny_bind (wpAny_setField_rec hz (by simp) fun g1 z1 s1 => ?_)
 replace z1 : IsZip g1 z TI TO .ellipsis := z1
 refine wpAny_bind ?_
 simp only [List.zipIdx_cons, List.zipIdx_nil, List.forIn_cons, List.forIn_nil]
 refine wpAny_bind (wpAny_bind (wpAny_onRaise ?_))
 show wpAny _ _ (Builtin.SmallTypes.nextOf (.ref i1) >>= _) _ _ _
 refine wpAny_bind (ZJR (h1.at fun o e => s1.extBut _ _ D.i1z e) (hl1.at fun o e => s1.extBut _ _ D.l1z e) hx fun g2 j1 s2 => wpAny_pure ?_)
 have tO2 : IsPair g2 TO a b := s2.extBut _ _ D.TOi1 (s1.extBut _ _ D.TOz hTO)
 refine wpAny_bind (wpAny_seqItems tO2 rfl ?_)
 refine wpAny_bind (wpAny_updateSeq_pair tO2 fun g3 tO3 s3 => ?_)
 replace tO3 : IsPair g3 TO x b := tO3
 refine wpAny_bind (wpAny_letGo (wpAny_pure ?_))
 refine wpAny_bind (wpAny_bind (wpAny_onRaise ?_))
 show wpAny _ _ (Builtin.SmallTypes.nextOf (.ref i2) >>= _) _ _ _
 refine wpAny_bind (ZJR (((h2.at fun o e => s1.extBut _ _ D.i2z e).at fun o e => s2.extBut _ _ D.i12.symm e).at fun o e => s3.extBut _ _ D.TOi2.symm e)
  (((hl2.at fun o e => s1.extBut _ _ D.l2z e).at fun o e => s2.extBut _ _ D.l2i1 e).at fun o e => s3.extBut _ _ D.l2TO e) hy fun g4 j2 s4 => wpAny_pure ?_)
 have tO4 : IsPair g4 TO x b := s4.extBut _ _ D.TOi2 tO3
 refine wpAny_bind (wpAny_seqItems tO4 rfl ?_)
 refine wpAny_bind (wpAny_updateSeq_pair tO4 fun g5 tO5 s5 => ?_)
 replace tO5 : IsPair g5 TO x y := tO5
 refine wpAny_bind (wpAny_letGo (wpAny_pure (wpAny_pure ?_)))
 refine wpAny_bind (wpAny_seqItems tO5 rfl ?_)
 refine wpAny_bind (wpAny_newTuple ?_)
 have hsz : g5.objs.size = s.heap.objs.size := by rw [s5.1, s4.1, s3.1, s2.1, s1.1]
 have z5 : IsZip g5 z TI TO .ellipsis := s5.extBut _ _ D.TOz.symm (s4.extBut _ _ D.i2z.symm (s3.extBut _ _ D.TOz.symm (s2.extBut _ _ D.i1z.symm z1)))
 have k5 : ∀ c o, c ≠ z → c ≠ TO → c ≠ i1 → c ≠ i2 → s.heap.get? c = some o → g5.get? c = some o := fun c o c1 c2 c3 c4 e =>
  s5.extBut _ _ c2 (s4.extBut _ _ c4 (s3.extBut _ _ c2 (s2.extBut _ _ c3 (s1.extBut _ _ c1 e))))
 have j15 : SIt b1 g5 i1 l1 (k + 1) := ((j1.at fun o e => s3.extBut _ _ D.TOi1.symm e).at fun o e => s4.extBut _ _ D.i12 e).at fun o e => s5.extBut _ _ D.TOi1.symm e
 have j25 : SIt b2 g5 i2 l2 (k + 1) := j2.at fun o e => s5.extBut _ _ D.TOi2.symm e
 have tI5 : IsPair g5 TI (.ref i1) (.ref i2) := k5 _ _ D.TIz D.TITO D.TIi1 D.TIi2 hTI
 have q15 : SOb b1 g5 l1 xs := hl1.at fun o e => k5 _ o D.l1z D.l1TO D.l1i1 D.l1i2 e
 have q25 : SOb b2 g5 l2 ys := hl2.at fun o e => k5 _ o D.l2z D.l2TO D.l2i1 D.l2i2 e
 have hzlt : z < g5.objs.size := Heap.lt_size z5
 show wpAny _ _ (Builtin.SmallTypes.ownedTupleHandOut (.ref z) (.ref g5.objs.size) >>= _) _ _ _
 refine wpAny_bind ?_
 unfold Builtin.SmallTypes.ownedTupleHandOut
 have z6 : IsZip (g5.push { cls := .type "tuple", data := .seq #[x, y] }) z TI TO .ellipsis := Heap.get?_push_of_some _ z5
 refine wpAny_bind (wpAny_setField_rec z6 (by simp) fun g7 z7 s7 => ?_)
 replace z7 : IsZip g7 z TI TO (rawInt g5.objs.size) := z7
 refine wpAny_setField_rec z7 (by simp) fun g8 z8 s8 => ?_
 replace z8 : IsZip g8 z TI TO (rawInt g5.objs.size) := z8
 have up : ∀ c o, c ≠ z → g5.get? c = some o → g8.get? c = some o := fun c o c1 e => s8.extBut _ _ c1 (s7.extBut _ _ c1 (Heap.get?_push_of_some _ e))
 have t8 : IsPair g8 g5.objs.size x y := s8.extBut _ _ (Nat.ne_of_gt hzlt) (s7.extBut _ _ (Nat.ne_of_gt hzlt) (Heap.get?_push_size _ rfl))
 rw [hsz] at z8 t8
 refine wpAny_pure ⟨_, rfl, wpAny_pure ?_⟩
 show Q (some (.ref g5.objs.size)) _
 rw [hsz]
 exact hQ g8 ⟨z8, up _ _ D.TIz tI5, ⟨x, y, up _ _ D.TOz tO5⟩, j15.at fun o e => up _ o D.i1z e, j25.at fun o e => up _ o D.i2z e, q15.at fun o e => up _ o D.l1z e, q25.at fun o e => up _ o D.l2z e⟩ t8 fun c o c1 c2 c3 c4 e => up c o c1 (k5 c o c1 c2 c3 c4 e)
theorem ZVn {b1 b2 : Bool} {z TI TO i1 i2 l1 l2 : Addr} {k : Nat} {xs ys : Array Value} {Q : Option Value → Shared → Prop} (hh : A.handled = none) (D : ZipApart z TI TO i1 i2 l1 l2) (Z : Zp b1 b2 s.heap z TI TO i1 i2 l1 l2 k xs ys .none)
  (hend : xs[k]? = none ∨ ys[k]? = none) (hQ : ∀ h', (∀ c o, c ≠ z → c ≠ TO → c ≠ i1 → c ≠ i2 → s.heap.get? c = some o → h'.get? c = some o) → Q none { s with heap := h' }) : wpAny (model prog w) A (pyNext (.ref z)) Q E s := by
 obtain ⟨hz, hTI, ⟨a, b, hTO⟩, h1, h2, hl1, hl2⟩ := Z
 have hT : s.TypeIs (.ref z) "zip" := ⟨_, hz, rfl⟩
 unfold pyNext
 refine wpAny_bind (wpAny_attempt (wpAny_callSpecial?_slot (name := Str.ofString "__next__") hT F.slot_zip_next (wpAny_call_entry F.slot_zip_next hT F.entry_zip_next ?_ (F.args_zip_next_1 _))))
 have out : ∀ h' e, (∀ c o, c ≠ z → c ≠ TO → c ≠ i1 → c ≠ i2 → s.heap.get? c = some o → h'.get? c = some o) → (∃ o, h'.get? e = some o ∧ o.cls = .type "StopIteration") → wpAny (model prog w) A (do
   if (← isInstance (.ref e) (.type "StopIteration")) = true then pure none else throw (.ref e)) Q E { s with heap := h' } := fun h' e hk ⟨o, ho, hc⟩ => by
  refine wpAny_bind (wpAny_isInstance (T := "StopIteration") (b := true) ⟨o, ho, hc⟩ isSubtype_stop ?_)
  exact wpAny_pure (hQ _ hk)
 show wpAny _ _ (field (.ref z) 2 >>= _) _ _ _
 refine wpAny_bind (wpAny_field hz rfl (x := .bool false) rfl ?_)
 show wpAny _ _ (field (.ref z) 3 >>= _) _ _ _
 refine wpAny_bind (wpAny_field hz rfl (x := .ref TI) rfl ?_)
 refine wpAny_bind (wpAny_seqItems hTI rfl ?_)
 show wpAny _ _ (Builtin.SmallTypes.ownedTupleIsFree (.ref z) >>= _) _ _ _
 refine wpAny_bind ?_
 unfold Builtin.SmallTypes.ownedTupleIsFree
 refine wpAny_bind (wpAny_field hz rfl (x := .none) rfl (wpAny_pure ?_))
 simp only [if_true]
 refine wpAny_bind (wpAny_rule ?_)
 refine wpAny_bind (wpAny_field hz rfl (x := .ref TO) rfl ?_)
 refine wpAny_bind (wpAny_setField_rec hz (by simp) fun g1 z1 s1 => ?_)
 replace z1 : IsZip g1 z TI TO .ellipsis := z1
 refine wpAny_bind ?_
 simp only [List.zipIdx_cons, List.zipIdx_nil, List.forIn_cons, List.forIn_nil]
 refine wpAny_bind (wpAny_bind (wpAny_onRaise ?_))
 show wpAny _ _ (Builtin.SmallTypes.nextOf (.ref i1) >>= _) _ _ _
 cases hx : xs[k]? with
 | none =>
  refine wpAny_bind (ZMF hh (h1.at fun o e => s1.extBut _ _ D.i1z e) (hl1.at fun o e => s1.extBut _ _ D.l1z e) hx fun g2 e s2 he => ?_)
  obtain ⟨oe, hoe, hce⟩ := he
  have z2 : IsZip g2 z TI TO .ellipsis := s2 _ _ D.i1z.symm z1
  have hez : e ≠ z := fun q => by subst q; rw [z2] at hoe; cases hoe; simp at hce
  exact wpAny_setField_rec z2 (by simp) fun g3 _ s3 => out g3 e (fun c o c1 _ c3 _ q => s3.extBut _ _ c1 (s2 _ _ c3 (s1.extBut _ _ c1 q))) ⟨oe, s3.extBut _ _ hez hoe, hce⟩
 | some x =>
  have hy : ys[k]? = none := by rcases hend with h | h; rw [hx] at h; cases h; exact h
  refine wpAny_bind (ZJR (h1.at fun o e => s1.extBut _ _ D.i1z e) (hl1.at fun o e => s1.extBut _ _ D.l1z e) hx fun g2 j1 s2 => wpAny_pure ?_)
  have tO2 : IsPair g2 TO a b := s2.extBut _ _ D.TOi1 (s1.extBut _ _ D.TOz hTO)
  refine wpAny_bind (wpAny_seqItems tO2 rfl ?_)
  refine wpAny_bind (wpAny_updateSeq_pair tO2 fun g3 tO3 s3 => ?_)
  refine wpAny_bind (wpAny_letGo (wpAny_pure ?_))
  refine wpAny_bind (wpAny_bind (wpAny_onRaise ?_))
  show wpAny _ _ (Builtin.SmallTypes.nextOf (.ref i2) >>= _) _ _ _
  refine wpAny_bind (ZMF hh (((h2.at fun o e => s1.extBut _ _ D.i2z e).at fun o e => s2.extBut _ _ D.i12.symm e).at fun o e => s3.extBut _ _ D.TOi2.symm e)
   (((hl2.at fun o e => s1.extBut _ _ D.l2z e).at fun o e => s2.extBut _ _ D.l2i1 e).at fun o e => s3.extBut _ _ D.l2TO e) hy fun g4 e s4 he => ?_)
  obtain ⟨oe, hoe, hce⟩ := he
  have z4 : IsZip g4 z TI TO .ellipsis := s4 _ _ D.i2z.symm (s3.extBut _ _ D.TOz.symm (s2.extBut _ _ D.i1z.symm z1))
  have hez : e ≠ z := fun q => by subst q; rw [z4] at hoe; cases hoe; simp at hce
  exact wpAny_setField_rec z4 (by simp) fun g5 _ s5 => out g5 e (fun c o c1 c2 c3 c4 q => s5.extBut _ _ c1 (s4 _ _ c4 (s3.extBut _ _ c2 (s2.extBut _ _ c3 (s1.extBut _ _ c1 q))))) ⟨oe, s5.extBut _ _ hez hoe, hce⟩
end
section
variable {X : Cx} {pins : List (Addr × Obj)} {σ : St} {H H' : Hp} {s : Shared} {h' : Heap}
theorem Inv.turnNew {t' : Nat} {fp : List Addr} (I : Inv X pins σ H s) (hf : ∀ b ∈ fp, ZGz X pins H b) (k : ∀ b o, b ∉ fp → s.heap.get? b = some o → h'.get? b = some o) (hs : ∀ b, b < s.heap.objs.size → H' b = H b)
  (new : ∀ b o, s.heap.objs.size ≤ b → H' b = some o → ZFz X.prog X.w H' h' b o) : Inv X pins σ H' { s with heap := h', toks := t' } := by
 have old : ∀ b o, H b = some o → H' b = some o := fun b o e => (hs b (I.old e)).trans e
 have nfp : ∀ b u, H b = some u → b ∉ fp := fun b u e z => by rw [(hf b z).1] at e; cases e
 refine I.step (g' := s.gens) (d' := s.drawn) (ch := fp) (fun b hb => ?_) (fun b o _ _ hc e _ => k b o hc e) (fun b o _ _ hc e _ => ⟨o.slots, k b o hc e⟩) (fun b o _ e n => (hs b (Heap.lt_size e)).trans n)
  (fun b o hc e => ⟨o, k b o hc e⟩) (fun b xs e => old _ _ e) (fun b o xs e => old _ _ e) (fun b ps e => ⟨#[], by rw [old _ _ e]; simp⟩) (fun m hm => ?_) (fun b u e => ?_) I.bare
 ·obtain ⟨f0, f1, f2, f3, f4, f5⟩ := hf b hb
  exact ⟨f3, f1, f4, f5⟩
 ·obtain ⟨o, es, ep, ho, r⟩ := hm
  exact ⟨o, es, ep, k _ o (fun z => (hf _ z).2.1 rfl) ho, r⟩
 ·by_cases hb : b < s.heap.objs.size
  ·rw [hs b hb] at e
   refine (I.hok b u e).stay (fun c v hc q => k c v ?_ q) (fun c q => old _ _ q) fun c xs q => old _ _ q
   rcases hc with z | z
   ·rw [z]; exact nfp b u e
   ·exact nfp c _ z
  ·exact new b u (Nat.le_of_not_lt hb) e
end
def SqB (b : Bool) (K : W.Frag) (H : Hp) (a : Addr) (xs : List V) : Prop := if b then SqL K H a xs else SqT K H a xs
theorem SqB.ofT {K : W.Frag} {H : Hp} {a : Addr} {xs : List V} (h : H a = some (.tup xs)) : SqB false K H a xs := SqT.of h
theorem Inv.sqB {X : Cx} {pins : List (Addr × Obj)} {σ : St} {H : Hp} {s : Shared} {b : Bool} {a : Addr} {xs : List V} (I : Inv X pins σ H s) (h : SqB b X.K H a xs) : ∃ its : List Value, ZFj xs its ∧ SOb b s.heap a its.toArray ∧ xs.length ≤ sizeLine := by
 cases b with
 | true =>
  obtain ⟨its, rv, p, hz⟩ := I.list h
  exact ⟨its, rv, p.isList, hz⟩
 | false =>
  obtain ⟨its, rv, p, hz⟩ := I.tuple h
  exact ⟨its, rv, p, hz⟩
theorem Inv.sqB_inj {X : Cx} {pins : List (Addr × Obj)} {σ : St} {H : Hp} {s : Shared} {b : Bool} {a : Addr} {xs ys : List V} (I : Inv X pins σ H s) (h : SqB b X.K H a xs) (g : SqB b X.K H a ys) : xs = ys := by
 cases b with
 | true => exact I.list_inj h g
 | false => exact I.tuple_inj h g
def Itz (K : W.Frag) (b1 : Bool) (p1 : Addr) (b2 : Bool) (p2 : Addr) : It :=
 ⟨fun i H => ∃ xs ys, SqB b1 K H p1 xs ∧ SqB b2 K H p2 ys ∧ i < xs.length ∧ i < ys.length,
  fun i H x H' => ∃ T a b, H T = none ∧ x = .ref T ∧ H' = upd H T (.tup [a, b]) ∧ (∀ xs, SqB b1 K H p1 xs → xs[i]? = some a) ∧ ∀ ys, SqB b2 K H p2 ys → ys[i]? = some b,
  fun i H => ∃ xs ys, SqB b1 K H p1 xs ∧ SqB b2 K H p2 ys ∧ (xs.length ≤ i ∨ ys.length ≤ i)⟩
def Zo (b1 b2 : Bool) (z TI TO i1 i2 l1 l2 : Addr) (i : Nat) (h : Heap) : Prop := IsZip h z TI TO .none ∧ IsPair h TI (.ref i1) (.ref i2) ∧ (∃ a b, IsPair h TO a b) ∧ SIt b1 h i1 l1 i ∧ SIt b2 h i2 l2 i
theorem ZTX {P : Program} {w : World} {K : W.Frag} {es : List Expr} {kk : Nat} {pos : Pos} (b1 b2 : Bool) (z TI TO i1 i2 l1 l2 : Addr) (D : ZipApart z TI TO i1 i2 l1 l2) :
  ZKM P w K (.Tuple es kk pos) (Itz K b1 l1 b2 l2) [z, TI, TO, i1, i2] z (Zo b1 b2 z TI TO i1 i2 l1 l2) where
 mem := by simp
 obj := fun i h st b hb => by
  obtain ⟨hz, hTI, ⟨x, y, hTO⟩, h1, h2⟩ := st
  have si : ∀ {b : Bool} {c l : Addr}, SIt b h c l i → ∃ o, h.get? c = some o ∧ ∀ v, o.data ≠ .cell v := fun {b c l} q => by
   cases b with
   | true => obtain ⟨o, e, c, d⟩ := (show h.IsListIter _ _ _ from q); exact ⟨o, e, fun v z => by rw [d] at z; cases z⟩
   | false => obtain ⟨o, e, c, d⟩ := (show h.IsTupleIter _ _ _ from q); exact ⟨o, e, fun v z => by rw [d] at z; cases z⟩
  simp only [List.mem_cons, List.not_mem_nil, or_false] at hb
  rcases hb with rfl | rfl | rfl | rfl | rfl
  ·exact ⟨_, hz, fun v q => by cases q⟩
  ·exact ⟨_, hTI, fun v q => by cases q⟩
  ·exact ⟨_, hTO, fun v q => by cases q⟩
  ·exact si h1
  ·exact si h2
 keep := fun i h h' st k => by
  obtain ⟨hz, hTI, ⟨x, y, hTO⟩, h1, h2⟩ := st
  exact ⟨k z (by simp) _ hz, k TI (by simp) _ hTI, ⟨x, y, k TO (by simp) _ hTO⟩, h1.at (k i1 (by simp)), h2.at (k i2 (by simp))⟩
 item := by
  intro X hP hw hK hc i pins s σ H E I hf st hg
  subst hP hw hK
  obtain ⟨xs, ys, q1, q2, hi1, hi2⟩ := hg
  obtain ⟨hz, hTI, hTO, h1, h2⟩ := st
  obtain ⟨us, r1, o1, _⟩ := I.sqB q1
  obtain ⟨ws, r2, o2, _⟩ := I.sqB q2
  obtain ⟨u, hu, ru⟩ := r1.get (List.getElem?_eq_getElem hi1)
  obtain ⟨v, hv, rv⟩ := r2.get (List.getElem?_eq_getElem hi2)
  have Z : Zp b1 b2 s.heap z TI TO i1 i2 l1 l2 i us.toArray ws.toArray .none := ⟨hz, hTI, hTO, h1, h2, o1, o2⟩
  refine ZTW D Z (x := u) (y := v) (by simpa using hu) (by simpa using hv) fun h' Z' hT hk => ⟨_, rfl, ?_⟩
  refine wpAny_letOwnedTupleGo_zip Z'.hz fun h'' hz'' hs'' => ?_
  have hTz : s.heap.objs.size ≠ z := Nat.ne_of_gt (Heap.lt_size hz)
  have hT'' : IsPair h'' s.heap.objs.size u v := hs''.extBut _ _ hTz hT
  have kk : ∀ b o, b ∉ [z, TI, TO, i1, i2] → s.heap.get? b = some o → h''.get? b = some o := fun b o hb e => by
   simp only [List.mem_cons, List.not_mem_nil, or_false, not_or] at hb
   exact hs''.extBut _ _ hb.1 (hk b o hb.1 hb.2.2.1 hb.2.2.2.1 hb.2.2.2.2 e)
  have I1 : Inv X pins σ (upd H s.heap.objs.size (.tup [xs[i], ys[i]])) { s with heap := h'', toks := s.toks } := by
   refine I.turnNew (fp := [z, TI, TO, i1, i2]) hf kk (fun b hb => ZFg (Nat.ne_of_lt hb)) fun b o hb e => ?_
   by_cases hbT : b = s.heap.objs.size
   ·subst hbT
    rw [ZFf] at e
    cases e
    exact ⟨⟨by show 2 ≤ sizeLine; decide, fun _ => ⟨_, hT'', rfl, rfl⟩⟩, [u, v], .cons ru (.cons rv .nil), _, hT'', rfl, _, rfl⟩
   ·rw [ZFg hbT, I.hok.fresh hb] at e
    cases e
  refine ⟨.ref s.heap.objs.size, _, I1, rfl, ⟨_, _, _, I.hok.fresh (Nat.le_refl _), rfl, rfl, fun zs hq => ?_, fun zs hq => ?_⟩, ?_, fun b hb => ?_⟩
  ·rw [I.sqB_inj hq q1]; exact List.getElem?_eq_getElem hi1
  ·rw [I.sqB_inj hq q2]; exact List.getElem?_eq_getElem hi2
  ·obtain ⟨x, y, hTO'⟩ := Z'.hTO
   exact ⟨hz'', hs''.extBut _ _ D.TIz Z'.hTI, ⟨x, y, hs''.extBut _ _ D.TOz hTO'⟩, Z'.h1.at fun o e => hs''.extBut _ _ D.i1z e, Z'.h2.at fun o e => hs''.extBut _ _ D.i2z e⟩
  ·have hbl : b < s.heap.objs.size := by
    obtain ⟨x, y, hTO0⟩ := hTO
    simp only [List.mem_cons, List.not_mem_nil, or_false] at hb
    rcases hb with rfl | rfl | rfl | rfl | rfl
    ·exact Heap.lt_size hz
    ·exact Heap.lt_size hTI
    ·exact Heap.lt_size hTO0
    ·exact h1.lt
    ·exact h2.lt
   rw [ZFg (Nat.ne_of_lt hbl)]
   exact (hf b hb).1
 done := by
  intro X hP hw hK hc i pins s σ H E I hf st hg
  subst hP hw hK
  obtain ⟨xs, ys, q1, q2, hend⟩ := hg
  obtain ⟨hz, hTI, hTO, h1, h2⟩ := st
  obtain ⟨us, r1, o1, _⟩ := I.sqB q1
  obtain ⟨ws, r2, o2, _⟩ := I.sqB q2
  have e1 := r1.length
  have e2 := r2.length
  refine ZVn (I.ok.hd hc) D ⟨hz, hTI, hTO, h1, h2, o1, o2⟩ ?_ fun h' hk => ⟨rfl, ?_⟩
  ·rcases hend with h | h
   ·exact .inl (by simp; omega)
   ·exact .inr (by simp; omega)
  ·refine I.turnNew (t' := s.toks) (fp := [z, TI, TO, i1, i2]) hf (fun b o hb e => ?_) (fun b _ => rfl) fun b o hb e => ?_
   ·simp only [List.mem_cons, List.not_mem_nil, or_false, not_or] at hb
    exact hk b o hb.1 hb.2.2.1 hb.2.2.2.1 hb.2.2.2.2 e
   ·rw [I.hok.fresh hb] at e; cases e
 self := fun _ _ _ _ _ st h => wpAny_pyIter_zip st.1 h
def ZMG (b : Bool) (l : Addr) : Obj := { cls := .type (if b then "list_iterator" else "tuple_iterator"), data := .fields #[.ref l, .int 0 0] }
def zp1 (b1 : Bool) (h : Heap) (l1 : Addr) : Heap := h.push (ZMG b1 l1)
def zp2 (b1 b2 : Bool) (h : Heap) (l1 l2 : Addr) : Heap := (zp1 b1 h l1).push (ZMG b2 l2)
def zp3 (b1 b2 : Bool) (h : Heap) (l1 l2 : Addr) : Heap := (zp2 b1 b2 h l1 l2).push { cls := .type "tuple", data := .seq #[.ref h.objs.size, .ref (zp1 b1 h l1).objs.size] }
def zp4 (b1 b2 : Bool) (h : Heap) (l1 l2 : Addr) : Heap := (zp3 b1 b2 h l1 l2).push { cls := .type "tuple", data := .seq #[.none, .none] }
def zp5 (b1 b2 : Bool) (h : Heap) (l1 l2 : Addr) : Heap := (zp4 b1 b2 h l1 l2).push { cls := .type "zip", data := .fields #[.none, .bool false, .bool false, .ref (zp2 b1 b2 h l1 l2).objs.size, .ref (zp3 b1 b2 h l1 l2).objs.size] }
theorem ZQR (b1 b2 : Bool) (l1 l2 : Addr) (xs ys : Array Value) :
  Meets (Builtin.«zip.__new__» ⟨[.type "zip", .ref l1, .ref l2], []⟩) (fun _ R s => SOb b1 s.heap l1 xs ∧ SOb b2 s.heap l2 ys ∧
   R (.ok (.ret (.ref (zp4 b1 b2 s.heap l1 l2).objs.size))) { s with heap := zp5 b1 b2 s.heap l1 l2 }) := by
 cases b1 <;> cases b2
 ·exact .of_wp fun prog w A R s h => by
   obtain ⟨hp, g, d, tk, os⟩ := s; obtain ⟨hl1, hl2, h⟩ := h
   have hsub := sub_zip
   have hL1 : Heap.IsTuple (Shared.heap ⟨hp, g, d, tk, os⟩) l1 xs := hl1
   have hL2 : Heap.IsTuple (Shared.heap ⟨hp.push { cls := .type "tuple_iterator", data := .fields #[.ref l1, .int 0 0] }, g, d, tk, os⟩) l2 ys := by
    obtain ⟨o, ho, r⟩ := (show Heap.IsTuple hp l2 ys from hl2); exact ⟨o, Heap.get?_push_of_some _ ho, r⟩
   wp_walk using wpAny_pyIter_tuple hL1, wpAny_pyIter_tuple hL2
   exact ⟨_, rfl, h⟩
 ·exact .of_wp fun prog w A R s h => by
   obtain ⟨hp, g, d, tk, os⟩ := s; obtain ⟨hl1, hl2, h⟩ := h
   have hsub := sub_zip
   have hL1 : Heap.IsTuple (Shared.heap ⟨hp, g, d, tk, os⟩) l1 xs := hl1
   have hL2 : Heap.IsList (Shared.heap ⟨hp.push { cls := .type "tuple_iterator", data := .fields #[.ref l1, .int 0 0] }, g, d, tk, os⟩) l2 ys := by
    obtain ⟨o, ho, r⟩ := (show Heap.IsList hp l2 ys from hl2); exact ⟨o, Heap.get?_push_of_some _ ho, r⟩
   wp_walk using wpAny_pyIter_tuple hL1, wpAny_pyIter_list hL2
   exact ⟨_, rfl, h⟩
 ·exact .of_wp fun prog w A R s h => by
   obtain ⟨hp, g, d, tk, os⟩ := s; obtain ⟨hl1, hl2, h⟩ := h
   have hsub := sub_zip
   have hL1 : Heap.IsList (Shared.heap ⟨hp, g, d, tk, os⟩) l1 xs := hl1
   have hL2 : Heap.IsTuple (Shared.heap ⟨hp.push { cls := .type "list_iterator", data := .fields #[.ref l1, .int 0 0] }, g, d, tk, os⟩) l2 ys := by
    obtain ⟨o, ho, r⟩ := (show Heap.IsTuple hp l2 ys from hl2); exact ⟨o, Heap.get?_push_of_some _ ho, r⟩
   wp_walk using wpAny_pyIter_list hL1, wpAny_pyIter_tuple hL2
   exact ⟨_, rfl, h⟩
 ·exact .of_wp fun prog w A R s h => by
   obtain ⟨hp, g, d, tk, os⟩ := s; obtain ⟨hl1, hl2, h⟩ := h
   have hsub := sub_zip
   have hL1 : Heap.IsList (Shared.heap ⟨hp, g, d, tk, os⟩) l1 xs := hl1
   have hL2 : Heap.IsList (Shared.heap ⟨hp.push { cls := .type "list_iterator", data := .fields #[.ref l1, .int 0 0] }, g, d, tk, os⟩) l2 ys := by
    obtain ⟨o, ho, r⟩ := (show Heap.IsList hp l2 ys from hl2); exact ⟨o, Heap.get?_push_of_some _ ho, r⟩
   wp_walk using wpAny_pyIter_list hL1, wpAny_pyIter_list hL2
   exact ⟨_, rfl, h⟩
section
variable {X : Cx} {tg : Expr}
theorem ZTY {pins : List (Addr × Obj)} {σ : St} {H : Hp} {s : Shared} {R : It → Hp → Prop} {b1 b2 : Bool} {l1 l2 : Addr} {xs ys : List V} {es : List Expr} {kk : Nat} {pos : Pos} (I : Inv X pins σ H s) (q1 : SqB b1 X.K H l1 xs) (q2 : SqB b2 X.K H l2 ys)
  (q : R (Itz X.K b1 l1 b2 l2) H) : wpAny (model X.prog X.w) X.A (call (.type "zip") [.ref l1, .ref l2]) (fun v s1 => wpAny (model X.prog X.w) X.A (pyIter v) (PIE X pins σ (.Tuple es kk pos) R) X.xe s1) X.xe s := by
 obtain ⟨us, r1, o1, _⟩ := I.sqB q1
 obtain ⟨ws, r2, o2, _⟩ := I.sqB q2
 refine callType_new F.called_zip (by decide) (F.typeCall_zip_2 _ _) (F.newCall_zip_2 _ _) (fun obj => F.args_object_init_3 obj _ _) F.entry_zip_new (ZQR b1 b2 l1 l2 us.toArray ws.toArray) ⟨o1, o2, ?_⟩
 have z1 : (zp1 b1 s.heap l1).objs.size = s.heap.objs.size + 1 := Heap.size_push ..
 have z2 : (zp2 b1 b2 s.heap l1 l2).objs.size = s.heap.objs.size + 2 := (Heap.size_push ..).trans (by rw [z1])
 have z3 : (zp3 b1 b2 s.heap l1 l2).objs.size = s.heap.objs.size + 3 := (Heap.size_push ..).trans (by rw [z2])
 have z4 : (zp4 b1 b2 s.heap l1 l2).objs.size = s.heap.objs.size + 4 := (Heap.size_push ..).trans (by rw [z3])
 have g5 : (zp5 b1 b2 s.heap l1 l2).get? (zp4 b1 b2 s.heap l1 l2).objs.size = some _ := Heap.get?_push_size _ rfl
 have g4 : (zp5 b1 b2 s.heap l1 l2).get? (zp3 b1 b2 s.heap l1 l2).objs.size = some _ := Heap.get?_push_of_some _ (Heap.get?_push_size _ rfl)
 have g3 : (zp5 b1 b2 s.heap l1 l2).get? (zp2 b1 b2 s.heap l1 l2).objs.size = some _ := Heap.get?_push_of_some _ (Heap.get?_push_of_some _ (Heap.get?_push_size _ rfl))
 have g2 : (zp5 b1 b2 s.heap l1 l2).get? (zp1 b1 s.heap l1).objs.size = some (ZMG b2 l2) := Heap.get?_push_of_some _ (Heap.get?_push_of_some _ (Heap.get?_push_of_some _ (Heap.get?_push_size _ rfl)))
 have g1 : (zp5 b1 b2 s.heap l1 l2).get? s.heap.objs.size = some (ZMG b1 l1) := Heap.get?_push_of_some _ (Heap.get?_push_of_some _ (Heap.get?_push_of_some _ (Heap.get?_push_of_some _ (Heap.get?_push_size _ rfl))))
 have keep : ∀ c o, s.heap.get? c = some o → (zp5 b1 b2 s.heap l1 l2).get? c = some o := fun c o x =>
  Heap.get?_push_of_some _ (Heap.get?_push_of_some _ (Heap.get?_push_of_some _ (Heap.get?_push_of_some _ (Heap.get?_push_of_some _ x))))
 rw [z1] at g2
 rw [z2, z1] at g3
 rw [z3] at g4
 rw [z4, z3, z2] at g5
 rw [z4]
 have sit : ∀ {b : Bool} {c l : Addr}, (zp5 b1 b2 s.heap l1 l2).get? c = some (ZMG b l) → SIt b (zp5 b1 b2 s.heap l1 l2) c l 0 := fun {b c l} e => by
  cases b with
  | true => exact ⟨_, e, rfl, rfl⟩
  | false => exact ⟨_, e, rfl, rfl⟩
 have I1 : Inv X pins σ H { s with heap := zp5 b1 b2 s.heap l1 l2, toks := s.toks } := I.kept keep
 have hl1 : l1 < s.heap.objs.size := o1.lt
 have hl2 : l2 < s.heap.objs.size := o2.lt
 have ne : ∀ {a b : Nat}, a < b → (a : Addr) ≠ b := fun h => Nat.ne_of_lt h
 have D : ZipApart (s.heap.objs.size + 4) (s.heap.objs.size + 2) (s.heap.objs.size + 3) s.heap.objs.size (s.heap.objs.size + 1) l1 l2 := by
  have hl1' : (l1 : Nat) < s.heap.objs.size := hl1
  have hl2' : (l2 : Nat) < s.heap.objs.size := hl2
  constructor
  all_goals first
   | exact Nat.ne_of_lt (by omega)
   | exact Nat.ne_of_gt (by omega)
   | exact Nat.ne_of_lt (Nat.lt_of_lt_of_le hl1' (by omega))
   | exact Nat.ne_of_lt (Nat.lt_of_lt_of_le hl2' (by omega))
 refine ⟨⟨_, g5, rfl⟩, wpAny_pyIter_zip g5 ⟨s.heap.objs.size + 4, [s.heap.objs.size + 4, s.heap.objs.size + 2, s.heap.objs.size + 3, s.heap.objs.size, s.heap.objs.size + 1], _, _, H, rfl, I1, ZTX b1 b2 _ _ _ _ _ l1 l2 D, ⟨g5, g3, ⟨_, _, g4⟩, sit g1, sit g2⟩, fun b hb => ?_, q⟩⟩
 have hle : s.heap.objs.size ≤ b := by
  simp only [List.mem_cons, List.not_mem_nil, or_false] at hb
  rcases hb with rfl | rfl | rfl | rfl | rfl
  ·exact Nat.le_add_right _ _
  ·exact Nat.le_add_right _ _
  ·exact Nat.le_add_right _ _
  ·exact Nat.le_refl _
  ·exact Nat.le_add_right _ _
 exact I.fpOk hle (I.hok.fresh hle)
def ZTZ (K : W.Frag) (vs : List V) (H : Hp) (R : It → Hp → Prop) : Prop := ∃ b1 b2 l1 l2 xs ys, vs = [.ref l1, .ref l2] ∧ SqB b1 K H l1 xs ∧ SqB b2 K H l2 ys ∧ R (Itz K b1 l1 b2 l2) H
def ZXt (K : W.Frag) (ta : TA) : TI := fun σ H R => ta σ H fun vs H1 => ZTZ K vs H1 R
theorem ZXu {a b : Expr} {t : TA} {p pos tpos : Pos} {es : List Expr} {kk : Nat} (K : W.Frag) (hK : X.K = K) (hg : Gl X "zip") (hm : X.mg "zip" = none) (ha : QA X [a, b] t) (hs : ZG3 a = false := by rfl) (hs2 : ZG3 b = false := by rfl) :
  QI X (.Tuple es kk tpos) (.Call (.Name "zip" p) [a, b] [] pos) (ZXt K t) := by
 subst hK
 refine ⟨?_⟩
 intro pins s σ H R I h
 refine Call_ (ZIR I hg hm ZXn (PyProof.Rows.callWith_type1 (thn (ha.h pos pins s σ H _ I h) fun us s1 ⟨vs, H1, I1, r1, q1⟩ => ?_) (by rw [ZGd hs, ZGd hs2]) (by rw [ZGd hs2]; rfl)))
 obtain ⟨b1, b2, l1, l2, xs, ys, e, g1, g2, q⟩ := q1
 subst e
 obtain ⟨u, v, rfl, ru, rv⟩ := r1.two
 cases ru
 cases rv
 exact ZTY I1 g1 g2 q
end
section
variable {K : W.Frag} {σ : St} {H : Hp} {D : ZGW}
theorem ZVo {ta : TA} {R : It → Hp → Prop} (h : ta σ H fun vs H1 => ZTZ K vs H1 R) : ZXt K ta σ H R := h
theorem ZXv {b1 b2 : Bool} {l1 l2 : Addr} {xs ys : List V} {R : It → Hp → Prop} (h1 : SqB b1 K H l1 xs) (h2 : SqB b2 K H l2 ys) (h : R (Itz K b1 l1 b2 l2) H) : ZTZ K [.ref l1, .ref l2] H R := ⟨b1, b2, l1, l2, xs, ys, rfl, h1, h2, h⟩
theorem ZVp {b1 b2 : Bool} {l1 l2 : Addr} {xs ys : List V} {g : TG} {tb : TS} (n : Nat) (hn : n = min xs.length ys.length) (Pv : Nat → St → Hp → Prop) (h0 : Pv 0 σ H) (hl : ∀ i σ H, Pv i σ H → SqB b1 K H l1 xs ∧ SqB b2 K H l2 ys)
  (hs : ∀ i σ H T H2 a b, i < n → Pv i σ H → xs[i]? = some a → ys[i]? = some b → H T = none → H2 T = some (.tup [a, b]) → ZFY H H2 → g (.ref T) σ H2 fun σ2 H3 => tb { D with nx := Pv (i + 1), ct := Pv (i + 1), bk := D.nx } σ2 H3)
  (hd : ∀ σ H, Pv n σ H → D.nx σ H) : rFor (Itz K b1 l1 b2 l2) g tb D σ H := by
 refine ⟨fun i m σ H => m = n - i ∧ i ≤ n ∧ Pv i σ H, ⟨n, by simp, Nat.zero_le _, h0⟩, ?_⟩
 rintro i m σ H ⟨rfl, hi, p⟩
 obtain ⟨q1, q2⟩ := hl i σ H p
 by_cases hlt : i < n
 ·refine .inr ⟨⟨xs, ys, q1, q2, by omega, by omega⟩, Pv (i + 1), fun σ' H' p' => ⟨n - (i + 1), by omega, rfl, hlt, p'⟩, ?_⟩
  rintro x H' ⟨T, a, b, hT, rfl, rfl, e1, e2⟩
  exact hs i σ H T _ a b hlt p (e1 _ q1) (e2 _ q2) hT ZFf (ZFY.new hT)
 ·have e : i = n := by omega
  subst e
  exact .inl ⟨⟨xs, ys, q1, q2, by omega⟩, hd σ H p⟩
end
section
variable {X : Cx}
def ZUb (K : W.Frag) : List V → Hp → VK → Prop := fun xs H Q => ∃ (p : Addr) (ns : List Int), xs = [.ref p] ∧ SqL K H p (ns.map V.int) ∧ ns ≠ [] ∧ ∀ m, m ∈ ns → (∀ n ∈ ns, m ≤ n) → Q (.int m) H
def ZUc (K : W.Frag) : List V → Hp → VK → Prop := fun xs H Q => ∃ (p : Addr) (ns : List Int), xs = [.ref p] ∧ SqL K H p (ns.map V.int) ∧ ns ≠ [] ∧ ∀ m, m ∈ ns → (∀ n ∈ ns, n ≤ m) → Q (.int m) H
theorem ZJj : ∀ {ns : List Int} {its : List Value}, ZFj (ns.map V.int) its → ∀ {i : Nat} {v : Value}, its[i]? = some v → ∃ t, v = .int (ns.getD i 0) t
 | [], _, .nil, i, v, e => by simp at e
 | n :: ns, _, .cons ⟨t, r⟩ h, 0, v, e => by simp at e; subst e; exact ⟨t, r⟩
 | n :: ns, _, .cons _ h, i + 1, v, e => by
  obtain ⟨t, r⟩ := ZJj h (i := i) (v := v) (by simpa using e)
  exact ⟨t, by simpa using r⟩
theorem ZVq (K : W.Frag) (hK : X.K = K) (hc : X.calm = true) : ZF5 X (.builtin "min") (ZUb K) := by
 subst hK
 intro pins s σ H xs us Q I r h
 obtain ⟨p, ns, rfl, hS, hne, q⟩ := h
 obtain ⟨u, rfl, ru⟩ := r.one
 cases ru
 obtain ⟨its, rv, pl, _⟩ := I.list hS
 have hlen : its.length = ns.length := by have := rv.length; simpa using this.symm
 have hpos : 0 < ns.length := List.length_pos_iff.mpr hne
 have hl : s.heap.IsList p its.toArray := pl.isList
 have hlt : p < s.heap.objs.size := by obtain ⟨_, e, _⟩ := hl; exact Heap.lt_size e
 refine call_min_walk (wpAny_pyIter_list hl ⟨_, _, _, _, _, _, _, rfl, Walks.list (A := X.A.in1) (I.ok.hd hc) _ p (Nat.ne_of_lt hlt) its.toArray, ⟨⟨_, Heap.get?_push_size _ rfl, rfl, rfl⟩, hl.push _⟩, fun b hb => ?_, by rw [List.size_toArray]; omega,
  CmpOf.ints_lt (fun i => ns.getD i 0) (fun i v e => ZJj rv (by simpa using e)), fun v h' tk hP hk => ?_⟩)
 ·rw [Heap.size_push]
  simp only [List.mem_cons, List.not_mem_nil, or_false] at hb
  rcases hb with rfl | rfl
  ·exact Nat.lt_succ_self _
  ·exact Nat.lt_succ_of_lt hlt
 ·have hP' : its[argBest (fun i j => decide (ns.getD i 0 < ns.getD j 0)) (its.length - 1)]? = some v := by simpa using hP
  obtain ⟨t, rfl⟩ := ZJj rv hP'
  obtain ⟨h1, h2⟩ := argBest_lt (fun i => ns.getD i 0) (its.toArray.size - 1)
  rw [List.size_toArray] at h1 h2
  generalize hb : argBest (fun i j => decide (ns.getD i 0 < ns.getD j 0)) (its.length - 1) = b at *
  have hbl : b < ns.length := by omega
  refine ⟨.int (ns.getD b 0), H, I.kept (t' := tk) fun c o e => hk c o ?_ (Heap.get?_push_of_some _ e), ⟨t, rfl⟩, q _ ?_ fun n hn => ?_⟩
  ·intro z; simp at z; exact Nat.ne_of_lt (Heap.lt_size e) z
  ·have : ns.getD b 0 = ns[b] := by simp [hbl]
   rw [this]; exact List.getElem_mem hbl
  ·obtain ⟨j, hj, e⟩ := List.getElem_of_mem hn
   have := h2 j (by omega)
   have e2 : ns.getD j 0 = n := by simp [hj, e]
   rw [e2] at this
   exact this
theorem ZVr (K : W.Frag) (hK : X.K = K) (hc : X.calm = true) : ZF5 X (.builtin "max") (ZUc K) := by
 subst hK
 intro pins s σ H xs us Q I r h
 obtain ⟨p, ns, rfl, hS, hne, q⟩ := h
 obtain ⟨u, rfl, ru⟩ := r.one
 cases ru
 obtain ⟨its, rv, pl, _⟩ := I.list hS
 have hlen : its.length = ns.length := by have := rv.length; simpa using this.symm
 have hpos : 0 < ns.length := List.length_pos_iff.mpr hne
 have hl : s.heap.IsList p its.toArray := pl.isList
 have hlt : p < s.heap.objs.size := by obtain ⟨_, e, _⟩ := hl; exact Heap.lt_size e
 refine call_max_walk (wpAny_pyIter_list hl ⟨_, _, _, _, _, _, _, rfl, Walks.list (A := X.A.in1) (I.ok.hd hc) _ p (Nat.ne_of_lt hlt) its.toArray, ⟨⟨_, Heap.get?_push_size _ rfl, rfl, rfl⟩, hl.push _⟩, fun b hb => ?_, by rw [List.size_toArray]; omega,
  CmpOf.ints_gt (fun i => ns.getD i 0) (fun i v e => ZJj rv (by simpa using e)), fun v h' tk hP hk => ?_⟩)
 ·rw [Heap.size_push]
  simp only [List.mem_cons, List.not_mem_nil, or_false] at hb
  rcases hb with rfl | rfl
  ·exact Nat.lt_succ_self _
  ·exact Nat.lt_succ_of_lt hlt
 ·have hP' : its[argBest (fun i j => decide (ns.getD i 0 > ns.getD j 0)) (its.length - 1)]? = some v := by simpa using hP
  obtain ⟨t, rfl⟩ := ZJj rv hP'
  obtain ⟨h1, h2⟩ := argBest_gt (fun i => ns.getD i 0) (its.toArray.size - 1)
  rw [List.size_toArray] at h1 h2
  generalize hb : argBest (fun i j => decide (ns.getD i 0 > ns.getD j 0)) (its.length - 1) = b at *
  have hbl : b < ns.length := by omega
  refine ⟨.int (ns.getD b 0), H, I.kept (t' := tk) fun c o e => hk c o ?_ (Heap.get?_push_of_some _ e), ⟨t, rfl⟩, q _ ?_ fun n hn => ?_⟩
  ·intro z; simp at z; exact Nat.ne_of_lt (Heap.lt_size e) z
  ·have : ns.getD b 0 = ns[b] := by simp [hbl]
   rw [this]; exact List.getElem_mem hbl
  ·obtain ⟨j, hj, e⟩ := List.getElem_of_mem hn
   have := h2 j (by omega)
   have e2 : ns.getD j 0 = n := by simp [hj, e]
   rw [e2] at this
   exact this
theorem ZVs {K : W.Frag} {H : Hp} {Q : VK} {p : Addr} {ns : List Int} (h1 : SqL K H p (ns.map V.int)) (h2 : ns ≠ []) (h : ∀ m, m ∈ ns → (∀ n ∈ ns, m ≤ n) → Q (.int m) H) : ZUb K [.ref p] H Q := ⟨p, ns, rfl, h1, h2, h⟩
theorem ZVt {K : W.Frag} {H : Hp} {Q : VK} {p : Addr} {ns : List Int} (h1 : SqL K H p (ns.map V.int)) (h2 : ns ≠ []) (h : ∀ m, m ∈ ns → (∀ n ∈ ns, n ≤ m) → Q (.int m) H) : ZUc K [.ref p] H Q := ⟨p, ns, rfl, h1, h2, h⟩
end
def Bn (n : Nat) (x : Int) : Prop := x.natAbs < 2 ^ n
theorem Bn.mono {m n : Nat} {x : Int} (h : Bn m x) (hm : m ≤ n) : Bn n x := Nat.lt_of_lt_of_le h (Nat.pow_le_pow_right (by decide) hm)
theorem Bn.mul {m n : Nat} {x y : Int} (h : Bn m x) (g : Bn n y) : Bn (m + n) (x * y) := by
 unfold Bn at *
 rw [Int.natAbs_mul, Nat.pow_add]
 exact Nat.mul_lt_mul'' h g
theorem Bn.add {n : Nat} {x y : Int} (h : Bn n x) (g : Bn n y) : Bn (n + 1) (x + y) := by
 unfold Bn at *
 have := Int.natAbs_add_le x y
 rw [Nat.pow_succ]
 omega
theorem Bn.sub {n : Nat} {x y : Int} (h : Bn n x) (g : Bn n y) : Bn (n + 1) (x - y) := by
 unfold Bn at *
 have := Int.natAbs_sub_le x y
 rw [Nat.pow_succ]
 omega
theorem Bn.lt {n : Nat} {x : Int} (h : Bn n x) : -(2 ^ n) < x ∧ x < 2 ^ n := by
 have e : ((2 ^ n : Nat) : Int) = (2 : Int) ^ n := by simp
 have : (x.natAbs : Int) < ((2 ^ n : Nat) : Int) := Int.ofNat_lt.mpr h
 rw [e] at this
 omega
theorem ZMH {m n : Nat} {x y : Int} (h : Bn m x) (g : Bn n y) (hm : m + n ≤ 8000) : IntMulOk x y := by
 have h1 : Builtin.Int.intBits x ≤ m := intBits_le h
 have h2 : Builtin.Int.intBits y ≤ n := intBits_le g
 unfold IntMulOk
 have : Builtin.Int.intTooBig ((Builtin.Int.intBits x : Int) + (Builtin.Int.intBits y : Int)) = false := by
  unfold Builtin.Int.intTooBig
  refine decide_eq_false ?_
  have hb : (8000 : Int) ≤ bitsLine := by decide
  omega
 rw [this]
 simp
theorem Bn.divB {n : Nat} {i j : Int} (h : Bn n j) (h0 : 0 < j) (hn : n ≤ 8000) : ZJB i j := ZJB.of h0 h.lt.2 (by omega)
inductive ZHM (H : Hp) : V → Option (Int × Int) → Prop where
 | non : ZHM H .non Option.none
 | pr {c : Addr} {p : Int × Int} (e : H c = Option.some (.tup [.int p.1, .int p.2])) : ZHM H (.ref c) (Option.some p)
theorem ZHM.same {H H' : Hp} {v : V} {o : Option (Int × Int)} (h : ZHM H v o) (s : ZFY H H') : ZHM H' v o := by
 cases h with
 | non => exact .non
 | pr e => exact .pr (s _ _ e)
theorem ZHM.kpL {H H' : Hp} {l : Addr} {xs : List V} {v : V} {o : Option (Int × Int)} (h : ZHM H v o) (k : Kp l H H') (hl : H l = Option.some (.lst xs)) : ZHM H' v o := by
 cases h with
 | non => exact .non
 | pr e => exact .pr (k _ _ e (fun z => by subst z; rw [hl] at e; cases e))
inductive ZGq (H : Hp) : List V → List (Option (Int × Int)) → Prop where
 | nil : ZGq H [] []
 | cons {v : V} {o : Option (Int × Int)} {vs : List V} {os : List (Option (Int × Int))} (h : ZHM H v o) (t : ZGq H vs os) : ZGq H (v :: vs) (o :: os)
theorem ZGq.mapP {H H' : Hp} (f : ∀ v o, ZHM H v o → ZHM H' v o) : ∀ {vs : List V} {os : List (Option (Int × Int))}, ZGq H vs os → ZGq H' vs os
 | _, _, .nil => .nil
 | _, _, .cons h t => .cons (f _ _ h) (ZGq.mapP f t)
theorem ZGq.same {H H' : Hp} {vs : List V} {os : List (Option (Int × Int))} (h : ZGq H vs os) (s : ZFY H H') : ZGq H' vs os := h.mapP fun _ _ d => d.same s
theorem ZGq.len {H : Hp} : ∀ {vs : List V} {os : List (Option (Int × Int))}, ZGq H vs os → vs.length = os.length
 | _, _, .nil => rfl
 | _, _, .cons _ t => by simp [ZGq.len t]
theorem ZGq.snoc {H : Hp} : ∀ {vs : List V} {os : List (Option (Int × Int))}, ZGq H vs os → ∀ {v : V} {o : Option (Int × Int)}, ZHM H v o → ZGq H (vs ++ [v]) (os ++ [o])
 | _, _, .nil, _, _, d => .cons d .nil
 | _, _, .cons h t, _, _, d => .cons h (ZGq.snoc t d)
theorem ZGq.at {H : Hp} : ∀ {vs : List V} {os : List (Option (Int × Int))}, ZGq H vs os → ∀ {i : Nat} {v : V}, vs[i]? = Option.some v → ∃ o, os[i]? = Option.some o ∧ ZHM H v o
 | _, _, .nil, i, v, e => by simp at e
 | _, _, .cons h t, 0, v, e => by simp at e; subst e; exact ⟨_, rfl, h⟩
 | _, _, .cons _ t, i + 1, v, e => by
  obtain ⟨o, h1, h2⟩ := ZGq.at t (by simpa using e)
  exact ⟨o, by simpa using h1, h2⟩
section
variable {X : Cx}
def ZOL : V → List V → Hp → VK → Prop := fun x vs H Q => ∃ l b xs zs, x = .ref l ∧ vs = [.ref b] ∧ H l = some (.lst xs) ∧ H b = some (.tup zs) ∧ (∀ i : Int, zs.head? ≠ some (.int i)) ∧ xs.length + zs.length ≤ sizeLine ∧ Q .non (upd H l (.lst (xs ++ zs)))
theorem ZQS : MtM X "list.extend" ZOL := by
 intro pins s σ H x vs v us Q I rx rv h
 obtain ⟨l, b, xs, zs, rfl, rfl, hH, hB, hh, hz, q⟩ := h
 cases rx
 obtain ⟨u, rfl, ru⟩ := rv.one
 cases ru
 obtain ⟨z, its, n, r, hl, e⟩ := I.lstM hH
 obtain ⟨⟨_, hpd⟩, its2, r2, ht⟩ := (show ZFz X.prog X.w H s.heap b (.tup zs) from I.hok b _ hB)
 obtain ⟨od, hod, hd, hsl⟩ := hpd hh
 obtain ⟨ob, hob, hc, n2, hdat⟩ := ht
 rw [hod] at hob
 cases hob
 have hl2 := r2.length
 have e2 : s.heap.get? b = some { cls := .type "tuple", dict := none, data := .seq its2.toArray n2, slots := #[] } := by
  rw [hod]
  obtain ⟨c, d, dt, sl⟩ := od
  simp only at hc hd hdat hsl
  subst hc hd hdat hsl
  rfl
 have hsz : its.toArray.size + its2.toArray.size ≤ sizeLine := by rw [List.size_toArray, List.size_toArray]; omega
 have hlong : ¬ (!its.toArray.isEmpty && Builtin.List.listTooLong (its.toArray.size + its2.toArray.size)) = true := by
  rw [ZSw hsz, Bool.and_false]
  exact Bool.false_ne_true
 refine call_meets F.slot_list_extend ⟨_, e, rfl⟩ F.entry_list_extend (F.args_list_extend_2 _ _)
  (AutoSeq1.list_extend_list_tuple_0 l its.toArray n b its2.toArray n2 hlong (by rw [List.size_toArray]; omega) (by omega)) ⟨e, e2, ?_⟩
 refine ⟨.non, _, I.lset (its' := its ++ its2) hH e (by simp) (r.append r2) ?_, rfl, q⟩
 rw [List.length_append]
 omega
theorem ZQT {H : Hp} {Q : VK} {l b : Addr} {xs zs : List V} (h1 : H l = some (.lst xs)) (h2 : H b = some (.tup zs)) (h3 : ∀ i : Int, zs.head? ≠ some (.int i)) (hz : xs.length + zs.length ≤ sizeLine) (h : ∀ H2, H2 l = some (.lst (xs ++ zs)) → Kp l H H2 → Q .non H2) : ZOL (.ref l) [.ref b] H Q :=
 ⟨l, b, xs, zs, rfl, rfl, h1, h2, h3, hz, h _ ZFf Kp.upd⟩
end
inductive ZGC (H : Hp) : V → Option (PL) → Prop where
 | non : ZGC H .non Option.none
 | pr {c : Addr} {qs : PL} (h : PrT H c qs) (hl : qs.length = 4) : ZGC H (.ref c) (Option.some qs)
theorem ZGC.same {H H' : Hp} {v : V} {o : Option (PL)} (h : ZGC H v o) (s : ZFY H H') : ZGC H' v o := by
 cases h with
 | non => exact .non
 | pr e hl => exact .pr (e.same s) hl
theorem ZGC.kpL {H H' : Hp} {l : Addr} {xs : List V} {v : V} {o : Option (PL)} (h : ZGC H v o) (k : Kp l H H') (hl : H l = Option.some (.lst xs)) : ZGC H' v o := by
 cases h with
 | non => exact .non
 | pr e hn => exact .pr (e.kpL k hl) hn
inductive ZGQ (H : Hp) : List V → List (Option (PL)) → Prop where
 | nil : ZGQ H [] []
 | cons {v : V} {o : Option (PL)} {vs : List V} {os : List (Option (PL))} (h : ZGC H v o) (t : ZGQ H vs os) : ZGQ H (v :: vs) (o :: os)
theorem ZGQ.mapP {H H' : Hp} (f : ∀ v o, ZGC H v o → ZGC H' v o) : ∀ {vs : List V} {os : List (Option (PL))}, ZGQ H vs os → ZGQ H' vs os
 | _, _, .nil => .nil
 | _, _, .cons h t => .cons (f _ _ h) (ZGQ.mapP f t)
theorem ZGQ.same {H H' : Hp} {vs : List V} {os : List (Option (PL))} (h : ZGQ H vs os) (s : ZFY H H') : ZGQ H' vs os := h.mapP fun _ _ d => d.same s
theorem ZGQ.len {H : Hp} : ∀ {vs : List V} {os : List (Option (PL))}, ZGQ H vs os → vs.length = os.length
 | _, _, .nil => rfl
 | _, _, .cons _ t => by simp [ZGQ.len t]
theorem ZGQ.snoc {H : Hp} : ∀ {vs : List V} {os : List (Option (PL))}, ZGQ H vs os → ∀ {v : V} {o : Option (PL)}, ZGC H v o → ZGQ H (vs ++ [v]) (os ++ [o])
 | _, _, .nil, _, _, d => .cons d .nil
 | _, _, .cons h t, _, _, d => .cons h (ZGQ.snoc t d)
theorem ZGQ.at {H : Hp} : ∀ {vs : List V} {os : List (Option (PL))}, ZGQ H vs os → ∀ {i : Nat} {v : V}, vs[i]? = Option.some v → ∃ o, os[i]? = Option.some o ∧ ZGC H v o
 | _, _, .nil, i, v, e => by simp at e
 | _, _, .cons h t, 0, v, e => by simp at e; subst e; exact ⟨_, rfl, h⟩
 | _, _, .cons _ t, i + 1, v, e => by
  obtain ⟨o, h1, h2⟩ := ZGQ.at t (by simpa using e)
  exact ⟨o, by simpa using h1, h2⟩
section
variable {X : Cx}
mutual
theorem Dat.same {K : W.Frag} {H H' : Hp} (s : ZFY H H') : ∀ {x : V} {d : PyData}, Dat K H x d → Dat K H' x d
 | _, _, .non => .non
 | _, _, .bl b => .bl b
 | _, _, .int i => .int i
 | _, _, .str x => .str x
 | _, _, .tup h r => .tup (s.seqT h) (ZHW.same s r)
 | _, _, .lst h r => .lst (s.seq h) (ZHW.same s r)
theorem ZHW.same {K : W.Frag} {H H' : Hp} (s : ZFY H H') : ∀ {x : List V} {d : List PyData}, ZHW K H x d → ZHW K H' x d
 | _, _, .nil => .nil
 | _, _, .cons h r => .cons (Dat.same s h) (ZHW.same s r)
end
end
section
variable {X : Cx} {k : Nat} {f : Addr} {fd : FuncData} {ps : List Str} {sp : Sp}
theorem ZK5 {pins : List (Addr × Obj)} {σ : St} {H : Hp} {s : Shared} {Q : VK} {us : List Value} {vs : List V} {E1 : Value → Shared → Prop} (F : ZFc X.prog X.w X.K X.mg X.base CX0 k f fd ps sp) (hr : Room k X.A.in1) (hb : ZFZ X.K fd ps [])
  (I : Inv X pins σ H s) (r : ZFj vs us) (h : sp vs H Q E0) : wpAny (model X.prog X.w) X.A.in1 (call (.ref f) us) (EP X pins σ Q) E1 s := by
 have hl : (us ++ []).length = ps.length := by rw [List.append_nil, ← r.length]; exact F.len _ _ _ _ h
 refine wpAny_call (codeAny_mono (F.run X.A.in1 X.stack s H ⟨us, []⟩ (us ++ []) vs Q E0 hr I.env0.in1 (hb s us I.kIn hl) (by rw [List.append_nil]; exact r) h) fun r s' hq => ?_)
 cases r with
 | error e => exact False.elim hq
 | ok fl =>
  cases fl with
  | ret u => exact I.after hq
  | next => exact False.elim hq
  | brk => exact False.elim hq
  | cont => exact False.elim hq
theorem Inv.pin2 {pins : List (Addr × Obj)} {σ : St} {H : Hp} {s : Shared} {a b : Addr} {oa ob : Obj} (I : Inv X pins σ H s) (fa : ZGz X pins H a) (fb : ZGz X pins H b) (ha : s.heap.get? a = some oa) (hb : s.heap.get? b = some ob) (ca : ∀ v, oa.data ≠ .cell v) (cb : ∀ v, ob.data ≠ .cell v) :
  Inv X ((a, oa) :: (b, ob) :: pins) σ H s := I.pins_of fun p hp => by
 rcases List.mem_cons.mp hp with rfl | hp
 ·exact ⟨ha, fa.1, fa.2.1, fa.2.2.1, ca⟩
 ·rcases List.mem_cons.mp hp with rfl | hp
  ·exact ⟨hb, fb.1, fb.2.1, fb.2.2.1, cb⟩
  ·exact I.pin p (List.mem_append_right _ hp)
theorem Inv.unpin2 {pins : List (Addr × Obj)} {σ : St} {H : Hp} {s : Shared} {a b : Addr} {oa ob : Obj} (I : Inv X ((a, oa) :: (b, ob) :: pins) σ H s) : s.heap.get? a = some oa ∧ s.heap.get? b = some ob ∧ Inv X pins σ H s :=
 ⟨(I.pin (a, oa) (List.mem_append_right _ (.head _))).1, (I.pin (b, ob) (List.mem_append_right _ (.tail _ (.head _)))).1, I.pins_of fun p hp => I.pin p (List.mem_append_right _ (.tail _ (.tail _ hp)))⟩
theorem Inv.turnedAt {pins : List (Addr × Obj)} {σ : St} {H : Hp} {s : Shared} {h' : Heap} {t' : Nat} {it : Addr} (I : Inv X pins σ H s) (fa : ZGz X pins H it) (k : ∀ b o, b ≠ it → s.heap.get? b = some o → h'.get? b = some o) : Inv X pins σ H { s with heap := h', toks := t' } := by
 obtain ⟨f0, f1, f2, f3, f4, f5⟩ := fa
 exact I.turned k f0 f1 f3 f4 f5
theorem ZNS {pins : List (Addr × Obj)} {σ : St} {H : Hp} (hc : X.calm = true) (F : ZFc X.prog X.w X.K X.mg X.base CX0 k f fd ps sp) (hr : Room k X.A.in1) (hb : ZFZ X.K fd ps []) {l I S : Addr} {us : List V} (kf : Nat → Int) (hSI : S ≠ I) (hS : SqT X.K H l us)
  (fI : ZGz X pins H I) (fS : ZGz X pins H S) (turn : ∀ i v, us[i]? = some v → ∀ Q : VK, Q (.int (kf i)) H → sp [v] H Q E0) {R : Result → Shared → Prop}
  (hR : ∀ i v u s', us[i]? = some v → ZFl v u → (∀ j, j < us.length → kf i ≤ kf j ∧ (j < i → kf i < kf j)) → Inv X pins σ H s' → R (.ok (.ret u)) s') :
  ∀ (r j i : Nat) (s : Shared) (v : V) (vb : Value) (tb : Tok) (c : Nat), us.length - (j + 1) = r → j + 1 ≤ us.length → Inv X pins σ H s → s.heap.get? S = some (seqObj "list" #[vb, .int (kf i) tb] c) → s.heap.IsTupleIter I l (j + 1) →
   us[i]? = some v → ZFl v vb → i ≤ j → (∀ j', j' ≤ j → kf i ≤ kf j' ∧ (j' < i → kf i < kf j')) →
   codeAny (model X.prog X.w) X.A (.builtin "min.loop" ⟨[.ref I, .ref f, .ref S], []⟩) R s := by
 have hname : (toString "min" ++ toString ".loop" : String) = "min.loop" := by decide
 intro r
 induction r with
 | zero =>
  intro j i s v vb tb c hr' hj J nS hit hv rv hij hbest
  have hin : j + 1 = us.length := by omega
  obtain ⟨its, rvs, p, hz⟩ := J.tuple hS
  have hl := rvs.length
  refine codeAny_builtin PySem.F.entry_min_loop ?_
  rw [Around.under_plainId PySem.F.plain_min_loop _]
  show wpAny _ X.A.in1 (seqItems? (.ref S) >>= _) _ _ _
  refine wpAny_bind (wpAny_seqItems nS rfl ?_)
  show wpAny _ X.A.in1 (tryCatch (pyNext (.ref I)) _ >>= _) _ _ _
  refine wpAny_bind (wpAny_tryCatch (wpAny_pyNext_tuple_end (J.ok.hd hc) hit (show s.heap.IsTuple l its.toArray from p) (by simp; omega) fun h' eb => ?_))
  have J1 : Inv X pins σ H { s with heap := h' } := J.turnedAt (t' := s.toks) fI fun b o hb e => eb b o hb e
  have hS' : h'.get? S = some (seqObj "list" #[vb, .int (kf i) tb] c) := eb S _ hSI nS
  show wpAny _ X.A.in1 (updateSeq S (fun _ => #[]) >>= _) _ _ _
  refine wpAny_bind ?_
  refine wpAny_updateSeq hS' rfl (wpAny_bind (wpAny_letGo (wpAny_pure ?_)))
  exact hR i v vb _ hv rv (fun j' hj' => hbest j' (by omega)) (J1.turnedAt (t' := s.toks) fS fun b o hb e => (Heap.get?_update_other _ _ (Ne.symm hb)).trans e)
 | succ r ih =>
  intro j i s v vb tb c hr' hj J nS hit hv rv hij hbest
  have hlt : j + 1 < us.length := by omega
  obtain ⟨its, rvs, p, hz⟩ := J.tuple hS
  have hx : us[j + 1]? = some us[j + 1] := List.getElem?_eq_getElem hlt
  obtain ⟨u, hu, ru⟩ := rvs.get hx
  refine codeAny_builtin PySem.F.entry_min_loop ?_
  rw [Around.under_plainId PySem.F.plain_min_loop _]
  show wpAny _ X.A.in1 (seqItems? (.ref S) >>= _) _ _ _
  refine wpAny_bind (wpAny_seqItems nS rfl ?_)
  show wpAny _ X.A.in1 (tryCatch (pyNext (.ref I)) _ >>= _) _ _ _
  refine wpAny_bind (wpAny_tryCatch (wpAny_pyNext_tuple_item hit (show s.heap.IsTuple l its.toArray from p) (x := u) (by simpa using hu) fun h' st' sb => ?_))
  have J1 : Inv X pins σ H { s with heap := h' } := J.turnedAt (t' := s.toks) fI fun b o hb e => (sb.2 b hb).trans e
  have hS' : h'.get? S = some (seqObj "list" #[vb, .int (kf i) tb] c) := (sb.2 S hSI).trans nS
  obtain ⟨oI, hoI, hoc, hod⟩ := id st'
  have J2 := J1.pin2 (s := { s with heap := h' }) fS fI hS' hoI (fun v z => by cases z) (fun v z => by rw [hod] at z; cases z)
  show wpAny _ X.A.in1 (tryCatch (holding [u] (call (.ref f) [u])) _ >>= _) _ _ _
  refine wpAny_bind (wpAny_tryCatch (wpAny_holding (wpAny_mono (ZK5 (E1 := fun _ _ => False) F hr hb J2 (.cons ru .nil) (turn (j + 1) _ hx (fun v H' => v = .int (kf (j + 1)) ∧ H' = H) ⟨rfl, rfl⟩)) (fun x s'' he => ?_) fun _ _ hF => hF.elim)))
  obtain ⟨v2, H2, J3, r2, e2, e3⟩ := he
  subst e2 e3
  obtain ⟨t2, rfl⟩ := r2
  obtain ⟨nS2, nI2, J4⟩ := J3.unpin2
  have hit2 : s''.heap.IsTupleIter I l (j + 1 + 1) := ⟨oI, nI2, hoc, hod⟩
  show wpAny _ X.A.in1 (tryCatch (holding [u, .int (kf (j + 1)) t2] (richCompare .Lt (.int (kf (j + 1)) t2) (.int (kf i) tb) >>= _)) _ >>= _) _ _ _
  refine wpAny_bind (wpAny_tryCatch (wpAny_holding (wpAny_bind (CmpOf.ints_lt (prog := X.prog) (w := X.w) (A := X.A.in1) (P := fun i v => ∃ t, v = .int (kf i) t) kf (fun i v h => h) (j + 1) i _ _ _ _ _ ⟨t2, rfl⟩ ⟨tb, rfl⟩ ?_))))
  refine wpAny_bind (wpAny_holding (wpAny_truthy_bool ?_))
  refine wpAny_bind (wpAny_letGo (wpAny_pure ?_))
  by_cases hb' : kf (j + 1) < kf i
  ·obtain ⟨c2, hc2⟩ : ∃ c2, (s''.heap.update S (Obj.mapSeq fun _ => #[u, .int (kf (j + 1)) t2])).get? S = some (seqObj "list" #[u, .int (kf (j + 1)) t2] c2) := ⟨_, get?_update_seq nS2 fun _ => #[u, .int (kf (j + 1)) t2]⟩
   simp only [hb', decide_true, if_true]
   refine wpAny_bind ?_
   refine wpAny_updateSeq nS2 rfl (wpAny_bind (wpAny_letGo ?_))
   rw [hname]
   refine wpAny_pure ⟨plainId_quiet PySem.F.plain_min_loop _, ih (j + 1) (j + 1) _ _ u t2 c2 (by omega) hlt (J4.turnedAt (t' := s''.toks) fS fun b o hb e => (Heap.get?_update_other _ _ (Ne.symm hb)).trans e) hc2 ⟨oI, (Heap.get?_update_other _ _ hSI).trans nI2, hoc, hod⟩ hx ru (Nat.le_refl _) fun j' hj' => ?_⟩
   by_cases e : j' = j + 1
   ·subst e
    exact ⟨by omega, fun _ => by omega⟩
   ·have hb1 := hbest j' (by omega)
    have hb2 := hb1.1
    exact ⟨by omega, fun _ => by omega⟩
  ·simp only [hb', decide_false, Bool.false_eq_true, if_false]
   refine wpAny_bind (wpAny_letGo ?_)
   rw [hname]
   refine wpAny_pure ⟨plainId_quiet PySem.F.plain_min_loop _, ih (j + 1) i _ v vb tb c (by omega) hlt J4 nS2 hit2 hv rv (by omega) fun j' hj' => ?_⟩
   by_cases e : j' = j + 1
   ·subst e
    exact ⟨by omega, fun _ => by omega⟩
   ·exact hbest j' (by omega)
theorem ZNT {pins : List (Addr × Obj)} {σ : St} {H : Hp} {s : Shared} {Q : VK} {E1 : Value → Shared → Prop} (hc : X.calm = true) (F : ZFc X.prog X.w X.K X.mg X.base CX0 k f fd ps sp) (hr : Room k X.A.in1) (hb : ZFZ X.K fd ps []) {l : Addr} {us : List V} (kf : Nat → Int) (J : Inv X pins σ H s) (hS : SqT X.K H l us) (hne : us ≠ [])
  (turn : ∀ i v, us[i]? = some v → ∀ Q : VK, Q (.int (kf i)) H → sp [v] H Q E0) (hQ : ∀ i v, us[i]? = some v → (∀ j, j < us.length → kf i ≤ kf j ∧ (j < i → kf i < kf j)) → Q v H) :
  wpAny (model X.prog X.w) X.A (call (.builtin "min") [.ref l] [(Str.ofString "key", .ref f)]) (EP X pins σ Q) E1 s := by
 have hname : (toString "min" ++ toString ".loop" : String) = "min.loop" := by decide
 have hpos : 0 < us.length := List.length_pos_iff.mpr hne
 obtain ⟨its, rvs, p, hz⟩ := J.tuple hS
 have hls : s.heap.IsTuple l its.toArray := p
 refine kmk_tree PySem.F.kind_min PySem.F.plain_min PySem.F.entry_min (kmk_min_key _ _) ?_
 show wpAny _ X.A.in1 (Builtin.Builtins.bindParams "min" ["key", "default"] 0 ⟨[], [(Str.ofString "key", .ref f)]⟩ >>= _) _ _ s
 refine wpAny_bind (wpAny_of_eq (show Builtin.Builtins.bindParams "min" ["key", "default"] 0 ⟨[], [(Str.ofString "key", .ref f)]⟩ = pure [some (.ref f), none] from rfl) ?_)
 refine wpAny_bind (wpAny_pure ?_)
 refine wpAny_bind (wpAny_pyIter_tuple hls ?_)
 refine wpAny_bind (wpAny_newList ?_ (Nat.zero_le _))
 rw [hname]
 refine wpAny_pure ⟨plainId_quiet PySem.F.plain_min_loop _, ?_⟩
 generalize hO : ({ cls := .type "tuple_iterator", data := .fields #[.ref l, .int 0 0] } : Obj) = O
 have hSs : (s.heap.push O).objs.size = s.heap.objs.size + 1 := size_push' ..
 have hSI : (s.heap.push O).objs.size ≠ s.heap.objs.size := by rw [hSs]; exact Nat.ne_of_gt (Nat.lt_succ_self _)
 have gI : ((s.heap.push O).push (seqObj "list" #[] 0)).get? s.heap.objs.size = some O := Heap.get?_push_of_some _ (Heap.get?_push_size _ (by rw [← hO]; rfl))
 have gS : ((s.heap.push O).push (seqObj "list" #[] 0)).get? (s.heap.push O).objs.size = some (seqObj "list" #[] 0) := Heap.get?_push_size _ rfl
 have fI : ZGz X pins H s.heap.objs.size := J.fpOk (Nat.le_refl _) (J.hok.fresh (Nat.le_refl _))
 have fS : ZGz X pins H (s.heap.push O).objs.size := J.fpOk (by rw [hSs]; exact Nat.le_succ _) (J.hok.fresh (by rw [hSs]; exact Nat.le_succ _))
 have J0 : Inv X pins σ H { s with heap := (s.heap.push O).push (seqObj "list" #[] 0) } := J.kept (t' := s.toks) fun b o e => Heap.get?_push_of_some _ (Heap.get?_push_of_some _ e)
 obtain ⟨its0, rvs0, p0, hz0⟩ := J0.tuple hS
 have hx : us[0]? = some us[0] := List.getElem?_eq_getElem hpos
 obtain ⟨u, hu, ru⟩ := rvs0.get hx
 refine codeAny_builtin PySem.F.entry_min_loop ?_
 rw [Around.under_plainId PySem.F.plain_min_loop _]
 show wpAny _ X.A.in1 (seqItems? (.ref _) >>= _) _ _ _
 refine wpAny_bind (wpAny_seqItems gS rfl ?_)
 show wpAny _ X.A.in1 (tryCatch (pyNext (.ref s.heap.objs.size)) _ >>= _) _ _ _
 refine wpAny_bind (wpAny_tryCatch (wpAny_pyNext_tuple_item (s := { s with heap := (s.heap.push O).push (seqObj "list" #[] 0) }) (i := 0) ⟨O, gI, by rw [← hO], by rw [← hO]; rfl⟩ (show ((s.heap.push O).push (seqObj "list" #[] 0)).IsTuple l its0.toArray from p0) (x := u) (by simpa using hu) fun h' st' sb => ?_))
 have J1 : Inv X pins σ H { s with heap := h' } := J0.turnedAt (t' := s.toks) fI fun b o hb e => (sb.2 b hb).trans e
 have hS' : h'.get? (s.heap.push O).objs.size = some (seqObj "list" #[] 0) := (sb.2 _ hSI).trans gS
 obtain ⟨oI, hoI, hoc, hod⟩ := id st'
 have J2 := J1.pin2 (s := { s with heap := h' }) fS fI hS' hoI (fun v z => by cases z) (fun v z => by rw [hod] at z; cases z)
 show wpAny _ X.A.in1 (tryCatch (holding [u] (call (.ref f) [u])) _ >>= _) _ _ _
 refine wpAny_bind (wpAny_tryCatch (wpAny_holding (wpAny_mono (ZK5 (E1 := fun _ _ => False) F hr hb J2 (.cons ru .nil) (turn 0 _ hx (fun v H' => v = .int (kf 0) ∧ H' = H) ⟨rfl, rfl⟩)) (fun x s'' he => ?_) fun _ _ hF => hF.elim)))
 obtain ⟨v2, H2, J3, r2, e2, e3⟩ := he
 subst e2 e3
 obtain ⟨t2, rfl⟩ := r2
 obtain ⟨nS2, nI2, J4⟩ := J3.unpin2
 obtain ⟨c2, hc2⟩ : ∃ c2, (s''.heap.update (s.heap.push O).objs.size (Obj.mapSeq fun _ => #[u, .int (kf 0) t2])).get? (s.heap.push O).objs.size = some (seqObj "list" #[u, .int (kf 0) t2] c2) := ⟨_, get?_update_seq nS2 fun _ => #[u, .int (kf 0) t2]⟩
 show wpAny _ X.A.in1 (updateSeq (s.heap.push O).objs.size (fun _ => #[u, .int (kf 0) t2]) >>= _) _ _ _
 refine wpAny_bind ?_
 refine wpAny_updateSeq nS2 rfl ?_
 rw [hname]
 refine wpAny_pure ⟨plainId_quiet PySem.F.plain_min_loop _, ZNS hc F hr hb kf hSI hS fI fS turn (fun i v u s' hv rv hbest J' => ⟨v, _, J', rv, hQ i v hv hbest⟩) _ 0 0 _ _ u t2 c2 rfl hpos (J4.turnedAt (t' := s''.toks) fS fun b o hb e => (Heap.get?_update_other _ _ (Ne.symm hb)).trans e) hc2 ⟨oI, (Heap.get?_update_other _ _ hSI).trans nI2, hoc, hod⟩ hx ru (Nat.le_refl _) fun j' hj' => ?_⟩
 have e : j' = 0 := by omega
 subst e
 exact ⟨by omega, fun h => absurd h (Nat.lt_irrefl _)⟩
def ZLc (K : W.Frag) (sp : Sp) (vs : List V) (H : Hp) (Q : VK) : Prop := ∃ (l : Addr) (us : List V) (kf : Nat → Int), vs = [.ref l] ∧ SqT K H l us ∧ us ≠ [] ∧ (∀ i v, us[i]? = some v → ∀ Q : VK, Q (.int (kf i)) H → sp [v] H Q E0) ∧
 ∀ i v, us[i]? = some v → (∀ j, j < us.length → kf i ≤ kf j ∧ (j < i → kf i < kf j)) → Q v H
def ZOM (K : W.Frag) (sp : Sp) (t : TA) : TE := fun σ H Q => t σ H fun vs H1 => ZLc K sp vs H1 Q
theorem ZQU {x : Str} {e : Expr} {t : TA} {p kp kpos pos : Pos} (K : W.Frag) (hK : X.K = K) (hc : X.calm = true) (F : ZFc X.prog X.w X.K X.mg X.base CX0 k f fd ps sp) (hr : Room (k + 1) X.A) (hgm : Gl X "min") (hmm : X.mg "min" = none) (hg : Gl X x) (hm : X.mg x = some (.ref f)) (hb : ZFZ X.K fd ps []) (ha : QA X [e] t)
  (hs : ZG3 e = false := by rfl) (hd : (x == ("__debug__" : Str)) = false := by decide) : QE X (.Call (.Name "min" p) [e] [⟨some "key", .Name x kp, kpos⟩] pos) (ZOM K sp t) := by
 subst hK
 refine ⟨?_⟩
 intro pins s σ H Q I h
 refine wpAny_Call_Name_kw (ZIR I hgm hmm ZKR ?_ (by decide) (by decide))
 have hse := ZGd (e := e) (es := []) (env := X.env) hs
 refine PyProof.Rows.callWith_kw (thn (ha.h pos pins s σ H _ I h) fun us s1 ⟨vs, H1, I1, r1, q1⟩ => PyProof.Rows.kws_cons (ZHQ I1 hg hm (PyProof.Rows.kws_nil ?_) hd)) (by rw [hse]; rfl) (by rw [hse]; rfl)
 obtain ⟨l, ws, kf, e1, g1, g2, g3, g4⟩ := q1
 subst e1
 obtain ⟨u, rfl, ru⟩ := r1.one
 cases ru
 exact ZNT hc F hr.in1 hb kf I1 g1 g2 g3 g4
theorem ZQV {K : W.Frag} {H : Hp} {Q : VK} {sp : Sp} {l : Addr} {us : List V} (kf : Nat → Int) (h1 : SqT K H l us) (h2 : us ≠ []) (h3 : ∀ i v, us[i]? = some v → ∀ Q : VK, Q (.int (kf i)) H → sp [v] H Q E0)
 (h : ∀ i v, us[i]? = some v → (∀ j, j < us.length → kf i ≤ kf j ∧ (j < i → kf i < kf j)) → Q v H) : ZLc K sp [.ref l] H Q := ⟨l, us, kf, rfl, h1, h2, h3, h⟩
theorem ZPI {K : W.Frag} {sp : Sp} {t : TA} {σ : St} {H : Hp} {Q : VK} (h : t σ H fun vs H1 => ZLc K sp vs H1 Q) : ZOM K sp t σ H Q := h
theorem ZNU {pins : List (Addr × Obj)} {σ : St} {H : Hp} (hc : X.calm = true) (F : ZFc X.prog X.w X.K X.mg X.base CX0 k f fd ps sp) (hr : Room k X.A.in1) (hb : ZFZ X.K fd ps []) {l I S : Addr} {us : List V} (kf : Nat → Int) (hSI : S ≠ I) (hS : SqT X.K H l us)
  (fI : ZGz X pins H I) (fS : ZGz X pins H S) (turn : ∀ i v, us[i]? = some v → ∀ Q : VK, Q (.int (kf i)) H → sp [v] H Q E0) {R : Result → Shared → Prop}
  (hR : ∀ i v u s', us[i]? = some v → ZFl v u → (∀ j, j < us.length → kf i ≥ kf j ∧ (j < i → kf i > kf j)) → Inv X pins σ H s' → R (.ok (.ret u)) s') :
  ∀ (r j i : Nat) (s : Shared) (v : V) (vb : Value) (tb : Tok) (c : Nat), us.length - (j + 1) = r → j + 1 ≤ us.length → Inv X pins σ H s → s.heap.get? S = some (seqObj "list" #[vb, .int (kf i) tb] c) → s.heap.IsTupleIter I l (j + 1) →
   us[i]? = some v → ZFl v vb → i ≤ j → (∀ j', j' ≤ j → kf i ≥ kf j' ∧ (j' < i → kf i > kf j')) →
   codeAny (model X.prog X.w) X.A (.builtin "max.loop" ⟨[.ref I, .ref f, .ref S], []⟩) R s := by
 have hname : (toString "max" ++ toString ".loop" : String) = "max.loop" := by decide
 intro r
 induction r with
 | zero =>
  intro j i s v vb tb c hr' hj J nS hit hv rv hij hbest
  have hin : j + 1 = us.length := by omega
  obtain ⟨its, rvs, p, hz⟩ := J.tuple hS
  have hl := rvs.length
  refine codeAny_builtin PySem.F.entry_max_loop ?_
  rw [Around.under_plainId PySem.F.plain_max_loop _]
  show wpAny _ X.A.in1 (seqItems? (.ref S) >>= _) _ _ _
  refine wpAny_bind (wpAny_seqItems nS rfl ?_)
  show wpAny _ X.A.in1 (tryCatch (pyNext (.ref I)) _ >>= _) _ _ _
  refine wpAny_bind (wpAny_tryCatch (wpAny_pyNext_tuple_end (J.ok.hd hc) hit (show s.heap.IsTuple l its.toArray from p) (by simp; omega) fun h' eb => ?_))
  have J1 : Inv X pins σ H { s with heap := h' } := J.turnedAt (t' := s.toks) fI fun b o hb e => eb b o hb e
  have hS' : h'.get? S = some (seqObj "list" #[vb, .int (kf i) tb] c) := eb S _ hSI nS
  show wpAny _ X.A.in1 (updateSeq S (fun _ => #[]) >>= _) _ _ _
  refine wpAny_bind ?_
  refine wpAny_updateSeq hS' rfl (wpAny_bind (wpAny_letGo (wpAny_pure ?_)))
  exact hR i v vb _ hv rv (fun j' hj' => hbest j' (by omega)) (J1.turnedAt (t' := s.toks) fS fun b o hb e => (Heap.get?_update_other _ _ (Ne.symm hb)).trans e)
 | succ r ih =>
  intro j i s v vb tb c hr' hj J nS hit hv rv hij hbest
  have hlt : j + 1 < us.length := by omega
  obtain ⟨its, rvs, p, hz⟩ := J.tuple hS
  have hx : us[j + 1]? = some us[j + 1] := List.getElem?_eq_getElem hlt
  obtain ⟨u, hu, ru⟩ := rvs.get hx
  refine codeAny_builtin PySem.F.entry_max_loop ?_
  rw [Around.under_plainId PySem.F.plain_max_loop _]
  show wpAny _ X.A.in1 (seqItems? (.ref S) >>= _) _ _ _
  refine wpAny_bind (wpAny_seqItems nS rfl ?_)
  show wpAny _ X.A.in1 (tryCatch (pyNext (.ref I)) _ >>= _) _ _ _
  refine wpAny_bind (wpAny_tryCatch (wpAny_pyNext_tuple_item hit (show s.heap.IsTuple l its.toArray from p) (x := u) (by simpa using hu) fun h' st' sb => ?_))
  have J1 : Inv X pins σ H { s with heap := h' } := J.turnedAt (t' := s.toks) fI fun b o hb e => (sb.2 b hb).trans e
  have hS' : h'.get? S = some (seqObj "list" #[vb, .int (kf i) tb] c) := (sb.2 S hSI).trans nS
  obtain ⟨oI, hoI, hoc, hod⟩ := id st'
  have J2 := J1.pin2 (s := { s with heap := h' }) fS fI hS' hoI (fun v z => by cases z) (fun v z => by rw [hod] at z; cases z)
  show wpAny _ X.A.in1 (tryCatch (holding [u] (call (.ref f) [u])) _ >>= _) _ _ _
  refine wpAny_bind (wpAny_tryCatch (wpAny_holding (wpAny_mono (ZK5 (E1 := fun _ _ => False) F hr hb J2 (.cons ru .nil) (turn (j + 1) _ hx (fun v H' => v = .int (kf (j + 1)) ∧ H' = H) ⟨rfl, rfl⟩)) (fun x s'' he => ?_) fun _ _ hF => hF.elim)))
  obtain ⟨v2, H2, J3, r2, e2, e3⟩ := he
  subst e2 e3
  obtain ⟨t2, rfl⟩ := r2
  obtain ⟨nS2, nI2, J4⟩ := J3.unpin2
  have hit2 : s''.heap.IsTupleIter I l (j + 1 + 1) := ⟨oI, nI2, hoc, hod⟩
  show wpAny _ X.A.in1 (tryCatch (holding [u, .int (kf (j + 1)) t2] (richCompare .Gt (.int (kf (j + 1)) t2) (.int (kf i) tb) >>= _)) _ >>= _) _ _ _
  refine wpAny_bind (wpAny_tryCatch (wpAny_holding (wpAny_bind (CmpOf.ints_gt (prog := X.prog) (w := X.w) (A := X.A.in1) (P := fun i v => ∃ t, v = .int (kf i) t) kf (fun i v h => h) (j + 1) i _ _ _ _ _ ⟨t2, rfl⟩ ⟨tb, rfl⟩ ?_))))
  refine wpAny_bind (wpAny_holding (wpAny_truthy_bool ?_))
  refine wpAny_bind (wpAny_letGo (wpAny_pure ?_))
  by_cases hb' : kf (j + 1) > kf i
  ·obtain ⟨c2, hc2⟩ : ∃ c2, (s''.heap.update S (Obj.mapSeq fun _ => #[u, .int (kf (j + 1)) t2])).get? S = some (seqObj "list" #[u, .int (kf (j + 1)) t2] c2) := ⟨_, get?_update_seq nS2 fun _ => #[u, .int (kf (j + 1)) t2]⟩
   simp only [hb', decide_true, if_true]
   refine wpAny_bind ?_
   refine wpAny_updateSeq nS2 rfl (wpAny_bind (wpAny_letGo ?_))
   rw [hname]
   refine wpAny_pure ⟨plainId_quiet PySem.F.plain_max_loop _, ih (j + 1) (j + 1) _ _ u t2 c2 (by omega) hlt (J4.turnedAt (t' := s''.toks) fS fun b o hb e => (Heap.get?_update_other _ _ (Ne.symm hb)).trans e) hc2 ⟨oI, (Heap.get?_update_other _ _ hSI).trans nI2, hoc, hod⟩ hx ru (Nat.le_refl _) fun j' hj' => ?_⟩
   by_cases e : j' = j + 1
   ·subst e
    exact ⟨by omega, fun _ => by omega⟩
   ·have hb1 := hbest j' (by omega)
    have hb2 := hb1.1
    exact ⟨by omega, fun _ => by omega⟩
  ·simp only [hb', decide_false, Bool.false_eq_true, if_false]
   refine wpAny_bind (wpAny_letGo ?_)
   rw [hname]
   refine wpAny_pure ⟨plainId_quiet PySem.F.plain_max_loop _, ih (j + 1) i _ v vb tb c (by omega) hlt J4 nS2 hit2 hv rv (by omega) fun j' hj' => ?_⟩
   by_cases e : j' = j + 1
   ·subst e
    exact ⟨by omega, fun _ => by omega⟩
   ·exact hbest j' (by omega)
theorem ZNV {pins : List (Addr × Obj)} {σ : St} {H : Hp} {s : Shared} {Q : VK} {E1 : Value → Shared → Prop} (hc : X.calm = true) (F : ZFc X.prog X.w X.K X.mg X.base CX0 k f fd ps sp) (hr : Room k X.A.in1) (hb : ZFZ X.K fd ps []) {l : Addr} {us : List V} (kf : Nat → Int) (J : Inv X pins σ H s) (hS : SqT X.K H l us) (hne : us ≠ [])
  (turn : ∀ i v, us[i]? = some v → ∀ Q : VK, Q (.int (kf i)) H → sp [v] H Q E0) (hQ : ∀ i v, us[i]? = some v → (∀ j, j < us.length → kf i ≥ kf j ∧ (j < i → kf i > kf j)) → Q v H) :
  wpAny (model X.prog X.w) X.A (call (.builtin "max") [.ref l] [(Str.ofString "key", .ref f)]) (EP X pins σ Q) E1 s := by
 have hname : (toString "max" ++ toString ".loop" : String) = "max.loop" := by decide
 have hpos : 0 < us.length := List.length_pos_iff.mpr hne
 obtain ⟨its, rvs, p, hz⟩ := J.tuple hS
 have hls : s.heap.IsTuple l its.toArray := p
 refine kmk_tree PySem.F.kind_max PySem.F.plain_max PySem.F.entry_max (kmk_max_key _ _) ?_
 show wpAny _ X.A.in1 (Builtin.Builtins.bindParams "max" ["key", "default"] 0 ⟨[], [(Str.ofString "key", .ref f)]⟩ >>= _) _ _ s
 refine wpAny_bind (wpAny_of_eq (show Builtin.Builtins.bindParams "max" ["key", "default"] 0 ⟨[], [(Str.ofString "key", .ref f)]⟩ = pure [some (.ref f), none] from rfl) ?_)
 refine wpAny_bind (wpAny_pure ?_)
 refine wpAny_bind (wpAny_pyIter_tuple hls ?_)
 refine wpAny_bind (wpAny_newList ?_ (Nat.zero_le _))
 rw [hname]
 refine wpAny_pure ⟨plainId_quiet PySem.F.plain_max_loop _, ?_⟩
 generalize hO : ({ cls := .type "tuple_iterator", data := .fields #[.ref l, .int 0 0] } : Obj) = O
 have hSs : (s.heap.push O).objs.size = s.heap.objs.size + 1 := size_push' ..
 have hSI : (s.heap.push O).objs.size ≠ s.heap.objs.size := by rw [hSs]; exact Nat.ne_of_gt (Nat.lt_succ_self _)
 have gI : ((s.heap.push O).push (seqObj "list" #[] 0)).get? s.heap.objs.size = some O := Heap.get?_push_of_some _ (Heap.get?_push_size _ (by rw [← hO]; rfl))
 have gS : ((s.heap.push O).push (seqObj "list" #[] 0)).get? (s.heap.push O).objs.size = some (seqObj "list" #[] 0) := Heap.get?_push_size _ rfl
 have fI : ZGz X pins H s.heap.objs.size := J.fpOk (Nat.le_refl _) (J.hok.fresh (Nat.le_refl _))
 have fS : ZGz X pins H (s.heap.push O).objs.size := J.fpOk (by rw [hSs]; exact Nat.le_succ _) (J.hok.fresh (by rw [hSs]; exact Nat.le_succ _))
 have J0 : Inv X pins σ H { s with heap := (s.heap.push O).push (seqObj "list" #[] 0) } := J.kept (t' := s.toks) fun b o e => Heap.get?_push_of_some _ (Heap.get?_push_of_some _ e)
 obtain ⟨its0, rvs0, p0, hz0⟩ := J0.tuple hS
 have hx : us[0]? = some us[0] := List.getElem?_eq_getElem hpos
 obtain ⟨u, hu, ru⟩ := rvs0.get hx
 refine codeAny_builtin PySem.F.entry_max_loop ?_
 rw [Around.under_plainId PySem.F.plain_max_loop _]
 show wpAny _ X.A.in1 (seqItems? (.ref _) >>= _) _ _ _
 refine wpAny_bind (wpAny_seqItems gS rfl ?_)
 show wpAny _ X.A.in1 (tryCatch (pyNext (.ref s.heap.objs.size)) _ >>= _) _ _ _
 refine wpAny_bind (wpAny_tryCatch (wpAny_pyNext_tuple_item (s := { s with heap := (s.heap.push O).push (seqObj "list" #[] 0) }) (i := 0) ⟨O, gI, by rw [← hO], by rw [← hO]; rfl⟩ (show ((s.heap.push O).push (seqObj "list" #[] 0)).IsTuple l its0.toArray from p0) (x := u) (by simpa using hu) fun h' st' sb => ?_))
 have J1 : Inv X pins σ H { s with heap := h' } := J0.turnedAt (t' := s.toks) fI fun b o hb e => (sb.2 b hb).trans e
 have hS' : h'.get? (s.heap.push O).objs.size = some (seqObj "list" #[] 0) := (sb.2 _ hSI).trans gS
 obtain ⟨oI, hoI, hoc, hod⟩ := id st'
 have J2 := J1.pin2 (s := { s with heap := h' }) fS fI hS' hoI (fun v z => by cases z) (fun v z => by rw [hod] at z; cases z)
 show wpAny _ X.A.in1 (tryCatch (holding [u] (call (.ref f) [u])) _ >>= _) _ _ _
 refine wpAny_bind (wpAny_tryCatch (wpAny_holding (wpAny_mono (ZK5 (E1 := fun _ _ => False) F hr hb J2 (.cons ru .nil) (turn 0 _ hx (fun v H' => v = .int (kf 0) ∧ H' = H) ⟨rfl, rfl⟩)) (fun x s'' he => ?_) fun _ _ hF => hF.elim)))
 obtain ⟨v2, H2, J3, r2, e2, e3⟩ := he
 subst e2 e3
 obtain ⟨t2, rfl⟩ := r2
 obtain ⟨nS2, nI2, J4⟩ := J3.unpin2
 obtain ⟨c2, hc2⟩ : ∃ c2, (s''.heap.update (s.heap.push O).objs.size (Obj.mapSeq fun _ => #[u, .int (kf 0) t2])).get? (s.heap.push O).objs.size = some (seqObj "list" #[u, .int (kf 0) t2] c2) := ⟨_, get?_update_seq nS2 fun _ => #[u, .int (kf 0) t2]⟩
 show wpAny _ X.A.in1 (updateSeq (s.heap.push O).objs.size (fun _ => #[u, .int (kf 0) t2]) >>= _) _ _ _
 refine wpAny_bind ?_
 refine wpAny_updateSeq nS2 rfl ?_
 rw [hname]
 refine wpAny_pure ⟨plainId_quiet PySem.F.plain_max_loop _, ZNU hc F hr hb kf hSI hS fI fS turn (fun i v u s' hv rv hbest J' => ⟨v, _, J', rv, hQ i v hv hbest⟩) _ 0 0 _ _ u t2 c2 rfl hpos (J4.turnedAt (t' := s''.toks) fS fun b o hb e => (Heap.get?_update_other _ _ (Ne.symm hb)).trans e) hc2 ⟨oI, (Heap.get?_update_other _ _ hSI).trans nI2, hoc, hod⟩ hx ru (Nat.le_refl _) fun j' hj' => ?_⟩
 have e : j' = 0 := by omega
 subst e
 exact ⟨by omega, fun h => absurd h (Nat.lt_irrefl _)⟩
def ZLd (K : W.Frag) (sp : Sp) (vs : List V) (H : Hp) (Q : VK) : Prop := ∃ (l : Addr) (us : List V) (kf : Nat → Int), vs = [.ref l] ∧ SqT K H l us ∧ us ≠ [] ∧ (∀ i v, us[i]? = some v → ∀ Q : VK, Q (.int (kf i)) H → sp [v] H Q E0) ∧
 ∀ i v, us[i]? = some v → (∀ j, j < us.length → kf i ≥ kf j ∧ (j < i → kf i > kf j)) → Q v H
def ZON (K : W.Frag) (sp : Sp) (t : TA) : TE := fun σ H Q => t σ H fun vs H1 => ZLd K sp vs H1 Q
theorem ZQW {x : Str} {e : Expr} {t : TA} {p kp kpos pos : Pos} (K : W.Frag) (hK : X.K = K) (hc : X.calm = true) (F : ZFc X.prog X.w X.K X.mg X.base CX0 k f fd ps sp) (hr : Room (k + 1) X.A) (hgm : Gl X "max") (hmm : X.mg "max" = none) (hg : Gl X x) (hm : X.mg x = some (.ref f)) (hb : ZFZ X.K fd ps []) (ha : QA X [e] t)
  (hs : ZG3 e = false := by rfl) (hd : (x == ("__debug__" : Str)) = false := by decide) : QE X (.Call (.Name "max" p) [e] [⟨some "key", .Name x kp, kpos⟩] pos) (ZON K sp t) := by
 subst hK
 refine ⟨?_⟩
 intro pins s σ H Q I h
 refine wpAny_Call_Name_kw (ZIR I hgm hmm ZKQ ?_ (by decide) (by decide))
 have hse := ZGd (e := e) (es := []) (env := X.env) hs
 refine PyProof.Rows.callWith_kw (thn (ha.h pos pins s σ H _ I h) fun us s1 ⟨vs, H1, I1, r1, q1⟩ => PyProof.Rows.kws_cons (ZHQ I1 hg hm (PyProof.Rows.kws_nil ?_) hd)) (by rw [hse]; rfl) (by rw [hse]; rfl)
 obtain ⟨l, ws, kf, e1, g1, g2, g3, g4⟩ := q1
 subst e1
 obtain ⟨u, rfl, ru⟩ := r1.one
 cases ru
 exact ZNV hc F hr.in1 hb kf I1 g1 g2 g3 g4
theorem ZQX {K : W.Frag} {H : Hp} {Q : VK} {sp : Sp} {l : Addr} {us : List V} (kf : Nat → Int) (h1 : SqT K H l us) (h2 : us ≠ []) (h3 : ∀ i v, us[i]? = some v → ∀ Q : VK, Q (.int (kf i)) H → sp [v] H Q E0)
 (h : ∀ i v, us[i]? = some v → (∀ j, j < us.length → kf i ≥ kf j ∧ (j < i → kf i > kf j)) → Q v H) : ZLd K sp [.ref l] H Q := ⟨l, us, kf, rfl, h1, h2, h3, h⟩
theorem ZPJ {K : W.Frag} {sp : Sp} {t : TA} {σ : St} {H : Hp} {Q : VK} (h : t σ H fun vs H1 => ZLd K sp vs H1 Q) : ZON K sp t σ H Q := h
end
section
variable {X : Cx} {o e value : Expr} {f m : Str} {pos pos' tpos apos : Pos} {ta tv : TE} {t : TA}
def ZXw (K : W.Frag) (f : Str) (x : V) (H : Hp) (Q : VK) : Prop := ∃ a C dx fs v, x = .ref a ∧ H a = some (.ins C dx fs) ∧ Cls K C ∧ ZGU K C f ∧ fs.lookup f = some v ∧ Q v H
def ZUd (K : W.Frag) (f : Str) (y x : V) (H : Hp) (R : Hp → Prop) : Prop := ∃ a C dx fs, x = .ref a ∧ H a = some (.ins C dx fs) ∧ Cls K C ∧ ZGU K C f ∧ fs.length < 1000 ∧ R (upd H a (.ins C dx (ZF6 f y fs)))
theorem ZGY (K : W.Frag) (hK : X.K = K) (he : QE X e ta) (hb : attributeBase e f X.env (eval e X.env) = eval e X.env := by rfl) : QE X (.Attribute e f pos) (ZSm K ta f) := by
 subst hK
 exact ⟨ZWu he.h hb⟩
theorem ZIV (K : W.Frag) (hK : X.K = K) (ho : QE X o ta) (hv : QE X value tv) (hs : ZHR value = false := by rfl) : QS X (.Assign [.Attribute o f pos'] value pos) (ZSn K ta tv f) := by
 subst hK
 exact ⟨ZWv ho.h hv.h (ZIC hs)⟩
theorem ZRb (K : W.Frag) (hK : X.K = K) (ho : QE X o ta) (hv : QE X value tv) : QS X (.AugAssign (.Attribute o f tpos) .Add value pos) (ZMR K ta tv ZNo f) := by
 subst hK
 exact ⟨ZRJ ho.h hv.h ZWw⟩
section
variable {CX : CXT} {k : Nat} {fa C : Addr} {fd : FuncData} {ps : List Str} {sp : Sp} {dvs : List V} {ds : List Value} {E : XK} {es : List Expr} {x : Str} {p : Pos}
theorem ZGs {pl : Sem Bool} (he : QE X o ta) (c : Cls X.K C) (hm : ZGa X.K C m fa) (F : ZFc X.prog X.w X.K X.mg X.base CX k fa fd ps sp) (hr : Room k X.A) (hb : ZFZ X.K fd ps ds) (hd : ZFj dvs ds) (hx : ZGt CX X E) (ha : QA X (e :: es) t) (hns : ZGG (e :: es) = true := by rfl)
 (ht : eval (.Call (.Attribute o m apos) (e :: es) [] pos) X.env = (do
  let ov ← eval o X.env
  standAt apos.atName
  let (f, first) ← holding [ov] (getMethod ov m pl)
  callWith pos f first (backTo pos (starEach (e :: es) X.env)) (backToKw pos (keywordEach [] X.env))) := by rfl) :
 QE X (.Call (.Attribute o m apos) (e :: es) [] pos) (ZL3 C m sp dvs E ta t) := ⟨ZU6 he.h c hm F hr hb hd hx ha.h (ZHA hns) (ZGu (ZGr hns)) ht⟩
theorem ZLe {pl : Sem Bool} (he : QE X o ta) (c : Cls X.K C) (hm : ZGa X.K C m fa) (F : ZFc X.prog X.w X.K X.mg X.base CX k fa fd ps sp) (hr : Room k X.A) (hb : ZFZ X.K fd ps ds) (hd : ZFj dvs ds) (hx : ZGt CX X E)
 (ht : eval (.Call (.Attribute o m apos) [] [] pos) X.env = (do
  let ov ← eval o X.env
  standAt apos.atName
  let (f, first) ← holding [ov] (getMethod ov m pl)
  callWith pos f first (backTo pos (starEach [] X.env)) (backToKw pos (keywordEach [] X.env))) := by rfl) :
 QE X (.Call (.Attribute o m apos) [] [] pos) (ZL3 C m sp dvs E ta ZLV) := ⟨ZSq he.h c hm F hr hb hd hx ht⟩
theorem ZVu (M : Mk X.K C fa) (F : ZFc X.prog X.w X.K X.mg X.base CX k fa fd ps sp) (hr : Room (k + 1) X.A) (hg : Gl X x) (hm : X.mg x = some (.ref C)) (hb : ZFZ X.K fd ps ds) (hd : ZFj dvs ds) (hx : ZGt CX X E) (ha : QA X (e :: es) t)
 (hns : ZGG (e :: es) = true := by rfl) (hdb : (x == ("__debug__" : Str)) = false := by decide) : QE X (.Call (.Name x p) (e :: es) [] pos) (ZL4 C sp dvs E t) := ⟨ZU7 M F hr hg hm hb hd hx ha.h hdb (ZHA hns) (ZGu (ZGr hns))⟩
theorem ZOO (M : Mk X.K C fa) (F : ZFc X.prog X.w X.K X.mg X.base CX k fa fd ps sp) (hr : Room (k + 1) X.A) (hg : Gl X x) (hm : X.mg x = some (.ref C)) (hb : ZFZ X.K fd ps ds) (hd : ZFj dvs ds) (hx : ZGt CX X E)
 (hdb : (x == ("__debug__" : Str)) = false := by decide) : QE X (.Call (.Name x p) [] [] pos) (ZL4 C sp dvs E ZLV) := ⟨ZSr M F hr hg hm hb hd hx hdb⟩
end
end
section
variable {K : W.Frag} {σ : St} {H : Hp} {Q : VK} {D : ZGW} {f m : Str} {ta tv : TE} {t : TA} {C : Addr} {sp : Sp} {dvs : List V} {E : XK}
theorem ZVv (h : ta σ H fun x H1 => ZXw K f x H1 Q) : ZSm K ta f σ H Q := h
theorem ZGw {a dx : Addr} {fs : List (Str × V)} {v : V} (h1 : H a = some (.ins C dx fs)) (c : Cls K C) (n : ZGU K C f) (l : fs.lookup f = some v) (q : Q v H) : ZXw K f (.ref a) H Q := ⟨a, C, dx, fs, v, rfl, h1, c, n, l, q⟩
theorem ZTa (h : tv σ H fun y H1 => ta σ H1 fun x H2 => ZUd K f y x H2 (D.nx σ)) : ZSn K ta tv f D σ H := h
theorem ZHq {a dx : Addr} {fs : List (Str × V)} {y : V} {R : Hp → Prop} (h1 : H a = some (.ins C dx fs)) (c : Cls K C) (n : ZGU K C f) (l : fs.length < 1000) (q : ∀ H2, H2 a = some (.ins C dx (ZF6 f y fs)) → Kp a H H2 → R H2) : ZUd K f y (.ref a) H R := ⟨a, C, dx, fs, rfl, h1, c, n, l, q _ ZFf Kp.upd⟩
def ZPn (K : W.Frag) (f : Str) (tv : TE) (σ : St) (R : Hp → Prop) (x : V) (H : Hp) : Prop := ∃ a C dx fs v, x = .ref a ∧ H a = some (.ins C dx fs) ∧ Cls K C ∧ ZGU K C f ∧ fs.lookup f = some v ∧
 tv σ H fun y H2 => ZNo v y H2 fun z H3 => ∃ dx' fs', H3 a = some (.ins C dx' fs') ∧ fs'.length < 1000 ∧ R (upd H3 a (.ins C dx' (ZF6 f z fs')))
theorem ZQY (h : ta σ H fun x H1 => ZPn K f tv σ (D.nx σ) x H1) : ZMR K ta tv ZNo f D σ H := h
def ZMI (C : Addr) (m : Str) (x : V) (H : Hp) (R : Prop) : Prop := ∃ a dx fs, x = .ref a ∧ H a = some (.ins C dx fs) ∧ fs.lookup m = none ∧ R
theorem ZTb (h : ta σ H fun x H1 => ZMI C m x H1 (t σ H1 fun vs H2 => sp (x :: (vs ++ dvs)) H2 Q E)) : ZL3 C m sp dvs E ta t σ H Q := h
theorem ZGJ {a dx : Addr} {fs : List (Str × V)} {R : Prop} (h1 : H a = some (.ins C dx fs)) (l : fs.lookup m = none) (q : R) : ZMI C m (.ref a) H R := ⟨a, dx, fs, rfl, h1, l, q⟩
def ZUe (C : Addr) (sp : Sp) (dvs : List V) (E : XK) (vs : List V) (H : Hp) (Q : VK) : Prop := ∀ x dx, H x = none → H dx = none → dx ≠ x → sp (.ref x :: (vs ++ dvs)) (upd (upd H dx (.own x)) x (.ins C dx [])) (fun v H2 => v = .non ∧ Q (.ref x) H2) E
theorem ZTc (h : t σ H fun vs H1 => ZUe C sp dvs E vs H1 Q) : ZL4 C sp dvs E t σ H Q := h
theorem ZMa {vs : List V} (h : ∀ x dx H2, H x = none → H2 x = some (.ins C dx []) → ZFY H H2 → sp (.ref x :: (vs ++ dvs)) H2 (fun v H3 => v = .non ∧ Q (.ref x) H3) E) : ZUe C sp dvs E vs H Q := fun x dx hx hdx hne =>
 h x dx _ hx ZFf fun b o e => by rw [ZFg (ZF2 e hx), ZFg (ZF2 e hdx)]; exact e
end
structure ZOP (K : W.Frag) (x qual : Str) (st : Stmt) (f : Addr) (fd : FuncData) : Prop where
 ex : ∃ (oc : Value) (od : Option Addr) (dV kV doc pm : Value) (an : Option Addr) (cdv ct : Value) (osl : Array (Option Value)),
  fd = W.fnOf x qual (ZGS st) (ZGE st) (ZFW st) dV kV doc pm an cdv ct ∧ K.lookup f = some ⟨oc, od, .func fd, osl⟩ ∧ W.codeIn K cdv qual = true
 kp : W.keepIn K (.ref f) = true
theorem ZOP.ok {P : Program} {w : World} {K : W.Frag} {mg : Str → Option Value} {base : Heap} {x qual : Str} {st : Stmt} {f : Addr} {fd : FuncData} {N ps : List Str} {k : Nat} {sp : Sp} (F : ZOP K x qual st f fd) (S : ZFa N ps (ZFW st)) (len : ∀ vs H Q E, sp vs H Q E → vs.length = ps.length)
  (hbody : ∀ (cdv : Value) (A : Around) (outer : List Env) (s : Shared) (H : Hp) (vs : List V) (Q : VK) (E : XK), Room k (A.deeper (envOfC qual (ZFW st) s.heap.objs.size f cdv)) → sp vs H Q E →
   ∃ t, PSs (ZJO CX0 P w K mg base N qual (ZFW st) f cdv A outer s H E).nox (ZGE st) t ∧ t { nx := fun _ H' => Q .non H', rt := Q } (start N vs) H) : ZFc P w K mg base CX0 (k + 1) f fd ps sp := by
 obtain ⟨oc, od, dV, kV, doc, pm, an, cdv, ct, osl, rfl, lk, hcd⟩ := F.ex
 refine ZQA lk hcd S len fun A outer s H vs Q E hr hsp => ?_
 obtain ⟨t, h, q⟩ := hbody cdv A outer s H vs Q E hr hsp
 exact ⟨t, h.nox, q⟩
section
variable {K : W.Frag} {σ : St} {H : Hp} {Q : VK} {f : Str} {tv td ty : TE} {C : Addr}
theorem ZQZ {a dx : Addr} {fs : List (Str × V)} {v : V} {R : Hp → Prop} (h1 : H a = some (.ins C dx fs)) (c : Cls K C) (n : ZGU K C f) (l : fs.lookup f = some v)
 (q : tv σ H fun y H2 => ZNo v y H2 fun z H3 => ∃ dx' fs', H3 a = some (.ins C dx' fs') ∧ fs'.length < 1000 ∧ R (upd H3 a (.ins C dx' (ZF6 f z fs')))) : ZPn K f tv σ R (.ref a) H := ⟨a, C, dx, fs, v, rfl, h1, c, n, l, q⟩
def ZKX (a : Addr) (y : V) (H : Hp) (Q : VK) : Prop := ∃ o, ZHC H a y o ∧ Q (o.getD .non) H
def ZOQ (ty : TE) (σ : St) (Q : VK) (x : V) (H : Hp) : Prop := ∃ a, x = .ref a ∧ IsD H a ∧ ty σ H fun y H2 => ZKX a y H2 Q
theorem ZRc (h : td σ H fun x H1 => ZOQ ty σ Q x H1) : ZN9 td ty σ H Q := h
theorem ZKY {a : Addr} {kvs : List (List Key × V)} (h1 : H a = some (.dT kvs)) (q : ty σ H fun y H2 => ZKX a y H2 Q) : ZOQ ty σ Q (.ref a) H := ⟨a, rfl, .inr ⟨kvs, .inl h1⟩, q⟩
theorem ZLf {a b : Addr} {kvs : List (List Key × V)} {k : List Key} (h1 : H a = some (.dT kvs)) (hb : H b = some (.tup (k.map kV))) (q : Q ((ZGN kvs k).getD .non) H) : ZKX a (.ref b) H Q := ⟨_, ZHC.t h1 hb, q⟩
theorem ZRd {a : Addr} {kvs : List (Key × V)} (h1 : H a = some (.dK kvs)) (q : ty σ H fun y H2 => ZKX a y H2 Q) : ZOQ ty σ Q (.ref a) H := ⟨a, rfl, .inl ⟨kvs, .inl h1⟩, q⟩
theorem ZTd {a : Addr} {m : PL} {i : Int} (h1 : H a = some (.dK (ZGf m))) (q : Q (((ZGA m i).map V.int).getD .non) H) : ZKX a (.int i) H Q := ⟨_, ZHC.k (k := Sum.inl i) h1, by rw [ZJi]; exact q⟩
theorem ZOR {a b : Addr} {kvs : List (List Key × V)} {k : List Key} {v : V} {R : Hp → Prop} (h1 : H a = some (.dT kvs)) (hb : H b = some (.tup (k.map kV))) (hz : kvs.length < sizeLine) (h : ∀ H2, H2 a = some (.dT (ZG0 kvs k v)) → Kp a H H2 → R H2) : ZNi v (.ref a) (.ref b) H R :=
 ⟨a, _, rfl, ZJQ.t h1 hb hz, h _ ZFf Kp.upd⟩
end
section
variable {X : Cx} {o e : Expr} {apos cpos pos p : Pos} {td ty to : TE}
theorem ZJy (hu : X.A.units + 1 < cLine) (ho : QE X o td) (he : QE X e ty) (m : M1 X o "get" apos e cpos := by exact ⟨rfl, rfl, rfl, rfl⟩) : QE X (.Call (.Attribute o "get" apos) [e] [] cpos) (ZN9 td ty) := ⟨ZTM hu ho.h he.h m⟩
theorem ZTe : QE X (.Dict [] [] pos) ZN8 := ⟨ZTL⟩
def ZRe (H : Hp) (Q : VK) : Prop := ∀ p, H p = none → Q (.ref p) (upd H p (.dT []))
theorem ZRf {σ : St} {H : Hp} {Q : VK} (h : ZRe H Q) : ZN8 σ H Q := h
theorem ZTf {H : Hp} {Q : VK} (h : ∀ p H2, H p = none → H2 p = some (.dT []) → ZFY H H2 → Q (.ref p) H2) : ZRe H Q := fun p hp => h p _ hp ZFf (ZFY.new hp)
end
theorem ZPo {K : W.Frag} {x qual : Str} {st : Stmt} {f : Addr} {oc : Value} {od an : Option Addr} {osl : Array (Option Value)} {dV kV doc pm cdv ct : Value} (l : K.lookup f = some ⟨oc, od, .func (W.fnOf x qual (ZGS st) (ZGE st) (ZFW st) dV kV doc pm an cdv ct), osl⟩)
 (c : W.codeIn K cdv qual = true) (k : W.keepIn K (.ref f) = true) : ZOP K x qual st f (W.fnOf x qual (ZGS st) (ZGE st) (ZFW st) dV kV doc pm an cdv ct) := ⟨⟨oc, od, dV, kV, doc, pm, an, cdv, ct, osl, rfl, l, c⟩, k⟩
def ZPp (K : W.Frag) (fd : FuncData) (ps : List Str) (x : Str) : Prop := ∀ (s : Shared) (u v : Value), K.In s.heap → BindsTo s fd ⟨[u], [(x, v)]⟩ (ps.zip [u, v])
theorem ZFz.there {P : Program} {w : World} {H : Hp} {h : Heap} {a : Addr} {o : HO} (x : ZFz P w H h a o) : ∃ ob, h.get? a = some ob := by
 cases o with
 | lst xs => obtain ⟨_, _, _, _, e⟩ := x; exact ⟨_, e⟩
 | tup xs => obtain ⟨_, _, _, p⟩ := x; obtain ⟨o, e, _⟩ := p; exact ⟨_, e⟩
 | dK kvs => obtain ⟨_, _, _, _, o, _, _, e, _⟩ := x; exact ⟨_, e⟩
 | dT kvs => obtain ⟨_, _, _, _, o, _, _, e, _⟩ := x; exact ⟨_, e⟩
 | set S n => obtain ⟨o, _, _, _, e, _⟩ := x; exact ⟨_, e⟩
 | ins C dx fs => obtain ⟨_, _, _, e, _⟩ := x; exact ⟨_, e⟩
 | own y => exact x
 | xd fs => obtain ⟨_, ⟨_, _, _, e, _⟩, _⟩ := x; exact ⟨_, e⟩
 | rng lo hi => obtain ⟨_, _, _, e⟩ := x; exact ⟨_, e⟩
 | frz ob u => obtain ⟨e, _⟩ := x; exact ⟨_, e⟩
 | tbl ps => exact ⟨_, (show h.get? a = some _ from x)⟩
 | met f y => exact ⟨_, (show h.get? a = some _ from x)⟩
 | ext φ => obtain ⟨_, e, _⟩ := x; exact e
def Cov (B : Heap) (H' : Hp) (h0 h' : Heap) (fs : List Addr) : Prop := ∀ b o, h'.get? b = some o → b ∉ fs → ((∃ u, H' b = some u) ∨ ∃ o0, h0.get? b = some o0) → B.get? b = some o
def CX1 (P : Program) (w : World) : CXT := fun l H s E ev s' => ∃ (e : Addr) (C a0 : Value) (B : Heap) (H' : Hp), ev = .ref e ∧ s'.os = s.os ∧ AllBare s'.gens ∧ Un (frs l) [] H H' s.heap s'.heap ∧ HOk P w H' s'.heap ∧
 s.heap.get? e = none ∧ H' e = none ∧ Heap.FlyingW B l e C a0 s'.heap ∧ Cov B H' s.heap s'.heap (frs l) ∧ E C none H'
section
variable {P : Program} {w : World} {H H' : Hp} {h0 h' h'' B : Heap} {fs : List Addr}
theorem ZJz (hok : HOk P w H' h') (un : Un fs [] H H' h0 h') (cov : Cov B H' h0 h' fs) (st : B.StaysIn h'') (up : h'.UpToSlots h'') (fr : ∀ b ∈ fs, H' b = none ∧ ∃ o, h'.get? b = some o ∧ ∀ vs, o.data ≠ .fields vs) :
  HOk P w H' h'' ∧ Un fs [] H H' h0 h'' ∧ Cov B H' h0 h'' fs := by
 have trk : ∀ b u, H' b = some u → b ∉ fs := fun b u e hb => by rw [(fr b hb).1] at e; cases e
 have old : ∀ b o0, h0.get? b = some o0 → ∃ o', h''.get? b = some o' := fun b o0 e => by
  obtain ⟨o', e'⟩ := un.there b o0 e (by simp)
  by_cases hb : b ∈ fs
  ·obtain ⟨_, o, ho, hd⟩ := fr b hb
   obtain ⟨sl, q⟩ := up b o ho hd
   exact ⟨_, q⟩
  ·exact ⟨o', st _ _ (cov b o' e' hb (.inr ⟨o0, e⟩))⟩
 refine ⟨fun b u e => (hok b u e).stay (fun c v hc q => ?_) (fun _ q => q) fun _ _ q => q, ⟨fun b o e n hb hx => ?_, fun b o e n hb hx => ?_, un.free, fun b o e _ => old b o e, un.tups, un.frzs, un.tbls⟩, fun b o e hb ht => ?_⟩
 ·have hc' : ∃ u, H' c = some u := by
   rcases hc with rfl | hc
   ·exact ⟨_, e⟩
   ·exact ⟨_, hc⟩
  obtain ⟨u', hu'⟩ := hc'
  exact st _ _ (cov c v q (trk c u' hu') (.inl ⟨u', hu'⟩))
 ·exact st _ _ (cov b o (un.keep b o e n hb hx) hb (.inr ⟨o, e⟩))
 ·obtain ⟨sl, q⟩ := un.slot b o e n hb hx
  obtain ⟨_, o2, ho2, hd⟩ := fr b hb
  rw [q] at ho2
  cases ho2
  obtain ⟨sl2, q2⟩ := up b _ q hd
  exact ⟨sl2, q2⟩
 ·have : ∃ o1, h'.get? b = some o1 := by
   rcases ht with ⟨u, hu⟩ | ⟨o0, ho0⟩
   ·exact (hok b u hu).there
   ·exact un.there b o0 ho0 (by simp)
  obtain ⟨o1, h1⟩ := this
  have hB := cov b o1 h1 hb ht
  have := st _ _ hB
  rw [e] at this
  cases this
  exact hB
end
section
variable {P : Program} {w : World} {K : W.Frag} {mg : Str → Option Value} {base : Heap} {N : List Str} {qual : Str} {scope : Scope} {f : Addr} {cd : Value} {A : Around} {outer : List Env} {s : Shared} {H : Hp} {E : XK}
abbrev cxE (P : Program) (w : World) (K : W.Frag) (mg : Str → Option Value) (base : Heap) (N : List Str) (qual : Str) (scope : Scope) (f : Addr) (cd : Value) (A : Around) (outer : List Env) (s : Shared) (H : Hp) (E : XK) : Cx := ZJO (CX1 P w) P w K mg base N qual scope f cd A outer s H E
theorem ZLg {env : Env} {l : List Env} {L : Addr} (h : env.frame = some L) : frs (env :: l) = L :: frs l := by
 unfold frs
 rw [List.filterMap_cons, h]
theorem ZK6 {X : Cx} {pins : List (Addr × Obj)} {σ : St} {H1 : Hp} {s1 : Shared} (I : Inv X pins σ H1 s1) {B h : Heap} {l : List Env} (hl : h.FunFrames B l) (hs : ∀ b ∈ frs l, b ∈ frs X.stack) : ∀ b ∈ frs l, H1 b = none ∧ ∃ o, h.get? b = some o ∧ ∀ vs, o.data ≠ .fields vs :=
 fun b hb => ⟨I.stkFree b (hs b hb), (hl.mem hb).2⟩
theorem ZJ0 : ZGt (CX1 P w) (cxE P w K mg base N qual scope f cd A outer s H E) E := by
 intro pins σ H1 s1 ev s' I hc
 obtain ⟨e, C, a0, B, H', rfl, os, bare, un, hok, hen, heH, fl, cov, q⟩ := hc
 have I2 := I.call' (ch := []) os un hok bare (fun b z => absurd z (by simp))
 have hfr : (cxE P w K mg base N qual scope f cd A outer s H E).A.frames = some ((cxE P w K mg base N qual scope f cd A outer s H E).env :: outer) := I.ok.frames
 show wpAny (model P w) _ (leaving _ (.ref e)) _ _ s'
 refine wpAny_leaves_onW (L := s.heap.objs.size) hfr rfl fl fun h'' fl2 up => ?_
 have nL : ∀ b o, s.heap.get? b = some o → b ≠ s.heap.objs.size := fun b o e => Nat.ne_of_lt (Heap.lt_size e)
 have efr : frs ((cxE P w K mg base N qual scope f cd A outer s H E).env :: outer) = s.heap.objs.size :: frs outer := ZLg rfl
 have un2 : Un (frs outer) [] H H' s.heap s'.heap := I2.base
 have cov2 : Cov B H' s.heap s'.heap (frs outer) := fun b o hb hn ht => by
  refine cov b o hb (fun z => ?_) (ht.imp id fun ⟨o0, h0⟩ => I.base.there b o0 h0 (show b ∉ ([] : List Addr) by simp))
  have z2 : b ∈ s.heap.objs.size :: frs outer := by rw [← efr]; exact z
  rcases List.mem_cons.mp z2 with rfl | z2
  ·rcases ht with ⟨u, hu⟩ | ⟨o0, h0⟩
   ·have z3 : H' s.heap.objs.size = none := I2.free
    rw [z3] at hu; cases hu
   ·exact nL _ _ h0 rfl
  ·exact hn z2
 have flo : s'.heap.FunFrames B outer := by
  obtain ⟨_, _, ⟨_, _, k⟩, _⟩ := fl
  exact k
 obtain ⟨hok3, un3, cov3⟩ := ZJz hok un2 cov2 fl2.1 up (ZK6 I2 flo fun b hb => by
  show b ∈ frs ((cxE P w K mg base N qual scope f cd A outer s H E).env :: outer)
  rw [efr]; exact List.mem_cons_of_mem _ hb)
 refine ⟨e, C, a0, B, H', rfl, I2.os, bare, un3, hok3, ?_, heH, fl2, cov3, q⟩
 cases z : s.heap.get? e with
 | none => rfl
 | some o =>
  obtain ⟨o', e'⟩ := I.base.there e o z (show e ∉ ([] : List Addr) by simp)
  rw [hen] at e'; cases e'
end
theorem ZK7 {K : W.Frag} {h : Heap} {C : Addr} {bmB : List Value} {newId : String} (X : K.In h) (q : excIn K C bmB newId = true) :
  ∃ bm N nm q bs hdct sn sub ab col dd k0 k1 k2 k3 k5 mN, h.get? C = some (excClassObj nm q C N bs bm hdct sn sub ab col dd k0 k1 k2 k3 k5 newId) ∧ h.Ns N mN ∧ mN "__init__" = none ∧ OwnTail h bmB bm := by
 unfold excIn at q
 split at q
 ·rename_i dd cd sl ho
  split at q
  ·rename_i C' bm k0 k1 k2 k3 n k5 hm hs
   simp only [Bool.and_eq_true, beq_iff_eq, Bool.not_eq_true'] at q
   obtain ⟨⟨⟨⟨⟨rfl, rfl⟩, hdel⟩, ht⟩, hok⟩, hni⟩ := q
   obtain ⟨nm, bs, mro, ns, qn, hd, sn, sub, ab, col, del⟩ := cd
   dsimp only at hm hdel hok hni
   subst hm hdel
   have hsl : sl = #[k0, k1, k2, k3, some (.builtin n), k5] := by
    obtain ⟨l⟩ := sl
    simp only at hs
    rw [hs]
   subst hsl
   exact ⟨bm, ns, nm, qn, bs, hd, sn, sub, ab, col, dd, k0, k1, k2, k3, k5, _, X _ _ ho, .of_isNs (isNs_of_in X hok), nsMap_none_of_in X hok hni, tail_of_in X ht⟩
  ·cases q
 ·cases q
def ZHN (K : W.Frag) (C : Addr) : Prop := excIn K C [.type "ValueError", .type "Exception", .type "BaseException", .type "object"] "ValueError.__new__" = true
section
variable {P : Program} {w : World} {K : W.Frag} {mg : Str → Option Value} {base : Heap} {N : List Str} {qual : Str} {scope : Scope} {f : Addr} {cd : Value} {A : Around} {outer : List Env} {s : Shared} {H : Hp} {E : XK}
 {x : Str} {np cpos pos : Pos} {e₀ : Expr} {es : List Expr} {t : TA} {C : Addr}
def ZOS (E : XK) (C : Addr) (t : TA) : TS := fun _ σ H => t σ H fun vs H1 => vs.length ≤ sizeLine ∧ E (.ref C) none H1
theorem ZTg (hC : ZHN K C) (hg : Gl (cxE P w K mg base N qual scope f cd A outer s H E) x) (hm : mg x = some (.ref C)) (ha : PA (cxE P w K mg base N qual scope f cd A outer s H E) (e₀ :: es) t)
  (hdb : (x == ("__debug__" : Str)) = false := by decide)
  (he : starEach (e₀ :: es) (cxE P w K mg base N qual scope f cd A outer s H E).env = (false, eval e₀ (cxE P w K mg base N qual scope f cd A outer s H E).env) :: starEach es (cxE P w K mg base N qual scope f cd A outer s H E).env := by rfl)
  (hpl : (backTo cpos (starEach es (cxE P w K mg base N qual scope f cd A outer s H E).env)).any (·.1) = false := by rfl) :
  PS (cxE P w K mg base N qual scope f cd A outer s H E) (.Raise (some (.Call (.Name x np) (e₀ :: es) [] cpos)) none pos) (ZOS E C t) := by
 intro pins s1 σ H1 D I h
 have hh : (cxE P w K mg base N qual scope f cd A outer s H E).A.handled = none := I.ok.hd rfl
 obtain ⟨bm, N', nm, qn, bs, hdct, sn, sub, ab, col, dd, k0, k1, k2, k3, k5, mN, hCo, hN, hni, TL⟩ := ZK7 I.ok.mod.kin hC
 have FB := PySem.F.excBase_ValueError
 refine wpAny_Raise_call_subT (C := C) (nm := nm) (q := qn) (N := N') (bs := bs) (bm := bm) (hdct := hdct) (sn := sn) (sub := sub) (ab := ab) (col := col) (dd := dd) (k0 := k0) (k1 := k1) (k2 := k2) (k3 := k3) (k5 := k5)
  FB (mN := mN) (TL.hasType FB.hasBase) hh (by rw [he]; show (false || (backTo cpos (starEach es _)).any (·.1)) = false; rw [hpl]; rfl) hni (ZHQ I hg hm ⟨rfl, ?_⟩ hdb)
 have hA := ha cpos pins s1 σ H1 _ I h
 rw [he] at hA ⊢
 refine Calls.evalArgs_plain (wpAny_mono hA (fun vs s2 ⟨xs, H2, I2, r, z, q⟩ => ⟨rfl, by rw [← r.length]; exact z, I2.bk _ _ hCo, hN.keeps I2.bk, TL.keeps I2.bk, fun h' e hx => ?_⟩) fun _ _ y => y)
 -- the exception is made: it leaves the frame
 have hfr : (cxE P w K mg base N qual scope f cd A outer s H E).A.frames = some ((cxE P w K mg base N qual scope f cd A outer s H E).env :: outer) := I.ok.frames
 have efr : frs ((cxE P w K mg base N qual scope f cd A outer s H E).env :: outer) = s.heap.objs.size :: frs outer := ZLg rfl
 have stk := I2.stack
 have hin : ∀ env ∈ ((cxE P w K mg base N qual scope f cd A outer s H E).env :: outer), ∀ b, env.frame = some b → b ∈ frs ((cxE P w K mg base N qual scope f cd A outer s H E).env :: outer) := fun env he b hb => List.mem_filterMap.mpr ⟨env, he, hb⟩
 show wpAny (model P w) _ (leaving _ (.ref e)) _ _ { s2 with heap := h' }
 refine wpAny_leaves_madeW (base := hideAll s2.heap (frs ((cxE P w K mg base N qual scope f cd A outer s H E).env :: outer))) (L := s.heap.objs.size) hfr rfl (fun b o q => of_hideAll _ q) (funFrames_hide stk hin) hx fun h'' t' fl2 htup hbt up => ?_
 have I3 : Inv (cxE P w K mg base N qual scope f cd A outer s H E) pins σ H2 { s2 with heap := h' } := I2.kept (h' := h') (t' := s2.toks) hx.keeps
 have cov : Cov (hideAll s2.heap (frs ((cxE P w K mg base N qual scope f cd A outer s H E).env :: outer))) H2 s.heap h' (frs outer) := fun b o hb hn ht => by
  have : ∃ o1, s2.heap.get? b = some o1 := by
   rcases ht with ⟨u, hu⟩ | ⟨o0, ho0⟩
   ·exact (I2.hok b u hu).there
   ·exact I2.base.there b o0 ho0 (show b ∉ ([] : List Addr) by simp)
  obtain ⟨o1, h1⟩ := this
  have h2 := hx.keeps _ _ h1
  rw [hb] at h2
  cases h2
  refine hideAll_get _ h1 fun z => ?_
  rw [efr] at z
  rcases List.mem_cons.mp z with rfl | z
  ·rcases ht with ⟨u, hu⟩ | ⟨o0, h0⟩
   ·have z3 : H2 s.heap.objs.size = none := I2.free
    rw [z3] at hu; cases hu
   ·exact Nat.lt_irrefl _ (Heap.lt_size h0)
  ·exact hn z
 have flo : h'.FunFrames (hideAll s2.heap (frs ((cxE P w K mg base N qual scope f cd A outer s H E).env :: outer))) outer := by
  obtain ⟨_, _, k⟩ := (funFrames_hide stk hin : s2.heap.FunFrames (hideAll s2.heap (frs ((cxE P w K mg base N qual scope f cd A outer s H E).env :: outer))) ((cxE P w K mg base N qual scope f cd A outer s H E).env :: outer))
  exact k.of_keeps fun b o hb _ => ⟨o, hx.keeps b o hb, rfl⟩
 obtain ⟨hok3, un3, cov3⟩ := ZJz (I3.hok) (show Un (frs outer) [] H H2 s.heap h' from I3.base) cov fl2.1 up (ZK6 I3 flo fun b hb => by
  show b ∈ frs ((cxE P w K mg base N qual scope f cd A outer s H E).env :: outer)
  rw [efr]; exact List.mem_cons_of_mem _ hb)
 refine ⟨e, .ref C, .ref t', _, H2, rfl, I2.os, I2.bare, un3, hok3, ?_, ?_, fl2, cov3, q⟩
 ·cases z : s.heap.get? e with
  | none => rfl
  | some o =>
   obtain ⟨o', e'⟩ := I2.base.there e o z (show e ∉ ([] : List Addr) by simp)
   rw [hx.new] at e'; cases e'
 ·cases z : H2 e with
  | none => rfl
  | some u =>
   obtain ⟨o', e'⟩ := (I2.hok e u z).there
   rw [hx.new] at e'; cases e'
end
section
variable {P : Program} {w : World} {K : W.Frag} {mg : Str → Option Value} {base : Heap}
theorem ZFc.lift {k : Nat} {f : Addr} {fd : FuncData} {ps : List Str} {sp : Sp} (F : ZFc P w K mg base CX0 k f fd ps sp) : ZFc P w K mg base (CX1 P w) k f fd ps sp :=
 ⟨F.len, fun A outer s H args us vs Q E hr he hb hv hs => codeAny_mono (F.run A outer s H args us vs Q E hr he hb hv hs) fun r s' h => by
  cases r with
  | error e => exact h.elim
  | ok fl => cases fl <;> exact h⟩
theorem ZFc.or {k : Nat} {CX : CXT} {f : Addr} {fd : FuncData} {ps : List Str} {sp sq : Sp} (F : ZFc P w K mg base CX k f fd ps sp) (G : ZFc P w K mg base CX k f fd ps sq) : ZFc P w K mg base CX k f fd ps (fun vs H Q E => sp vs H Q E ∨ sq vs H Q E) :=
 ⟨fun vs H Q E h => h.elim (F.len vs H Q E) (G.len vs H Q E), fun A outer s H args us vs Q E hr he hb hv hs => hs.elim (F.run A outer s H args us vs Q E hr he hb hv) (G.run A outer s H args us vs Q E hr he hb hv)⟩
theorem Fun.okx {x qual : Str} {st : Stmt} {f : Addr} {fd : FuncData} {N ps : List Str} {k : Nat} {sp : Sp} (F : Fun K x qual st f fd) (S : ZFa N ps (ZFW st)) (len : ∀ vs H Q E, sp vs H Q E → vs.length = ps.length)
  (hbody : ∀ (cdv : Value) (A : Around) (outer : List Env) (s : Shared) (H : Hp) (vs : List V) (Q : VK) (E : XK), Room k (A.deeper (envOfC qual (ZFW st) s.heap.objs.size f cdv)) → sp vs H Q E →
   ∃ t, PSs (cxE P w K mg base N qual (ZFW st) f cdv A outer s H E) (ZGE st) t ∧ t { nx := fun _ H' => Q .non H', rt := Q } (start N vs) H) : ZFc P w K mg base (CX1 P w) (k + 1) f fd ps sp := by
 obtain ⟨oc, od, kV, doc, pm, an, cdv, ct, osl, rfl, lk, hcd⟩ := F.ex
 exact ZQA lk hcd S len fun A outer s H vs Q E hr hsp => hbody cdv A outer s H vs Q E hr hsp
end
theorem ZKF {α : Type} (p : α → Bool) : ∀ (l : List α) (i : Nat), (∀ a, l[i]? = some a → p a = false) → (l.eraseIdx i).find? p = l.find? p
 | [], _, _ => by simp
 | a :: l, 0, h => by
  have := h a rfl
  rw [List.eraseIdx_cons_zero, List.find?_cons, this]
 | a :: l, i + 1, h => by
  rw [List.eraseIdx_cons_succ, List.find?_cons, List.find?_cons, ZKF p l i fun b hb => h b (by simpa using hb)]
theorem ZTh {es : Array DictEntry} (hk : StrKeys es) {name : Str} {i : Nat} (hi : es.findIdx? (fun e => e.key.isStr name) = some i) (x : Str) (hx : x ≠ name) :
  nsFind (es.eraseIdxIfInBounds i) x = nsFind es x := by
 obtain ⟨l⟩ := es
 simp only [nsFind, findBy, List.eraseIdxIfInBounds_toArray, List.find?_toArray, List.findIdx?_toArray] at hi ⊢
 rw [ZKF]
 intro a ha
 obtain ⟨hlt, hp, _⟩ := List.findIdx?_eq_some_iff_getElem.mp hi
 have ea : l[i] = a := by
  rw [List.getElem?_eq_getElem hlt] at ha
  exact Option.some.inj ha
 rw [ea] at hp
 obtain ⟨n, t, h⟩ := hk a (by simpa using List.mem_of_getElem? ha)
 rw [h] at hp ⊢
 have e1 : n = name := by simpa [Value.isStr] using hp
 have e2 : n ≠ x := fun z => hx (z.symm.trans e1)
 simpa [Value.isStr] using e2
section
variable {M : Model} {A : Around} {E : Value → Shared → Prop} {s : Shared}
theorem ZTi {a : Addr} {m : Str → Option Value} {name : Str} {Q : Bool → Shared → Prop} (hn : s.heap.Ns a m)
  (hQ : ∀ h' m', h'.Ns a m' → (∀ x, x ≠ name → m' x = m x) → Heap.SameBut a s.heap h' → Q (m name).isSome { s with heap := h' }) : wpAny M A (nsDel a name) Q E s := by
 obtain ⟨o, es, ep, ho, hd, hk, hm⟩ := id hn
 have hany : es.any (·.refKey) = false := by
  rw [Array.any_eq_false']; intro e he; obtain ⟨n, t, h⟩ := hk e he; simp [DictEntry.refKey, h]
 have hsome : (m name).isSome = es.any (·.key.isStr name) := by
  rw [← hm name]; simp only [nsFind, findBy, Option.isSome_map]
  rw [Bool.eq_iff_iff]; simp only [Array.find?_isSome, Array.any_eq_true]
  constructor
  ·rintro ⟨x, hx, hp⟩; obtain ⟨i, hi, rfl⟩ := Array.mem_iff_getElem.mp hx; exact ⟨i, hi, hp⟩
  ·rintro ⟨i, hi, hp⟩; exact ⟨_, Array.getElem_mem hi, hp⟩
 have hhas : nsHas name o = pure (es.any (·.key.isStr name)) := by
  rw [nsHas_eq]; unfold nsHasByArray; rw [hd]
  show (if (es.any fun x => x.key.isStr name) = true then _ else _) = _
  generalize (es.any fun x => x.key.isStr name) = b
  cases b <;> simp [hany]
 unfold nsDel
 refine wpAny_bind (wpAny_loadPart ho ?_)
 rw [hhas]
 refine wpAny_bind (wpAny_pure ?_)
 rw [← hsome]
 cases hmn : (m name).isSome
 ·have := hQ s.heap m hn (fun _ _ => rfl) (.refl ..)
  rw [hmn] at this
  exact wpAny_pure this
 ·refine wpAny_bind (wpAny_updatePart ho (wpAny_pure ?_))
  have key : ∃ m', (s.heap.update a (Obj.dropName name)).Ns a m' ∧ ∀ x, x ≠ name → m' x = m x := by
   obtain ⟨cl, d, dt, sl⟩ := o
   subst hd
   cases hi : es.findIdx? (·.key.isStr name) with
   | some i => exact ⟨_, ⟨_, _, ep + 1, Heap.get?_update_self _ ho (by simp only [Obj.dropName_eq, Obj.dropNameByArray, hi] <;> rfl), (by simp only [Obj.dropName_eq, Obj.dropNameByArray, hi] <;> rfl), hk.erase i, fun _ => rfl⟩, fun x hx => by rw [← hm x]; exact ZTh hk hi x hx⟩
   | none => exact ⟨_, ⟨_, _, ep, Heap.get?_update_self _ ho (by simp only [Obj.dropName_eq, Obj.dropNameByArray, hi] <;> rfl), (by simp only [Obj.dropName_eq, Obj.dropNameByArray, hi] <;> rfl), hk, fun _ => rfl⟩, fun x _ => hm x⟩
  obtain ⟨m', hm', hx'⟩ := key
  have := hQ _ m' hm' hx' (Heap.SameBut.update ..)
  rw [hmn] at this
  exact this
theorem ZPK {env : Env} {n : Str} {pos : Pos} {m : Str → Option Value} {Q : Unit → Shared → Prop} (hl : env.kindOf n = some .local) (hn : s.heap.Ns env.locals m)
  (hp : (env.scope.kind == .class || (env.scope.kind == .module && env.locals != env.globals)) = false)
  (h : ∀ h' m', h'.Ns env.locals m' → (∀ x, x ≠ n → m' x = m x) → Heap.SameBut env.locals s.heap h' → Q () { s with heap := h', toks := s.toks + 1 }) :
  wpAny M A (do bindName env n .none; unbindBehindTheSuite env n pos) Q E s := by
 refine wpAny_bind (wpAny_bindName (wpAny_storeName_local hl hn (fun h₁ hn₁ hs₁ => ?_) hp))
 unfold unbindBehindTheSuite
 refine wpAny_onRaise ?_
 unfold unbindName
 refine wpAny_bind (wpAny_point (wpAny_bind ?_))
 unfold deleteName
 simp only [hl, hp]
 rw [if_neg (by decide)]
 refine wpAny_bind (ZTi hn₁ fun h₂ m₂ hn₂ hm₂ hs₂ => ?_)
 simp only [if_true, Option.isSome_some, Bool.not_true, Bool.false_eq_true, if_false]
 exact wpAny_pure (wpAny_point (h h₂ m₂ hn₂ (fun x hx => by rw [hm₂ x hx, if_neg hx]) (hs₁.trans hs₂)))
end
section
variable {X : Cx} {pins : List (Addr × Obj)} {σ : St} {H : Hp} {s : Shared}
theorem ZK8 {M : Model} {A : Around} {E : Value → Shared → Prop} {i : Nat} {n : Str} {pos : Pos} {Q : Unit → Shared → Prop} (I : Inv X pins σ H s) (hN : X.N.Nodup) (hi : X.N[i]? = some n) (hl : X.env.scope.names.lookup n = some .local)
  (h : ∀ s', Inv X pins (σ.set i none) H s' → Q () s') : wpAny M A (do bindName X.env n .none; unbindBehindTheSuite X.env n pos) Q E s := by
 obtain ⟨m, hn, hlk⟩ := id I.loc
 have hcls : (X.env.scope.kind == .class || (X.env.scope.kind == .module && X.env.locals != X.env.globals)) = false := by rw [I.ok.kind]; rfl
 obtain ⟨oL, _, _, hoL, _⟩ := id hn
 refine ZPK hl hn hcls fun h' m' hn' hm' hs => h _ ?_
 refine ⟨I.ok, I.os, I.bare, ⟨fun b o e n hb hx => ?_, fun b o e n hb hx => ?_, I.base.free, fun b o e hx => ?_, I.base.tups, I.base.frzs, I.base.tbls⟩, ⟨m', hn', fun j y v' e1 e2 e3 => ?_⟩, fun y c e => ?_, I.free, I.freeC, fun p hp => ?_, fun b ob e => ?_, by simpa using I.len⟩
 ·exact (hs.2 b (Nat.ne_of_lt (Nat.lt_of_lt_of_le (Heap.lt_size e) I.ok.above))).trans (I.base.keep b o e n hb hx)
 ·obtain ⟨sl, e1⟩ := I.base.slot b o e n hb hx
  exact ⟨sl, (hs.2 b (Nat.ne_of_lt (Nat.lt_of_lt_of_le (Heap.lt_size e) I.ok.above))).trans e1⟩
 ·obtain ⟨o', e1⟩ := I.base.there b o e hx
  exact ⟨o', (hs.2 b (Nat.ne_of_lt (Nat.lt_of_lt_of_le (Heap.lt_size e) I.ok.above))).trans e1⟩
 ·by_cases hj : j = i
  ·subst hj
   rw [List.getElem?_set] at e2
   split at e2
   ·split at e2 <;> cases e2
   ·rename_i z; exact absurd rfl z
  ·rw [List.getElem?_set_ne (Ne.symm hj)] at e2
   obtain ⟨u', r', q⟩ := hlk j y v' e1 e2 e3
   have hy : y ≠ n := fun e => hj (ZLT hN e1 (e ▸ hi))
   refine ⟨u', r', ?_⟩
   rcases q with ⟨k, e⟩ | ⟨k, c, e, z⟩
   ·exact .inl ⟨k, by rw [hm' y hy]; exact e⟩
   ·exact .inr ⟨k, c, e, z.sameBut hs (I.cne y c e)⟩
 ·obtain ⟨w', z⟩ := I.cell y c e
  exact ⟨w', z.sameBut hs (I.cne y c e)⟩
 ·obtain ⟨e, n, ne, nf, d⟩ := I.pin p hp
  exact ⟨(hs.2 p.1 ne).trans e, n, ne, nf, d⟩
 ·refine (I.hok b ob e).stay (fun c w' hc q => (hs.2 c ?_).trans q) (fun _ q => q) fun _ _ q => q
  rintro rfl
  rcases hc with z | hc
  ·have := I.free
   rw [z, e] at this; cases this
  ·have := I.free
   rw [hc] at this; cases this
end
def ZID (e : Addr) (C : Value) : HO := .ext fun h => ∃ oe, h.get? e = some oe ∧ oe.cls = C
abbrev Cx.suite (X : Cx) (e : Addr) : Cx := { X with A := X.A.mark (some (.ref e)), calm := false, xe := fun _ _ => False }
section
variable {X : Cx} {pins : List (Addr × Obj)} {σ : St} {H : Hp} {s : Shared} {e : Addr}
theorem Inv.around {A' : Around} {xe' : Value → Shared → Prop} (I : Inv X pins σ H s) (hf : A'.frames = X.A.frames) : Inv { X with A := A', calm := false, xe := xe' } pins σ H s :=
 ⟨⟨I.ok.mod, I.ok.kind, I.ok.glob, I.ok.blt, I.ok.above, I.ok.inj, I.ok.has, I.ok.cab, (fun z => nomatch z), hf.trans I.ok.frames, I.ok.stk, I.ok.exf, I.ok.bs, I.ok.bsz, I.ok.noex, I.ok.exfs, I.ok.funs, I.ok.frf⟩,
  I.os, I.bare, I.base, I.loc, I.cell, I.free, I.freeC, I.pin, I.hok, I.len⟩
theorem Inv.toSuite (I : Inv X pins σ H s) : Inv (X.suite e) pins σ H s := I.around rfl
theorem Inv.ofSuite (ok : X.Ok) (I : Inv (X.suite e) pins σ H s) : Inv X pins σ H s :=
 ⟨ok, I.os, I.bare, I.base, I.loc, I.cell, I.free, I.freeC, I.pin, I.hok, I.len⟩
theorem Inv.track {u : HO} (I : Inv X pins σ H s) (h1 : X.s₀.heap.get? e = none) (h2 : H e = none) (h3 : e ≠ X.env.locals) (h4 : ∀ x c, X.env.cells.lookup x = some c → c ≠ e) (h5 : ∀ p ∈ X.pn ++ pins, p.1 ≠ e) (new : ZFz X.prog X.w (upd H e u) s.heap e u) : Inv X pins σ (upd H e u) s := by
 have ne : ∀ b o, X.s₀.heap.get? b = some o → b ≠ e := fun b o q z => by rw [z, h1] at q; cases q
 refine ⟨I.ok, I.os, I.bare, ⟨I.base.keep, I.base.slot, fun b o q n hx => ?_, I.base.there, fun b xs q => ?_, fun b o xs q => ?_, fun b ps q => ?_⟩, I.loc, I.cell, ?_, fun x c q => ?_, fun p hp => ?_, fun b v q => ?_, I.len⟩
 ·rw [ZFg (ne b o q)]; exact I.base.free b o q n hx
 ·have := I.base.tups b xs q
  rw [ZFg (ZF2 this h2)]; exact this
 ·have := I.base.frzs b o xs q
  rw [ZFg (ZF2 this h2)]; exact this
 ·obtain ⟨m, z⟩ := I.base.tbls b ps q
  exact ⟨m, by rw [ZFg (ZF2 z h2)]; exact z⟩
 ·rw [ZFg (Ne.symm h3)]; exact I.free
 ·rw [ZFg (h4 x c q)]; exact I.freeC x c q
 ·obtain ⟨a, b, c⟩ := I.pin p hp
  exact ⟨a, by rw [ZFg (h5 p hp)]; exact b, c⟩
 ·by_cases hb : b = e
  ·subst hb; rw [ZFf] at q; cases q; exact new
  ·rw [ZFg hb] at q
   exact (I.hok b v q).stay (fun _ _ _ q => q) (fun c r => by rw [ZFg (ZF2 r h2)]; exact r) fun c xs r => by rw [ZFg (ZF2 r h2)]; exact r
end
def Fl (X : Cx) (H1 : Hp) (s0 : Shared) (e : Addr) (C : Value) (H' : Hp) (s3 : Shared) : Prop := ∃ (a0 : Value) (B : Heap), s3.os = s0.os ∧ AllBare s3.gens ∧ Un (frs X.stack) [] H1 H' s0.heap s3.heap ∧ HOk X.prog X.w H' s3.heap ∧
 s0.heap.get? e = none ∧ H' e = none ∧ Heap.FlyingW B X.stack e C a0 s3.heap ∧ Cov B H' s0.heap s3.heap (frs X.stack)
section
variable {X : Cx} {pins : List (Addr × Obj)} {σ : St} {H1 H' : Hp} {s0 s3 : Shared} {e : Addr} {C : Value}
theorem Fl.inv (F : Fl X H1 s0 e C H' s3) (I : Inv X pins σ H1 s0) : Inv X pins σ H' s3 := by
 obtain ⟨a0, B, os, bare, un, hok, _⟩ := F
 exact I.call' (ch := []) os un hok bare (fun b z => absurd z (by simp))
theorem ZVw {P : Program} {w : World} {H : Hp} {h : Heap} {e : Addr} {oe : Obj} {C : Value} (he : h.get? e = some oe) (hc : oe.cls = C) : ZFz P w (upd H e (ZID e C)) h e (ZID e C) := ⟨⟨oe, he, hc⟩, ⟨oe, he⟩, fun h1 h2 ⟨o, q, c⟩ k => ⟨o, k o q, c⟩⟩
theorem Fl.suite (F : Fl X H1 s0 e C H' s3) (I : Inv X pins σ H1 s0) (hst : X.stack = X.env :: X.outer) (hfr : X.env.frame = some X.env.locals) (hex : X.ex = []) : ∃ oe, oe.cls = C ∧ s3.heap.get? e = some oe ∧ H' e = none ∧ Inv (X.suite e) pins σ (upd H' e (ZID e C)) s3 := by
 have I3 := F.inv I
 obtain ⟨a0, B, os, bare, un, hok, hen, heH, fl, cov⟩ := F
 obtain ⟨oe, vs, T, oT, ts, he, hc, hd, _⟩ := fl.2.2.2
 have nfr : e ∉ frs X.stack := fun z => by
  obtain ⟨_, o, ho, hn⟩ := fl.2.2.1.mem z
  rw [he] at ho; cases ho
  exact hn vs hd
 have efr : frs X.stack = X.env.locals :: X.fs := by rw [hst]; exact ZLg hfr
 rw [efr] at nfr
 refine ⟨oe, hc.1, he, heH, (I3.track (u := ZID e C) ?_ heH (fun z => nfr (by rw [z]; exact List.mem_cons_self)) (fun x c q z => ?_) (fun p hp z => ?_) (ZVw he hc.1)).toSuite⟩
 ·cases z : X.s₀.heap.get? e with
  | none => rfl
  | some o =>
   obtain ⟨o', e'⟩ := I.base.there e o z (by rw [hex]; simp)
   rw [hen] at e'; cases e'
 ·obtain ⟨v, o, ho, hdc⟩ := I3.cell x c q
  rw [z, he] at ho; cases ho
  rw [hd] at hdc; cases hdc
 ·have := (I.pin p hp).1
  rw [z, hen] at this; cases this
end
abbrev TX := St → Hp → VK → XK → Prop
def XP (X : Cx) (pins : List (Addr × Obj)) (σ : St) (E : XK) (ev : Value) (s' : Shared) : Prop := ∃ H1 s1 e C H', Inv X pins σ H1 s1 ∧ ev = .ref e ∧ Fl X H1 s1 e C H' s' ∧ E C none H'
structure QX (X : Cx) (e : Expr) (t : TX) : Prop where
 h : ∀ (pins : List (Addr × Obj)) (s : Shared) (σ : St) (H : Hp) (Q : VK) (E : XK), Inv X pins σ H s → t σ H Q E → wpAny (model X.prog X.w) X.A (eval e X.env) (EP X pins σ Q) (XP X pins σ E) s
section
variable {X : Cx} {k : Nat} {f C : Addr} {fd : FuncData} {ps : List Str} {sp : Sp} {dvs : List V} {ds : List Value} {E : XK} {x m : Str} {p pos apos : Pos} {e o : Expr} {es : List Expr} {ta : TE} {t : TA}
theorem ZPq {pins : List (Addr × Obj)} {σ : St} {H : Hp} {s : Shared} {Q : VK} {us : List Value} {vs : List V} (F : ZFc X.prog X.w X.K X.mg X.base (CX1 X.prog X.w) k f fd ps sp) (hr : Room k X.A) (hb : ZFZ X.K fd ps ds) (hd : ZFj dvs ds)
  (I : Inv X pins σ H s) (r : ZFj vs us) (h : sp (vs ++ dvs) H Q E) : wpAny (model X.prog X.w) X.A (call (.ref f) us) (EP X pins σ Q) (XP X pins σ E) s := by
 have r2 : ZFj (vs ++ dvs) (us ++ ds) := r.append hd
 have hl : (us ++ ds).length = ps.length := by rw [← r2.length]; exact F.len _ _ _ _ h
 refine wpAny_call (codeAny_mono (F.run X.A X.stack s H ⟨us, []⟩ (us ++ ds) (vs ++ dvs) Q E hr I.env0 (hb s us I.kIn hl) r2 h) fun r s' hq => ?_)
 cases r with
 | error e =>
  obtain ⟨e, C, a0, B, H', rfl, q1, q2, q3, q4, q5, q6, q7, q8, q⟩ := hq
  exact ⟨H, s, e, C, H', I, rfl, ⟨a0, B, q1, q2, q3, q4, q5, q6, q7, q8⟩, q⟩
 | ok fl =>
  cases fl with
  | ret u => exact I.after hq
  | next => exact False.elim hq
  | brk => exact False.elim hq
  | cont => exact False.elim hq
def ZRg (sp : Sp) (dvs : List V) (t : TA) : TX := fun σ H Q E => t σ H fun vs H1 => sp (vs ++ dvs) H1 Q E
def ZRh (C : Addr) (m : Str) (sp : Sp) (dvs : List V) (ta : TE) (t : TA) : TX := fun σ H Q E => ta σ H fun x H1 => ZMI C m x H1 (t σ H1 fun vs H2 => sp (x :: (vs ++ dvs)) H2 Q E)
theorem ZVx (F : ZFc X.prog X.w X.K X.mg X.base (CX1 X.prog X.w) k f fd ps sp) (hr : Room k X.A) (hg : Gl X x) (hm : X.mg x = some (.ref f)) (hk : W.keepIn X.K (.ref f) = true) (hb : ZFZ X.K fd ps ds) (hd : ZFj dvs ds)
  (ha : QA X.nox (e :: es) t) (hns : ZGG (e :: es) = true := by rfl) (hdb : (x == ("__debug__" : Str)) = false := by decide) : QX X (.Call (.Name x p) (e :: es) [] pos) (ZRg sp dvs t) := by
 refine ⟨?_⟩
 intro pins s σ H Q E I h
 refine wpAny_Call_Name_kw (ZHQ I hg hm ?_ hdb)
 refine PySem.W.callWith_K (h₀ := X.base) I.ok.mod.kin hk (wpAny_mono (ha.h pos pins s σ H _ (I.wish _) h) (fun us s1 ⟨vs, H1, I1, r, q⟩ => ⟨I1.kIn, ?_⟩) fun _ _ z => False.elim z) (ZHA hns) (ZGu (ZGr hns))
 exact ZPq F hr hb hd I1.unwish r q
theorem ZPr {pl : Sem Bool} (he : QE X.nox o ta) (c : Cls X.K C) (hm : ZGa X.K C m f) (F : ZFc X.prog X.w X.K X.mg X.base (CX1 X.prog X.w) k f fd ps sp) (hr : Room k X.A) (hb : ZFZ X.K fd ps ds) (hd : ZFj dvs ds) (ha : QA X.nox (e :: es) t) (hns : ZGG (e :: es) = true := by rfl)
  (ht : eval (.Call (.Attribute o m apos) (e :: es) [] pos) X.env = (do
   let ov ← eval o X.env
   standAt apos.atName
   let (f, first) ← holding [ov] (getMethod ov m pl)
   callWith pos f first (backTo pos (starEach (e :: es) X.env)) (backToKw pos (keywordEach [] X.env))) := by rfl) :
  QX X (.Call (.Attribute o m apos) (e :: es) [] pos) (ZRh C m sp dvs ta t) := by
 refine ⟨?_⟩
 intro pins s σ H Q E I h
 refine PySem.W.methodCall_KW (pl := pl) (wpAny_mono (he.h pins s σ H _ (I.wish _) h) (fun u s1 ⟨x, H1, I1, rx, a, dx, fs, ex, ea, l, q⟩ => ?_) fun _ _ z => False.elim z) ht
 subst ex
 obtain rfl : u = Value.ref a := rx
 have I1' := I1.unwish
 refine ZJt I1' ea c hm l ?_
 refine PySem.W.callWith_K (first := [.ref a]) (h₀ := X.base) I.ok.mod.kin hm.kp (wpAny_mono (ha.h pos pins s1 σ H1 _ I1 q) (fun us s2 ⟨vs, H2, I2, r, q2⟩ => ⟨I2.kIn, ?_⟩) fun _ _ z => False.elim z) (ZHA hns) (ZGu (ZGr hns))
 exact ZPq (us := .ref a :: us) (vs := .ref a :: vs) F hr hb hd I2.unwish (.cons rfl r) q2
end
abbrev TBX := ZGW → XK → St → Hp → Prop
structure QBX (X : Cx) (st : List Stmt) (t : TBX) : Prop where
 h : ∀ (pins : List (Addr × Obj)) (s : Shared) (σ : St) (H : Hp) (D : ZGW) (E : XK), Inv X pins σ H s → t D E σ H → wpAny (model X.prog X.w) X.A (execs st X.env) (SP X pins D) (XP X pins σ E) s
def ZRi (t : TX) : TBX := fun D E σ H => t σ H (fun _ H1 => D.nx σ H1) E
section
variable {X : Cx} {e : Expr} {t : TX} {pos pos' : Pos} {x : Str} {i : Nat}
theorem one_bx {st : Stmt} {E : Value → Shared → Prop} {pins : List (Addr × Obj)} {D : ZGW} {s : Shared} (h : wpAny (model X.prog X.w) X.A (exec st X.env) (SP X pins D) E s) : wpAny (model X.prog X.w) X.A (execs [st] X.env) (SP X pins D) E s := by
 refine wpAny_execs_cons (thn h fun f s1 q => ?_)
 cases f with
 | next => exact wpAny_execs_nil q
 | ret v => exact q
 | brk => exact q
 | cont => exact q
theorem ZLh (he : QX X e t) (hs : ZHR e = false := by rfl) : QBX X [.Expr e pos] (ZRi t) := ⟨fun pins s σ H D E I h =>
 one_bx (wpAny_Expr_any (thn (he.h pins s σ H _ E I h) fun v s1 ⟨x, H1, I1, r1, q1⟩ => ⟨σ, H1, I1, q1⟩) I.quiet (ZIC hs))⟩
end
abbrev TH := Value → ZGW → St → Hp → Prop
structure QH (X : Cx) (hs : List ExceptHandler) (t : TH) : Prop where
 h : ∀ (pins : List (Addr × Obj)) (σ : St) (H1 : Hp) (s0 : Shared) (e : Addr) (C : Value) (H' : Hp) (s3 : Shared) (D : ZGW), Inv X pins σ H1 s0 → Fl X H1 s0 e C H' s3 → t C D σ H' → wpAny (model X.prog X.w) X.A (handleBy (.ref e) X.env hs) (SP X pins D) X.xe s3
section
variable {X : Cx}
def ZZF : TH := fun _ _ _ _ => False
theorem ZOT : QH X [] ZZF := ⟨fun _ _ _ _ _ _ _ _ _ _ _ h => False.elim h⟩
theorem ZRj {M : Model} {A : Around} {E : Value → Shared → Prop} {s : Shared} {K : W.Frag} {T e : Addr} {oe : Obj} {b : Bool} {Q : Bool → Shared → Prop} (hK : K.In s.heap) (hT : ZHN K T) (he : s.heap.get? e = some oe) (hsub : subIn K oe.cls (.ref T) = some b) (hq : Q b s) : wpAny M A (excMatches (.ref e) (.ref T)) Q E s := by
 obtain ⟨bm, N', nm, qn, bs, hdct, sn, sub, ab, col, dd, k0, k1, k2, k3, k5, mN, hC, hN, hni, TL⟩ := ZK7 hK hT
 obtain ⟨h, g, d, tk, os⟩ := s
 have hbase := TL.hasType PySem.F.excBase_ValueError.hasBase
 have hcB : (Value.ref T :: bm).contains (.type "BaseException") = true := by rw [List.contains_cons, hbase, Bool.or_true]
 have f := tc_notTuple
 have L := looks_subIn (M := M) hK hsub
 unfold excMatches
 repeat (first | with_reducible refine wpAny_loadPart_at he ?_ | with_reducible refine wpAny_loadPart_at hC ?_ | (with_reducible refine wpAny_isSubtype_exc hC ?_; rw [hcB]) | with_reducible refine L.at ?_ | wp_step)
 cases b <;> (wp_walk; exact hq)
abbrev ZGW.gone (D : ZGW) (i : Nat) : ZGW := { nx := fun σ H => D.nx (σ.set i none) H, rt := D.rt, bk := fun σ H => D.bk (σ.set i none) H, ct := fun σ H => D.ct (σ.set i none) H }
variable {x n : Str} {np pos : Pos} {T : Addr} {b₀ : Stmt} {suite : List Stmt} {ZGe : List ExceptHandler} {ts : Addr → TS} {tr : TH} {i : Nat}
def ZOU (C : Value) (H : Hp) (R : Addr → Hp → Prop) : Prop := ∀ e, H e = none → R e (upd H e (ZID e C))
def ZMb (K : W.Frag) (T : Addr) (C : Value) (A B : Prop) : Prop := ∃ b, subIn K C (.ref T) = some b ∧ if b = true then A else B
def tHN (K : W.Frag) (T : Addr) (i : Nat) (ts : Addr → TS) (tr : TH) : TH := fun C D σ H => ZMb K T C (ZOU C H fun e H2 => ts e (D.gone i) (σ.set i (some (.ref e))) H2) (tr C D σ H)
theorem ZLi (K : W.Frag) (hK : X.K = K) (hst : X.stack = X.env :: X.outer) (hfr : X.env.frame = some X.env.locals) (hex : X.ex = []) (hN : X.N.Nodup) (hi : X.N[i]? = some n) (hl : X.env.scope.names.lookup n = some .local) (hg : Gl X x) (hm : X.mg x = some (.ref T)) (hT : ZHN K T)
  (hs : ∀ e : Addr, QB (X.suite e) (b₀ :: suite) (ts e)) (hr : QH X ZGe tr) (hdb : (x == ("__debug__" : Str)) = false := by decide) :
  QH X (.ExceptHandler (some (.Name x np)) (some n) (b₀ :: suite) pos :: ZGe) (tHN K T i ts tr) := by
 subst hK
 refine ⟨?_⟩
 intro pins σ H1 s0 e C H' s3 D I F h
 obtain ⟨oe, rfl, he3, heH, IS⟩ := F.suite I hst hfr hex
 obtain ⟨b, hsub, h⟩ := h
 refine wpAny_handleBy_cons (codeAny_handlers_test ?_) (by intro q; cases q)
 refine ZHQ IS hg hm ?_ hdb
 refine ZRj IS.kIn hT he3 hsub ?_
 cases b with
 | false => exact hr.h pins σ H1 s0 e _ H' s3 D I F h
 | true =>
  have okX := I.ok
  refine codeAny_handlers_suite_as ?_
  have F2 := F
  obtain ⟨a0, B, q1, q2, q3, q4, q5, q6, q7, q8⟩ := F2
  refine lands_againW q7 fun h' fl' up => ?_
  have I3 := F.inv I
  obtain ⟨hok3, un3, cov3⟩ := ZJz q4 q3 q8 fl'.1 up (ZK6 I3 q7.2.2.1 fun b hb => hb)
  have F3 : Fl X H1 s0 e oe.cls H' { s3 with heap := h' } := ⟨a0, B, q1, q2, un3, hok3, q5, q6, fl', cov3⟩
  obtain ⟨oe4, ec4, _, _, IS4⟩ := F3.suite I hst hfr hex
  have hf : (X.suite e).fn n = true ∨ (X.suite e).env.scope.names.lookup n = some .local := .inr hl
  refine ZJr (X := X.suite e) (v := .ref e) IS4 hN hi (.inl hl) rfl (fun s5 IS5 => ?_) hf
  have := (hs e).h pins _ _ _ (D.gone i) IS5 (h e q6)
  refine wpAny_mono this (fun f s6 hsp => ?_) fun _ _ z => False.elim z
  show wpAny (model X.prog X.w) X.A (do bindName X.env n .none; unbindBehindTheSuite X.env n pos) (fun _ s₃ => SP X pins D f s₃) X.xe s6
  cases f with
  | next => obtain ⟨σ', H', I, q⟩ := hsp; exact ZK8 (I.ofSuite okX) hN hi hl fun s7 I7 => ⟨_, _, I7, q⟩
  | brk => obtain ⟨σ', H', I, q⟩ := hsp; exact ZK8 (I.ofSuite okX) hN hi hl fun s7 I7 => ⟨_, _, I7, q⟩
  | cont => obtain ⟨σ', H', I, q⟩ := hsp; exact ZK8 (I.ofSuite okX) hN hi hl fun s7 I7 => ⟨_, _, I7, q⟩
  | ret u => obtain ⟨v, σ', H', I, r, q⟩ := hsp; exact ZK8 (I.ofSuite okX) hN hi hl fun s7 I7 => ⟨_, _, _, I7, r, q⟩
end
section
variable {X : Cx} {body : List Stmt} {h₀ : ExceptHandler} {hs : List ExceptHandler} {pos : Pos} {tb : TBX} {th : TH}
def ZXx (tb : TBX) (th : TH) : TS := fun D σ H => tb D (fun C _ H' => th C D σ H') σ H
theorem ZOV (hst : X.stack = X.env :: X.outer) (hfr : X.env.frame = some X.env.locals) (hb : QBX X body tb) (hh : QH X (h₀ :: hs) th) : QS X (.Try body (h₀ :: hs) [] [] pos) (ZXx tb th) := by
 refine ⟨?_⟩
 intro pins s σ H D I h
 refine wpAny_Try_except (wpAny_mono (hb.h pins s σ H D _ I h) (fun f s1 q => ?_) fun ev s1 ⟨H1, s0, e, C, H', I1, eq, F, q⟩ => ?_)
 ·cases f with
  | next => exact wpAny_execs_nil q
  | brk => exact q
  | cont => exact q
  | ret u => exact q
 ·subst eq
  have I3 := F.inv I1
  have F2 := F
  obtain ⟨a0, B, q1, q2, q3, q4, q5, q6, q7, q8⟩ := F2
  have hfrs : X.A.frames = some (X.env :: X.outer) := by rw [← hst]; exact I.ok.frames
  have q7' : Heap.FlyingW B (X.env :: X.outer) e C a0 s1.heap := by rw [← hst]; exact q7
  refine wpAny_looks_onW hfrs hfr q7' fun h4 hheld up4 => ?_
  refine wpAny_landsW hheld fun h5 fl5 up5 => ?_
  have fl5' : Heap.FlyingW B X.stack e C a0 h5 := by rw [hst]; exact fl5
  obtain ⟨hok3, un3, cov3⟩ := ZJz q4 q3 q8 fl5'.1 (up4.trans up5) (ZK6 I3 q7.2.2.1 fun b hb => hb)
  exact hh.h pins σ H1 s0 e C H' { s1 with heap := h5 } D I1 ⟨a0, B, q1, q2, un3, hok3, q5, q6, fl5', cov3⟩ q
end
end L2
namespace L2
open PySem PySem.Spec PyProof.Rows PySem.W PySem.Builtin PySem.Builtin.ObjectAttr PySem.Builtin.Getset_descriptor
structure ZG7 (K : W.Frag) (C : Addr) : Prop where
 ga : findIn K (.ref C) "__getattribute__" = some (some (.builtin "BaseException.__getattribute__"))
 gt : findIn K (.ref C) "__getattr__" = some none
 cl : findIn K (.ref C) "__class__" = some (some (.builtin "object.__class__"))
 ob : mroIn K C (.type "object") = some true
 be : mroIn K C (.type "BaseException") = some true
section
variable {prog : Program} {w : World} {A : Around} {E : Value → Shared → Prop} {h : Heap} {g : Array GenState} {d : Drawn} {t : Nat} {os : OsState} {a C : Addr} {o : Obj} {K : W.Frag}
theorem ZOW {M : Model} (hx : h.get? a = some o) (hc : o.cls = .ref C) : Looks M h (typeOf (.ref a)) (.ref C) := hc ▸ (Looks.ld hx).andThen .now
theorem ZNW {R : Result → Shared → Prop} {tp : Value} (X : K.In h) (hx : h.get? a = some o) (hc : o.cls = .ref C) (F : ZG7 K C) (hq : R (.ok (.ret (.ref C))) ⟨h, g, d, t, os⟩) :
  codeAny (model prog w) A (.call (.builtin "getset_descriptor.__get__") ⟨[.builtin "object.__class__", .ref a, tp], []⟩) R ⟨h, g, d, t, os⟩ := by
 have L0 := ZOW (M := model prog w) hx hc
 have L1 := looks_mroIn (M := model prog w) X F.ob
 refine codeAny_call_builtin KF.slot_gs.plain KF.entry_gs (KF.slot_gs.check _ _ _ _ _ _ _ _ KF.type_class (KF.args_gs _ _ _) ?_)
 unfold Builtin.«getset_descriptor.__get__» descrGet
 rw [dga_obj]
 refine wpAny_bind (wpAny_pure ?_)
 unfold descrGetter descrCheckInstance descrNameAndClass isInstance
 simp only [KF.owner_class]
 repeat lk
 refine ⟨Code.quiet_builtin _ (by decide +kernel), codeAny_builtin KF.entry_class ?_⟩
 unfold Builtin.«object.__class__» shownTypeOf
 repeat lk
 exact hq
theorem ZOX {M : Model} {nameV : Value} {Q : Unit → Shared → Prop} (X : K.In h) (hx : h.get? a = some o) (hc : o.cls = .ref C) (F : ZG7 K C) (hq : Q () ⟨h, g, d, t, os⟩) : wpAny M A (checkBuiltinCall "BaseException.__getattribute__" ⟨[.ref a, nameV], []⟩) Q E ⟨h, g, d, t, os⟩ := by
 have hk : builtinKind "BaseException.__getattribute__" = some .slot := by decide +kernel
 have hsplit : splitId "BaseException.__getattribute__" = some ("BaseException", "__getattribute__") := by decide +kernel
 have ha := PySem.F.args_bexc_ga (.ref a) nameV
 have L0 := ZOW (M := M) hx hc
 have L1 := looks_mroIn (M := M) X F.be
 simp only [checkBuiltinCall, hk, hsplit]
 refine wpAny_bind ?_
 unfold isInstance
 repeat (first | with_reducible refine L0.at ?_ | with_reducible refine L1.at ?_ | wp_step)
 exact hq
theorem ZMJ {tk : Tok} {Q : Fin → Shared → Prop} (X : K.In h) (hx : h.get? a = some o) (hc : o.cls = .ref C) (F : ZG7 K C) (hq : Q (.done (.ret (.ref C))) ⟨h, g, d, t, os⟩) :
  wpAny (model prog w) A (Builtin.«object.__getattribute__» ⟨[.ref a, .str "__class__" tk], []⟩) Q E ⟨h, g, d, t, os⟩ := by
 have hT5 : (⟨h, g, d, t, os⟩ : Shared).TypeIs (.builtin "object.__class__") "getset_descriptor" := PySem.F.typeOf_object_class
 have f5 := PySem.F.typeOf_object_class
 have f6 := PySem.F.slot_gs_get.lookup
 have f7 := PySem.F.slot_gs_set.lookup
 have L2 := looks_findIn (M := model prog w) X F.cl
 repeat (any_goals (first | assumption | (with_reducible refine wpAny_loadPart_at hx ?_; rw [hc]) | with_reducible refine L2.at ?_ | wp_step))
 refine ZNW X hx hc F ?_
 repeat (any_goals (first | assumption | wp_step))
theorem ZMc {tk : Tok} {R : Result → Shared → Prop} (X : K.In h) (hx : h.get? a = some o) (hc : o.cls = .ref C) (F : ZG7 K C) (hq : R (.ok (.ret (.ref C))) ⟨h, g, d, t, os⟩) :
  codeAny (model prog w) A (.call (.builtin "BaseException.__getattribute__") ⟨[.ref a, .str "__class__" tk], []⟩) R ⟨h, g, d, t, os⟩ :=
 codeAny_call_builtin PySem.F.attr_ValueError.ga.plain PySem.F.entry_bexc_ga (ZOX X hx hc F (ZMJ X hx hc F hq))
theorem ZOY {tk : Tok} {Q : Value → Shared → Prop} (X : K.In h) (hx : h.get? a = some o) (hc : o.cls = .ref C) (F : ZG7 K C) (hq : Q (.ref C) ⟨h, g, d, t, os⟩) :
  wpAny (model prog w) A (getAttrBy (.ref a) (.str "__class__" tk) false) Q E ⟨h, g, d, t, os⟩ := by
 have f3 := PySem.F.attr_ValueError.ga.bind (.ref a)
 have hx2 : (Value.builtin "BaseException.__getattribute__" == Value.builtin "object.__getattribute__") = false := by decide +kernel
 have hx1 : (onTheHeap (Value.ref C) && Value.builtin "BaseException.__getattribute__" == Value.builtin "object.__getattribute__") = false := by rw [hx2]; rfl
 have L1 := looks_findIn (M := model prog w) X F.ga
 have L2 := looks_findIn (M := model prog w) X F.gt
 repeat (any_goals (first | assumption | (with_reducible refine wpAny_loadPart_at hx ?_; rw [hc]) | with_reducible refine L1.at ?_ | with_reducible refine L2.at ?_ | wp_step))
 refine ZMc X hx hc F ?_
 repeat (any_goals (first | assumption | wp_step))
theorem ZMd {Q : Option Value → Shared → Prop} (X : K.In h) (hx : h.get? a = some o) (hc : o.cls = .ref C) (F : ZG7 K C) (hq : Q (some (.ref C)) ⟨h, g, d, t + 1, os⟩) : wpAny (model prog w) A (getAttr? (.ref a) "__class__") Q E ⟨h, g, d, t, os⟩ := by
 unfold getAttr? getAttrBy?
 repeat (any_goals (first | assumption | with_reducible apply ZOY X hx hc F | wp_step))
end
section
variable {K : W.Frag}
theorem ZOZ {e C : Addr} (hC : ZHN K C) (F : ZG7 K C) : KitX K (.ref e) (.ref C) (fun h => ∃ oe, h.get? e = some oe ∧ oe.cls = .ref C) where
 ty := fun _ _ _ ⟨oe, h1, h2⟩ => ZOW h1 h2
 it := fun _ h X _ => by
  obtain ⟨bm, N', nm, qn, bs, hdct, sn, sub, ab, col, dd, k0, k1, k2, k3, k5, mN, hCo, _⟩ := ZK7 X hC
  intro A' Q' E' s' k q
  unfold isType loadHead
  exact wpAny_bind (wpAny_loadPart (k _ _ hCo) (wpAny_pure q))
 ne := fun h tp dd its n sl X htp => by
  obtain ⟨bm, N', nm, qn, bs, hdct, sn, sub, ab, col, dd', k0, k1, k2, k3, k5, mN, hCo, _⟩ := ZK7 X hC
  refine Bool.eq_false_iff.mpr fun q => ?_
  have e : C = tp := Value.ref.inj (beq_iff_eq.mp q)
  subst e
  have z := congrArg Obj.data (Option.some.inj (hCo.symm.trans htp))
  unfold excClassObj at z
  cases z
 ca := fun {_ _ _ _ _ s} X ⟨oe, h1, h2⟩ k => by
  obtain ⟨h, g, d, t, os⟩ := s
  exact ZMd X h1 h2 F k
end
def ZMe : V → Value → Prop
 | .ref T, u => u = .ref T
 | .ty n, u => u = .type n
 | _, _ => False
def ZQa (K : W.Frag) : List V → Hp → VK → Prop := fun xs H Q => ∃ e C y u b, xs = [.ref e, y] ∧ H e = some (ZID e (.ref C)) ∧ ZHN K C ∧ ZG7 K C ∧ ZMe y u ∧ W.kitOne K (.ref C) u = some b ∧ Q (.bl b) H
def ZQb (K : W.Frag) : List V → Hp → VK → Prop := fun xs H Q => ∃ e C tp ys us b, xs = [.ref e, .ref tp] ∧ H e = some (ZID e (.ref C)) ∧ ZHN K C ∧ ZG7 K C ∧ H tp = some (.tup ys) ∧ Paired ZMe ys us ∧ W.kitAny K (.ref C) us = some b ∧ Q (.bl b) H
theorem ZOa {y : V} {u v : Value} (h : ZMe y u) (r : ZFl y v) : v = u := by
 cases y <;> first | exact False.elim h | (obtain rfl := h; exact r)
theorem ZOb : ∀ {ys : List V} {us its : List Value}, Paired ZMe ys us → ZFj ys its → its = us
 | _, _, _, .nil, .nil => rfl
 | _, _, _, .cons a hy, .cons b rb => by rw [ZOa a b, ZOb hy rb]
section
variable {X : Cx}
theorem ZRk : ZF5 X (.builtin "isinstance") (ZQa X.K) := by
 intro pins s σ H xs us Q I r h
 obtain ⟨e, C, y, u, b, rfl, he, hC, F, hy, hk, q⟩ := h
 obtain ⟨v1, v2, rfl, r1, r2⟩ := r.two
 obtain rfl : v1 = Value.ref e := r1
 obtain rfl := ZOa hy r2
 obtain ⟨p, _⟩ := (show ZFz X.prog X.w H s.heap e (ZID e (.ref C)) from I.hok e _ he)
 exact PySem.W.kia_one (ZOZ hC F) I.kIn p hk (fun z => nomatch z) fun tk => ⟨.bl b, H, I.tok _, rfl, q⟩
theorem ZRl : ZF5 X (.builtin "isinstance") (ZQb X.K) := by
 intro pins s σ H xs us Q I r h
 obtain ⟨e, C, tp, ys, vs, b, rfl, he, hC, F, ht, hy, hk, q⟩ := h
 obtain ⟨v1, v2, rfl, r1, r2⟩ := r.two
 obtain rfl : v1 = Value.ref e := r1
 obtain rfl : v2 = Value.ref tp := r2
 obtain ⟨p, _⟩ := (show ZFz X.prog X.w H s.heap e (ZID e (.ref C)) from I.hok e _ he)
 obtain ⟨_, its, rv, o, ho, hc, n, hd⟩ := (show ZFz X.prog X.w H s.heap tp (.tup ys) from I.hok tp _ ht)
 have ev : its = vs := ZOb hy rv
 subst ev
 obtain ⟨oc, od, odt, osl⟩ := o
 obtain rfl : oc = Value.type "tuple" := hc
 obtain rfl : odt = Data.seq its.toArray n := hd
 exact PySem.W.kia_tup (ZOZ hC F) I.kIn p ho hk (fun z => nomatch z) fun tk => ⟨.bl b, H, I.tok _, rfl, q⟩
theorem ZMf (K : W.Frag) (h : X.K = K) : ZF5 X (.builtin "isinstance") (ZQa K) := h ▸ ZRk
theorem ZVy (K : W.Frag) (h : X.K = K) : ZF5 X (.builtin "isinstance") (ZQb K) := h ▸ ZRl
end
structure ZQc (P : Program) (w : World) (K : W.Frag) (mg : Str → Option Value) (base : Heap) (k : Nat) (f : Addr) (fd : FuncData) (ps : List Str) (sp : Sp) : Prop where
 len : ∀ vs H Q E, sp vs H Q E → vs.length = ps.length
 run : ∀ (A : Around) (outer : List Env) (s : Shared) (H : Hp) (args : Args) (us : List Value) (vs : List V) (Q : VK) (E : XK), Room k { A with handled := none } → ZIY P w K mg base A outer s H → BindsTo s fd args (ps.zip us) → ZFj vs us → sp vs H Q E →
  codeAny (model P w) A (.call (.ref f) args) (CR CX0 outer P w H s Q E) s
abbrev cxN (P : Program) (w : World) (K : W.Frag) (mg : Str → Option Value) (base : Heap) (N : List Str) (qual : Str) (scope : Scope) (f : Addr) (cd : Value) (A : Around) (outer : List Env) (s : Shared) (H : Hp) : Cx := { ZJO CX0 P w K mg base N qual scope f cd A outer s H E0 with calm := false, xe := fun _ _ => False }
section
variable {X : Cx} {k : Nat} {f : Addr} {fd : FuncData} {ps : List Str} {sp : Sp} {dvs : List V} {ds : List Value} {x : Str} {p pos : Pos} {e : Expr} {es : List Expr} {t : TA}
theorem ZLj (F : ZQc X.prog X.w X.K X.mg X.base k f fd ps sp) (hr : Room k { X.A with handled := none }) (hg : Gl X x) (hm : X.mg x = some (.ref f)) (hk : W.keepIn X.K (.ref f) = true) (hb : ZFZ X.K fd ps ds) (hd : ZFj dvs ds)
  (ha : QA X (e :: es) t) (hns : ZGG (e :: es) = true := by rfl) (hdb : (x == ("__debug__" : Str)) = false := by decide) : QE X (.Call (.Name x p) (e :: es) [] pos) (ZK0 sp dvs E0 t) := by
 refine ⟨?_⟩
 intro pins s σ H Q I h
 refine wpAny_Call_Name_kw (ZHQ I hg hm ?_ hdb)
 refine PySem.W.callWith_K (h₀ := X.base) I.ok.mod.kin hk (thn (ha.h pos pins s σ H _ I h) fun us s1 ⟨vs, H1, I1, r, q⟩ => ⟨I1.kIn, ?_⟩) (ZHA hns) (ZGu (ZGr hns))
 have r2 : ZFj (vs ++ dvs) (us ++ ds) := r.append hd
 have hl : (us ++ ds).length = ps.length := by rw [← r2.length]; exact F.len _ _ _ _ q
 refine wpAny_call (codeAny_mono (F.run X.A X.stack s1 H1 ⟨us, []⟩ (us ++ ds) (vs ++ dvs) Q E0 hr I1.env0 (hb s1 us I1.kIn hl) r2 q) fun r s' hq => ?_)
 cases r with
 | error e => exact False.elim hq
 | ok fl =>
  cases fl with
  | ret u => exact I1.after hq
  | next => exact False.elim hq
  | brk => exact False.elim hq
  | cont => exact False.elim hq
end
section
variable {K : W.Frag} {σ : St} {H : Hp} {Q : VK} {D : ZGW} {E : XK} {C T e : Addr} {t : TA} {tb : TBX} {th : TH} {ts : Addr → TS} {tr : TH} {i : Nat}
def ZRm (E : XK) (C : Addr) (vs : List V) (H : Hp) : Prop := vs.length ≤ sizeLine ∧ E (.ref C) none H
theorem ZRn (h : t σ H fun vs H1 => ZRm E C vs H1) : ZOS E C t D σ H := h
theorem ZGx {vs : List V} (h : vs.length ≤ 1000) (q : E (.ref C) none H) : ZRm E C vs H := ⟨Nat.le_trans h (by decide), q⟩
theorem ZXy (h : tb D (fun C _ H' => th C D σ H') σ H) : ZXx tb th D σ H := h
theorem ZTj {sp : Sp} {dvs : List V} (h : t σ H fun vs H1 => sp (vs ++ dvs) H1 Q E) : ZRg sp dvs t σ H Q E := h
theorem ZTk {m : Str} {sp : Sp} {dvs : List V} {ta : TE} (h : ta σ H fun x H1 => ZMI C m x H1 (t σ H1 fun vs H2 => sp (x :: (vs ++ dvs)) H2 Q E)) : ZRh C m sp dvs ta t σ H Q E := h
theorem ZTl {u : TX} (h : u σ H (fun _ H1 => D.nx σ H1) E) : ZRi u D E σ H := h
theorem ZJF {C : Value} {A B : Prop} {b : Bool} (hs : subIn K C (.ref T) = some b) (h : if b = true then A else B) : ZMb K T C A B := ⟨b, hs, h⟩
theorem ZYu {C : Value} (h : ZMb K T C (ZOU C H fun e H2 => ts e (D.gone i) (σ.set i (some (.ref e))) H2) (tr C D σ H)) : tHN K T i ts tr C D σ H := h
theorem ZJ1 {C : Value} {R : Addr → Hp → Prop} (h : ∀ e H2, H e = none → H2 e = some (ZID e C) → ZFY H H2 → R e H2) : ZOU C H R := fun e he => h e _ he ZFf (ZFY.new he)
theorem ZMg {y : V} {u : Value} {b : Bool} (he : H e = some (ZID e (.ref C))) (hC : ZHN K C) (F : ZG7 K C) (hy : ZMe y u) (hk : W.kitOne K (.ref C) u = some b) (q : Q (.bl b) H) : ZQa K [.ref e, y] H Q := ⟨e, C, y, u, b, rfl, he, hC, F, hy, hk, q⟩
theorem ZVz {tp : Addr} {ys : List V} {us : List Value} {b : Bool} (he : H e = some (ZID e (.ref C))) (hC : ZHN K C) (F : ZG7 K C) (ht : H tp = some (.tup ys)) (hy : Paired ZMe ys us) (hk : W.kitAny K (.ref C) us = some b) (q : Q (.bl b) H) : ZQb K [.ref e, .ref tp] H Q := ⟨e, C, tp, ys, us, b, rfl, he, hC, F, ht, hy, hk, q⟩
end
theorem Room.clr {k : Nat} {A : Around} {v : Option Value} (r : Room k A) : Room k { A.mark v with handled := none } := ⟨rfl, r.dp, r.un, r.gd⟩
section
variable {P : Program} {w : World} {K : W.Frag} {mg : Str → Option Value} {base : Heap} {N : List Str} {qual : Str} {scope : Scope} {f : Addr} {cd : Value} {A : Around} {outer : List Env} {s : Shared} {H : Hp} {E : XK}
 {x : Str} {np cpos pos : Pos} {e₀ : Expr} {es : List Expr} {t : TA} {C : Addr}
theorem ZIE (hC : ZHN K C) (hg : Gl (cxE P w K mg base N qual scope f cd A outer s H E) x) (hm : mg x = some (.ref C)) (ha : QA (cxE P w K mg base N qual scope f cd A outer s H E) (e₀ :: es) t)
 (hns : ZGG (e₀ :: es) = true := by rfl) (hdb : (x == ("__debug__" : Str)) = false := by decide) :
 QS (cxE P w K mg base N qual scope f cd A outer s H E) (.Raise (some (.Call (.Name x np) (e₀ :: es) [] cpos)) none pos) (ZOS E C t) := ⟨ZTg hC hg hm ha.h hdb (ZHA hns) (ZGu (ZGr hns))⟩
end
def ZTm (K : W.Frag) : List V → Hp → VK → Prop := fun xs H Q => ∃ (p : Addr) (ns : List Int), xs = [.ref p] ∧ SqL K H p (ns.map V.int) ∧ Q (.int ns.sum) H
section
variable {X : Cx}
theorem ZTn (hc : X.calm = true) : ZF5 X (.builtin "sum") (ZTm X.K) := by
 intro pins s σ H xs us Q I r h
 obtain ⟨p, ns, rfl, hq, q⟩ := h
 cases r with
 | cons r1 r2 =>
 cases r2
 cases r1
 obtain ⟨its, rv, pl, hz⟩ := I.list hq
 have hi := ZKV rv
 have hl : s.heap.IsList p its.toArray := pl.isList
 have hall := hi.allInts
 have hn : numsOf its.toArray.toList = ns := hi.numsOf
 obtain ⟨ys, e⟩ := hall.items
 rw [e] at hl hn
 rw [nums_intItems] at hn
 refine sum_intListG (I.ok.hd hc) hl fun h' tk t' hk => ⟨.int ns.sum, H, I.kept hk, ⟨t', ?_⟩, q⟩
 rw [preSum_eq, List.take_of_length_le (by simp), hn]
theorem ZXz (K : W.Frag) (h : X.K = K) (hc : X.calm = true) : ZF5 X (.builtin "sum") (ZTm K) := h ▸ ZTn hc
theorem ZX0 {K : W.Frag} {H : Hp} {Q : VK} {p : Addr} {ns : List Int} (h : SqL K H p (ns.map V.int)) (q : Q (.int ns.sum) H) : ZTm K [.ref p] H Q := ⟨p, ns, rfl, h, q⟩
def ZX1 : R2 := fun x y H Q => ∃ (c : Nat) (z : Str), x = .str ⟨#[c]⟩ ∧ y = .str z ∧ Q (.bl (decide (c ∈ z.cps.toList))) H
theorem ZX2 : OpR X (compareOp .In) ZX1 := by
 intro pins s σ H x y v u Q I rx ry h
 obtain ⟨c, z, rfl, rfl, q⟩ := h
 obtain ⟨t, rfl⟩ := rx
 obtain ⟨t', rfl⟩ := ry
 exact in_str (ZFy I q (StrLaws.found_one z c).symm)
theorem ZX3 {H : Hp} {Q : VK} {c : Nat} {z : Str} (q : Q (.bl (decide (c ∈ z.cps.toList))) H) : ZX1 (.str ⟨#[c]⟩) (.str z) H Q := ⟨c, z, rfl, rfl, q⟩
def Its (z : Str) : It := ⟨fun i _ => i < z.cps.size, fun i H x H' => H' = H ∧ ∃ c, z.cps.toList[i]? = some c ∧ x = .str ⟨#[c]⟩, fun i _ => z.cps.size ≤ i⟩
theorem ZOc {P : Program} {w : World} {K : W.Frag} {tg : Expr} (it : Addr) (z : Str) (t : Tok) (n : String) (hn : ["enumerate", "zip", "dict_itemiterator", "dict_reverseitemiterator", "odict_iterator", "itertools.zip_longest", "itertools.pairwise"].contains n = false)
  (W : ∀ A : Around, A.handled = none → Walks P w A it [it] [it] z.cps.size (SignAt z) (fun i h => h.IsStrIter it n z t i))
  (dn : ∀ (A : Around) (s : Shared) (i : Nat) (Q : Option Value → Shared → Prop) (E : Value → Shared → Prop), A.handled = none → s.heap.IsStrIter it n z t i → z.cps[i]? = none → (∀ h', Heap.ExtBut it s.heap h' → Q none { s with heap := h' }) → wpAny (model P w) A (pyNext (.ref it)) Q E s)
  (sf : ∀ (A : Around) (i : Nat) (s : Shared) (Q : Value → Shared → Prop) (E : Value → Shared → Prop), s.heap.IsStrIter it n z t i → Q (.ref it) s → wpAny (model P w) A (pyIter (.ref it)) Q E s) :
  ZKM P w K tg (Its z) [it] it (fun i h => h.IsStrIter it n z t i) where
 mem := by simp
 obj := fun i h st b hb => by
  have e : b = it := by simpa using hb
  subst e
  obtain ⟨o, e, c, d⟩ := st
  exact ⟨o, e, fun v z => by rw [d] at z; cases z⟩
 keep := fun i h h' st k => by
  obtain ⟨o, e, c, d⟩ := st
  exact ⟨o, k it (by simp) _ e, c, d⟩
 item := by
  intro X hP hw hK hc i pins s σ H E I hf st hg
  subst hP hw hK
  obtain ⟨f0, f1, f2, f3, f4, f5⟩ := hf it (by simp)
  refine (W X.A (I.ok.hd hc)).item i s _ _ hg st fun v h' tk hv st' kk => ?_
  obtain ⟨c, t2, ec, rfl⟩ := hv
  have I1 : Inv X pins σ H { s with heap := h', toks := tk } := I.turned (fun b o hb e => kk b o (by simpa using hb) e) f0 f1 f3 f4 f5
  obtain ⟨o, e, c', d⟩ := id st'
  exact ⟨_, rfl, ZKy (s := { s with heap := h', toks := tk }) e c' d hn ⟨.str ⟨#[c]⟩, H, I1, ⟨t2, rfl⟩, ⟨rfl, c, by rw [Array.getElem?_toList]; exact ec, rfl⟩, st', fun b hb => (hf b hb).1⟩⟩
 done := by
  intro X hP hw hK hc i pins s σ H E I hf st hg
  subst hP hw hK
  obtain ⟨f0, f1, f2, f3, f4, f5⟩ := hf it (by simp)
  exact dn X.A s i _ _ (I.ok.hd hc) st (Array.getElem?_eq_none hg) fun h' eb => ⟨rfl, I.turned (t' := s.toks) (fun b o hb e => eb b o hb e) f0 f1 f3 f4 f5⟩
 self := fun A i s Q E st h => sf A i s Q E st h
def ZOd (x : V) (H : Hp) (R : It → Hp → Prop) : Prop := ∃ z, x = .str z ∧ R (Its z) H
def ZX4 (tl : TE) : TI := fun σ H R => tl σ H fun x H1 => ZOd x H1 R
theorem ZX5 {tg l : Expr} {tl : TE} (hl : QE X l tl) : QI X tg l (ZX4 tl) := by
 refine ⟨?_⟩
 intro pins s σ H R I h
 refine thn (hl.h pins s σ H _ I h) fun v s1 ⟨x, H1, I1, r1, q1⟩ => ?_
 obtain ⟨z, e, q⟩ := q1
 subst e
 obtain ⟨t, rfl⟩ := r1
 have fin : ∀ b, b ∈ [s1.heap.objs.size] → ZGz X pins H1 b := fun b hb => by
  have e : b = s1.heap.objs.size := by simpa using hb
  subst e
  exact I1.fpOk (Nat.le_refl _) (I1.hok.fresh (Nat.le_refl _))
 cases ha : z.cps.all (· < 128)
 ·exact wpAny_pyIter_wide ha ⟨s1.heap.objs.size, [s1.heap.objs.size], _, _, H1, rfl, I1.kept (t' := s1.toks) fun b o e => Heap.get?_push_of_some _ e,
   ZOc _ z t "str_iterator" (by decide) (fun A hA => Walks.strWide hA _ z t) (fun A s i Q E hh st hx hq => wpAny_pyNext_wide_end hh st hx hq) (fun A i s Q E st h => wpAny_pyIter_striter_wide st h), ⟨_, Heap.get?_push_size _ rfl, rfl, rfl⟩, fin, q⟩
 ·exact wpAny_pyIter_ascii ha ⟨s1.heap.objs.size, [s1.heap.objs.size], _, _, H1, rfl, I1.kept (t' := s1.toks) fun b o e => Heap.get?_push_of_some _ e,
   ZOc _ z t "str_ascii_iterator" (by decide) (fun A hA => Walks.strAscii hA _ z t) (fun A s i Q E hh st hx hq => wpAny_pyNext_ascii_end hh st hx hq) (fun A i s Q E st h => wpAny_pyIter_striter_ascii st h), ⟨_, Heap.get?_push_size _ rfl, rfl, rfl⟩, fin, q⟩
end
section
variable {K : W.Frag} {H : Hp} {Q : VK} {σ : St}
theorem ZV0 {tl : TE} {R : It → Hp → Prop} (h : tl σ H fun x H1 => ZOd x H1 R) : ZX4 tl σ H R := h
theorem ZTo {z : Str} {R : It → Hp → Prop} (h : R (Its z) H) : ZOd (.str z) H R := ⟨z, rfl, h⟩
theorem ZX6 {z : Str} {i : Int} {c : Nat} (hz : z.length ≤ sizeLine) (he : atI z.cps.toList i = some c) (h : Q (.str ⟨#[c]⟩) H) : ZW2 (.str z) (.int i) H Q := ⟨z, i, c, rfl, rfl, hz, he, h⟩
variable {D : ZGW}
end
def fl (low tall : Int) (q : Int × Int) : Int := (q.1 - low * q.2) / (tall * q.2)
def mx (i j : Int) : Int := if j > i then j else i
def mn (i j : Int) : Int := if j < i then j else i
def ZQd (fs : List Int) (rows : Int) (o : Option (Int × Int)) : Prop :=
 (fs = [] ∧ o = none) ∨ ∃ m M, m ∈ fs ∧ (∀ f ∈ fs, m ≤ f) ∧ M ∈ fs ∧ (∀ f ∈ fs, f ≤ M) ∧ o = if max m 0 ≤ min M (rows - 1) then some (max m 0, min M (rows - 1)) else none
def frP (a b : Int × Int) (t : Int) : Int × Int := (a.2 * (b.1 - a.1) + (b.2 - a.2) * (t - a.1), b.1 - a.1)
def ZG8 (x z : Int) (ab : (Int × Int) × (Int × Int)) : PL := if ab.1.1 < z ∧ x < ab.2.1 then [frP ab.1 ab.2 (mx x ab.1.1), frP ab.1 ab.2 (mn z ab.2.1)] else []
def ZX7 (cv : PL) (x z : Int) : PL := (cv.zip (cv.drop 1)).flatMap (ZG8 x z)
def inCol (cv : PL) (b e : Int) : PL := cv.filter fun p => decide (b ≤ p.1) && decide (p.1 < e)
def ZOe (cv : PL) (x z : Int) : PL := (inCol cv x z).map (fun p => (p.2, 1)) ++ ZX7 cv x z
theorem ZRo {cv : PL} (h : Asc cv) {i : Nat} {a b : Int × Int} (h1 : cv[i]? = some a) (h2 : (cv.drop 1)[i]? = some b) : a.1 < b.1 := by
 rw [List.getElem?_drop] at h2
 have hi := (List.getElem?_eq_some_iff.mp h1)
 have hj := (List.getElem?_eq_some_iff.mp h2)
 have := List.pairwise_iff_getElem.mp h i (1 + i) hi.1 hj.1 (by omega)
 rw [hi.2, hj.2] at this
 exact this
theorem ZV1 {cv : PL} {i : Nat} {a b : Int × Int} (h1 : cv[i]? = some a) (h2 : (cv.drop 1)[i]? = some b) : (cv.zip (cv.drop 1))[i]? = some (a, b) := by
 rw [List.getElem?_zip_eq_some]
 exact ⟨h1, h2⟩
def dig (m : Nat) : List Nat := (Nat.toDigits 10 m).map Char.toNat
def ZX8 (n : Int) : List Nat := if n < 0 then 45 :: dig n.natAbs else dig n.natAbs
def lineL (p : Int × Int) : List Nat := ZX8 p.1 ++ 32 :: ZX8 p.2
def textL (cv : PL) : List Nat := cv.flatMap fun p => lineL p ++ [10]
def InT (cv : PL) : Prop := ∀ p ∈ cv, (-(10 ^ 64) < p.1 ∧ p.1 < 10 ^ 64) ∧ -(10 ^ 64) < p.2 ∧ p.2 < 10 ^ 64
section
variable {X : Cx}
def ZUf : List V → Hp → VK → Prop := fun xs H Q => ∃ z, xs = [.str z] ∧ z.length ≤ sizeLine ∧ Q (.int z.length) H
theorem ZV2 : ZF5 X (.builtin "len") ZUf := ZNt
theorem ZV3 {H : Hp} {Q : VK} {z : Str} (h : z.length ≤ sizeLine) (q : Q (.int z.length) H) : ZUf [.str z] H Q := ⟨z, rfl, h, q⟩
end
theorem ZJk {cv : PL} (h : Asc cv) {i j : Nat} (hi : i < cv.length) (hj : j < cv.length) (hij : i < j) : cv[i].1 < cv[j].1 := List.pairwise_iff_getElem.mp h i j hi hj hij
theorem ZV4 {cv : PL} (h : Asc cv) {a b : Int × Int} (ha : a ∈ cv) (hb : b ∈ cv) (e : a.1 = b.1) : a = b := by
 obtain ⟨i, hi, rfl⟩ := List.getElem_of_mem ha
 obtain ⟨j, hj, rfl⟩ := List.getElem_of_mem hb
 rcases Nat.lt_trichotomy i j with hij | hij | hij
 ·have := ZJk h hi hj hij; omega
 ·subst hij; rfl
 ·have := ZJk h hj hi hij; omega
def Kept (cv kp : PL) (b y m : Int) : Prop := (∀ p ∈ kp, p ∈ cv ∧ b ≤ p.1 ∧ p.1 < b + m * y) ∧ ∀ k : Int, 0 ≤ k → k < m → ∀ p ∈ cv, b + k * y ≤ p.1 → p.1 < b + k * y + y →
 (∃ f ∈ kp, b + k * y ≤ f.1 ∧ f.1 ≤ p.1) ∧ (∃ f ∈ kp, p.1 ≤ f.1 ∧ f.1 < b + k * y + y) ∧ (∃ f ∈ kp, b + k * y ≤ f.1 ∧ f.1 < b + k * y + y ∧ f.2 ≤ p.2) ∧ ∃ f ∈ kp, b + k * y ≤ f.1 ∧ f.1 < b + k * y + y ∧ p.2 ≤ f.2
theorem ZGD {cv : PL} {b e : Int} {p : Int × Int} : p ∈ inCol cv b e ↔ p ∈ cv ∧ b ≤ p.1 ∧ p.1 < e := by
 unfold inCol
 rw [List.mem_filter]
 simp
def Is4 (cv : PL) (o : Option (PL)) : Prop :=
 (o = none ∧ cv = []) ∨ ∃ q0 q1 q2 q3 : Int × Int, o = some [q0, q1, q2, q3] ∧ q0 ∈ cv ∧ q1 ∈ cv ∧ q2 ∈ cv ∧ q3 ∈ cv ∧
  ∀ p ∈ cv, q0.1 ≤ p.1 ∧ p.1 ≤ q1.1 ∧ (q2.2 < p.2 ∨ (q2.2 = p.2 ∧ q2.1 ≤ p.1)) ∧ (p.2 < q3.2 ∨ (p.2 = q3.2 ∧ q3.1 ≤ p.1))
theorem Is4.join {c1 c2 : PL} {a0 a1 a2 a3 b0 b1 b2 b3 : Int × Int} (h : Is4 c1 (some [a0, a1, a2, a3])) (g : Is4 c2 (some [b0, b1, b2, b3])) (hlt : ∀ p ∈ c1, ∀ q ∈ c2, p.1 < q.1) :
  Is4 (c1 ++ c2) (some [a0, b1, if a2.2 ≤ b2.2 then a2 else b2, if b3.2 ≤ a3.2 then a3 else b3]) := by
 rcases h with ⟨e, _⟩ | ⟨q0, q1, q2, q3, e, m0, m1, m2, m3, hb⟩
 ·cases e
 rcases g with ⟨e', _⟩ | ⟨r0, r1, r2, r3, e', n0, n1, n2, n3, gb⟩
 ·cases e'
 cases e
 cases e'
 refine .inr ⟨_, _, _, _, rfl, List.mem_append_left _ m0, List.mem_append_right _ n1, ?_, ?_, fun p hp => ?_⟩
 ·split
  ·exact List.mem_append_left _ m2
  ·exact List.mem_append_right _ n2
 ·split
  ·exact List.mem_append_left _ m3
  ·exact List.mem_append_right _ n3
 ·rcases List.mem_append.mp hp with hp | hp
  ·have k1 := hb p hp
   have k2 := hlt p hp _ n1
   have k3 := hlt p hp _ n2
   have k4 := hlt p hp _ n3
   refine ⟨k1.1, by omega, ?_, ?_⟩
   ·split <;> omega
   ·split <;> omega
  ·have k1 := gb p hp
   have k2 := hlt _ m0 p hp
   have k3 := hlt _ m2 p hp
   have k4 := hlt _ m3 p hp
   refine ⟨by omega, k1.2.1, ?_, ?_⟩
   ·split <;> omega
   ·split <;> omega
theorem Is4.of_none {cv : PL} (h : Is4 cv none) : cv = [] := by
 rcases h with ⟨_, e⟩ | ⟨q0, q1, q2, q3, e, _⟩
 ·exact e
 ·cases e
theorem Is4.minmax {cv : PL} {p0 p1 p2 p3 : Int × Int} {i2 i3 : Nat} (ha : Asc cv) (e0 : cv[0]? = some p0) (e1 : cv[cv.length - 1]? = some p1) (e2 : cv[i2]? = some p2) (e3 : cv[i3]? = some p3)
  (h2 : ∀ j, j < cv.length → (cv.getD i2 (0, 0)).2 ≤ (cv.getD j (0, 0)).2 ∧ (j < i2 → (cv.getD i2 (0, 0)).2 < (cv.getD j (0, 0)).2))
  (h3 : ∀ j, j < cv.length → (cv.getD i3 (0, 0)).2 ≥ (cv.getD j (0, 0)).2 ∧ (j < i3 → (cv.getD i3 (0, 0)).2 > (cv.getD j (0, 0)).2)) : Is4 cv (some [p0, p1, p2, p3]) := by
 obtain ⟨z0, y0⟩ := List.getElem?_eq_some_iff.mp e0
 obtain ⟨z1, y1⟩ := List.getElem?_eq_some_iff.mp e1
 obtain ⟨z2, y2⟩ := List.getElem?_eq_some_iff.mp e2
 obtain ⟨z3, y3⟩ := List.getElem?_eq_some_iff.mp e3
 have d : ∀ {j : Nat} (hj : j < cv.length), cv.getD j (0, 0) = cv[j] := fun {j} hj => by simp [hj]
 refine .inr ⟨p0, p1, p2, p3, rfl, List.mem_of_getElem? e0, List.mem_of_getElem? e1, List.mem_of_getElem? e2, List.mem_of_getElem? e3, fun p hp => ?_⟩
 obtain ⟨j, hj, rfl⟩ := List.getElem_of_mem hp
 have k2 := h2 j hj
 have k3 := h3 j hj
 rw [d z2, d hj, y2] at k2
 rw [d z3, d hj, y3] at k3
 refine ⟨?_, ?_, ?_, ?_⟩
 ·by_cases h : j = 0
  ·subst h; rw [y0]; exact Int.le_refl _
  ·have := ZJk ha z0 hj (by omega)
   rw [y0] at this
   omega
 ·by_cases h : j = cv.length - 1
  ·subst h; rw [y1]; exact Int.le_refl _
  ·have := ZJk ha hj z1 (by omega)
   rw [y1] at this
   omega
 ·by_cases h : i2 < j
  ·have := ZJk ha z2 hj h
   rw [y2] at this
   omega
  ·by_cases h' : j = i2
   ·subst h'; rw [y2]; omega
   ·have := k2.2 (by omega)
    omega
 ·by_cases h : i3 < j
  ·have := ZJk ha z3 hj h
   rw [y3] at this
   omega
  ·by_cases h' : j = i3
   ·subst h'; rw [y3]; omega
   ·have := k3.2 (by omega)
    omega
theorem ZV5 {b y t i : Int} (hy : 0 < y) : (b + i * y ≤ t ∧ t < b + i * y + y) ↔ (t - b) / y = i := by
 have h1 := Int.emod_add_mul_ediv (t - b) y
 have h2 := Int.emod_nonneg (t - b) (show y ≠ 0 by omega)
 have h3 := Int.emod_lt_of_pos (t - b) hy
 constructor
 ·rintro ⟨g1, g2⟩
  refine (Int.ediv_emod_unique hy (r := t - b - i * y) (q := i)).mpr ⟨?_, by omega, by omega⟩ |>.1
  rw [Int.mul_comm y i]
  omega
 ·intro e
  rw [e, Int.mul_comm y i] at h1
  constructor <;> omega
def ZOf (cv : PL) (b y : Int) (m : Nat) (fs : List (Option (PL))) : Prop := fs.length = m ∧ ∀ (k : Nat) o, fs[k]? = some o → Is4 (inCol cv (b + (k : Int) * y) (b + (k : Int) * y + y)) o
def Ch (e : Int) : Int → PL → Int → Prop
 | x, [], y => x = y
 | x, p :: r, y => (0 ≤ p.1 ∧ p.1 ≤ 40) ∧ p.2 * 2 ^ p.1.toNat = x ∧ x + 2 ^ p.1.toNat ≤ e ∧ (p.1 < 40 → x % (2 * 2 ^ p.1.toNat) = 0 → x + 2 * 2 ^ p.1.toNat ≤ e → False) ∧ Ch e (x + 2 ^ p.1.toNat) r y
theorem ZHE (k : Nat) : (0 : Int) < 2 ^ k := Int.pow_pos (by decide)
theorem Ch.le {e : Int} : ∀ {r : PL} {x y : Int}, Ch e x r y → x ≤ y
 | [], _, _, h => by cases h; exact Int.le_refl _
 | p :: r, x, y, h => by
  have := Ch.le h.2.2.2.2
  have := ZHE p.1.toNat
  omega
theorem Ch.snoc {e : Int} {p : Int × Int} : ∀ {r : PL} {x y : Int}, Ch e x r y → (0 ≤ p.1 ∧ p.1 ≤ 40) → p.2 * 2 ^ p.1.toNat = y → y + 2 ^ p.1.toNat ≤ e → (p.1 < 40 → y % (2 * 2 ^ p.1.toNat) = 0 → y + 2 * 2 ^ p.1.toNat ≤ e → False) → Ch e x (r ++ [p]) (y + 2 ^ p.1.toNat)
 | [], _, _, h, h1, h2, h3, h4 => by cases h; exact ⟨h1, h2, h3, h4, rfl⟩
 | _ :: _, _, _, h, h1, h2, h3, h4 => ⟨h.1, h.2.1, h.2.2.1, h.2.2.2.1, Ch.snoc h.2.2.2.2 h1 h2 h3 h4⟩
theorem ZJ2 {a b : Nat} (h : a ≤ b) : (2 : Int) ^ a ≤ 2 ^ b := by
 obtain ⟨c, rfl⟩ := Nat.exists_eq_add_of_le h
 rw [Int.pow_add]
 have h1 := ZHE a
 have h2 := ZHE c
 have h3 : (2 : Int) ^ a * 1 ≤ 2 ^ a * 2 ^ c := Int.mul_le_mul_of_nonneg_left (by omega) (by omega)
 omega
theorem ZJS {a b : Nat} (h : a ≤ b) : (2 : Int) ^ a ∣ 2 ^ b := by
 obtain ⟨c, rfl⟩ := Nat.exists_eq_add_of_le h
 rw [Int.pow_add]
 exact Int.dvd_mul_right _ _
theorem ZJ3 (k : Nat) : (2 : Int) * 2 ^ k = 2 ^ (k + 1) := by rw [Int.pow_succ]; omega
def Few (e : Int) (n : Nat) (x : Int) : Prop := ((2 : Int) ^ n ∣ x ∧ n ≤ 40 ∧ -(2 ^ 40) + (n : Int) ≤ x) ∨ ∃ m : Nat, (2 : Int) ^ m ∣ x ∧ e - x < 2 ^ m ∧ n + m ≤ 80
theorem Few.len {e x : Int} {n : Nat} (h : Few e n x) : n ≤ 80 := by
 rcases h with h | ⟨m, h⟩ <;> omega
theorem ZRp {a : Nat} {x : Int} (h : (2 : Int) ^ a ∣ x) (h1 : -(2 ^ a) < x) (h2 : x < 2 ^ a) : x = 0 := by
 obtain ⟨c, rfl⟩ := h
 have hp := ZHE a
 have hc : c = 0 := by
  by_cases h0 : c ≤ -1
  ·have : (2 : Int) ^ a * c ≤ 2 ^ a * (-1) := Int.mul_le_mul_of_nonneg_left h0 (by omega)
   omega
  ·by_cases h0' : 1 ≤ c
   ·have : (2 : Int) ^ a * 1 ≤ 2 ^ a * c := Int.mul_le_mul_of_nonneg_left h0' (by omega)
    omega
   ·omega
 rw [hc, Int.mul_zero]
theorem ZOg {e x : Int} {L : Nat} (he : e ≤ 2 ^ 40) (hx : -(2 ^ 40) ≤ x) (h1 : (2 : Int) ^ L ∣ x) (h2 : x + 2 ^ L ≤ e) : L ≤ 40 := by
 have hc : L ≤ 40 ∨ L = 41 ∨ 42 ≤ L := by omega
 rcases hc with h | rfl | h
 ·exact h
 ·exfalso
  obtain ⟨c, hc⟩ := h1
  have e1 : (2 : Int) ^ 41 = 2199023255552 := by decide
  have e2 : (2 : Int) ^ 40 = 1099511627776 := by decide
  rw [e1] at h2 hc
  rw [e2] at he hx
  omega
 ·exfalso
  have h3 := ZJ2 h
  have e1 : (2 : Int) ^ 42 = 4398046511104 := by decide
  have e2 : (2 : Int) ^ 40 = 1099511627776 := by decide
  rw [e1] at h3
  rw [e2] at he hx
  omega
theorem Few.step {e x : Int} {n L : Nat} (he : e ≤ 2 ^ 40) (hx : -(2 ^ 40) ≤ x) (h : Few e n x) (h1 : (2 : Int) ^ L ∣ x) (h2 : x + 2 ^ L ≤ e) (h3 : (2 : Int) ^ (L + 1) ∣ x → x + 2 ^ (L + 1) ≤ e → False) : Few e (n + 1) (x + 2 ^ L) := by
 have hL := ZOg he hx h1 h2
 have hp := ZHE L
 have es : (2 : Int) ^ (L + 1) = 2 * 2 ^ L := (ZJ3 L).symm
 rcases h with ⟨hd, hn, hb⟩ | ⟨m, hd, hm, hnm⟩
 ·by_cases ha : (2 : Int) ^ (L + 1) ∣ x
  ·-- limited by the end
   have h4 : ¬ x + 2 ^ (L + 1) ≤ e := fun z => h3 ha z
   by_cases h40 : L = 40
   ·subst h40
    have e2 : (2 : Int) ^ 40 = 1099511627776 := by decide
    have e3 : (2 : Int) ^ (40 + 1) = 2199023255552 := by decide
    have hx0 : x = 0 := ZRp ha (by rw [e3]; rw [e2] at hx; omega) (by rw [e3]; rw [e2] at h2 he; omega)
    subst hx0
    right
    refine ⟨0, Int.one_dvd _, ?_, by omega⟩
    rw [e2] at he h2 ⊢
    show e - (0 + 1099511627776) < 1
    omega
   ·right
    exact ⟨L, Int.dvd_add h1 (Int.dvd_refl _), by omega, by omega⟩
  ·-- limited by where it begins
   have hLn : n ≤ L := by
    by_cases hlt : n ≤ L
    ·exact hlt
    ·exact absurd (Int.dvd_trans (ZJS (by omega)) hd) ha
   have hd' : (2 : Int) ^ (L + 1) ∣ x + 2 ^ L := by
    obtain ⟨c, hc⟩ := h1
    have hodd : c % 2 = 1 := by
     by_cases h0 : c % 2 = 0
     ·exfalso
      apply ha
      refine ⟨c / 2, ?_⟩
      have : c = 2 * (c / 2) := by omega
      rw [hc, es]
      rw [Int.mul_comm 2 ((2 : Int) ^ L), Int.mul_assoc, ← this]
     ·omega
    refine ⟨(c + 1) / 2, ?_⟩
    have : c + 1 = 2 * ((c + 1) / 2) := by omega
    have h5 : x + 2 ^ L = 2 ^ L * (c + 1) := by rw [hc, Int.mul_add, Int.mul_one]
    rw [h5, es, Int.mul_comm 2 ((2 : Int) ^ L), Int.mul_assoc, ← this]
   left
   refine ⟨Int.dvd_trans (ZJS (by omega)) hd', ?_, by omega⟩
   by_cases h40 : L = 40
   ·subst h40
    have e2 : (2 : Int) ^ 40 = 1099511627776 := by decide
    obtain ⟨c, hc⟩ := h1
    rw [e2] at hc he h2 hx hb
    have : c ≠ 0 := by
     rintro rfl
     apply ha
     rw [hc]
     exact ⟨0, by omega⟩
    omega
   ·omega
 ·have hlt : L < m := by
   by_cases hlt : L < m
   ·exact hlt
   ·have := ZJ2 (show m ≤ L by omega)
    omega
  have ha : (2 : Int) ^ (L + 1) ∣ x := Int.dvd_trans (ZJS (by omega)) hd
  have h4 : ¬ x + 2 ^ (L + 1) ≤ e := fun z => h3 ha z
  right
  exact ⟨L, Int.dvd_add h1 (Int.dvd_refl _), by omega, by omega⟩
theorem Few.start {e b : Int} (hb : -(2 ^ 40) ≤ b) : Few e 0 b := .inl ⟨Int.one_dvd _, by omega, by simpa using hb⟩
theorem Is4.congr {a b : PL} {o : Option (PL)} (h : Is4 a o) (e : ∀ p, p ∈ a ↔ p ∈ b) : Is4 b o := by
 rcases h with ⟨h1, h2⟩ | ⟨q0, q1, q2, q3, h1, m0, m1, m2, m3, hb⟩
 ·refine .inl ⟨h1, ?_⟩
  cases b with
  | nil => rfl
  | cons p ps =>
   have := (e p).mpr List.mem_cons_self
   rw [h2] at this
   cases this
 ·exact .inr ⟨q0, q1, q2, q3, h1, (e _).mp m0, (e _).mp m1, (e _).mp m2, (e _).mp m3, fun p hp => hb p ((e p).mpr hp)⟩
def inS (sm : PL) (l : Nat) (s : Int) : PL := inCol sm (s * 2 ^ l) (s * 2 ^ l + 2 ^ l)
theorem ZHd {sm : PL} {l : Nat} {s : Int} {p : Int × Int} : p ∈ inS sm l s ↔ p ∈ sm ∧ p.1 / 2 ^ l = s := by
 unfold inS
 rw [ZGD]
 have := ZV5 (b := 0) (t := p.1) (i := s) (ZHE l)
 rw [Int.sub_zero, Int.zero_add] at this
 rw [this]
theorem ZOh (x : Int) (l : Nat) : x / 2 ^ (l + 1) = x / 2 ^ l / 2 := by
 rw [Int.pow_succ, ← Int.ediv_ediv_of_nonneg (Int.le_of_lt (ZHE l))]
theorem ZTp {sm : PL} {l : Nat} {s : Int} {p : Int × Int} : p ∈ inS sm l (2 * s) ++ inS sm l (2 * s + 1) ↔ p ∈ inS sm (l + 1) s := by
 rw [List.mem_append, ZHd, ZHd, ZHd, ZOh]
 constructor
 ·rintro (⟨h1, h2⟩ | ⟨h1, h2⟩)
  ·exact ⟨h1, by omega⟩
  ·exact ⟨h1, by omega⟩
 ·rintro ⟨h1, h2⟩
  have : p.1 / 2 ^ l = 2 * s ∨ p.1 / 2 ^ l = 2 * s + 1 := by omega
  rcases this with h | h
  ·exact .inl ⟨h1, h⟩
  ·exact .inr ⟨h1, h⟩
theorem ZX9 {sm : PL} {l : Nat} {a b : Int} (hab : a < b) : ∀ p ∈ inS sm l a, ∀ q ∈ inS sm l b, p.1 < q.1 := by
 intro p hp q hq
 have h1 := (ZHd.mp hp).2
 have h2 := (ZHd.mp hq).2
 by_cases h : p.1 < q.1
 ·exact h
 ·have := Int.ediv_le_ediv (ZHE l) (show q.1 ≤ p.1 by omega)
  omega
theorem ZQe {sm : PL} {b x e : Int} (h1 : b ≤ x) (h2 : x ≤ e) (p : Int × Int) : p ∈ inCol sm b x ++ inCol sm x e ↔ p ∈ inCol sm b e := by
 rw [List.mem_append, ZGD, ZGD, ZGD]
 constructor
 ·rintro (⟨g1, g2, g3⟩ | ⟨g1, g2, g3⟩)
  ·exact ⟨g1, g2, by omega⟩
  ·exact ⟨g1, by omega, g3⟩
 ·rintro ⟨g1, g2, g3⟩
  by_cases h : p.1 < x
  ·exact .inl ⟨g1, g2, h⟩
  ·exact .inr ⟨g1, by omega, g3⟩
theorem ZTq {sm : PL} {b x e : Int} : ∀ p ∈ inCol sm b x, ∀ q ∈ inCol sm x e, p.1 < q.1 := by
 intro p hp q hq
 have h1 := (ZGD.mp hp).2
 have h2 := (ZGD.mp hq).2
 omega
theorem ZLk {m : PL} (hn : (m.map (·.1)).Nodup) {t h : Int} {q : Int × Int} : q ∈ ZGP m t h ↔ (q.1 ≠ t ∧ q ∈ m) ∨ q = (t, h) := by
 obtain ⟨a, b⟩ := q
 rw [← ZHX (ZHy hn), ZOF, ← ZHX hn]
 by_cases e : a = t
 ·subst e
  simp only [if_true, Option.some.injEq, ne_eq, not_true_eq_false, false_and, false_or, Prod.mk.injEq, true_and]
  exact eq_comm
 ·simp [e]
def kOf (l : Nat) (s : Int) : List Key := [Sum.inl (l : Int), Sum.inl s]
theorem ZV6 {l l' : Nat} {s s' : Int} (h : kOf l s = kOf l' s') : l = l' ∧ s = s' := by
 unfold kOf at h
 simp only [List.cons.injEq, Sum.inl.injEq, and_true] at h
 exact ⟨by omega, h.2⟩
def ZGl (H : Hp) (kvs : List (List Key × V)) (sm : PL) (G : Nat → Int → Prop) : Prop := ∀ (l : Nat) (s : Int), l ≤ 40 → G l s → ∃ o, ZGC H ((ZGN kvs (kOf l s)).getD .non) o ∧ Is4 (inS sm l s) o
theorem ZGl.same {H H' : Hp} {kvs : List (List Key × V)} {sm : PL} {G : Nat → Int → Prop} (h : ZGl H kvs sm G) (s : ZFY H H') : ZGl H' kvs sm G := fun l s' hl g => by
 obtain ⟨o, h1, h2⟩ := h l s' hl g
 exact ⟨o, h1.same s, h2⟩
theorem PrT.kpX {H H' : Hp} {a d : Addr} {cv : PL} {ob : HO} (h : PrT H a cv) (k : Kp d H H') (hd : H d = some ob) (hn : ∀ xs, ob ≠ .tup xs) : PrT H' a cv := by
 obtain ⟨us, g, p⟩ := h
 have ne : ∀ {b : Addr} {xs : List V}, H b = some (.tup xs) → H' b = some (.tup xs) := fun {b xs} e => k _ _ e fun z => by
  subst z
  rw [hd] at e
  exact hn _ (Option.some.inj e)
 exact ⟨us, ne g, Paired.mapP p fun _ _ ⟨a, e, z⟩ => ⟨a, e, ne z⟩⟩
theorem ZGC.kpX {H H' : Hp} {d : Addr} {v : V} {o : Option (PL)} {ob : HO} (h : ZGC H v o) (k : Kp d H H') (hd : H d = some ob) (hn : ∀ xs, ob ≠ .tup xs) : ZGC H' v o := by
 cases h with
 | non => exact .non
 | pr e hl => exact .pr (e.kpX k hd hn) hl
theorem ZGl.kpX {H H' : Hp} {kvs : List (List Key × V)} {sm : PL} {G : Nat → Int → Prop} {d : Addr} {ob : HO} (h : ZGl H kvs sm G) (k : Kp d H H') (hd : H d = some ob) (hn : ∀ xs, ob ≠ .tup xs) : ZGl H' kvs sm G := fun l s' hl g => by
 obtain ⟨o, h1, h2⟩ := h l s' hl g
 exact ⟨o, h1.kpX k hd hn, h2⟩
theorem ZGl.other {H : Hp} {kvs : List (List Key × V)} {sm sm' : PL} {t : Int} (h : ZGl H kvs sm fun _ _ => True) (e : ∀ q : Int × Int, q.1 ≠ t → (q ∈ sm ↔ q ∈ sm')) : ZGl H kvs sm' fun l s => s ≠ t / 2 ^ l := fun l s hl g => by
 obtain ⟨o, h1, h2⟩ := h l s hl trivial
 refine ⟨o, h1, h2.congr fun p => ?_⟩
 rw [ZHd, ZHd]
 constructor
 ·rintro ⟨g1, g2⟩
  exact ⟨(e p fun z => g (by rw [← g2, z])).mp g1, g2⟩
 ·rintro ⟨g1, g2⟩
  exact ⟨(e p fun z => g (by rw [← g2, z])).mpr g1, g2⟩
theorem ZGl.put {H' : Hp} {kvs : List (List Key × V)} {sm : PL} {G : Nat → Int → Prop} {t : Int} {i : Nat} {v : V} {o : Option (PL)} (h : ZGl H' kvs sm G) (hv : ZGC H' v o) (ho : Is4 (inS sm i (t / 2 ^ i)) o) :
  ZGl H' (ZG0 kvs (kOf i (t / 2 ^ i)) v) sm fun l s => G l s ∨ (l = i ∧ s = t / 2 ^ l) := fun l s hl g => by
 by_cases e : kOf l s = kOf i (t / 2 ^ i)
 ·obtain ⟨rfl, rfl⟩ := ZV6 e
  refine ⟨o, ?_, ho⟩
  rw [ZLZ, if_pos rfl]
  exact hv
 ·rcases g with g | ⟨rfl, rfl⟩
  ·obtain ⟨o', h1, h2⟩ := h l s hl g
   refine ⟨o', ?_, h2⟩
   rw [ZLZ, if_neg e]
   exact h1
  ·exact absurd rfl e
theorem ZGl.mono {H : Hp} {kvs : List (List Key × V)} {sm : PL} {G G' : Nat → Int → Prop} (h : ZGl H kvs sm G) (g : ∀ l s, l ≤ 40 → G' l s → G l s) : ZGl H kvs sm G' := fun l s hl hg => h l s hl (g l s hl hg)
theorem ZGl.tups {H H' : Hp} {kvs : List (List Key × V)} {sm : PL} {G : Nat → Int → Prop} (h : ZGl H kvs sm G) (t : ∀ b xs, H b = some (.tup xs) → H' b = some (.tup xs)) : ZGl H' kvs sm G := fun l s hl g => by
 obtain ⟨o, h1, h2⟩ := h l s hl g
 refine ⟨o, ?_, h2⟩
 generalize (ZGN kvs (kOf l s)).getD .non = v at h1
 cases h1 with
 | non => exact .non
 | pr e hl =>
  obtain ⟨us, g, p⟩ := e
  exact .pr ⟨us, t _ _ g, Paired.mapP p fun _ _ ⟨a, e, z⟩ => ⟨a, e, t _ _ z⟩⟩ hl
def ZHi (m : PL) (t : Int) : PL := m.filter fun p => decide (p.1 ≠ t)
theorem ZV7 (m : PL) (t : Int) : ZJD (ZGf m) (.inl t) = ZGf (ZHi m t) := by
 unfold ZJD ZGf ZHi
 rw [List.filter_map]
 congr 1
 apply List.filter_congr
 intro p _
 simp [dkE, Function.comp]
theorem ZNB {m : PL} {t : Int} {q : Int × Int} : q ∈ ZHi m t ↔ q.1 ≠ t ∧ q ∈ m := by
 unfold ZHi
 rw [List.mem_filter, decide_eq_true_iff, and_comm]
theorem ZPL {m : PL} {t : Int} (n : (m.map (·.1)).Nodup) : ((ZHi m t).map (·.1)).Nodup := n.sublist ((List.filter_sublist).map _)
section
variable {X : Cx} {o e : Expr} {apos cpos pos p : Pos} {td ty to : TE}
theorem ZTr (ho : QE X o td) (he : QE X e ty) (m : M1 X o "pop" apos e cpos := by exact ⟨rfl, rfl, rfl, rfl⟩) : QE X (.Call (.Attribute o "pop" apos) [e] [] cpos) (ZOA td ty) := ⟨ZTN ho.h he.h m⟩
def ZOi : R2 := fun y x H Q => ∃ a o, x = .ref a ∧ ZHC H a y o ∧ Q (.bl (!o.isSome)) H
theorem ZQf (hu : X.A.units + 1 < cLine) : OpR X (compareOp .NotIn) ZOi := by
 intro pins s σ H x y v u Q I rx ry h
 obtain ⟨a, ov, rfl, g, q⟩ := h
 obtain rfl : u = Value.ref a := ry
 exact ZVc hu I g rx fun s3 I3 => ⟨.bl (!ov.isSome), H, I3, rfl, q⟩
end
section
variable {K : W.Frag} {σ : St} {H : Hp} {Q : VK} {td ty : TE} {a b : Addr} {m m' : PL} {i v : Int}
def ZOj (a : Addr) (y : V) (H : Hp) (Q : VK) : Prop := ∃ kvs k v, H a = some (.dK kvs) ∧ y = kV k ∧ ZGN kvs k = some v ∧ Q v (upd H a (.dK (ZJD kvs k)))
def ZRq (ty : TE) (σ : St) (Q : VK) (x : V) (H : Hp) : Prop := ∃ a, x = .ref a ∧ IsD H a ∧ ty σ H fun y H2 => ZOj a y H2 Q
theorem ZTs (h : td σ H fun x H1 => ZRq ty σ Q x H1) : ZOA td ty σ H Q := h
theorem ZTt {kvs : List (Key × V)} (h1 : H a = some (.dK kvs)) (q : ty σ H fun y H2 => ZOj a y H2 Q) : ZRq ty σ Q (.ref a) H := ⟨a, rfl, .inl ⟨kvs, .inl h1⟩, q⟩
theorem ZTu (h1 : H a = some (.dK (ZGf m))) (l : ZGA m i = some v) (q : ∀ H2, H2 a = some (.dK (ZGf (ZHi m i))) → Kp a H H2 → Q (.int v) H2) : ZOj a (.int i) H Q :=
 ⟨ZGf m, .inl i, .int v, h1, rfl, by rw [ZJi, l]; rfl, by rw [ZV7]; exact q _ ZFf Kp.upd⟩
end
end L2
namespace L2
end L2
namespace L2
open PySem PySem.Spec PyProof.Rows PySem.W
def FrL (l : List Addr) (H H' : Hp) : Prop := ∀ b o, H b = some o → b ∉ l → H' b = some o
theorem FrL.trans {l : List Addr} {H H1 H2 : Hp} (h : FrL l H H1) (g : FrL l H1 H2) : FrL l H H2 := fun b o e n => g b o (h b o e n) n
theorem FrL.same {l : List Addr} {H H' : Hp} (h : ZFY H H') : FrL l H H' := fun b o e _ => h b o e
theorem FrL.kp {l : List Addr} {H H' : Hp} {q : Addr} (h : Kp q H H') (m : q ∈ l) : FrL l H H' := fun b o e n => h b o e fun z => n (z ▸ m)
theorem FrL.fresh {l : List Addr} {H0 H H' : Hp} (f : FrL l H H') (s : ZFY H0 H) (n : ∀ b ∈ l, H0 b = none) : ZFY H0 H' := fun b o e => f _ _ (s _ _ e) fun z => by rw [n b z] at e; cases e
theorem ZHr {H0 H : Hp} {b : Addr} (s : ZFY H0 H) (e : H b = none) : H0 b = none := by
 cases e2 : H0 b with
 | none => rfl
 | some o => rw [s _ _ e2] at e; cases e
end L2
namespace L2
theorem ZRr {c : TT} {t u : TS} {D : ZGW} {σ : St} {H : Hp} (h : ZNl c t u D σ H) : ZNl c t u D σ H := h
end L2
namespace L2
open PySem PySem.Spec PyProof.Rows PySem.W
def ZK9 (X : Cx) (d : Addr) : Prop := ∀ o u, X.H₀ d ≠ some (.frz o u)
section
variable {X : Cx} {tg e : Expr} {te t : TE}
theorem Inv.thaw {pins : List (Addr × Obj)} {σ : St} {H : Hp} {s : Shared} {d : Addr} {o : Obj} {u : HO} (I : Inv X pins σ H s) (hd : H d = some (.frz o u)) (nf : ZK9 X d) (hu : Mut (some u)) : Inv X pins σ (upd H d u) s := by
 have hne : ∀ b ob, H b = some ob → (∀ o u, ob ≠ .frz o u) → b ≠ d := fun b ob e n z => by rw [z, hd] at e; cases e; exact n _ _ rfl
 have hnn : ∀ b, H b = none → b ≠ d := fun b e z => by rw [z, hd] at e; cases e
 obtain ⟨ho, hou⟩ := (show ZFz X.prog X.w H s.heap d (.frz o u) from I.hok d _ hd)
 have base := I.base
 refine ⟨I.ok, I.os, I.bare, ⟨base.keep, base.slot, fun b ob e n hx => ?_, base.there, fun b xs e => ?_, fun b ob v e => ?_, fun b ps e => ?_⟩, I.loc, I.cell, ?_, fun x c e => ?_, fun p hp => ?_, fun b ob e => ?_, I.len⟩
 ·have := base.free b ob e n hx
  rw [ZFg (hnn b this)]; exact this
 ·have := base.tups b xs e
  rw [ZFg (hne b _ this fun _ _ z => by cases z)]; exact this
 ·have h1 := base.frzs b ob v e
  have : b ≠ d := fun z => by subst z; exact nf _ _ e
  rw [ZFg this]; exact h1
 ·obtain ⟨more, h1⟩ := base.tbls b ps e
  exact ⟨more, by rw [ZFg (hne b _ h1 fun _ _ z => by cases z)]; exact h1⟩
 ·rw [ZFg (hnn _ I.free)]; exact I.free
 ·rw [ZFg (hnn _ (I.freeC x c e))]; exact I.freeC x c e
 ·obtain ⟨h1, h2, h3⟩ := I.pin p hp
  exact ⟨h1, by rw [ZFg (hnn _ h2)]; exact h2, h3⟩
 ·by_cases hb : b = d
  ·subst hb
   rw [ZFf] at e
   cases e
   exact hou.stay (fun c v _ r => r) (fun c r => by rw [ZFg (hne c _ r fun _ _ z => by cases z)]; exact r) fun c xs r => by rw [ZFg (hne c _ r fun _ _ z => by cases z)]; exact r
  ·rw [ZFg hb] at e
   exact (I.hok b _ e).stay (fun c v _ r => r) (fun c r => by rw [ZFg (hne c _ r fun _ _ z => by cases z)]; exact r) fun c xs r => by rw [ZFg (hne c _ r fun _ _ z => by cases z)]; exact r
def ZQg (X : Cx) (v : V) (H : Hp) (Q : VK) : Prop := ∃ d o u, ZK9 X d ∧ H d = some (.frz o u) ∧ Mut (some u) ∧ Q v (upd H d u)
def ZUg (X : Cx) (t : TE) : TE := fun σ H Q => t σ H fun v H' => ZQg X v H' Q
theorem ZV8 (h : QE X e t) : QE X e (ZUg X t) := by
 refine ⟨?_⟩
 intro pins s σ H Q I hq
 refine thn (h.h pins s σ H _ I hq) fun u s1 ⟨x, H1, I1, rx, d, o, v, nf, hd, hm, q⟩ => ?_
 exact ⟨x, _, I1.thaw hd nf hm, rx, q⟩
end
section
variable {X : Cx} {σ : St} {H : Hp} {Q : VK} {R : It → Hp → Prop} {te t : TE} {d : Addr} {m : PL}
theorem ZTv (h : t σ H fun v H' => ZQg X v H' Q) : ZUg X t σ H Q := h
end
structure ZJ4 (K : Frag) (x : Str) (C : Addr) : Prop where
 a : nsIn K mainGlobals x = some (some (.ref C))
 ex : excIn K C [.type "ValueError", .type "Exception", .type "BaseException", .type "object"] "ValueError.__new__" = true
 ga : findIn K (.ref C) "__getattribute__" = some (some (.builtin "BaseException.__getattribute__"))
 gt : findIn K (.ref C) "__getattr__" = some none
 cl : findIn K (.ref C) "__class__" = some (some (.builtin "object.__class__"))
 ob : mroIn K C (.type "object") = some true
 be : mroIn K C (.type "BaseException") = some true
structure ZTw (K : Frag) (x : Str) (C : Addr) : Prop where
 a : nsIn K mainGlobals x = some (some (.ref C))
 pg : plainGet K C Str.empty = true
 hd : hasDictIn K C = true
 po : plainOver K C = true
 sa : findIn K (.ref C) "__setattr__" = some (some (.builtin "object.__setattr__"))
 mi : makesIn K C = true
 kc : keepIn K (.ref C) = true
section
variable {K : Frag} {x qual : Str} {st : Stmt} {f : Addr} {fd : FuncData}
theorem Fun.b1 {p : Str} (F : Fun K x qual st f fd) (h : ∀ (kV doc pm : Value) (an : Option Addr) (cdv ct u : Value), bindArgs (fnOf x qual (ZGS st) (ZGE st) (ZFW st) .none kV doc pm an cdv ct) ⟨[u], []⟩ = pure ([p].zip [u])) : ZFZ K fd [p] [] := F.binds fun _ _ _ _ _ _ us hl => match us, hl with | [_], _ => h _ _ _ _ _ _ _
theorem Fun.b2 {p q : Str} (F : Fun K x qual st f fd) (h : ∀ (kV doc pm : Value) (an : Option Addr) (cdv ct u v : Value), bindArgs (fnOf x qual (ZGS st) (ZGE st) (ZFW st) .none kV doc pm an cdv ct) ⟨[u, v], []⟩ = pure ([p, q].zip [u, v])) : ZFZ K fd [p, q] [] := F.binds fun _ _ _ _ _ _ us hl => match us, hl with | [_, _], _ => h _ _ _ _ _ _ _ _
theorem Fun.b3 {p q r : Str} (F : Fun K x qual st f fd) (h : ∀ (kV doc pm : Value) (an : Option Addr) (cdv ct u v y : Value), bindArgs (fnOf x qual (ZGS st) (ZGE st) (ZFW st) .none kV doc pm an cdv ct) ⟨[u, v, y], []⟩ = pure ([p, q, r].zip [u, v, y])) : ZFZ K fd [p, q, r] [] := F.binds fun _ _ _ _ _ _ us hl => match us, hl with | [_, _, _], _ => h _ _ _ _ _ _ _ _ _
theorem Fun.b4 {p q r t : Str} (F : Fun K x qual st f fd) (h : ∀ (kV doc pm : Value) (an : Option Addr) (cdv ct u v y z : Value), bindArgs (fnOf x qual (ZGS st) (ZGE st) (ZFW st) .none kV doc pm an cdv ct) ⟨[u, v, y, z], []⟩ = pure ([p, q, r, t].zip [u, v, y, z])) : ZFZ K fd [p, q, r, t] [] := F.binds fun _ _ _ _ _ _ us hl => match us, hl with | [_, _, _, _], _ => h _ _ _ _ _ _ _ _ _ _
end
def ZTx (d : Addr) (o : Obj) (kvs : List (Key × V)) : It := ⟨fun i H => H d = some (.frz o (.dK kvs)) ∧ i < kvs.length, fun i H x H' => H' = H ∧ ∃ p, kvs[i]? = some p ∧ x = p.2, fun i H => H d = some (.frz o (.dK kvs)) ∧ kvs.length ≤ i⟩
theorem ZYA {kvs : List (Key × V)} {vs : List (Key × Value)} (h : KV kvs vs) : ∀ {i : Nat} {p : Key × V}, kvs[i]? = some p → ∃ q, vs[i]? = some q ∧ ZFl p.2 q.2 := by
 unfold KV at h
 induction h with
 | nil => intro i p e; simp at e
 | @cons a b as bs h t ih =>
  intro i p e
  cases i with
  | zero =>
   simp at e
   subst e
   exact ⟨b, rfl, h.2⟩
  | succ i =>
   obtain ⟨q, h1, h2⟩ := ih (i := i) (p := p) (by simpa using e)
   exact ⟨q, by simpa using h1, h2⟩
theorem ZQh {P : Program} {w : World} {K : W.Frag} {tg : Expr} (d it : Addr) (o : Obj) (kvs : List (Key × V)) (es : Array DictEntry) (ep : Nat) (ho : o.data = .dict es ep) : ZKM P w K tg (ZTx d o kvs) [it] it (fun i h => h.IsValIter it d i kvs.length ep) where
 mem := by simp
 obj := fun i h st b hb => by
  have e : b = it := by simpa using hb
  subst e
  obtain ⟨o, e, c, d⟩ := st
  exact ⟨o, e, fun v z => by rw [d] at z; cases z⟩
 keep := fun i h h' st k => st.at fun o e => k it (by simp) o e
 item := by
  intro X hP hw hK hc i pins s σ H E I hf st hg
  subst hP hw hK
  obtain ⟨hd, hi⟩ := hg
  obtain ⟨f0, f1, f2, f3, f4, f5⟩ := hf it (by simp)
  obtain ⟨hob, z, hsm, vs, rel, dd⟩ := (show ZFz X.prog X.w H s.heap d (.frz o (.dK kvs)) from I.hok d _ hd)
  obtain ⟨ep', dd⟩ := dd.dictAt
  obtain ⟨o2, es2, g1, g2, g3, g4⟩ := id dd
  rw [hob] at g1
  cases g1
  rw [ho] at g3
  cases g3
  have hlen : kvs.length = vs.length := rel.length
  obtain ⟨q, hq, eq⟩ := ZYA rel (List.getElem?_eq_getElem hi)
  rw [hlen] at st
  refine wpAny_pyNext_values_item (knd := ZGM X.prog X.w) (k := q.1) (v := q.2) st dd hq fun h' hit' hs' => ?_
  have I1 : Inv X pins σ H { s with heap := h' } := I.turned (t' := s.toks) (fun b o hb e => (hs'.2 b hb).trans e) f0 f1 f3 f4 f5
  obtain ⟨o3, e3, c3, d3⟩ := id hit'
  refine ⟨q.2, rfl, ZKy (s := { s with heap := h' }) e3 c3 d3 (by decide) ⟨kvs[i].2, H, I1, eq, ⟨rfl, _, List.getElem?_eq_getElem hi, rfl⟩, ?_, fun b hb => (hf b hb).1⟩⟩
  rw [hlen]; exact hit'
 done := by
  intro X hP hw hK hc i pins s σ H E I hf st hg
  subst hP hw hK
  obtain ⟨hd, hi⟩ := hg
  obtain ⟨f0, f1, f2, f3, f4, f5⟩ := hf it (by simp)
  obtain ⟨hob, z, hsm, vs, rel, dd⟩ := (show ZFz X.prog X.w H s.heap d (.frz o (.dK kvs)) from I.hok d _ hd)
  obtain ⟨ep', dd⟩ := dd.dictAt
  obtain ⟨o2, es2, g1, g2, g3, g4⟩ := id dd
  rw [hob] at g1
  cases g1
  rw [ho] at g3
  cases g3
  have hlen : kvs.length = vs.length := rel.length
  rw [hlen] at st
  exact wpAny_pyNext_values_end (knd := ZGM X.prog X.w) (I.ok.hd hc) st dd (List.getElem?_eq_none (by omega)) fun h' eb => ⟨rfl, I.turned (t' := s.toks) (fun b o hb e => eb b o hb e) f0 f1 f3 f4 f5⟩
 self := fun _ _ _ _ _ st h => wpAny_pyIter_valiter st h
def ZOk (X : Cx) (R : It → Hp → Prop) (v : V) (H : Hp) : Prop := ∃ d kvs, v = .ref d ∧ H d = some (.dK kvs) ∧ ∀ o, ZK9 X d → R (ZTx d o kvs) (upd H d (.frz o (.dK kvs)))
def ZRs (X : Cx) (te : TE) : TI := fun σ H R => te σ H fun v H1 => ZOk X R v H1
section
variable {X : Cx} {tg e : Expr} {te t : TE} {apos cpos : Pos}
theorem ZTy (he : QE X e te) (hbase : attributeBase e "values" X.env (eval e X.env) = eval e X.env := by rfl) (hline : (apos.endLine == cpos.line) = true := by rfl) : QI X tg (.Call (.Attribute e "values" apos) [] [] cpos) (ZRs X te) := by
 refine ⟨?_⟩
 intro pins s σ H R I h
 refine wpAny_Call_method0_late hbase hline (thn (he.h pins s σ H _ I h) fun u s1 ⟨x, H1, I1, rx, d, kvs, ex, hd, q⟩ => ?_)
 subst ex
 obtain rfl : u = Value.ref d := rx
 obtain ⟨z, hsm, vs, rel, dd⟩ := ZQK I1.hok hd
 refine ⟨"dict", "dict.values", PySem.F.plainAttrs_dict, PySem.F.slot_dict_values, PySem.F.type_dict_values, dd.typeIs, ZPG I1 (ZHC.k (k := Sum.inl 0) hd), ?_⟩
 refine Calls.callWith_builtin rfl (PySem.evalArgs_none ?_)
 refine call_meetsIn PySem.F.slot_dict_values dd.typeIs PySem.F.entry_dict_values (PySem.F.args_dict_values_1 _) (meets_dict_values (ZGM X.prog X.w) d hsm) ⟨⟨vs, dd⟩, ?_⟩
 obtain ⟨ep, dda⟩ := dd.dictAt
 obtain ⟨o, es, ho, hx, hdat, hk, hpr, hn⟩ := id dda
 have hnf : ZK9 X d := fun o u e => by
  have := I1.base.frzs d o u e
  rw [hd] at this
  cases this
 have hlen : kvs.length = vs.length := rel.length
 have I2 : Inv X pins σ (upd H1 d (.frz o (.dK kvs))) s1 := by
  have := ZK4 (h' := s1.heap) (t' := s1.toks) (ob := .frz o (.dK kvs)) I1 (by rw [hd]; exact True.intro) (Heap.SameBut.refl _ _) ⟨o, ho⟩ ⟨ho, ZN6 z hsm rel dd⟩
  exact this
 have I3 : Inv X pins σ (upd H1 d (.frz o (.dK kvs))) { s1 with heap := s1.heap.push { cls := .type "dict_values", data := .fields #[.ref d] } } := I2.kept (t' := s1.toks) fun b o e => Heap.get?_push_of_some _ e
 have dd3 := dda.at' (h' := s1.heap.push { cls := .type "dict_values", data := .fields #[.ref d] }) fun o e => Heap.get?_push_of_some _ e
 show wpAny (model X.prog X.w) X.A (pyIter (.ref s1.heap.objs.size)) (PIE X pins σ tg R) X.xe { s1 with heap := s1.heap.push { cls := .type "dict_values", data := .fields #[.ref d] } }
 refine wpAny_pyIter_values (knd := ZGM X.prog X.w) (s := { s1 with heap := s1.heap.push { cls := .type "dict_values", data := .fields #[.ref d] } }) ⟨_, Heap.get?_push_size _ rfl, rfl, rfl⟩ dd3 ?_
 refine ⟨_, [_], _, _, _, rfl, I3.kept (t' := s1.toks) fun b o e => Heap.get?_push_of_some _ e, ZQh d _ o kvs es ep hdat, ?_, fun b hb => ?_, q o hnf⟩
 ·rw [hlen]
  exact ⟨_, Heap.get?_push_size _ rfl, rfl, rfl⟩
 ·have e := List.mem_singleton.mp hb
  subst e
  exact I3.fpOk (Nat.le_refl _) (I3.hok.fresh (Nat.le_refl _))
end
theorem Paired.get {α β : Type} {F : α → β → Prop} : ∀ {l₁ : List α} {l₂ : List β}, Paired F l₁ l₂ → ∀ {i : Nat} {x : α}, l₁[i]? = some x → ∃ y, l₂[i]? = some y ∧ F x y
 | _, _, .nil, i, x, e => by simp at e
 | _, _, .cons h t, 0, x, e => by simp at e; subst e; exact ⟨_, rfl, h⟩
 | _, _, .cons _ t, i + 1, x, e => by
  obtain ⟨o, h1, h2⟩ := Paired.get t (by simpa using e)
  exact ⟨o, by simpa using h1, h2⟩
theorem Paired.snocP {α β : Type} {F : α → β → Prop} : ∀ {l₁ : List α} {l₂ : List β}, Paired F l₁ l₂ → ∀ {x : α} {y : β}, F x y → Paired F (l₁ ++ [x]) (l₂ ++ [y])
 | _, _, .nil, _, _, h => .cons h .nil
 | _, _, .cons g t, _, _, h => .cons g (Paired.snocP t h)
def leS (a b : Str) : Prop := ¬ b.cps.toList < a.cps.toList
theorem ZOl {a b : Str} (h1 : leS a b) (h2 : leS b a) : a = b := by
 have : a.cps.toList = b.cps.toList := List.le_antisymm (List.not_lt.mp h1) (List.not_lt.mp h2)
 cases a; cases b
 congr
 exact Array.toList_inj.mp this
theorem ZRt {a b c : Str} (h1 : leS a b) (h2 : leS b c) : leS a c := List.not_lt.mpr (List.le_trans (List.not_lt.mp h1) (List.not_lt.mp h2))
theorem ZNC : ∀ (l : List Str) (p : Str), risingS p l = true → (p :: l).Pairwise leS
 | [], p, _ => List.pairwise_singleton _ _
 | x :: r, p, h => by
  simp only [risingS, Bool.and_eq_true, Bool.not_eq_true', ltCps_eq, decide_eq_false_iff_not] at h
  have ih := ZNC r x h.2
  rw [List.pairwise_cons]
  refine ⟨fun y hy => ?_, ih⟩
  rcases List.mem_cons.mp hy with rfl | hy
  ·exact h.1
  ·exact ZRt h.1 ((List.pairwise_cons.mp ih).1 y hy)
theorem ZQi {l : List Str} (h : sortedS l = true) : l.Pairwise leS := by
 cases l with
 | nil => exact .nil
 | cons p l => exact ZNC l p h
theorem ZOm {l m : List Str} (hp : l.Perm m) (h1 : l.Pairwise leS) (h2 : m.Pairwise leS) : l = m := List.Perm.eq_of_pairwise (le := leS) (fun _ _ _ _ h g => ZOl h g) h1 h2 hp
section
variable {prog : Program} {w : World} {A : Around} {E : Value → Shared → Prop} {s : Shared} {κ : Type} [DecidableEq κ] {knd : KeyKind prog w κ}
theorem ZOn {d : Addr} {kvs : List (κ × Value)} {ep : Nat} {Q : Value → Shared → Prop} (hh : A.handled = none) (hd : (d == sysModules) = false) (hm : s.heap.DictAt knd d kvs ep) (h64 : kvs.length < 64)
  (hI : ∀ acc : Array Value, ItemsOf (fun i v => ∃ k x, kvs[i]? = some (k, x) ∧ knd.is k v = true) acc kvs.length → ∃ ss, StrsAre acc.toList ss ∧ ∀ (s' : Shared) (l : Addr) (out : Array Value) (ss' : List Str) (e : Nat), s.heap.objs.size ≤ l → (∀ b o, s.heap.get? b = some o → s'.heap.get? b = some o) → s'.gens = s.gens → s'.drawn = s.drawn → s'.os = s.os →
   s'.heap.get? l = some (seqObj "list" out e) → StrsAre out.toList ss' → ss'.Perm ss → sortedS ss' = true → Q (.ref l) s') :
  wpAny (model prog w) A (call (.builtin "sorted") [.ref d]) Q E s := by
 refine Calls.call_function_entry kind_sorted plain_sorted entry_sorted (args_sorted1 _) ?_
 unfold Builtin.«sorted»
 refine wpAny_bind (m := checkCount "sorted" 1 1 _) (wpAny_pure ?_)
 refine wpAny_bind (ZKU (knd := knd) hh hd hm (by rw [sizeLine_eq]; omega) fun s1 acc hk e1 e2 e3 hlt hacc => ?_)
 obtain ⟨ss, hns, hQ⟩ := hI acc hacc
 refine wpAny_bind (wpAny_newList (hsz := by rw [Array.length_toList, hacc.1, sizeLine_eq]; omega) ?_)
 have hoL : (s1.heap.push (seqObj "list" acc.toList.toArray 0)).get? s1.heap.objs.size = some (seqObj "list" acc.toList.toArray 0) := Heap.get?_push_size _ rfl
 show wpAny _ _ _ _ _ { s1 with heap := s1.heap.push (seqObj "list" acc.toList.toArray 0) }
 refine wpAny_bind (wpAny_holding (wpAny_call_entry slot_list_sort ⟨_, hoL, rfl⟩ entry_list_sort (list_sort_treeK strKind_oneLt hoL hns.keysOf (fun v₁ v₂ ZGe e => keyKind_strs (by rw [← e]; exact hns)) (by rw [Array.length_toList, hacc.1]; exact h64) fun st' hp hs => ⟨_, rfl, ?_⟩) (args_list_sort _)))
 obtain ⟨ss', a1, a2, a3⟩ := sorted_out_str hns hp hs
 refine wpAny_pure ⟨_, rfl, ?_⟩
 obtain ⟨e, he⟩ := sortedHeap_at (out := (arrOf st').map (·.2)) hoL
 have hle : s.heap.objs.size ≤ s1.heap.objs.size := Nat.le_of_lt hlt
 refine hQ _ _ _ ss' e hle (fun b o eb => ?_) e1 e2 e3 he a1 a2 a3
 have hb := Heap.lt_size (hk _ _ eb)
 exact (sortedHeap_old (Nat.ne_of_lt hb) (by rw [Heap.size_push]; exact Nat.lt_succ_of_lt hb)).trans (Heap.get?_push_of_some _ (hk _ _ eb))
end
theorem ZND : ∀ (vs : List (Key × Value)) (ns : List Str) (l : List Value), vs.map (·.1) = ns.map Sum.inr → l.length = vs.length → (∀ (j : Nat) (v : Value), l[j]? = some v → ∃ k x, vs[j]? = some (k, x) ∧ ZJA k v = true) → StrsAre l ns
 | [], [], [], _, _, _ => .nil
 | [], [], _ :: _, _, h, _ => by simp at h
 | [], _ :: _, _, h, _, _ => by simp at h
 | _ :: _, [], _, h, _, _ => by simp at h
 | _ :: _, _ :: _, [], _, h, _ => by simp at h
 | (k, x) :: vs, n :: ns, v :: l, h1, h2, h3 => by
  simp only [List.map_cons, List.cons.injEq] at h1
  obtain ⟨rfl, h1⟩ := h1
  obtain ⟨k', x', e, hk⟩ := h3 0 v rfl
  simp only [List.getElem?_cons_zero, Option.some.injEq, Prod.mk.injEq] at e
  obtain ⟨rfl, rfl⟩ := e
  rcases ZGT hk with ⟨i, t, e1, e2⟩ | ⟨y, t, e1, e2⟩
  ·cases e1
  ·cases e1; cases e2
   refine .cons _ _ (ZND vs ns l h1 (by simpa using h2) fun j v e => ?_)
   have := h3 (j + 1) v (by simpa using e)
   simpa using this
theorem ZKZ : ∀ {vs : List Value} {ss : List Str}, StrsAre vs ss → ZFj (ss.map V.str) vs
 | _, _, .nil => .nil
 | _, _, .cons _ t h => .cons ⟨t, rfl⟩ (ZKZ h)
def ZNE : List V → Hp → VK → Prop := fun xs H Q => ∃ (p : Addr) (kvs : List (Key × V)) (ss : List Str), xs = [.ref p] ∧ Rd H p (.dK kvs) ∧ kvs.map (·.1) = ss.map Sum.inr ∧ kvs.length < 64 ∧ ∀ (l : Addr) (ss' : List Str), H l = none → ss'.Perm ss → ss'.Pairwise leS → Q (.ref l) (upd H l (.lst (ss'.map V.str)))
theorem ZPM {X : Cx} (hc : X.calm = true) : ZF5 X (.builtin "sorted") ZNE := by
 intro pins s σ H xs us Q I r h
 obtain ⟨p, kvs, ss, rfl, hd, hns, h64, q⟩ := h
 obtain ⟨u, rfl, ru⟩ := r.one
 cases ru
 obtain ⟨z, hd, vs, rel, dd⟩ := ZIi I.hok hd
 obtain ⟨ep, dd⟩ := dd.dictAt
 have hlen : vs.length = kvs.length := rel.length.symm
 refine ZOn (I.ok.hd hc) hd dd (by rw [hlen]; exact h64) fun acc hacc => ⟨ss, ?_, fun s' l out ss' e hl hk e1 e2 e3 he a1 a2 a3 => ?_⟩
 ·exact ZND vs ss acc.toList (by rw [KV.keysEq rel]; exact hns) (by rw [Array.length_toList]; exact hacc.1) fun j v e => hacc.2 j v (by simpa using e)
 ·obtain ⟨h', g', d', tk, os'⟩ := s'
  simp only at e1 e2 e3
  subst e1 e2 e3
  refine ⟨.ref l, upd H l (.lst (ss'.map V.str)), I.laid (t' := tk) hk hl ?_, rfl, q l ss' (I.hok.fresh hl) a2 (ZQi a3)⟩
  refine ⟨?_, out.toList, e, ZKZ a1, he⟩
  have l1 := a2.length_eq
  have l2 := congrArg List.length hns
  simp only [List.length_map] at l2 ⊢
  rw [sizeLine_eq]
  omega
section
variable {α : Type}
def ZF0 (m : List (Str × α)) (k : Str) : Option α := (m.find? fun p => decide (p.1 = k)).map (·.2)
def ZHl (m : List (Str × α)) (k : Str) (v : α) : List (Str × α) := if (m.any fun p => decide (p.1 = k)) = true then m.map fun p => if p.1 = k then (p.1, v) else p else m ++ [(k, v)]
def dkS (m : List (Str × V)) : List (Key × V) := m.map fun p => (.inr p.1, p.2)
theorem ZRu {a b : Str} : ((Sum.inr a : Key) = Sum.inr b) ↔ a = b := ⟨fun h => Sum.inr.inj h, fun h => h ▸ rfl⟩
theorem ZMh (k : Str) : ∀ m : List (Str × V), ZGN (dkS m) (.inr k) = ZF0 m k
 | [] => rfl
 | p :: m => by
  have ih := ZMh k m
  by_cases e : p.1 = k
  ·have : ZGN (dkS (p :: m)) (.inr k) = some p.2 := ZGh (p := (Sum.inr p.1, p.2)) (by simp [e])
   rw [this]
   simp [ZF0, List.find?_cons, e]
  ·have : ZGN (dkS (p :: m)) (.inr k) = ZGN (dkS m) (.inr k) := ZGi (p := (Sum.inr p.1, p.2)) (by simp [e])
   rw [this, ih]
   simp [ZF0, List.find?_cons, e]
theorem ZV9 (m : List (Str × V)) (k : Str) (v : V) : ZG0 (dkS m) (.inr k) v = dkS (ZHl m k v) := by
 have ha : ((dkS m).any fun kv => decide (kv.1 = Sum.inr k)) = m.any fun p => decide (p.1 = k) := by
  unfold dkS
  rw [List.any_map]
  congr 1
  funext p
  simp only [Function.comp, ZRu]
 unfold ZG0 ZHl
 rw [ha]
 by_cases c : (m.any fun p => decide (p.1 = k)) = true
 ·rw [if_pos c, if_pos c]
  unfold dkS
  rw [List.map_map, List.map_map]
  refine List.map_congr_left fun p _ => ?_
  simp only [Function.comp, ZRu]
  split <;> simp
 ·rw [if_neg c, if_neg c]
  simp [dkS]
theorem ZKa {k : Str} : ∀ {m : List (Str × α)}, ZF0 m k = none ↔ k ∉ m.map (·.1)
 | [] => by simp [ZF0]
 | p :: m => by
  have ih := ZKa (k := k) (m := m)
  by_cases e : p.1 = k
  ·simp [ZF0, List.find?_cons, e]
  ·have e' : ¬ k = p.1 := fun z => e z.symm
   have : ZF0 (p :: m) k = ZF0 m k := by simp [ZF0, List.find?_cons, e]
   rw [this, ih]
   simp [e']
theorem ZTz {m : List (Str × α)} {k : Str} {v : α} (e : ZF0 m k = none) : ZHl m k v = m ++ [(k, v)] := by
 unfold ZHl
 rw [if_neg]
 intro z
 obtain ⟨q, hq, e2⟩ := List.any_eq_true.mp z
 rw [decide_eq_true_iff] at e2
 rw [ZKa] at e
 exact e (List.mem_map.mpr ⟨q, hq, e2⟩)
theorem ZT0 {β : Type} (f : α → β) (m : List (Str × α)) (k : Str) : ZF0 (m.map fun p => (p.1, f p.2)) k = (ZF0 m k).map f := by
 induction m with
 | nil => rfl
 | cons p m ih =>
  by_cases e : p.1 = k
  ·simp [ZF0, List.find?_cons, e]
  ·have h1 : ZF0 (p :: m) k = ZF0 m k := by simp [ZF0, List.find?_cons, e]
   have h2 : ZF0 ((p :: m).map fun p => (p.1, f p.2)) k = ZF0 (m.map fun p => (p.1, f p.2)) k := by simp [ZF0, List.find?_cons, e]
   rw [h1, h2, ih]
theorem ZIF {k : Str} {v : α} : ∀ {m : List (Str × α)}, ZF0 m k = some v → (k, v) ∈ m
 | [], h => by simp [ZF0] at h
 | p :: m, h => by
  by_cases e : p.1 = k
  ·have : ZF0 (p :: m) k = some p.2 := by simp [ZF0, List.find?_cons, e]
   rw [this] at h
   cases h
   rw [← e]
   exact List.mem_cons_self
  ·have : ZF0 (p :: m) k = ZF0 m k := by simp [ZF0, List.find?_cons, e]
   rw [this] at h
   exact List.mem_cons_of_mem _ (ZIF h)
theorem ZIp {k : Str} {v : α} : ∀ {m : List (Str × α)}, (m.map (·.1)).Nodup → (k, v) ∈ m → ZF0 m k = some v
 | [], _, h => by cases h
 | p :: m, n, h => by
  simp only [List.map_cons, List.nodup_cons] at n
  by_cases e : p.1 = k
  ·have : ZF0 (p :: m) k = some p.2 := by simp [ZF0, List.find?_cons, e]
   rw [this]
   rcases List.mem_cons.mp h with h | h
   ·rw [← h]
   ·exact absurd (List.mem_map.mpr ⟨_, h, rfl⟩) (by rw [← e] at *; exact n.1)
  ·have : ZF0 (p :: m) k = ZF0 m k := by simp [ZF0, List.find?_cons, e]
   rw [this]
   rcases List.mem_cons.mp h with h | h
   ·exact absurd (by rw [← h]) e
   ·exact ZIp n.2 h
end
section
variable {X : Cx} {σ : St} {H : Hp} {Q : VK} {R : Hp → Prop} {RI : It → Hp → Prop} {p d : Addr} {m : List (Str × V)} {k : Str} {v : V} {te : TE}
theorem ZLl (h1 : H p = some (.dK (dkS m))) (h2 : ZF0 m k = some v) (h : Q v H) : ZQO (.ref p) (.str k) H Q :=
 ⟨p, v, rfl, by
  have := ZHC.k (k := Sum.inr k) h1
  rw [ZMh, h2] at this
  exact this, h⟩
theorem ZT1 (h1 : H p = some (.dK (dkS m))) (hz : m.length < sizeLine) (h : ∀ H2, H2 p = some (.dK (dkS (ZHl m k v))) → Kp p H H2 → R H2) : ZNi v (.ref p) (.str k) H R :=
 ⟨p, _, rfl, ZJQ.k (k := Sum.inr k) h1 (by simpa [dkS] using hz), by
  rw [ZV9]
  exact h _ ZFf Kp.upd⟩
theorem ZT2 (h : ∀ p H2, H p = none → H2 p = some (.dK (dkS [])) → ZFY H H2 → Q (.ref p) H2) : ZNj H Q := ZPg h
theorem ZQj (h1 : H p = some (.dK (dkS m))) (q : Q (.bl (!(ZF0 m k).isSome)) H) : ZOi (.str k) (.ref p) H Q := ⟨p, _, rfl, ZHC.k (k := Sum.inr k) h1, by rw [ZMh]; exact q⟩
theorem ZQk (h1 : H p = some (.dK (dkS m))) (hz : m.length < 64) (h : ∀ l H2 (ss : List Str), H l = none → H2 l = some (.lst (ss.map V.str)) → ss.Perm (m.map (·.1)) → ss.Pairwise leS → ZFY H H2 → Q (.ref l) H2) : ZNE [.ref p] H Q :=
 ⟨p, _, m.map (·.1), rfl, .inl h1, by simp [dkS], by simpa [dkS] using hz, fun l ss hl hp hs => h l _ ss hl ZFf hp hs (ZFY.new hl)⟩
theorem ZRv (h : te σ H fun v H1 => ZOk X RI v H1) : ZRs X te σ H RI := h
theorem ZYB (h1 : H d = some (.dK (dkS m))) (h : ∀ o H2, ZK9 X d → H2 d = some (.frz o (.dK (dkS m))) → Kp d H H2 → RI (ZTx d o (dkS m)) H2) : ZOk X RI (.ref d) H := ⟨d, _, rfl, h1, fun o nf => h o _ nf ZFf Kp.upd⟩
theorem ZT3 {v : V} {o : Obj} (nf : ZK9 X d) (hd : H d = some (.frz o (.dK (dkS m)))) (q : ∀ H2, H2 d = some (.dK (dkS m)) → Kp d H H2 → Q v H2) : ZQg X v H Q := ⟨d, o, _, nf, hd, True.intro, q _ ZFf Kp.upd⟩
end
theorem ZKb {K : W.Frag} {H : Hp} : ∀ ns : List Str, ZHW K H (ns.map V.str) (ns.map PyData.str)
 | [] => .nil
 | n :: ns => .cons (.str n) (ZKb ns)
theorem ZOo : ∀ l m : List Str, PyData.eqvAll (l.map PyData.str) (m.map PyData.str) = decide (l = m)
 | [], [] => rfl
 | [], q :: m => by simp [PyData.eqvAll]
 | p :: l, [] => by simp [PyData.eqvAll]
 | p :: l, q :: m => by
  show (PyData.eqv (PyData.str p) (PyData.str q) && PyData.eqvAll (l.map PyData.str) (m.map PyData.str)) = _
  rw [ZOo l m, show PyData.eqv (PyData.str p) (PyData.str q) = (p == q) from rfl]
  by_cases h1 : p = q <;> by_cases h2 : l = m <;> simp [h1, h2]
theorem ZMK : ∀ l : List Str, PyData.depthAll (l.map PyData.str) ≤ 50
 | [] => by decide
 | p :: l => by
  have ih := ZMK l
  show PyData.depthAll (PyData.str p :: l.map PyData.str) ≤ 50
  simp only [PyData.depthAll, PyData.depth]
  omega
theorem ZPN (l : List Str) : (PyData.list (l.map PyData.str)).depth ≤ 60 := by
 have := ZMK l
 simp only [PyData.depth]
 omega
theorem ZOp (l : List Str) (g : ∀ x ∈ l, PyData.canLay0 (.str x) = true) : (PyData.list (l.map PyData.str)).canLay0 = true := by
 have h : ∀ l : List Str, (∀ x ∈ l, PyData.canLay0 (.str x) = true) → PyData.canLayAll0 (l.map PyData.str) = true := fun l => by
  induction l with
  | nil => exact fun _ => rfl
  | cons p l ih =>
   intro g
   show (PyData.canLay0 (.str p) && PyData.canLayAll0 (l.map PyData.str)) = true
   rw [g p List.mem_cons_self, ih fun x hx => g x (List.mem_cons_of_mem _ hx)]
   rfl
 exact h l g
section
variable {K : W.Frag} {H : Hp} {Q : VK} {a b : Addr} {l m : List Str}
theorem ZWA (h1 : SqL K H a (l.map V.str)) (h2 : SqL K H b (m.map V.str)) (g1 : ∀ x ∈ l, PyData.canLay0 (.str x) = true) (g2 : ∀ x ∈ m, PyData.canLay0 (.str x) = true) (h : Q (.bl (!decide (l = m))) H) : ZTF K (.ref a) (.ref b) H Q := by
 refine ZXk (.lst h1 (ZKb l)) (.lst h2 (ZKb m)) (ZOp l g1) (ZOp m g2) (ZPN l) ?_
 rw [show PyData.eqv (.list (l.map PyData.str)) (.list (m.map PyData.str)) = decide (l = m) from ZOo l m]
 exact h
end
theorem Fun.okNU {P : Program} {w : World} {K : W.Frag} {mg : Str → Option Value} {base : Heap} {x qual : Str} {st : Stmt} {f : Addr} {fd : FuncData} {N ps : List Str} {k : Nat} {sp : Sp} (F : Fun K x qual st f fd) (S : ZFa N ps (ZFW st)) (len : ∀ vs H Q E, sp vs H Q E → vs.length = ps.length)
  (hbody : ∀ (cdv : Value) (A : Around) (outer : List Env) (s : Shared) (H : Hp) (vs : List V) (Q : VK) (E : XK), (A.deeper (envOfC qual (ZFW st) s.heap.objs.size f cdv)).units + 64 < cLine → sp vs H Q E →
   ∃ t, PSs (cxN P w K mg base N qual (ZFW st) f cdv A outer s H) (ZGE st) t ∧ t { nx := fun _ H' => Q .non H', rt := Q } (start N vs) H) : ZQc P w K mg base (k + 1) f fd ps sp := by
 obtain ⟨oc, od, kV, doc, pm, an, cdv, ct, osl, rfl, lk, hcd⟩ := F.ex
 refine ⟨len, fun A outer s H args us vs Q E hr e0 hb r hsp => ?_⟩
 have hl := len _ _ _ _ hsp
 have KX : K.In s.heap := e0.mod.kin.keeps fun b o e => (e0.bs b o e).1
 have lim : s.heap.NoLimit := e0.mod.nolimit.keeps fun b o e => (e0.bs b o e).1
 have hkind : ∀ y ∈ ps.zip us, (ZFW st).names.lookup y.1 = some .local ∨ ((ZFW st).names.lookup y.1 = some .cell ∧ ((cellsFrom (s.heap.objs.size + 1) (ZFW st).names []).lookup y.1).isSome = true) := fun ⟨n, v⟩ hy => by
  rcases S.par n (List.of_mem_zip hy).1 with q | q
  ·exact .inl q
  ·exact .inr ⟨q, PySem.W.cellsFrom_some _ _ _ (.inl q)⟩
 refine codeAny_call_function (show A.depth < recursionLimit from hr.depth) (KX _ _ lk) rfl S.co S.gen rfl (PySem.W.codeRec_of KX hcd) (hb _ _ _ _ ?_)
 refine wpAny_newFunctionEnv_cells S.kind hkind fun env he s1 x => ?_
 subst he
 refine ⟨lim.keeps x.toInCall.keep, codeAny_func ?_⟩
 obtain ⟨t, ht, hq⟩ := hbody cdv A outer s H vs Q E (hr.deeper (envOfC qual (ZFW st) s.heap.objs.size f cdv)).units hsp
 have e0' : ZIY P w K mg base { A with handled := none } outer s H := ⟨e0.frames, e0.mod, e0.bs, e0.bsz, e0.funs, e0.frf, e0.hok, e0.bare⟩
 have I0 : Inv (ZJO CX0 P w K mg base N qual (ZFW st) f cdv { A with handled := none } outer s H E0) [] (start N vs) H s1 := ZM2 S rfl e0' hl r x
 have I : Inv (cxN P w K mg base N qual (ZFW st) f cdv A outer s H) [] (start N vs) H s1 := I0.around (A' := A.deeper (envOfC qual (ZFW st) s.heap.objs.size f cdv)) (xe' := fun _ _ => False) rfl
 refine wpAny_mono (ht [] s1 (start N vs) H _ I hq) (fun fl s' hs => ?_) fun e s' hs => False.elim hs
 have fin : ∀ {σ' : St} {H' : Hp} {v : V} {u : Value}, Inv (cxN P w K mg base N qual (ZFW st) f cdv A outer s H) [] σ' H' s' → ZFl v u → Q v H' → CE outer P w H s Q u s' :=
  fun {σ' H' v u} J rv q => ⟨v, H', J.os, J.bare, J.base, J.hok, rv, q⟩
 cases fl with
 | ret u =>
  obtain ⟨v, σ', H', J, rv, q⟩ := hs
  exact fin J rv q
 | next =>
  obtain ⟨σ', H', J, q⟩ := hs
  exact fin (v := V.non) (u := Value.none) J rfl q
 | brk =>
  obtain ⟨_, _, _, q⟩ := hs
  exact False.elim q
 | cont =>
  obtain ⟨_, _, _, q⟩ := hs
  exact False.elim q
end L2
namespace My
open PySem L2
theorem ZFv {N P : List Str} {sc : Scope} (a : sc.kind = .function := by rfl) (b : sc.isCoroutine = false := by rfl) (c : sc.isGenerator = false := by rfl) (d : N.Nodup := by decide +kernel) (e : N.take P.length = P := by rfl) (f : ∀ x ∈ P, sc.names.lookup x = some .local ∨ sc.names.lookup x = some .cell := by decide +kernel) (g : ∀ y ∈ sc.names, y.2 ≠ .free := by decide +kernel) : ZFa N P sc := ⟨a, b, c, d, e, f, g⟩
theorem qsS {X : Cx} {x : Str} {e : Expr} {te : TE} {pos pos' : Pos} {i : Nat} (hN : X.N.Nodup) (he : QE X e te) (hi : X.N[i]? = some x := by rfl) (hx : Loc X.env.scope x := by first | exact Or.inl rfl | exact Or.inr rfl) (hs : ZHR e = false := by rfl) (hf : X.fn x = true ∨ X.env.scope.names.lookup x = some .local := by first | exact .inl rfl | exact .inr rfl | assumption) : QS X (.Assign [.Name x pos'] e pos) (ZJs te (ZIK i)) := ZVb hN hi hx he hs hf
theorem qgN {X : Cx} {x : Str} {pos : Pos} {i : Nat} (hN : X.N.Nodup) (hi : X.N[i]? = some x := by rfl) (hx : Loc X.env.scope x := by first | exact Or.inl rfl | exact Or.inr rfl) (hf : X.fn x = true ∨ X.env.scope.names.lookup x = some .local := by first | exact .inl rfl | exact .inr rfl | assumption) : QG X (.Name x pos) (ZIK i) := ZGg hN hi hx hf
theorem qcS {X : Cx} {e : Expr} {es : List Expr} {t : TA} {pos p : Pos} {x : Str} {k : Nat} {f : Addr} {fd : FuncData} {ps : List Str} {sp : Sp} (F : ZFc X.prog X.w X.K X.mg X.base CX0 k f fd ps sp) (hr : Room k X.A) (hm : X.mg x = some (.ref f)) (hk : W.keepIn X.K (.ref f) = true) (hb : ZFZ X.K fd ps []) (ha : QA X (e :: es) t) (hg : Gl X x := by rfl) (hns : ZGG (e :: es) = true := by rfl) (hdb : (x == ("__debug__" : Str)) = false := by decide) : QE X (.Call (.Name x p) (e :: es) [] pos) (ZK0 sp [] E0 t) := ZHV F hr hg hm hk hb .nil ZGm ha hns hdb
theorem _root_.L2.Room.m {j k : Nat} {A : Around} (r : Room k A) (h : j ≤ k := by decide) : Room j A := r.mono h
local macro_rules | `(tactic| walk_at "l") => `(tactic| (intro vs H Q E h; (repeat (obtain ⟨_, h⟩ := h)); all_goals (subst_vars; rfl)))
local macro_rules | `(tactic| walk_at "w") => `(tactic| repeat walk_at "rd")
local macro_rules | `(tactic| walk_at "s") => `(tactic| simp only [L2.start, List.length_cons, List.length_nil, List.map_cons, List.map_nil, Nat.reduceAdd, Nat.reduceSub, List.replicate_succ, List.replicate_zero, List.cons_append, List.nil_append])
local macro_rules | `(tactic| walk_at "o") => `(tactic| first | exact Or.inl rfl | exact Or.inr rfl)
def top (i : Nat) : Stmt := PySem.Challenge.pw_fourpoints_k85_boards_refuse.main.body.getD i (.Pass ⟨0, 0, 0, 0⟩)
abbrev ZPs : Stmt := top 0
abbrev ZJ5 : Stmt := top 12
abbrev ZIj : Stmt := top 14
abbrev ZJG : Stmt := top 15
abbrev ZJ6 : Stmt := top 17
abbrev ZHz : Stmt := top 18
abbrev ZJT : Stmt := top 20
abbrev ZKc : Stmt := top 21
abbrev ZLm : Stmt := top 22
abbrev ZKd : Stmt := top 23
abbrev ZJH : Stmt := top 25
abbrev ZKe : Stmt := top 26
abbrev ZIZ : Stmt := top 27
abbrev ZIk : Stmt := top 28
abbrev ZLn : Stmt := top 29
abbrev ZLo : Stmt := top 30
abbrev ZHj : Stmt := top 31
abbrev ZIN : Stmt := top 32
abbrev ZKf : Stmt := top 33
abbrev ZKg : Stmt := top 34
abbrev ZJU : Stmt := top 38
abbrev ZH0 : Stmt := top 39
abbrev ZI1 : Stmt := top 40
abbrev ZIG : Stmt := top 41
abbrev ZJV : Stmt := top 42
abbrev ZKh : Stmt := top 43
abbrev ZGK : Stmt := ZF3 (top 44) 0
abbrev ZJ7 : Stmt := ZF3 (top 44) 1
abbrev ZJW : Stmt := ZF3 (top 44) 2
abbrev ZI2 : Stmt := ZF3 (top 44) 3
abbrev ZJX : Stmt := ZF3 (top 44) 4
abbrev ZH1 : Stmt := ZF3 (top 44) 5
abbrev ZLP : Stmt := ZF3 (top 44) 6
abbrev ZGI : Stmt := ZF3 (top 46) 0
abbrev ZJY : Stmt := ZF3 (top 46) 1
abbrev ZKi : Stmt := ZF3 (top 46) 2
abbrev ZJl : Stmt := ZF3 (top 46) 3
abbrev ZH2 : Stmt := ZF3 (top 46) 4
abbrev ZJ8 : Stmt := ZF3 (top 46) 5
abbrev ZIa : Stmt := ZF3 (top 46) 6
abbrev ZKj : Stmt := ZF3 (top 46) 7
abbrev ZKG : Stmt := ZF3 (top 46) 8
abbrev ZKk : Stmt := ZF3 (top 46) 9
abbrev ZIb : Stmt := ZF3 (top 46) 10
abbrev ZKl : Stmt := ZF3 (top 46) 11
abbrev ZKH : Stmt := ZF3 (top 46) 12
abbrev ZKm : Stmt := ZF3 (top 46) 13
abbrev ZJI : Stmt := top 50
abbrev ZHm : Stmt := ZF3 (top 51) 0
abbrev ZIc : Stmt := ZF3 (top 51) 1
abbrev ZId : Stmt := ZF3 (top 51) 2
abbrev ZHT : Stmt := ZF3 (top 51) 3
abbrev ZH3 : Stmt := ZF3 (top 51) 4
abbrev ZKn : Stmt := top 52
abbrev ZH4 : Stmt := top 53
abbrev ZLp : Stmt := top 55
abbrev ZKo : Stmt := top 56
abbrev ZLq : Stmt := top 57
abbrev ZLr : Stmt := top 58
abbrev ZKp : Stmt := top 59
abbrev ZLs : Stmt := top 60
abbrev ZJ9 : Stmt := top 61
abbrev ZLt : Stmt := top 62
abbrev ZKq : Stmt := top 63
abbrev ZIe : Stmt := top 64
abbrev ZMi : Stmt := top 65
abbrev ZHk : Stmt := top 66
set_option genInjectivity false in
set_option genSizeOf false in
set_option genSizeOfSpec false in
structure Ad where
 ZDe : Addr
 ZDd : FuncData
 ZAw : Addr
 ZAo : FuncData
 ZAs : Addr
 ZAx : FuncData
 ZBK : Addr
 ZBx : FuncData
 Yw : Addr
 Yq : FuncData
 ZAE : Addr
 J5 : FuncData
 ZAW : Addr
 ZAc : FuncData
 ZBn : Addr
 ZBk : FuncData
 ZCQ : Addr
 ZCM : FuncData
 ZBr : Addr
 ZBZ : FuncData
 ZBc : Addr
 ZBL : FuncData
 ZBs : Addr
 ZBb : FuncData
 Jg : Addr
 Jc : FuncData
 ZA0 : Addr
 ZAu : FuncData
 ZCE : Addr
 ZCD : FuncData
 ZB7 : Addr
 ZB3 : FuncData
 JS : Addr
 Jb : FuncData
 ZAR : Addr
 ZAS : FuncData
 ZBm : Addr
 ZBX : FuncData
 ZBD : Addr
 ZBv : FuncData
 ZAb : Addr
 ZAa : FuncData
 Z9 : Addr
 Z8 : FuncData
 J9 : Addr
 Jz : FuncData
 YM : Addr
 YK : FuncData
 ZAe : Addr
 ZAU : FuncData
 ZBH : Addr
 ZBu : FuncData
 Yn : Addr
 Za : FuncData
 ZAn : Addr
 ZAr : FuncData
 ZAQ : Addr
 ZAT : FuncData
 ZAB : Addr
 ZAG : FuncData
 ZAZ : Addr
 ZAY : FuncData
 ZAD : Addr
 ZAH : FuncData
 ZB2 : Addr
 ZBz : FuncData
 Ya : Addr
 ZZ : FuncData
 ZAX : Addr
 ZAd : FuncData
 ZBh : Addr
 ZBR : FuncData
 ZAf : Addr
 ZAh : FuncData
 Yy : Addr
 Yv : FuncData
 ZAm : Addr
 ZAp : FuncData
 JV : Addr
 Ja : FuncData
 ZBG : Addr
 ZBE : FuncData
 ZBA : Addr
 ZA5 : FuncData
 ZBo : Addr
 ZBY : FuncData
 JU : Addr
 JT : FuncData
 ZBd : Addr
 ZBO : FuncData
 ZBB : Addr
 ZA1 : FuncData
 ZBg : Addr
 ZBl : FuncData
 ZBT : Addr
 ZBF : FuncData
 YZ : Addr
 YY : FuncData
 JY : Addr
 JX : FuncData
 Jd : Addr
 JR : FuncData
 Zc : Addr
 Zf : FuncData
 YB : Addr
 YH : FuncData
 Yk : Addr
 Ye : FuncData
 Ze : Addr
 Zd : FuncData
 ZB5 : Addr
 ZCA : FuncData
 ZBP : Addr
 ZBJ : FuncData
 ZCJ : Addr
 ZCK : FuncData
 ZCP : Addr
 ZCF : FuncData
 ZBS : Addr
 ZBV : FuncData
 ZCH : Addr
 ZCN : FuncData
 ZAj : Addr
 ZAk : FuncData
 ZCC : Addr
 ZB6 : FuncData
 ZBp : Addr
 ZBW : FuncData
 JZ : Addr
 Jf : FuncData
 ZCc : Addr
 ZCd : FuncData
 ZDk : Addr
 ZDs : FuncData
 ZJ : Addr
 ZG : Addr
 ZP : Addr
 ZF : Addr
 ZK : Addr
 ZC : Addr
 ZI : Addr
 ZA : Addr
 ZD : Addr
 ZH : Addr
 ZE : Addr
 ZB : Addr
 ZDQ : Tok
 ZDU : Tok
 ZEO : Tok
 ZCf : Tok
structure Txt (K : W.Frag) (mg : Str → Option Value) (a : Ad) : Prop where
 ZFP : Fun K "_wall" "_wall" ZPs a.ZDe a.ZDd
 ZFO : ZFZ K a.ZDd ["k"] []
 ZFN : mg "_wall" = some (.ref a.ZDe)
 YJ : Fun K "is_whole" "is_whole" ZJ5 a.ZAw a.ZAo
 Yp : ZFZ K a.ZAo ["thing"] []
 Yo : mg "is_whole" = some (.ref a.ZAw)
 ZAz : Fun K "curve_of" "curve_of" ZIj a.ZAs a.ZAx
 ZCb : ZFZ K a.ZAx ["samples"] []
 ZCW : mg "curve_of" = some (.ref a.ZAs)
 ZBN : Fun K "part_of" "part_of" ZJG a.ZBK a.ZBx
 ZCt : ZFZ K a.ZBx ["curve", "begin", "end"] []
 ZCn : mg "part_of" = some (.ref a.ZBK)
 YL : Fun K "times_of" "times_of" ZJ6 a.Yw a.Yq
 Jw : ZFZ K a.Yq ["window", "k"] []
 Jy : mg "times_of" = some (.ref a.Yw)
 ZAI : Fun K "columns_of" "columns_of" ZHz a.ZAE a.J5
 ZBj : ZFZ K a.J5 ["window"] []
 ZBC : mg "columns_of" = some (.ref a.ZAE)
 YW : Fun K "height_of" "height_of" ZJT a.ZAW a.ZAc
 Zz : ZFZ K a.ZAc ["sample"] []
 Zx : mg "height_of" = some (.ref a.ZAW)
 ZCm : Fun K "four_of" "four_of" ZKc a.ZBn a.ZBk
 ZEA : ZFZ K a.ZBk ["curve"] []
 ZD1 : mg "four_of" = some (.ref a.ZBn)
 ZB8 : Fun K "joined" "joined" ZLm a.ZCQ a.ZCM
 ZC7 : ZFZ K a.ZCM ["one", "other"] []
 ZDI : mg "joined" = some (.ref a.ZCQ)
 ZBq : Fun K "kept_of" "kept_of" ZKd a.ZBr a.ZBZ
 ZCs : ZFZ K a.ZBZ ["fours"] []
 ZCp : mg "kept_of" = some (.ref a.ZBr)
 ZCh : Fun K "dots_of" "dots_of" ZJH a.ZBc a.ZBL
 ZD9 : ZFZ K a.ZBL ["curve", "window", "heights"] []
 ZEH : mg "dots_of" = some (.ref a.ZBc)
 ZCi : Fun K "dots_by" "dots_by" ZKe a.ZBs a.ZBb
 ZEC : ZFZ K a.ZBb ["fours", "window", "heights"] []
 ZEK : mg "dots_by" = some (.ref a.ZBs)
 ZA6 : Fun K "column_dots" "column_dots" ZIZ a.Jg a.Jc
 ZCz : ZFZ K a.Jc ["samples", "times", "heights"] []
 ZC3 : mg "column_dots" = some (.ref a.Jg)
 ZCV : Fun K "rows_met" "rows_met" ZIk a.ZA0 a.ZAu
 ZDy : ZFZ K a.ZAu ["samples", "times", "heights"] []
 ZDj : mg "rows_met" = some (.ref a.ZA0)
 ZCB : Fun K "row_at" "row_at" ZLn a.ZCE a.ZCD
 ZDF : ZFZ K a.ZCD ["one", "other", "t", "heights"] []
 ZC8 : mg "row_at" = some (.ref a.ZCE)
 ZB4 : Fun K "row_of" "row_of" ZLo a.ZB7 a.ZB3
 ZC6 : ZFZ K a.ZB3 ["height", "parts", "heights"] []
 ZDE : mg "row_of" = some (.ref a.ZB7)
 ZA7 : Fun K "layers_text" "layers_text" ZHj a.JS a.Jb
 ZCx : ZFZ K a.Jb ["layers", "many", "rows"] []
 ZC2 : mg "layers_text" = some (.ref a.JS)
 ZB0 : Fun K "line_text" "line_text" ZIN a.ZAR a.ZAS
 ZDR : ZFZ K a.ZAS ["layers", "many", "row"] []
 ZDb : mg "line_text" = some (.ref a.ZAR)
 ZCq : Fun K "sign_at" "sign_at" ZKf a.ZBm a.ZBX
 ZD8 : ZFZ K a.ZBX ["layers", "k", "row"] []
 ZEG : mg "sign_at" = some (.ref a.ZBm)
 ZCk : Fun K "has_dot" "has_dot" ZKg a.ZBD a.ZBv
 ZEM : ZFZ K a.ZBv ["pair", "row"] []
 ZD6 : mg "has_dot" = some (.ref a.ZBD)
 Zy : Fun K "is_border" "is_border" ZJU a.ZAb a.ZAa
 YV : ZFZ K a.ZAa ["thing"] []
 YX : mg "is_border" = some (.ref a.ZAb)
 Zb : Fun K "check_borders" "check_borders" ZH0 a.Z9 a.Z8
 Yr : ZFZ K a.Z8 ["begin", "end"] []
 Yl : mg "check_borders" = some (.ref a.Z9)
 J6 : Fun K "check_time" "check_time" ZI1 a.J9 a.Jz
 ZBI : ZFZ K a.Jz ["t"] []
 ZBQ : mg "check_time" = some (.ref a.J9)
 ZT : Fun K "check_window" "check_window" ZIG a.YM a.YK
 Zn : ZFZ K a.YK ["window"] []
 Zq : mg "check_window" = some (.ref a.YM)
 ZB1 : Fun K "stretches" "stretches" ZJV a.ZAe a.ZAU
 ZDZ : ZFZ K a.ZAU ["begin", "end"] []
 ZDO : mg "stretches" = some (.ref a.ZAe)
 ZCr : Fun K "longest" "longest" ZKh a.ZBH a.ZBu
 ZEP : ZFZ K a.ZBu ["first", "end"] []
 ZD0 : mg "longest" = some (.ref a.ZBH)
 ZCY : ZOP K "__init__" "Tree.__init__" ZGK a.Yn a.Za
 ZCT : ZFZ K a.Za ["self", "curve"] []
 ZEd : ZFZ K a.Za ["self", "curve"] [Value.none]
 ZEU : ZPp K a.Za ["self", "curve"] "curve"
 ZDt : Fun K "put" "Tree.put" ZJ7 a.ZAn a.ZAr
 ZCU : ZFZ K a.ZAr ["self", "t", "h"] []
 ZCX : ZGa K a.ZJ "put" a.ZAn
 ZDM : Fun K "take" "Tree.take" ZJW a.ZAQ a.ZAT
 ZDY : ZFZ K a.ZAT ["self", "t"] []
 ZDS : ZGa K a.ZJ "take" a.ZAQ
 ZDK : Fun K "renew" "Tree.renew" ZI2 a.ZAB a.ZAG
 ZBw : ZFZ K a.ZAG ["self", "t", "four"] []
 ZBt : ZGa K a.ZJ "renew" a.ZAB
 ZDW : Fun K "four" "Tree.four" ZJX a.ZAZ a.ZAY
 ZDP : ZFZ K a.ZAY ["self", "begin", "end"] []
 ZDX : ZGa K a.ZJ "four" a.ZAZ
 ZDA : Fun K "fours" "Tree.fours" ZH1 a.ZAD a.ZAH
 ZDG : ZFZ K a.ZAH ["self", "window"] []
 ZDJ : ZGa K a.ZJ "fours" a.ZAD
 ZE9 : Fun K "told" "Tree.told" ZLP a.ZB2 a.ZBz
 ZFB : ZFZ K a.ZBz ["self"] []
 ZFA : ZGa K a.ZJ "told" a.ZB2
 ZCO : ZOP K "__init__" "Store.__init__" ZGI a.Ya a.ZZ
 ZEa : ZFZ K a.ZZ ["self", "curve"] []
 ZBy : ZFZ K a.ZZ ["self", "curve"] [Value.none]
 ZEQ : ZPp K a.ZZ ["self", "curve"] "curve"
 ZDV : Fun K "put" "Store.put" ZJY a.ZAX a.ZAd
 ZDa : ZFZ K a.ZAd ["self", "t", "h"] []
 ZDN : ZGa K a.ZG "put" a.ZAX
 ZE2 : Fun K "take" "Store.take" ZKi a.ZBh a.ZBR
 ZEy : ZFZ K a.ZBR ["self", "t"] []
 ZEx : ZGa K a.ZG "take" a.ZBh
 ZEj : Fun K "height" "Store.height" ZJl a.ZAf a.ZAh
 ZEk : ZFZ K a.ZAh ["self", "t"] []
 ZEg : ZGa K a.ZG "height" a.ZAf
 ZDi : Fun K "check_sample" "Store.check_sample" ZH2 a.Yy a.Yv
 ZDg : ZFZ K a.Yv ["self", "t"] []
 ZDp : ZGa K a.ZG "check_sample" a.Yy
 ZDf : Fun K "do" "Store.do" ZJ8 a.ZAm a.ZAp
 ZDq : ZFZ K a.ZAp ["self", "t", "h"] []
 ZDl : ZGa K a.ZG "do" a.ZAm
 ZC4 : Fun K "bring" "Store.bring" ZIa a.JV a.Ja
 ZCv : ZFZ K a.Ja ["self", "t", "h"] []
 ZCy : ZGa K a.ZG "bring" a.JV
 ZE3 : Fun K "undo" "Store.undo" ZKj a.ZBG a.ZBE
 ZEv : ZFZ K a.ZBE ["self"] []
 ZEz : ZGa K a.ZG "undo" a.ZBG
 ZEq : Fun K "times" "Store.times" ZKG a.ZBA a.ZA5
 ZEs : ZFZ K a.ZA5 ["self"] []
 ZEr : ZGa K a.ZG "times" a.ZBA
 ZE0 : Fun K "four" "Store.four" ZKk a.ZBo a.ZBY
 ZE6 : ZFZ K a.ZBY ["self", "begin", "end"] []
 ZE4 : ZGa K a.ZG "four" a.ZBo
 ZC5 : Fun K "fours" "Store.fours" ZIb a.JU a.JT
 ZA8 : ZFZ K a.JT ["self", "window"] []
 ZA9 : ZGa K a.ZG "fours" a.JU
 ZEw : Fun K "told" "Store.told" ZKl a.ZBd a.ZBO
 ZE5 : ZFZ K a.ZBO ["self"] []
 ZE1 : ZGa K a.ZG "told" a.ZBd
 ZEn : Fun K "watch" "Store.watch" ZKH a.ZBB a.ZA1
 ZEo : ZFZ K a.ZA1 ["self", "window"] []
 ZEp : ZGa K a.ZG "watch" a.ZBB
 ZEt : Fun K "news" "Store.news" ZKm a.ZBg a.ZBl
 ZEu : ZFZ K a.ZBl ["self", "number"] []
 ZE7 : ZGa K a.ZG "news" a.ZBg
 ZCo : Fun K "is_name" "is_name" ZJI a.ZBT a.ZBF
 ZEJ : ZFZ K a.ZBF ["thing"] []
 ZD7 : mg "is_name" = some (.ref a.ZBT)
 ZCI : Fun K "__init__" "Board.__init__" ZHm a.YZ a.YY
 ZCL : ZFZ K a.YY ["self"] []
 ZC0 : Fun K "store" "Board.store" ZIc a.JY a.JX
 ZCw : ZFZ K a.JX ["self", "name"] []
 ZCu : ZGa K a.ZP "store" a.JY
 ZC1 : Fun K "names" "Board.names" ZId a.Jd a.JR
 Je : ZFZ K a.JR ["self"] []
 JW : ZGa K a.ZP "names" a.Jd
 ZAP : Fun K "picture" "Board.picture" ZHT a.Zc a.Zf
 ZCR : ZFZ K a.Zf ["self", "window", "heights"] []
 ZCS : ZGa K a.ZP "picture" a.Zc
 ZBe : Fun K "kept" "Board.kept" ZH3 a.YB a.YH
 ZDD : ZFZ K a.YH ["self", "window"] []
 ZDC : ZGa K a.ZP "kept" a.YB
 ZAO : Fun K "parting" "parting" ZKn a.Yk a.Ye
 ZED : ZFZ K a.Ye ["window", "k", "part"] []
 ZD3 : mg "parting" = some (.ref a.Yk)
 Zg : Fun K "check_parting" "check_parting" ZH4 a.Ze a.Zd
 Ym : ZFZ K a.Zd ["window", "k", "part"] []
 Yu : mg "check_parting" = some (.ref a.Ze)
 ZDH : Fun K "_law_cell" "_law_cell" ZLp a.ZB5 a.ZCA
 ZEe : ZFZ K a.ZCA ["_law_script", "_law_k"] []
 ZES : mg "_law_cell" = some (.ref a.ZB5)
 ZCj : Fun K "_law_purse" "_law_purse" ZKo a.ZBP a.ZBJ
 ZEL : ZFZ K a.ZBJ ["_law_cell_here", "_law_k"] []
 ZEI : mg "_law_purse" = some (.ref a.ZBP)
 ZL : Fun K "_law_draw" "_law_draw" ZLq a.ZCJ a.ZCK
 ZN : ZFZ K a.ZCK ["_law_purse_here", "_law_many"] []
 ZM : mg "_law_draw" = some (.ref a.ZCJ)
 ZAq : Fun K "_law_word" "_law_word" ZLr a.ZCP a.ZCF
 ZB9 : ZFZ K a.ZCF ["_law_e"] []
 ZCG : mg "_law_word" = some (.ref a.ZCP)
 ZCg : Fun K "_law_drawn" "_law_drawn" ZKp a.ZBS a.ZBV
 ZD5 : ZFZ K a.ZBV ["_law_board_here", "_law_window"] []
 ZDz : mg "_law_drawn" = some (.ref a.ZBS)
 ZDB : Fun K "_law_kept" "_law_kept" ZLs a.ZCH a.ZCN
 ZET : ZFZ K a.ZCN ["_law_board_here", "_law_window"] []
 ZEV : mg "_law_kept" = some (.ref a.ZCH)
 Jx : Fun K "_law_parted" "_law_parted" ZJ9 a.ZAj a.ZAk
 ZAi : ZFZ K a.ZAk ["_law_window", "_law_k", "_law_part"] []
 ZAv : mg "_law_parted" = some (.ref a.ZAj)
 ZDL : Fun K "_law_edge" "_law_edge" ZLt a.ZCC a.ZB6
 ZEZ : ZFZ K a.ZB6 ["_law_purse_here"] []
 ZEY : mg "_law_edge" = some (.ref a.ZCC)
 ZCl : Fun K "_law_board" "_law_board" ZKq a.ZBp a.ZBW
 ZEB : ZFZ K a.ZBW ["_law_purse_here"] []
 ZEF : mg "_law_board" = some (.ref a.ZBp)
 Jh : Fun K "_law_no_number" "_law_no_number" ZIe a.JZ a.Jf
 ZA3 : ZFZ K a.Jf ["_law_purse_here", "_law_many"] []
 ZA2 : mg "_law_no_number" = some (.ref a.JZ)
 ZDc : Fun K "_law_due" "_law_due" ZMi a.ZCc a.ZCd
 ZEf : ZFZ K a.ZCd ["_law_window", "_law_k", "_law_part"] []
 ZEl : mg "_law_due" = some (.ref a.ZCc)
 ZFD : Fun K "law" "law" ZHk a.ZDk a.ZDs
 ZFR : ZFZ K a.ZDs ["_law_script"] []
 ZFQ : mg "law" = some (.ref a.ZDk)
 ZQ : Cls K a.ZJ
 ZE8 : mg "Tree" = some (.ref a.ZJ)
 ZEi : Mk K a.ZJ a.Yn
 YD : ZGU K a.ZJ "looks"
 Zm : ZGU K a.ZJ "samples"
 Zh : ZGU K a.ZJ "kept_fours"
 ZY : Cls K a.ZG
 ZEh : mg "Store" = some (.ref a.ZG)
 ZEc : Mk K a.ZG a.Ya
 ZBf : ZGU K a.ZG "tree"
 ZA4 : ZGU K a.ZG "deeds"
 ZBa : ZGU K a.ZG "done"
 ZAL : ZGU K a.ZG "watches"
 Yh : Cls K a.ZP
 ZEm : mg "Board" = some (.ref a.ZP)
 ZEb : Mk K a.ZP a.YZ
 ZAg : ZGU K a.ZP "stores"
 YU : ZHN K a.ZF
 ZER : ZG7 K a.ZF
 YS : mg "FourPointsError" = some (.ref a.ZF)
 ZFM : ZHN K a.ZK
 ZFJ : ZG7 K a.ZK
 ZEW : mg "NoText" = some (.ref a.ZK)
 ZCZ : ZHN K a.ZC
 ZDw : ZG7 K a.ZC
 ZCa : mg "NoColumn" = some (.ref a.ZC)
 ZFG : ZHN K a.ZI
 ZFI : ZG7 K a.ZI
 ZEE : mg "NotHalf" = some (.ref a.ZI)
 ZAC : ZHN K a.ZA
 ZBi : ZG7 K a.ZA
 ZBU : mg "OutOfTimes" = some (.ref a.ZA)
 ZFC : ZHN K a.ZD
 ZFE : ZG7 K a.ZD
 ZDo : mg "NoSample" = some (.ref a.ZD)
 ZFF : ZHN K a.ZH
 ZFH : ZG7 K a.ZH
 ZD2 : mg "NoWatch" = some (.ref a.ZH)
 ZFL : ZHN K a.ZE
 ZFK : ZG7 K a.ZE
 ZEX : mg "NoName" = some (.ref a.ZE)
 Yx : ZHN K a.ZB
 ZDm : ZG7 K a.ZB
 Ys : mg "NotApart" = some (.ref a.ZB)
 ZW : W.subIn K (.ref a.ZC) (.ref a.ZF) = some true
 Zt : W.kitOne K (.ref a.ZC) (.ref a.ZF) = some true
 Jv : W.subIn K (.ref a.ZC) (.ref a.ZK) = some false
 YT : W.kitOne K (.ref a.ZC) (.ref a.ZK) = some false
 Y3 : W.subIn K (.ref a.ZC) (.ref a.ZC) = some true
 Z3 : W.kitOne K (.ref a.ZC) (.ref a.ZC) = some true
 JK : W.subIn K (.ref a.ZC) (.ref a.ZI) = some false
 YA : W.kitOne K (.ref a.ZC) (.ref a.ZI) = some false
 Yi : W.subIn K (.ref a.ZC) (.ref a.ZA) = some false
 Zk : W.kitOne K (.ref a.ZC) (.ref a.ZA) = some false
 Y1 : W.subIn K (.ref a.ZC) (.ref a.ZD) = some false
 Z4 : W.kitOne K (.ref a.ZC) (.ref a.ZD) = some false
 JM : W.subIn K (.ref a.ZC) (.ref a.ZH) = some false
 YG : W.kitOne K (.ref a.ZC) (.ref a.ZH) = some false
 Jq : W.subIn K (.ref a.ZC) (.ref a.ZE) = some false
 YO : W.kitOne K (.ref a.ZC) (.ref a.ZE) = some false
 JE : W.subIn K (.ref a.ZC) (.ref a.ZB) = some false
 Z2 : W.kitOne K (.ref a.ZC) (.ref a.ZB) = some false
 ZO : W.subIn K (.ref a.ZA) (.ref a.ZF) = some true
 Zi : W.kitOne K (.ref a.ZA) (.ref a.ZF) = some true
 Y2 : W.subIn K (.ref a.ZA) (.ref a.ZK) = some false
 Z7 : W.kitOne K (.ref a.ZA) (.ref a.ZK) = some false
 Yc : W.subIn K (.ref a.ZA) (.ref a.ZC) = some false
 ZU : W.kitOne K (.ref a.ZA) (.ref a.ZC) = some false
 Yt : W.subIn K (.ref a.ZA) (.ref a.ZI) = some false
 Zr : W.kitOne K (.ref a.ZA) (.ref a.ZI) = some false
 YN : W.subIn K (.ref a.ZA) (.ref a.ZA) = some true
 ZS : W.kitOne K (.ref a.ZA) (.ref a.ZA) = some true
 Yj : W.subIn K (.ref a.ZA) (.ref a.ZD) = some false
 Zj : W.kitOne K (.ref a.ZA) (.ref a.ZD) = some false
 Yz : W.subIn K (.ref a.ZA) (.ref a.ZH) = some false
 Zs : W.kitOne K (.ref a.ZA) (.ref a.ZH) = some false
 Y0 : W.subIn K (.ref a.ZA) (.ref a.ZE) = some false
 Z0 : W.kitOne K (.ref a.ZA) (.ref a.ZE) = some false
 Yf : W.subIn K (.ref a.ZA) (.ref a.ZB) = some false
 ZV : W.kitOne K (.ref a.ZA) (.ref a.ZB) = some false
 Zv : W.subIn K (.ref a.ZD) (.ref a.ZF) = some true
 Zw : W.kitOne K (.ref a.ZD) (.ref a.ZF) = some true
 Jm : W.subIn K (.ref a.ZD) (.ref a.ZK) = some false
 Js : W.kitOne K (.ref a.ZD) (.ref a.ZK) = some false
 Y9 : W.subIn K (.ref a.ZD) (.ref a.ZC) = some false
 JF : W.kitOne K (.ref a.ZD) (.ref a.ZC) = some false
 JN : W.subIn K (.ref a.ZD) (.ref a.ZI) = some false
 JO : W.kitOne K (.ref a.ZD) (.ref a.ZI) = some false
 Yg : W.subIn K (.ref a.ZD) (.ref a.ZA) = some false
 Yb : W.kitOne K (.ref a.ZD) (.ref a.ZA) = some false
 Y8 : W.subIn K (.ref a.ZD) (.ref a.ZD) = some true
 Y4 : W.kitOne K (.ref a.ZD) (.ref a.ZD) = some true
 JL : W.subIn K (.ref a.ZD) (.ref a.ZH) = some false
 JQ : W.kitOne K (.ref a.ZD) (.ref a.ZH) = some false
 Jo : W.subIn K (.ref a.ZD) (.ref a.ZE) = some false
 Ju : W.kitOne K (.ref a.ZD) (.ref a.ZE) = some false
 Y6 : W.subIn K (.ref a.ZD) (.ref a.ZB) = some false
 Y5 : W.kitOne K (.ref a.ZD) (.ref a.ZB) = some false
 YI : W.subIn K (.ref a.ZE) (.ref a.ZF) = some true
 YC : W.kitOne K (.ref a.ZE) (.ref a.ZF) = some true
 ZAM : W.subIn K (.ref a.ZE) (.ref a.ZK) = some false
 ZAK : W.kitOne K (.ref a.ZE) (.ref a.ZK) = some false
 Jt : W.subIn K (.ref a.ZE) (.ref a.ZC) = some false
 Jk : W.kitOne K (.ref a.ZE) (.ref a.ZC) = some false
 ZAA : W.subIn K (.ref a.ZE) (.ref a.ZI) = some false
 J8 : W.kitOne K (.ref a.ZE) (.ref a.ZI) = some false
 JC : W.subIn K (.ref a.ZE) (.ref a.ZA) = some false
 JA : W.kitOne K (.ref a.ZE) (.ref a.ZA) = some false
 Jj : W.subIn K (.ref a.ZE) (.ref a.ZD) = some false
 Jl : W.kitOne K (.ref a.ZE) (.ref a.ZD) = some false
 J7 : W.subIn K (.ref a.ZE) (.ref a.ZH) = some false
 ZAF : W.kitOne K (.ref a.ZE) (.ref a.ZH) = some false
 ZAJ : W.subIn K (.ref a.ZE) (.ref a.ZE) = some true
 ZAN : W.kitOne K (.ref a.ZE) (.ref a.ZE) = some true
 Ji : W.subIn K (.ref a.ZE) (.ref a.ZB) = some false
 Jr : W.kitOne K (.ref a.ZE) (.ref a.ZB) = some false
 ZX : W.subIn K (.ref a.ZB) (.ref a.ZF) = some true
 Zu : W.kitOne K (.ref a.ZB) (.ref a.ZF) = some true
 Jn : W.subIn K (.ref a.ZB) (.ref a.ZK) = some false
 YQ : W.kitOne K (.ref a.ZB) (.ref a.ZK) = some false
 JB : W.subIn K (.ref a.ZB) (.ref a.ZC) = some false
 Z6 : W.kitOne K (.ref a.ZB) (.ref a.ZC) = some false
 JJ : W.subIn K (.ref a.ZB) (.ref a.ZI) = some false
 YE : W.kitOne K (.ref a.ZB) (.ref a.ZI) = some false
 Yd : W.subIn K (.ref a.ZB) (.ref a.ZA) = some false
 Zl : W.kitOne K (.ref a.ZB) (.ref a.ZA) = some false
 Y7 : W.subIn K (.ref a.ZB) (.ref a.ZD) = some false
 Z5 : W.kitOne K (.ref a.ZB) (.ref a.ZD) = some false
 JP : W.subIn K (.ref a.ZB) (.ref a.ZH) = some false
 YF : W.kitOne K (.ref a.ZB) (.ref a.ZH) = some false
 Jp : W.subIn K (.ref a.ZB) (.ref a.ZE) = some false
 YR : W.kitOne K (.ref a.ZB) (.ref a.ZE) = some false
 JD : W.subIn K (.ref a.ZB) (.ref a.ZB) = some true
 Z1 : W.kitOne K (.ref a.ZB) (.ref a.ZB) = some true
 ZDT : mg "TOP_LEVEL" = some (.int 40 a.ZDQ)
 ZAV : mg "TIMES_END" = some (.int 1099511627776 a.ZDU)
 ZD4 : mg "LETTERS" = some (.str "abcdefghijklmnopqrstuvwxyz" a.ZEO)
 ZCe : mg "LONGEST_NAME" = some (.int 8 a.ZCf)
 ZBM : mg "ValueError" = none
 ZDn : mg "abs" = none
 ZDv : mg "all" = none
 ZC9 : mg "bool" = none
 ZDu : mg "int" = none
 ZR : mg "isinstance" = none
 JI : mg "len" = none
 ZEN : mg "list" = none
 ZAy : mg "max" = none
 ZAl : mg "min" = none
 JH : mg "range" = none
 ZAt : mg "sorted" = none
 ZDr : mg "str" = none
 ZDh : mg "sum" = none
 JG : mg "tuple" = none
 ZDx : mg "zip" = none
local macro_rules | `(tactic| walk_at "sd") => `(tactic| first
 | (show (0 : Int) < _; omega)
 | decide
 | exact ZY5 (by omega) (by omega)
 | exact ZY6 (by omega) (by omega)
 | exact ZJB.of (k := 250) (by omega) (by omega) (by decide)
 | exact Or.inr ⟨by omega, by omega⟩
 | exact Or.inl ⟨by omega, by omega⟩
 | exact ZNy (by omega) (by omega) (by decide))
local macro_rules | `(tactic| walk_at "hp") => `(tactic| first
 | assumption
 | exact ZFf
 | (rw [ZFg (by assumption)]; assumption)
 | (rw [ZFg (Ne.symm (by assumption))]; assumption)
 | (rw [ZFg (by assumption)]; rw [ZFg (by assumption)]; assumption))
local macro_rules | `(tactic| walk_at "rd") => `(tactic| first
 | with_reducible first | refine ZXH ?_ | refine ZV0 ?_ | refine ZTo ?_ | refine ZRn ?_ | refine ZXy ?_ | refine ZTl ?_ | refine ZTj ?_ | refine ZTk ?_ | refine ZYu ?_ | refine ZTs ?_ | refine ZTO ?_ | refine ZVo ?_ | refine ZVv ?_ | refine ZTa ?_ | refine ZQY ?_ | refine ZTb ?_ | refine ZTc ?_ | refine ZRc ?_ | refine ZRf ?_ | refine ZPI ?_ | refine ZPJ ?_ | refine ZVi ?_ | refine ZVl ?_ | refine ZTP ?_ | refine ZTQ ?_
 | ((with_reducible refine' ZXp ?e ?_); (case e => rfl))
 | with_reducible first | refine ZXI ?_ | refine ZVE ?_ | refine ZVF ?_ | refine ZXJ ?_ | refine ZS8 ?_ | refine ZVG ?_ | refine ZS9 ?_ | refine ZVH ?_ | refine ZXK ?_ | refine ZVI ?_ | refine ZY8 ?_ | refine ZXL ?_ | refine ZYj ?_ | refine ZXM ?_ | refine ZVJ ?_ | refine ZXN ?_ | refine ZVK ?_ | refine ZYk ?_
 | ((with_reducible refine' ZXO ?e ?_); (case e => rfl))
 | with_reducible first | refine ZY9 ?_ | refine ZYl ?_ | refine ZYm ?_ | refine ZYn ?_
 | ((with_reducible refine ZLX (C := ZSf) ?c ?_); (case c => exact ZNy (by decide) (by decide) (by decide)); (simp only [Int.reduceToNat, Int.reducePow]))
 | ((with_reducible refine ZLX ?c ?_); (case c => walk_at "sd"))
 | with_reducible first | refine ZZA ?_ | refine ZXP ?_ | refine ZYo ?_ | refine ZVL ?_ | refine ZVM ?_ | refine ZXQ ?_ | refine ZXR ?_ | refine ZXS ?_ | refine ZTB ?_ | refine ZVW ?_ | refine ZMW ?_ | refine ZXU ?_ | refine ZXV ?_ | refine ZXW ?_ | refine ZZB ?_ | refine ZYp ?_ | refine ZRP ?_ | refine ZVT ?_ | refine ZXY ?_ | refine ZVR ?_
 | ((with_reducible refine' ZVP ?s ?_); (case s => first | assumption | exact SqL.of (by assumption)))
 | ((with_reducible refine' ZVQ ?s ?_); (case s => first | assumption | exact SqT.of (by assumption)))
 | with_reducible first | refine ZXT ?_ | refine ZVO ?_ | refine ZVU ?_ | refine ZYr ?_ | refine ZVV ?_ | refine ZTC ?_
 | ((with_reducible refine' ZXb ?s ?_); (case s => first | assumption | exact SqT.of (by assumption)))
 | ((with_reducible refine' ZXc ?s ?_); (case s => first | assumption | exact SqL.of (by assumption)))
 | ((with_reducible refine' ZL9 ?s ?e ?_); (case s => exact SqL.of (by assumption)); (case e => rfl))
 | ((with_reducible refine' ZMA ?s ?e ?_); (case s => first | assumption | exact SqT.of (by assumption)); (case e => rfl))
 | ((with_reducible refine' ZVS ?s ?e ?_); (case s => first | assumption | exact SqT.of (by assumption)); (case e => rfl)))
local macro_rules | `(tactic| walk_at "ri") => `(tactic| ((fail_if_success with_reducible refine ZRr ?_); walk_at "rd"))
theorem ZRw (K : W.Frag) : W.kitOne K (.type "int") (.type "int") = some true := by kernel_rfl
theorem ZRx (K : W.Frag) : W.kitOne K (.type "NoneType") (.type "int") = some false := by kernel_rfl
theorem ZQl (K : W.Frag) : W.kitOne K (.type "int") (.type "bool") = some false := by kernel_rfl
def Pur (H : Hp) (p : Addr) : Prop := ∃ x n c : Int, H p = some (.lst [.int x, .int n, .int c]) ∧ 0 ≤ x ∧ 0 ≤ c ∧ c < 4294967296
theorem Pur.same {H H' : Hp} {p : Addr} (h : Pur H p) (s : ZFY H H') : Pur H' p := by
 obtain ⟨x, n, c, h, r⟩ := h
 exact ⟨x, n, c, s _ _ h, r⟩
theorem Pur.neN {H : Hp} {p l : Addr} (h : Pur H p) (hl : H l = none) : l ≠ p := by
 obtain ⟨x, n, c, h, r⟩ := h
 exact (ZF2 h hl).symm
theorem Pur.ne_tup {H : Hp} {p l : Addr} {xs : List V} (h : Pur H p) (hl : H l = some (.tup xs)) : l ≠ p := by
 obtain ⟨x, n, c, h, r⟩ := h
 intro e; subst e; rw [h] at hl; cases hl
theorem Pur.kp {H H' : Hp} {p l : Addr} (h : Pur H p) (k : Kp l H H') (n : p ≠ l) : Pur H' p := by
 obtain ⟨x, m, c, h, r⟩ := h
 exact ⟨x, m, c, k _ _ h n, r⟩
def ZYC (K : W.Frag) : Sp := fun vs H Q _ => ∃ (s : Addr) (ns : List Int) (k : Int), vs = [.ref s, .int k] ∧ SqL K H s (ns.map V.int) ∧ 0 ≤ k ∧ Q (.int (ns.getD k.toNat 0)) H
def ZWB : Sp := fun vs H Q _ => ∃ c k : Int, vs = [.int c, .int k] ∧ 0 ≤ k ∧ k ≤ 100 ∧ ∀ (p : Addr) (H' : Hp), H p = none → Pur H' p → ZFY H H' → Q (.ref p) H'
def ZYD : Sp := fun vs H Q _ => ∃ (p : Addr) (n : Int), vs = [.ref p, .int n] ∧ Pur H p ∧ 0 < n ∧ n < 2 ^ 250 ∧ ∀ (d : Int) (H' : Hp), 0 ≤ d → d < n → Pur H' p → Kp p H H' → Q (.int d) H'
section
variable {P : Program} {w : World} {K : W.Frag} {mg : Str → Option Value} {base : Heap} {a : Ad}
theorem ZRy : ZFa ["_law_script", "_law_k"] ["_law_script", "_law_k"] (ZFW ZLp) := ZFv
theorem ZRz (T : Txt K mg a) : ZFc P w K mg base CX0 1 a.ZB5 a.ZCA ["_law_script", "_law_k"] (ZYC K) := by
 refine T.ZDH.ok ZRy (by walk_at "l") (fun cdv A outer s H vs Q E hr h => ?_)
 ·obtain ⟨p, ns, k, rfl, hS, hk, q⟩ := h
  refine ⟨_, QB.h (ZFX (ZFh (ZHU (ZFk (ZHs) (qv 1) (ZFr (ZIz K rfl) rfl T.JI ZIT (ZFS (qv 0) ZFT)) (ZFm _)) (ZFn (ZG1 K rfl) (qv 0) (qv 1)) ZFU))), ?_⟩
  walk_at "s"
  walk_at "w"
  rw [List.length_map]
  refine ZFt (fun h => ?_) (fun h => ?_)
  ·walk_at "w"
   obtain ⟨n, rfl⟩ : ∃ n : Nat, k = (n : Int) := ⟨k.toNat, by omega⟩
   have hk2 : n < ns.length := by omega
   refine ZL9 (v := .int (ns.getD n 0)) hS (ZIn ?_) q
   rw [List.getElem?_map, List.getElem?_eq_getElem hk2]
   simp [List.getD, hk2]
  ·walk_at "w"
   have e : ns.getD k.toNat 0 = 0 := by
    rw [List.getD, List.getElem?_eq_none (by omega)]
    rfl
   rw [e] at q
   exact q
theorem ZQm : ZFa ["_law_cell_here", "_law_k"] ["_law_cell_here", "_law_k"] (ZFW ZKo) := ZFv
theorem ZQn (T : Txt K mg a) : ZFc P w K mg base CX0 1 a.ZBP a.ZBJ ["_law_cell_here", "_law_k"] ZWB := by
 refine T.ZCj.ok ZQm (by walk_at "l") (fun cdv A outer s H vs Q E hr h => ?_)
 ·obtain ⟨c, n, rfl, hn, hn2, k⟩ := h
  refine ⟨_, QB.h (ZFV (ZF1 (ZFk (ZUR) (qv 0) (ZFb ZIS ZFU ZFU) (ZFm _)) (ZFX (ZFh (ZGp (ZFS (qv 0) (ZFS ZFU (ZFS (ZFb ZF9 (ZFb ZGF ZFU (qv 1)) ZFU) ZFT)))))) ZFq) (ZFX (ZFh (ZGp (ZFS ZFU (ZFS ZFU (ZFS (ZFb ZIq (ZFb ZF9 (ZFb ZF9 (ZFb ZF9 (ZFb ZGF (ZFb ZIq (ZFr ZXF rfl T.ZDn ZW8 (ZFS (qv 0) ZFT)) (ZFb ZIS ZFU ZFU)) ZFU) (ZFb ZGF (ZFb ZGF ZFU (qv 1)) (qv 1))) (ZFb ZGF ZFU (qv 1))) ZFU) ZFU) ZFT))))))), ?_⟩
  walk_at "s"
  walk_at "w"
  refine ZFt (fun h => ?_) (fun h => ?_)
  ·walk_at "w"
   refine ZFd (by show 3 ≤ sizeLine; decide) fun p H2 hp f2 S2 => ?_
   exact k p H2 hp ⟨_, _, _, f2, by omega, by omega, by omega⟩ S2
  ·walk_at "w"
   refine ZFd (by show 3 ≤ sizeLine; decide) fun p H2 hp f2 S2 => ?_
   refine k p H2 hp ⟨_, _, _, f2, by omega, Int.emod_nonneg _ (by decide), ?_⟩ S2
   exact Int.lt_of_lt_of_le (Int.emod_lt_of_pos _ (by decide)) (by decide)
theorem ZNF : ZFa ["_law_purse_here", "_law_many", "_law_digit"] ["_law_purse_here", "_law_many"] (ZFW ZLq) := ZFv
theorem ZF8 (T : Txt K mg a) : ZFc P w K mg base CX0 1 a.ZCJ a.ZCK ["_law_purse_here", "_law_many"] ZYD := by
 refine T.ZL.ok ZNF (by walk_at "l") (fun cdv A outer s H vs Q E hr h => ?_)
 ·obtain ⟨p, n, rfl, ⟨x, m, y, hp, hx, hy, hy2⟩, hn, hn2, k⟩ := h
  have hdiv : ∀ i : Int, ZJB i n := fun i => ZJB.of (k := 250) hn hn2 (by decide)
  refine ⟨_, QB.h (ZFV (ZF1 (ZFk (ZNe) (ZFn (ZG1 K rfl) (qv 0) ZFU) ZFU (ZFm _)) (ZFV (qsS (i := 2) ZNF.nd (ZFb ZIq (ZFn (ZG1 K rfl) (qv 0) ZFU) (qv 1))) (ZFV (ZGv (ZFb ZIs (ZFn (ZG1 K rfl) (qv 0) ZFU) (qv 1)) (ZN0 (qv 0) ZFU ZLW)) (ZFX (ZFh (qv 2))))) ZFq) (ZFV (ZGv (ZFb ZF9 (ZFn (ZG1 K rfl) (qv 0) ZFU) ZFU) (ZN0 (qv 0) ZFU ZLW)) (ZFV (ZGv (ZFb ZIq (ZFb ZF9 (ZFb ZGF (ZFn (ZG1 K rfl) (qv 0) ZFU) ZFU) (ZFb ZGF ZFU (ZFn (ZG1 K rfl) (qv 0) ZFU))) ZFU) (ZN0 (qv 0) ZFU ZLW)) (ZFX (ZFh (ZFb ZIq (ZFb ZIs (ZFb ZIq (ZFb ZGF (ZFn (ZG1 K rfl) (qv 0) ZFU) (ZFn (ZG1 K rfl) (qv 0) ZFU)) ZFU) ZFU) (qv 1))))))), ?_⟩
  walk_at "s"
  walk_at "w"
  refine ZFt (fun h => ?_) (fun h => ?_)
  ·walk_at "w"
   refine ZVN hp (by rfl) ?_
   walk_at "w"
   exact k _ _ (Int.emod_nonneg _ (by omega)) (Int.emod_lt_of_pos _ hn) ⟨_, _, _, ZFf, Int.ediv_nonneg hx (by omega), hy, hy2⟩ Kp.upd
  ·walk_at "w"
   refine ZPd hp (by rfl) fun H2 f2 K2 => ?_
   have f2 : H2 p = some (.lst [V.int x, V.int (m + 1), V.int y]) := f2
   walk_at "w"
   refine ZPd f2 (by rfl) fun H3 f3 K3 => ?_
   generalize hz : (y * 39373 + 8191 * (m + 1)) % 2147483587 = z at f3
   have h0 : 0 ≤ z := by rw [← hz]; exact Int.emod_nonneg _ (by decide)
   have h1 : z < 2147483587 := by rw [← hz]; exact Int.emod_lt_of_pos _ (by decide)
   have f3 : H3 p = some (.lst [V.int x, V.int (m + 1), V.int z]) := f3
   walk_at "w"
   refine k _ _ (Int.emod_nonneg _ (by omega)) (Int.emod_lt_of_pos _ hn) ⟨_, _, _, f3, hx, h0, by omega⟩ ?_
   exact fun q o e nq => K3 q o (K2 q o e nq) nq
def ZR0 (K : W.Frag) : Sp := fun vs H Q _ => ∃ (b : Bool) (l : Addr) (us : List V) (prs : PL), vs = [.ref l] ∧ SQ b H l us ∧ ZFe H us prs ∧ prs.length < 64 ∧
 ∀ (t : Addr) (cv : PL) (H' : Hp), PrT H' t cv → ZMZ (ZHL prs) cv → cv.length ≤ prs.length → ZFY H H' → Q (.ref t) H'
theorem ZR1 (l : PL) (p : Int × Int) : ZHL (l ++ [p]) = ZGP (ZHL l) p.1 p.2 := by
 unfold ZHL
 rw [List.foldl_append]
 rfl
theorem ZIO : ZFa ["samples", "heights", "t", "h"] ["samples"] (ZFW ZIj) := ZFv
theorem ZLQ (T : Txt K mg a) : ZFc P w K mg base CX0 1 a.ZAs a.ZAx ["samples"] (ZR0 K) := by
 refine T.ZAz.ok ZIO (by walk_at "l") (fun cdv A outer s H vs Q E hr h => ?_)
 ·obtain ⟨b, l, us, prs, rfl, hL, hP, hlen, k⟩ := h
  have hu := ZIh hr
  have hm := ZOH prs
  refine ⟨_, QB.h (ZFV (qsS (i := 1) ZIO.nd ZLa) (ZFV (ZIU PassesOwn.never rfl (ZXs K rfl (qv 0)) (ZGb (n := 2) K rfl rfl (ZFi (qgN (i := 2) ZIO.nd) (ZFi (qgN (i := 3) ZIO.nd) ZGO))) (ZFX (ZJh hu (qv 3) (qv 1) (qv 2)))) (ZFX (ZFh (ZHx (ZI0 K rfl) rfl T.JG ZIu (ZFS (ZHc (N := ["samples", "heights", "t", "h"]) (sc := ZFW ZIj) (own := ["t"]) (caps := ["heights"]) (ks := [1]) rfl rfl rfl ⟨rfl, by decide +kernel, by decide +kernel, by decide +kernel, by decide +kernel, rfl, by decide +kernel⟩ (ZJg K rfl (ZFr (ZQN rfl) rfl T.ZAt ZM5 (ZFS (qv 1) ZFT))) (fun _ _ _ _ _ => ZGg (i := 0) (show List.Nodup (α := Str) ["t", "heights"] from by decide +kernel) rfl (by walk_at "o") (.inr rfl)) (fun _ _ _ _ _ => ZG6) (fun _ _ _ _ _ => ZFw (ZFS (qv 0) (ZFS (ZMY hu (qv 1) (qv 0)) ZFT)))) ZFT)))))), ?_⟩
  walk_at "s"
  walk_at "w"
  refine ZOE fun d H0 n0 f0 S0 => ?_
  walk_at "w"
  refine ZVm (b := b) (xs := us) (fun i σ H' => (∃ v2 v3, σ = [some (.ref l), some (.ref d), v2, v3]) ∧ ZFY H H' ∧ H' d = some (.dK (ZGf (ZHL (prs.take i))))) (hL.same S0) ?_ (fun i σ H' _ h => hL.same h.2.1) ?_ ?_
  ·exact ⟨⟨_, _, rfl⟩, S0, f0⟩
  ·rintro i x σ H1 hx ⟨⟨v2, v3, rfl⟩, S1, f1⟩
   obtain ⟨c, p, rfl, hp, hc⟩ := (hP.same S1).at hx
   have e3 : prs.take (i + 1) = prs.take i ++ [p] := by
    rw [List.take_succ, hp]
    rfl
   walk_at "w"
   refine ZOD f1 ?_ fun H2 f2 K2 => ?_
   ·exact Nat.lt_of_le_of_lt (ZOH _) (Nat.lt_of_le_of_lt (by rw [List.length_take]; exact Nat.min_le_right _ _) (Nat.lt_of_lt_of_le hlen (by decide)))
   walk_at "w"
   refine ⟨⟨_, _, rfl⟩, S1.kpN n0 K2, ?_⟩
   rw [e3, ZR1]
   exact f2
  ·rintro σ H1 ⟨⟨v2, v3, rfl⟩, S1, f1⟩
   rw [hP.length, List.take_length] at f1
   walk_at "w"
   refine ZQP f1 (by omega) fun l2 H2 ns n2 f2 hp hs S2 => ?_
   have hnl : ns.length = (ZHL prs).length := by have := hp.length_eq; simpa using this
   walk_at "w"
   intro l3 n3
   have S23 : ZFY H2 (upd H2 l3 (.lst [])) := ZFY.new n3
   refine ZHB ns.length (fun i σ' H' => (∃ o, σ' = [o, some (.ref d)]) ∧ ZFY H2 H' ∧ ∃ vs, H' l3 = some (.lst vs) ∧ ZFe H' vs ((ZHD (ZHL prs) ns).take i)) ?_ ?_ ?_
   ·exact ⟨⟨none, rfl⟩, S23, [], ZFf, .nil⟩
   ·rintro σ H' ⟨_, s, vs, f3, hPc⟩
    refine ⟨⟨_, SqL.of (s _ _ f2), by simp⟩, ?_⟩
    walk_at "w"
    refine ZJe (SqL.of f3) fun t H4 n4 f4 S4 => ?_
    have ecv : (ZHD (ZHL prs) ns).take ns.length = ZHD (ZHL prs) ns := List.take_of_length_le (by simp [ZHD])
    rw [ecv] at hPc
    exact k t _ H4 ⟨vs, f4, hPc.same S4⟩ (ZMD (ZMC prs) hp hs) (by unfold ZHD; rw [List.length_map, hnl]; exact hm) (((S1.trans S2).trans s).trans S4)
   ·rintro i σ H' hi ⟨⟨o, rfl⟩, s, vs, f3, hPc⟩
    have hi2 : i < (ns.map V.int).length := by simpa using hi
    refine ⟨⟨_, _, SqL.of (s _ _ f2), List.getElem?_eq_getElem hi2⟩, ?_⟩
    rintro u H'' ⟨rfl, hu'⟩
    have hu' := hu' _ (SqL.of (s _ _ f2))
    have eu : u = .int ns[i] := by
     rw [List.getElem?_map, List.getElem?_eq_getElem hi] at hu'
     simpa using hu'.symm
    subst eu
    walk_at "w"
    refine ZGX ?_
    walk_at "w"
    have hmem : ns[i] ∈ (ZHL prs).map (·.1) := hp.mem_iff.mp (List.getElem_mem hi)
    obtain ⟨x, hx⟩ : ∃ x, ZGA (ZHL prs) ns[i] = some x := by
     cases hg : ZGA (ZHL prs) ns[i] with
     | none => exact absurd hmem (ZJE.mp hg)
     | some x => exact ⟨x, rfl⟩
    refine ZTR (s _ _ (S2 _ _ f1)) hx ?_
    walk_at "w"
    refine ZFd (by show 2 ≤ sizeLine; decide) fun t H4 n4 f4 S4 => ?_
    have f34 := S4 _ _ f3
    refine ⟨vs, f34, ?_, ⟨_, rfl⟩, ?_, ?_⟩
    ·have e := hPc.length
     rw [e, List.length_take]
     exact Nat.lt_of_le_of_lt (Nat.min_le_left _ _) (Nat.lt_of_lt_of_le hi (by rw [hnl]; exact Nat.le_of_lt (Nat.lt_of_le_of_lt hm (Nat.lt_of_lt_of_le hlen (by decide)))))
    ·exact (s.trans S4).kpN (l := l3) n3 Kp.upd
    ·refine ⟨_, ZFf, ?_⟩
     have e3 : (ZHD (ZHL prs) ns).take (i + 1) = (ZHD (ZHL prs) ns).take i ++ [(ns[i], x)] := by
      rw [List.take_succ]
      congr 1
      simp [ZHD, List.getElem?_eq_getElem hi, hx]
     rw [e3]
     exact ZFe.kpL Kp.upd f34 ((hPc.same S4).snoc f4)
def ZOq : Sp := fun vs H Q _ => ∃ (c : Addr) (x y : Int), vs = [.ref c] ∧ H c = some (.tup [.int x, .int y]) ∧ Q (.int y) H
theorem ZOr : ZFa ["sample"] ["sample"] (ZFW ZJT) := ZFv
theorem ZHF (T : Txt K mg a) : ZFc P w K mg base CX0 1 a.ZAW a.ZAc ["sample"] ZOq := by
 refine T.YW.ok ZOr (by walk_at "l") (fun cdv A outer s H vs Q E hr h => ?_)
 ·obtain ⟨c, x, y, rfl, hc, q⟩ := h
  refine ⟨_, QB.h (ZFX (ZFh (ZFn (ZFp K rfl) (qv 0) ZFU))), ?_⟩
  walk_at "s"
  walk_at "w"
  exact q
def ZT4 (K : W.Frag) : Sp := fun vs H Q _ => ∃ (v1 v2 : V) (o1 o2 : Option (PL)) (c1 c2 : PL), vs = [v1, v2] ∧ ZGC H v1 o1 ∧ Is4 c1 o1 ∧ ZGC H v2 o2 ∧ Is4 c2 o2 ∧ (∀ p ∈ c1, ∀ q ∈ c2, p.1 < q.1) ∧
 ∀ (v : V) (o : Option (PL)) (H' : Hp), ZGC H' v o → Is4 (c1 ++ c2) o → ZFY H H' → Q v H'
theorem ZNG {H : Hp} {v : V} {c : PL} {qs : PL} (h : ZGC H v (some qs)) (g : Is4 c (some qs)) : ∃ (l : Addr) (q0 q1 q2 q3 : Int × Int) (a0 a1 a2 a3 : Addr), v = .ref l ∧ qs = [q0, q1, q2, q3] ∧ H l = some (.tup [.ref a0, .ref a1, .ref a2, .ref a3]) ∧
  H a0 = some (.tup [.int q0.1, .int q0.2]) ∧ H a1 = some (.tup [.int q1.1, .int q1.2]) ∧ H a2 = some (.tup [.int q2.1, .int q2.2]) ∧ H a3 = some (.tup [.int q3.1, .int q3.2]) := by
 cases h with
 | @pr l qs h hl =>
  obtain ⟨us, f, hP⟩ := h
  rcases g with ⟨e, _⟩ | ⟨q0, q1, q2, q3, e, _⟩
  ·cases e
  ·cases e
   cases hP with
   | cons h0 t => cases t with
    | cons h1 t => cases t with
     | cons h2 t => cases t with
      | cons h3 t =>
       cases t
       obtain ⟨a0, rfl, e0⟩ := h0
       obtain ⟨a1, rfl, e1⟩ := h1
       obtain ⟨a2, rfl, e2⟩ := h2
       obtain ⟨a3, rfl, e3⟩ := h3
       exact ⟨l, q0, q1, q2, q3, a0, a1, a2, a3, rfl, rfl, f, e0, e1, e2, e3⟩
theorem ZKr : ZFa ["one", "other", "lowest", "highest"] ["one", "other"] (ZFW ZLm) := ZFv
theorem ZNH (T : Txt K mg a) : ZFc P w K mg base CX0 2 a.ZCQ a.ZCM ["one", "other"] (ZT4 K) := by
 refine T.ZB8.ok ZKr (by walk_at "l") (fun cdv A outer s H vs Q E hr h => ?_)
 ·obtain ⟨v1, v2, o1, o2, c1, c2, rfl, h1, g1, h2, g2, hlt, k⟩ := h
  refine ⟨_, QB.h (ZFV (ZF1 (ZFk (ZNx) (qv 0) ZHO (ZFm _)) (ZFX (ZFh (qv 1))) ZFq) (ZFV (ZF1 (ZFk (ZNx) (qv 1) ZHO (ZFm _)) (ZFX (ZFh (qv 0))) ZFq) (ZFV (qsS (i := 2) ZKr.nd (ZHU (ZFk (ZG9) (qcS (ZHF T) hr T.Zx T.YW.kp T.Zz (ZFS (ZFn (ZFp K rfl) (qv 0) ZFU) ZFT)) (qcS (ZHF T) hr T.Zx T.YW.kp T.Zz (ZFS (ZFn (ZFp K rfl) (qv 1) ZFU) ZFT)) (ZFm _)) (ZFn (ZFp K rfl) (qv 0) ZFU) (ZFn (ZFp K rfl) (qv 1) ZFU))) (ZFV (qsS (i := 3) ZKr.nd (ZHU (ZFk (ZUR) (qcS (ZHF T) hr T.Zx T.YW.kp T.Zz (ZFS (ZFn (ZFp K rfl) (qv 0) ZFU) ZFT)) (qcS (ZHF T) hr T.Zx T.YW.kp T.Zz (ZFS (ZFn (ZFp K rfl) (qv 1) ZFU) ZFT)) (ZFm _)) (ZFn (ZFp K rfl) (qv 0) ZFU) (ZFn (ZFp K rfl) (qv 1) ZFU))) (ZFX (ZFh (ZFw (ZFS (ZFn (ZFp K rfl) (qv 0) ZFU) (ZFS (ZFn (ZFp K rfl) (qv 1) ZFU) (ZFS (qv 2) (ZFS (qv 3) ZFT))))))))))), ?_⟩
  walk_at "s"
  walk_at "w"
  cases o1 with
  | none =>
   cases h1
   refine ZFt (fun _ => ?_) (fun h => absurd rfl h)
   walk_at "w"
   refine k v2 o2 H h2 ?_ (ZFY.refl H)
   rw [g1.of_none, List.nil_append]
   exact g2
  | some qs1 =>
   obtain ⟨l1, q0, q1, q2, q3, a0, a1, a2, a3, rfl, rfl, f1, e0, e1, e2, e3⟩ := ZNG h1 g1
   refine ZFt (fun h => by cases h) (fun _ => ?_)
   walk_at "w"
   cases o2 with
   | none =>
    cases h2
    refine ZFt (fun _ => ?_) (fun h => absurd rfl h)
    walk_at "w"
    refine k (.ref l1) _ H h1 ?_ (ZFY.refl H)
    rw [g2.of_none, List.append_nil]
    exact g1
   | some qs2 =>
    obtain ⟨l2, r0, r1, r2, r3, b0, b1, b2, b3, rfl, rfl, f2, d0, d1, d2, d3⟩ := ZNG h2 g2
    refine ZFt (fun h => by cases h) (fun _ => ?_)
    walk_at "w"
    refine ⟨a2, _, _, rfl, e2, ?_⟩
    walk_at "w"
    refine ⟨b2, _, _, rfl, d2, ?_⟩
    walk_at "w"
    have J := g1.join g2 hlt
    have fin : ∀ (x y : Addr) (p2 p3 : Int × Int), H x = some (.tup [.int p2.1, .int p2.2]) → H y = some (.tup [.int p3.1, .int p3.2]) → Is4 (c1 ++ c2) (some [q0, r1, p2, p3]) → ∀ l H', H l = none → H' l = some (.tup [.ref a0, .ref b1, .ref x, .ref y]) → ZFY H H' → Q (.ref l) H' := fun x y p2 p3 hx hy J l H' n' f' S' =>
     k (.ref l) _ H' (.pr ⟨_, f', .cons ⟨a0, rfl, S' _ _ e0⟩ (.cons ⟨b1, rfl, S' _ _ d1⟩ (.cons ⟨x, rfl, S' _ _ hx⟩ (.cons ⟨y, rfl, S' _ _ hy⟩ .nil)))⟩ rfl) J S'
    have part2 : ∀ (x : Addr) (p2 : Int × Int), True := fun _ _ => trivial
    refine ZFt (fun hl => ?_) (fun hl => ?_)
    ·walk_at "w"
     refine ⟨a3, _, _, rfl, e3, ?_⟩
     walk_at "w"
     refine ⟨b3, _, _, rfl, d3, ?_⟩
     walk_at "w"
     refine ZFt (fun hh => ?_) (fun hh => ?_)
     ·walk_at "w"
      rw [if_pos hl, if_pos hh] at J
      exact ZFd (by show 4 ≤ sizeLine; decide) fun l H' n' f' S' => fin _ _ _ _ e2 e3 J l H' n' f' S'
     ·walk_at "w"
      rw [if_pos hl, if_neg hh] at J
      exact ZFd (by show 4 ≤ sizeLine; decide) fun l H' n' f' S' => fin _ _ _ _ e2 d3 J l H' n' f' S'
    ·walk_at "w"
     refine ⟨a3, _, _, rfl, e3, ?_⟩
     walk_at "w"
     refine ⟨b3, _, _, rfl, d3, ?_⟩
     walk_at "w"
     refine ZFt (fun hh => ?_) (fun hh => ?_)
     ·walk_at "w"
      rw [if_neg hl, if_pos hh] at J
      exact ZFd (by show 4 ≤ sizeLine; decide) fun l H' n' f' S' => fin _ _ _ _ d2 e3 J l H' n' f' S'
     ·walk_at "w"
      rw [if_neg hl, if_neg hh] at J
      exact ZFd (by show 4 ≤ sizeLine; decide) fun l H' n' f' S' => fin _ _ _ _ d2 d3 J l H' n' f' S'
theorem ZWC {xs : List V} {v : V} (h : xs[xs.length - 1]? = some v) : atI xs (-1) = some v := by
 have hlt := (List.getElem?_eq_some_iff.mp h).1
 unfold atI ixN
 rw [if_neg (by decide), if_pos (by omega)]
 have : ((-1 : Int) + (xs.length : Int)).toNat = xs.length - 1 := by omega
 rw [this]
 exact h
def ZT5 (K : W.Frag) : Sp := fun vs H Q _ => ∃ (l : Addr) (cv : PL), vs = [.ref l] ∧ PrT H l cv ∧ Asc cv ∧
 ∀ (v : V) (o : Option (PL)) (H' : Hp), ZGC H' v o → Is4 cv o → ZFY H H' → Q v H'
theorem ZQo : ZFa ["curve"] ["curve"] (ZFW ZKc) := ZFv
theorem ZQp (T : Txt K mg a) : ZFc P w K mg base CX0 3 a.ZBn a.ZBk ["curve"] (ZT5 K) := by
 refine T.ZCm.ok ZQo (by walk_at "l") (fun cdv A outer s H vs Q E hr h => ?_)
 ·obtain ⟨l, cv, rfl, ⟨us, gL, pL⟩, hasc, k⟩ := h
  have hul : us.length = cv.length := pL.length
  refine ⟨_, QB.h (ZFV (ZF1 (ZFk (ZGj) (ZFr (ZIz K rfl) rfl T.JI ZIT (ZFS (qv 0) ZFT)) ZFU (ZFm _)) (ZFX (ZFh ZHO)) ZFq) (ZFX (ZFh (ZFw (ZFS (ZFn (ZFp K rfl) (qv 0) ZFU) (ZFS (ZFn (ZFp K rfl) (qv 0) (ZJv ZIr ZFU)) (ZFS (ZQU K rfl rfl (ZHF T) hr rfl T.ZAl rfl T.Zx T.Zz (ZFS (qv 0) ZFT)) (ZFS (ZQW K rfl rfl (ZHF T) hr rfl T.ZAy rfl T.Zx T.Zz (ZFS (qv 0) ZFT)) ZFT)))))))), ?_⟩
  walk_at "s"
  walk_at "w"
  refine ZFt (fun h => ?_) (fun h => ?_)
  ·walk_at "w"
   have : cv = [] := List.length_eq_zero_iff.mp (by have h := V.int.inj h; omega)
   exact k _ none H .non (.inl ⟨rfl, this⟩) (ZFY.refl H)
  ·have hpos : 0 < us.length := by
    rcases Nat.eq_zero_or_pos us.length with z | z
    ·exact absurd (by rw [z]; rfl) h
    ·exact z
   have hne : us ≠ [] := List.length_pos_iff.mp hpos
   obtain ⟨c0, q0, ec0, hq0, hc0⟩ := pL.at (List.getElem?_eq_getElem hpos)
   obtain ⟨c1, q1, ec1, hq1, hc1⟩ := pL.at (List.getElem?_eq_getElem (show us.length - 1 < us.length by omega))
   have hx0 : us[0]? = some (.ref c0) := by rw [List.getElem?_eq_getElem hpos, ec0]
   have hx1 : us[us.length - 1]? = some (.ref c1) := by rw [List.getElem?_eq_getElem (show us.length - 1 < us.length by omega), ec1]
   have turn : ∀ i v, us[i]? = some v → ∀ Q : VK, Q (.int (cv.getD i (0, 0)).2) H → ZOq [v] H Q E0 := fun i v hv Q q => by
    obtain ⟨c, p, rfl, hp, hc⟩ := pL.at hv
    have e : cv.getD i (0, 0) = p := by simp [hp]
    rw [e] at q
    exact ⟨c, p.1, p.2, rfl, hc, q⟩
   walk_at "w"
   refine ZMA (SqT.of gL) (ZIn (j := 0) hx0) ?_
   walk_at "w"
   refine ZMA (SqT.of gL) (ZWC hx1) ?_
   walk_at "w"
   refine ZQV (fun i => (cv.getD i (0, 0)).2) (SqT.of gL) hne turn fun i2 v2 hv2 hb2 => ?_
   walk_at "w"
   refine ZQX (fun i => (cv.getD i (0, 0)).2) (SqT.of gL) hne turn fun i3 v3 hv3 hb3 => ?_
   obtain ⟨c2, q2, rfl, hq2, hc2⟩ := pL.at hv2
   obtain ⟨c3, q3, rfl, hq3, hc3⟩ := pL.at hv3
   walk_at "w"
   refine ZFd (by show 4 ≤ sizeLine; decide) fun c4 H4 n4 f4 S4 => ?_
   have hP4 : ZFe H4 [.ref c0, .ref c1, .ref c2, .ref c3] [q0, q1, q2, q3] := .cons ⟨c0, rfl, S4 _ _ hc0⟩ (.cons ⟨c1, rfl, S4 _ _ hc1⟩ (.cons ⟨c2, rfl, S4 _ _ hc2⟩ (.cons ⟨c3, rfl, S4 _ _ hc3⟩ .nil)))
   rw [hul] at hq1 hb2 hb3
   exact k _ (some [q0, q1, q2, q3]) H4 (.pr ⟨_, f4, hP4⟩ rfl) (Is4.minmax hasc hq0 hq1 hq2 hq3 hb2 hb3) S4
def InT (x : Int) : Prop := -1099511627776 ≤ x ∧ x ≤ 1099511627776
inductive ZIf (H : Hp) : V → Prop where
 | non : ZIf H .non
 | str (x : Str) : ZIf H (.str x)
 | tup {p : Addr} {xs : List V} (e : H p = some (.tup xs)) : ZIf H (.ref p)
 | lst {p : Addr} {xs : List V} (e : H p = some (.lst xs)) : ZIf H (.ref p)
theorem ZIf.same {H H' : Hp} {v : V} (s : ZFY H H') : ZIf H v → ZIf H' v
 | .non => .non
 | .str x => .str x
 | .tup e => .tup (s _ _ e)
 | .lst e => .lst (s _ _ e)
def Off (H : Hp) (v : V) : Prop := (∃ i, v = .int i ∧ ¬ InT i) ∨ ZIf H v
theorem ZR2 (K : W.Frag) : W.kitOne K (.type "str") (.type "int") = some false := by kernel_rfl
theorem ZR3 (K : W.Frag) : W.kitOne K (.type "list") (.type "int") = some false := by kernel_rfl
theorem ZR4 (K : W.Frag) : W.kitOne K (.type "tuple") (.type "int") = some false := by kernel_rfl
def ZWD : Sp := fun vs H Q _ => ∃ v, vs = [v] ∧ ((∃ i : Int, v = .int i ∧ Q (.bl true) H) ∨ (ZIf H v ∧ Q (.bl false) H))
theorem ZPO : ZFa ["thing"] ["thing"] (ZFW ZJ5) := ZFv
theorem ZHf (T : Txt K mg a) : ZFc P w K mg base CX0 1 a.ZAw a.ZAo ["thing"] ZWD := by
 refine T.YJ.ok ZPO (by walk_at "l") (fun cdv A outer s H vs Q E hr h => ?_)
 ·obtain ⟨v, rfl, h⟩ := h
  refine ⟨_, QB.h (ZFX (ZFh (ZIx (ZFr (ZN2 K rfl) rfl T.ZR ZGo (ZFS (qv 0) (ZFS (ZMX (v := .ty "int") rfl T.ZDu ZW6 rfl) ZFT))) (ZIw (ZXe (ZFr (ZN2 K rfl) rfl T.ZR ZGo (ZFS (qv 0) (ZFS (ZMX (v := .ty "bool") rfl T.ZC9 ZVC rfl) ZFT)))))))), ?_⟩
  walk_at "s"
  walk_at "w"
  rcases h with ⟨i, rfl, q⟩ | ⟨hv, q⟩
  ·refine ZIv (.int i) (ZRw _) (ZMW (ZGX ?_))
   walk_at "w"
   refine ZIv (.int i) (ZQl _) ?_
   walk_at "w"
   exact q
  ·cases hv with
   | non => exact ZIv .non (ZRx _) (ZMW (ZGH q))
   | str x => exact ZIv (.str x) (ZR2 _) (ZMW (ZGH q))
   | tup e => exact ZIv (.tup e) (ZR4 _) (ZMW (ZGH q))
   | lst e => exact ZIv (.lst e) (ZR3 _) (ZMW (ZGH q))
def ZT6 : Sp := fun vs H Q _ => ∃ v, vs = [v] ∧ ((∃ i : Int, v = .int i ∧ InT i ∧ Q (.bl true) H) ∨ (Off H v ∧ Q (.bl false) H))
theorem ZOs : ZFa ["thing"] ["thing"] (ZFW ZJU) := ZFv
theorem ZHY (T : Txt K mg a) : ZFc P w K mg base CX0 2 a.ZAb a.ZAa ["thing"] ZT6 := by
 refine T.Zy.ok ZOs (by walk_at "l") (fun cdv A outer s H vs Q E hr h => ?_)
 ·obtain ⟨v, rfl, h⟩ := h
  have g : (∃ i : Int, v = .int i ∧ ((InT i ∧ Q (.bl true) H) ∨ (¬ InT i ∧ Q (.bl false) H))) ∨ (ZIf H v ∧ Q (.bl false) H) := by
   rcases h with ⟨i, e, h, q⟩ | ⟨⟨i, e, h⟩ | h, q⟩
   ·exact .inl ⟨i, e, .inl ⟨h, q⟩⟩
   ·exact .inl ⟨i, e, .inr ⟨h, q⟩⟩
   ·exact .inr ⟨h, q⟩
  clear h
  refine ⟨_, QB.h (ZFX (ZFh (ZIx (qcS (ZHf T) hr T.Yo T.YJ.kp T.Yp (ZFS (qv 0) ZFT)) (ZIw (ZLY ZG9 ZG9 (ZJv ZIr (ZGn (v := .int 1099511627776) rfl T.ZAV ⟨_, rfl⟩)) (qv 0) (ZGn (v := .int 1099511627776) rfl T.ZAV ⟨_, rfl⟩)))))), ?_⟩
  walk_at "s"
  walk_at "w"
  rcases g with ⟨i, rfl, h⟩ | ⟨hv, q⟩
  ·refine ⟨_, rfl, .inl ⟨i, rfl, ?_⟩⟩
   walk_at "w"
   refine ZGX ?_
   walk_at "w"
   unfold InT at h
   refine ZFt (fun h1 => ?_) (fun h1 => ?_)
   ·walk_at "w"
    rcases h with ⟨hi, q⟩ | ⟨hi, q⟩
    ·rw [decide_eq_true hi.2]
     exact q
    ·rw [decide_eq_false fun z => hi ⟨by omega, z⟩]
     exact q
   ·rcases h with ⟨hi, q⟩ | ⟨hi, q⟩
    ·exact absurd hi.1 (by omega)
    ·walk_at "w"
     exact q
  ·refine ⟨_, rfl, .inr ⟨hv, ?_⟩⟩
   walk_at "w"
   refine ZGH ?_
   walk_at "w"
   exact q
def ZWE : Sp := fun vs H Q _ => ∃ b e : Int, vs = [.int b, .int e] ∧ InT b ∧ InT e ∧ Q .non H
theorem ZI3 : ZFa ["begin", "end"] ["begin", "end"] (ZFW ZH0) := ZFv
theorem ZI4 (T : Txt K mg a) : ZFc P w K mg base CX0 3 a.Z9 a.Z8 ["begin", "end"] ZWE := by
 refine T.Zb.ok ZI3 (by walk_at "l") (fun cdv A outer s H vs Q E hr h => ?_)
 ·obtain ⟨b, e, rfl, hb, he, q⟩ := h
  refine ⟨_, QB.h (ZFX (ZF1 (QW.pt (ZHw (ZG5 (ZG4 (qcS (ZHY T) hr T.YX T.Zy.kp T.YV (ZFS (qv 0) ZFT)))) (ZHv (ZG5 (ZG4 (qcS (ZHY T) hr T.YX T.Zy.kp T.YV (ZFS (qv 1) ZFT))))))) (ZFX ZF7) ZFq)), ?_⟩
  walk_at "s"
  walk_at "w"
  refine ⟨_, rfl, .inl ⟨b, rfl, hb, ?_⟩⟩
  walk_at "w"
  refine ZGH ?_
  walk_at "w"
  refine ⟨_, rfl, .inl ⟨e, rfl, he, ?_⟩⟩
  walk_at "w"
  refine ZGH ?_
  walk_at "w"
  exact q
def ZR5 : Sp := fun vs H Q _ => ∃ x e : Int, vs = [.int x, .int e] ∧ InT x ∧ InT e ∧ x < e ∧
 ∀ (t : Addr) (L : Nat) (H' : Hp), H' t = some (.tup [.int L, .int (2 ^ L)]) → (2 : Int) ^ L ∣ x → x + 2 ^ L ≤ e → ((2 : Int) ^ (L + 1) ∣ x → x + 2 ^ (L + 1) ≤ e → False) → ZFY H H' → Q (.ref t) H'
theorem ZH5 : ZFa ["first", "end", "level", "size"] ["first", "end"] (ZFW ZKh) := ZFv
theorem ZQq (T : Txt K mg a) : ZFc P w K mg base CX0 1 a.ZBH a.ZBu ["first", "end"] ZR5 := by
 refine T.ZCr.ok ZH5 (by walk_at "l") (fun cdv A outer s H vs Q E hr h => ?_)
 ·obtain ⟨x, e, rfl, hx, he, hxe, k⟩ := h
  unfold InT at hx he
  refine ⟨_, QB.h (ZFV (qsS (i := 2) ZH5.nd ZFU) (ZFV (qsS (i := 3) ZH5.nd ZFU) (ZFV (ZN1 PassesOwn.never (QW.pt (ZJf (ZFk (ZGj) (ZFb ZIq (qv 0) (ZFb ZGF ZFU (qv 3))) ZFU (ZFm _)) (ZIo (ZFk (ZG9) (ZFb ZF9 (qv 0) (ZFb ZGF ZFU (qv 3))) (qv 1) (ZFm _))))) (ZFV (ZOI (i := 2) ZH5.nd rfl (by walk_at "o") ZPV ZFU) (ZFX (ZOI (i := 3) ZH5.nd rfl (by walk_at "o") ZUx ZFU)))) (ZFX (ZFh (ZFw (ZFS (qv 2) (ZFS (qv 3) ZFT)))))))), ?_⟩
  walk_at "s"
  walk_at "w"
  refine ZOJ (fun σ H' => H' = H ∧ ∃ L : Nat, ∃ z : Int, z = 2 ^ L ∧ σ = [some (.int x), some (.int e), some (.int L), some (.int z)] ∧ z ∣ x ∧ x + z ≤ e) (fun σ H' => match σ with | [_, _, some (.int l), some (.int z)] => (2199023255552 - z).toNat | _ => 0) ?_ ?_
  ·exact ⟨rfl, 0, 1, rfl, rfl, Int.one_dvd _, by omega⟩
  ·rintro σ H' ⟨rfl, L, z, hz, rfl, hd, hle⟩
   have hp : 0 < z := by rw [hz]; exact ZHE L
   have hz2 : z ≤ 2199023255552 := by omega
   walk_at "w"
   rw [ZGV]
   refine ZFt (fun h1 => ?_) (fun h1 => ?_)
   ·walk_at "w"
    refine ZFt (fun h2 => ?_) (fun h2 => ?_)
    ·refine ZPh ?_
     walk_at "w"
     refine ⟨⟨rfl, L + 1, z * 2, ?_, ?_, ?_, by omega⟩, ?_⟩
     ·rw [hz, Int.pow_succ]
     ·show [some (V.int x), some (V.int e), some (V.int ((L : Int) + 1)), some (V.int (z * 2))] = _
      rfl
     ·rw [Int.mul_comm]; exact Int.dvd_of_emod_eq_zero h1
     ·show (2199023255552 - z * 2).toNat < (2199023255552 - z).toNat
      omega
    ·walk_at "w"
     refine ZFd (by show 2 ≤ sizeLine; decide) fun t H2 n2 f2 S2 => ?_
     subst hz
     refine k t L H2 f2 hd hle (fun _ h4 => h2 ?_) S2
     rw [ZJ3]; exact h4
   ·refine ZGH ?_
    walk_at "w"
    refine ZFd (by show 2 ≤ sizeLine; decide) fun t H2 n2 f2 S2 => ?_
    subst hz
    refine k t L H2 f2 hd hle (fun h3 _ => h1 ?_) S2
    rw [ZJ3]; exact Int.emod_eq_zero_of_dvd h3
def ZKs (b e : Int) : Int := if e > b then e else b
def ZPP : Sp := fun vs H Q _ => ∃ b e : Int, vs = [.int b, .int e] ∧ InT b ∧ InT e ∧
 ∀ (t : Addr) (prs : PL) (H' : Hp), PrT H' t prs → Ch e b prs (ZKs b e) → prs.length ≤ 80 → ZFY H H' → Q (.ref t) H'
theorem ZHG : ZFa ["begin", "end", "found", "first", "level", "size"] ["begin", "end"] (ZFW ZJV) := ZFv
theorem ZOt (T : Txt K mg a) : ZFc P w K mg base CX0 4 a.ZAe a.ZAU ["begin", "end"] ZPP := by
 refine T.ZB1.ok ZHG (by walk_at "l") (fun cdv A outer s H vs Q E hr h => ?_)
 ·obtain ⟨b, e, rfl, hb, he, k⟩ := h
  refine ⟨_, QB.h (ZFV (ZFu (qcS (ZI4 T) hr T.Yl T.Zb.kp T.Yr (ZFS (qv 0) (ZFS (qv 1) ZFT)))) (ZFV (qsS (i := 2) ZHG.nd (ZGp ZFT)) (ZFV (qsS (i := 3) ZHG.nd (qv 0)) (ZFV (ZN1 PassesOwn.never (ZFk (ZHs) (qv 3) (qv 1) (ZFm _)) (ZFV (ZGv (qcS (ZQq T) hr.m T.ZD0 T.ZCr.kp T.ZEP (ZFS (qv 3) (ZFS (qv 1) ZFT))) (ZGb (n := 2) K rfl rfl (ZFi (qgN (i := 4) ZHG.nd) (ZFi (qgN (i := 5) ZHG.nd) ZGO)))) (ZFV (ZFu (ZIL PySem.F.plainAttrs_list PySem.F.slot_list_append PySem.F.type_list_append ZG2 (qv 2) (ZFS (ZFw (ZFS (qv 4) (ZFS (ZFb ZIs (qv 3) (qv 5)) ZFT))) ZFT))) (ZFX (ZOI (i := 3) ZHG.nd rfl (by walk_at "o") ZPV (qv 5)))))) (ZFX (ZFh (ZHx (ZI0 K rfl) rfl T.JG ZIu (ZFS (qv 2) ZFT)))))))), ?_⟩
  walk_at "s"
  walk_at "w"
  refine ⟨b, e, rfl, hb, he, ?_⟩
  unfold InT at hb he
  walk_at "w"
  refine ZFd (by show 0 ≤ sizeLine; decide) fun l H1 n1 f1 S1 => ?_
  walk_at "w"
  have e40 : (2 : Int) ^ 40 = 1099511627776 := by decide
  refine ZOJ (fun σ H' => ZFY H H' ∧ ∃ (x : Int) (prs : PL), (∃ v4 v5, σ = [some (.int b), some (.int e), some (.ref l), some (.int x), v4, v5]) ∧ PrL H' l prs ∧ Ch e b prs x ∧ Few e prs.length x ∧ x ≤ ZKs b e ∧ b ≤ x) (fun σ H' => match σ with | [_, _, _, some (.int x), _, _] => (e - x).toNat | _ => 0) ?_ ?_
  ·exact ⟨S1, b, [], ⟨_, _, rfl⟩, ⟨[], f1, .nil⟩, rfl, Few.start (by rw [e40]; omega), by unfold ZKs; split <;> omega, Int.le_refl _⟩
  ·rintro σ H' ⟨S', x, prs, ⟨v4, v5, rfl⟩, ⟨vs, f', hP⟩, hch, hfew, hmx, hbx⟩
   walk_at "w"
   refine ZFt (fun hxe => ?_) (fun hxe => ?_)
   ·refine ZPh ?_
    walk_at "w"
    refine ⟨x, e, rfl, ⟨by omega, by omega⟩, he, hxe, fun t L H2 f2 hd hle hmax S2 => ?_⟩
    have hL : L ≤ 40 := ZOg (by rw [e40]; omega) (by rw [e40]; omega) hd hle
    have hp := ZHE L
    have hL2 := ZJ2 hL
    rw [e40] at hL2
    have hfs := Few.step (by rw [e40]; omega) (by rw [e40]; omega) hfew hd hle hmax
    generalize hz : (2 : Int) ^ L = z at *
    walk_at "w"
    refine ⟨tyL (S2 _ _ f'), ?_⟩
    walk_at "w"
    refine ZFd (by show 2 ≤ sizeLine; decide) fun t3 H3 n3 f3 S3 => ?_
    have fl := S3 _ _ (S2 _ _ f')
    walk_at "w"
    refine ZHI fl ?_ fun H4 f4 K4 => ?_
    ·rw [hP.length]
     exact Nat.lt_of_le_of_lt hfew.len (by decide)
    walk_at "w"
    have hxz : x / z * z = x := Int.ediv_mul_cancel hd
    refine ⟨⟨((S'.trans S2).trans S3).kpN n1 K4, x + z, prs ++ [((L : Int), x / z)], ⟨_, _, rfl⟩, ⟨_, f4, ?_⟩, ?_, ?_, ?_, by omega⟩, ?_⟩
    ·exact ZFe.kpL K4 fl ((hP.same (S2.trans S3)).snoc f3)
    ·have := Ch.snoc (p := ((L : Int), x / z)) hch ⟨by simp, by simp; omega⟩ (by rw [show ((L : Int), x / z).1.toNat = L from Int.toNat_natCast L, hz]; exact hxz) (by rw [show ((L : Int), x / z).1.toNat = L from Int.toNat_natCast L, hz]; exact hle) (by
      rw [show ((L : Int), x / z).1.toNat = L from Int.toNat_natCast L, hz]
      intro _ h5 h6
      have ez : (2 : Int) ^ (L + 1) = 2 * z := by rw [← ZJ3, hz]
      refine hmax ?_ ?_
      ·rw [ez]; exact Int.dvd_of_emod_eq_zero h5
      ·rw [ez]; exact h6)
     rw [show ((L : Int), x / z).1.toNat = L from Int.toNat_natCast L, hz] at this
     exact this
    ·rw [List.length_append]; exact hfs
    ·unfold ZKs; split <;> omega
    ·show (e - (x + z)).toNat < (e - x).toNat
     omega
   ·walk_at "w"
    refine ZJe (SqL.of f') fun t H2 n2 f2 S2 => ?_
    have ex : x = ZKs b e := by
     unfold ZKs at hmx ⊢
     split <;> rename_i hh
     ·rw [if_pos hh] at hmx; omega
     ·rw [if_neg hh] at hmx; omega
    rw [ex] at hch
    exact k t prs H2 ⟨vs, f2, hP.same S2⟩ hch hfew.len (S'.trans S2)
def ZYE (H : Hp) (x y : V) : Prop := Off H x ∨ ((∃ i, x = .int i ∧ InT i) ∧ Off H y)
theorem ZT7 {H : Hp} {b e : Int} (h : ¬ (InT b ∧ InT e)) : ZYE H (.int b) (.int e) := by
 by_cases hb : InT b
 ·exact .inr ⟨⟨b, rfl, hb⟩, .inl ⟨e, rfl, fun he => h ⟨hb, he⟩⟩⟩
 ·exact .inl (.inl ⟨b, rfl, hb⟩)
def ZT8 (C : Addr) : Sp := fun vs H _ E => ∃ x y : V, vs = [x, y] ∧ ZYE H x y ∧ E (.ref C) none H
theorem ZLE (T : Txt K mg a) : ZFc P w K mg base (CX1 P w) 3 a.Z9 a.Z8 ["begin", "end"] (ZT8 a.ZA) := by
 refine T.Zb.okx ZI3 (by walk_at "l") (fun cdv A outer s H vs Q E hr h => ?_)
 ·obtain ⟨b, e, rfl, hn, q⟩ := h
  refine ⟨_, QB.h (ZFX (ZF1 (QW.pt (ZHw (ZG5 (ZG4 (qcS (ZHY T) hr T.YX T.Zy.kp T.YV (ZFS (qv 0) ZFT)))) (ZHv (ZG5 (ZG4 (qcS (ZHY T) hr T.YX T.Zy.kp T.YV (ZFS (qv 1) ZFT))))))) (ZFX (ZIE T.ZAC rfl T.ZBU (ZFS ZGB ZFT))) ZFq)), ?_⟩
  walk_at "s"
  walk_at "w"
  rcases hn with hb | ⟨⟨i, rfl, hi⟩, he⟩
  ·refine ⟨_, rfl, .inr ⟨hb, ?_⟩⟩
   walk_at "w"
   refine ZGX ?_
   walk_at "w"
   exact ZGx (by decide) q
  ·refine ⟨_, rfl, .inl ⟨i, rfl, hi, ?_⟩⟩
   walk_at "w"
   refine ZGH ?_
   walk_at "w"
   refine ⟨_, rfl, .inr ⟨he, ?_⟩⟩
   walk_at "w"
   refine ZGX ?_
   walk_at "w"
   exact ZGx (by decide) q
def ZPt (K : W.Frag) : Sp := fun vs H Q _ => ∃ (p : Addr) (b y m k : Int), vs = [.ref p, .int k] ∧ H p = some (.tup [.int b, .int y, .int m]) ∧ 0 ≤ k ∧ k < m ∧ m ≤ 1000 ∧
 ∀ (u : Addr) (H' : Hp), H u = none → H' u = some (.tup [.int (b + k * y), .int (b + k * y + y)]) → ZFY H H' → Q (.ref u) H'
theorem ZGZ : ZFa ["window", "k", "begin", "wide", "many", "first"] ["window", "k"] (ZFW ZJ6) := ZFv
theorem ZJZ (T : Txt K mg a) : ZFc P w K mg base CX0 2 a.Yw a.Yq ["window", "k"] (ZPt K) := by
 refine T.YL.ok ZGZ (by walk_at "l") (fun cdv A outer s H vs Q E hr h => ?_)
 ·obtain ⟨p, b, y, m, n, rfl, hT, h0, h1, h2, k⟩ := h
  refine ⟨_, QB.h (ZFV (ZGv (qv 0) (ZGb (n := 3) K rfl rfl (ZFi (qgN (i := 2) ZGZ.nd) (ZFi (qgN (i := 3) ZGZ.nd) (ZFi (qgN (i := 4) ZGZ.nd) ZGO))))) (ZFV (ZF1 (QW.pt (ZHw (ZG5 (ZG4 (qcS (ZHf T) hr T.Yo T.YJ.kp T.Yp (ZFS (qv 1) ZFT)))) (ZHv (ZG5 (ZIy ZG9 ZHs ZFU (qv 1) (qv 4)))))) (ZFX ZF7) ZFq) (ZFV (qsS (i := 5) ZGZ.nd (ZFb ZF9 (qv 2) (ZFb ZGF (qv 1) (qv 3)))) (ZFX (ZFh (ZFw (ZFS (qv 5) (ZFS (ZFb ZF9 (qv 5) (qv 3)) ZFT)))))))), ?_⟩
  walk_at "s"
  walk_at "w"
  refine ⟨_, rfl, .inl ⟨n, rfl, ?_⟩⟩
  walk_at "w"
  refine ZGH ?_
  walk_at "w"
  refine ZFt (fun _ => ?_) (fun h => absurd h0 h)
  walk_at "w"
  rw [decide_eq_true h1]
  refine ZGH ?_
  walk_at "w"
  exact ZFd (by show 2 ≤ sizeLine; decide) fun u H2 n2 f2 S2 => k u H2 n2 f2 S2
def ZIl (b y : Int) (n : Nat) : PL := (List.range n).map fun (i : Nat) => (b + (i : Int) * y, b + (i : Int) * y + y)
theorem ZIW (b y : Int) (n : Nat) : (ZIl b y n).length = n := by rw [ZIl, List.length_map, List.length_range]
theorem ZQr (b y : Int) (n : Nat) : ZIl b y (n + 1) = ZIl b y n ++ [(b + (n : Int) * y, b + (n : Int) * y + y)] := by rw [ZIl, List.range_succ, List.map_append]; rfl
theorem ZOu {b y : Int} {n i : Nat} {p : Int × Int} (h : (ZIl b y n)[i]? = some p) : p = (b + (i : Int) * y, b + (i : Int) * y + y) := by
 rw [ZIl, List.getElem?_map] at h
 obtain ⟨j, hj, rfl⟩ := Option.map_eq_some_iff.mp h
 rw [List.getElem?_range (by have := (List.getElem?_eq_some_iff.mp hj).1; rwa [List.length_range] at this)] at hj
 rw [← Option.some.inj hj]
def ZR6 (K : W.Frag) : Sp := fun vs H Q _ => ∃ (p : Addr) (b y m : Int), vs = [.ref p] ∧ H p = some (.tup [.int b, .int y, .int m]) ∧ 1 ≤ m ∧ m ≤ 1000 ∧
 ∀ (l : Addr) (us : List V) (H' : Hp), H l = none → H' l = some (.lst us) → ZFe H' us (ZIl b y m.toNat) → ZFY H H' → Q (.ref l) H'
theorem ZNX : ZFa ["window"] ["window"] (ZFW ZHz) := ZFv
theorem ZKI (T : Txt K mg a) : ZFc P w K mg base CX0 3 a.ZAE a.J5 ["window"] (ZR6 K) := by
 refine T.ZAI.ok ZNX (by walk_at "l") (fun cdv A outer s H vs Q E hr h => ?_)
 ·obtain ⟨p, b, y, m, rfl, hT, h1, h2, k⟩ := h
  refine ⟨_, QB.h (ZFX (ZFh (ZHc (N := ["window"]) (sc := ZFW ZHz) (own := ["k"]) (caps := ["window"]) (ks := [0]) rfl rfl rfl ⟨rfl, by decide +kernel, by decide +kernel, by decide +kernel, by decide +kernel, rfl, by decide +kernel⟩ (ZJC rfl T.JH (ZFS (ZFn (ZFp K rfl) (qv 0) ZFU) ZFT)) (fun _ _ _ _ _ => ZGg (i := 0) (show List.Nodup (α := Str) ["k", "window"] from by decide +kernel) rfl (by walk_at "o") (.inr rfl)) (fun _ _ _ _ _ => ZG6) (fun _ _ _ _ _ => qcS (ZJZ T) hr T.Jy T.YL.kp T.Jw (ZFS (qv 1) (ZFS (qv 0) ZFT)))))), ?_⟩
  walk_at "s"
  walk_at "w"
  refine ZMB (by omega) (by omega) ?_
  intro l n1
  refine ZHB m.toNat (fun i σ' H' => (∃ o, σ' = [o, some (.ref p)]) ∧ ZFY H H' ∧ ∃ vs, H' l = some (.lst vs) ∧ ZFe H' vs (ZIl b y i)) ?_ ?_ ?_
  ·exact ⟨⟨none, rfl⟩, ZFY.new n1, [], ZFf, .nil⟩
  ·rintro σ H2 ⟨_, S2, vs, f2, hP⟩
   refine ⟨Nat.le_refl _, ?_⟩
   walk_at "w"
   exact k l vs H2 n1 f2 hP S2
  ·rintro i σ H2 hi ⟨⟨o, rfl⟩, S2, vs, f2, hP⟩
   refine ⟨hi, ?_⟩
   rintro x H'' ⟨rfl, rfl⟩
   walk_at "w"
   refine ZGX ?_
   walk_at "w"
   refine ⟨p, b, y, m, _, rfl, S2 _ _ hT, by omega, by omega, by omega, fun u H3 n3 f3 S3 => ?_⟩
   have e0 : (0 + (i : Int)) = (i : Int) := by omega
   rw [e0] at f3
   refine ⟨vs, S3 _ _ f2, ?_, ⟨_, rfl⟩, (S2.trans S3).kpN n1 Kp.upd, vs ++ [.ref u], ZFf, ?_⟩
   ·rw [hP.length, ZIW]
    exact Nat.lt_of_lt_of_le hi (Nat.le_trans (show m.toNat ≤ 1000 by omega) (by decide))
   ·rw [ZQr]
    exact ZFe.kpL Kp.upd (S3 _ _ f2) ((hP.same S3).snoc (p := (b + (i : Int) * y, b + (i : Int) * y + y)) f3)
end
def tfl (n : Int) (d1 d2 : Addr) : List (Str × V) := [("looks", V.int n), ("samples", V.ref d1), ("kept_fours", V.ref d2)]
theorem sn1 : (("samples" : Str) == "looks") = false := by decide +kernel
theorem sn2 : (("kept_fours" : Str) == "looks") = false := by decide +kernel
theorem sn3 : (("kept_fours" : Str) == "samples") = false := by decide +kernel
theorem ZJJ {n : Int} {d1 d2 : Addr} : (tfl n d1 d2).lookup ("looks" : Str) = some (.int n) := by
 unfold tfl
 rw [List.lookup_cons, beq_self_eq_true]
theorem ZIP {n : Int} {d1 d2 : Addr} : (tfl n d1 d2).lookup ("samples" : Str) = some (.ref d1) := by
 unfold tfl
 rw [List.lookup_cons, sn1, List.lookup_cons, beq_self_eq_true]
theorem ZLu {n : Int} {d1 d2 : Addr} : (tfl n d1 d2).lookup ("kept_fours" : Str) = some (.ref d2) := by
 unfold tfl
 rw [List.lookup_cons, sn2, List.lookup_cons, sn3, List.lookup_cons, beq_self_eq_true]
theorem ZI5 {n : Int} {d1 d2 : Addr} {m : Str} (h1 : (m == ("looks" : Str)) = false := by decide +kernel) (h2 : (m == ("samples" : Str)) = false := by decide +kernel) (h3 : (m == ("kept_fours" : Str)) = false := by decide +kernel) : (tfl n d1 d2).lookup m = none := by
 unfold tfl
 rw [List.lookup_cons, h1, List.lookup_cons, h2, List.lookup_cons, h3]
 rfl
theorem ZWF {n n' : Int} {d1 d2 : Addr} : ZF6 "looks" (.int n') (tfl n d1 d2) = tfl n' d1 d2 := by
 show (if ("looks" : Str) = "looks" then [(("looks" : Str), V.int n')] ++ _ else _) = _
 rw [if_pos rfl]
 rfl
theorem ZWG {d1 d2 : Addr} : ZF6 "kept_fours" (.ref d2) (ZF6 "samples" (.ref d1) (ZF6 "looks" (.int 0) [])) = tfl 0 d1 d2 := by
 have e1 : ¬ ("looks" : Str) = "samples" := by decide +kernel
 have e2 : ¬ ("looks" : Str) = "kept_fours" := by decide +kernel
 have e3 : ¬ ("samples" : Str) = "kept_fours" := by decide +kernel
 show ZF6 "kept_fours" (.ref d2) (ZF6 "samples" (.ref d1) [(("looks" : Str), V.int 0)]) = _
 rw [show ZF6 "samples" (.ref d1) [(("looks" : Str), V.int 0)] = (if ("looks" : Str) = "samples" then [(("looks" : Str), V.ref d1)] else (("looks" : Str), V.int 0) :: ZF6 "samples" (.ref d1) []) from rfl, if_neg e1]
 show (if ("looks" : Str) = "kept_fours" then _ else (("looks" : Str), V.int 0) :: (if ("samples" : Str) = "kept_fours" then _ else (("samples" : Str), V.ref d1) :: ZF6 "kept_fours" (.ref d2) [])) = _
 rw [if_neg e2, if_neg e3]
 rfl
def ZF4 (C : Addr) (H : Hp) (p : Addr) (n : Int) (d1 d2 : Addr) (sm : PL) (c : Nat) : Prop :=
 ∃ dx kvs, H p = some (.ins C dx (tfl n d1 d2)) ∧ H d1 = some (.dK (ZGf sm)) ∧ H d2 = some (.dT kvs) ∧ (sm.map (·.1)).Nodup ∧ ZGl H kvs sm (fun _ _ => True) ∧ kvs.length ≤ 41 * c
theorem ZF4.same {C : Addr} {H H' : Hp} {p d1 d2 : Addr} {n : Int} {sm : PL} {c : Nat} (h : ZF4 C H p n d1 d2 sm c) (s : ZFY H H') : ZF4 C H' p n d1 d2 sm c := by
 obtain ⟨dx, kvs, h1, h2, h3, h4, h5, h6⟩ := h
 exact ⟨dx, kvs, s _ _ h1, s _ _ h2, s _ _ h3, h4, h5.same s, h6⟩
def Fr3 (p d1 d2 : Addr) (H H' : Hp) : Prop := ∀ b o, H b = some o → b ≠ p → b ≠ d1 → b ≠ d2 → H' b = some o
section
variable {P : Program} {w : World} {K : W.Frag} {mg : Str → Option Value} {base : Heap} {a : Ad}
local macro_rules | `(tactic| walk_at "rd") => `(tactic| first
 | with_reducible first | refine ZGw (by assumption) (‹Txt _ _ _›).ZQ (‹Txt _ _ _›).YD ZJJ ?_ | refine ZGw (by assumption) (‹Txt _ _ _›).ZQ (‹Txt _ _ _›).Zm ZIP ?_ | refine ZGw (by assumption) (‹Txt _ _ _›).ZQ (‹Txt _ _ _›).Zh ZLu ?_)
def Tm (t : Int) : Prop := -1099511627776 ≤ t ∧ t < 1099511627776
def ZT9 : Sp := fun vs H Q _ => ∃ t : Int, vs = [.int t] ∧ Tm t ∧ Q .non H
theorem ZNY : ZFa ["t"] ["t"] (ZFW ZI1) := ZFv
theorem ZKJ (T : Txt K mg a) : ZFc P w K mg base CX0 3 a.J9 a.Jz ["t"] ZT9 := by
 refine T.J6.ok ZNY (by walk_at "l") (fun cdv A outer s H vs Q E hr h => ?_)
 ·obtain ⟨t, rfl, ht, q⟩ := h
  unfold Tm at ht
  refine ⟨_, QB.h (ZFX (ZF1 (QW.pt (ZHw (ZG5 (ZG4 (qcS (ZHY T) hr T.YX T.Zy.kp T.YV (ZFS (qv 0) ZFT)))) (ZHv (ZFk (ZGj) (qv 0) (ZGn (v := .int 1099511627776) rfl T.ZAV ⟨_, rfl⟩) (ZFm _))))) (ZFX ZF7) ZFq)), ?_⟩
  walk_at "s"
  walk_at "w"
  refine ⟨_, rfl, .inl ⟨t, rfl, ⟨by omega, by omega⟩, ?_⟩⟩
  walk_at "w"
  refine ZGH ?_
  walk_at "w"
  rw [ZGV]
  refine ZFt (fun h => ?_) (fun h => ?_)
  ·exfalso
   omega
  ·walk_at "w"
   exact q
def ZWH (C : Addr) : Sp := fun vs H Q _ => ∃ (p d1 d2 dx : Addr) (n t : Int) (v : V) (o : Option (PL)) (sm : PL) (kvs : List (List Key × V)) (c : Nat), vs = [.ref p, .int t, v] ∧ H p = some (.ins C dx (tfl n d1 d2)) ∧ H d1 = some (.dK (ZGf sm)) ∧ H d2 = some (.dT kvs) ∧ (sm.map (·.1)).Nodup ∧
 ZGl H kvs sm (fun l s => s ≠ t / 2 ^ l) ∧ kvs.length ≤ 41 * c ∧ c ≤ 1000 ∧ ZGC H v o ∧ Is4 (inS sm 0 t) o ∧ ∀ H', ZF4 C H' p n d1 d2 sm (c + 1) → Kp d2 H H' → Q .non H'
theorem ZHP : ZFa ["self", "t", "four", "s", "level", "halves"] ["self", "t", "four"] (ZFW ZI2) := ZFv
theorem ZKK (T : Txt K mg a) : ZFc P w K mg base CX0 3 a.ZAB a.ZAG ["self", "t", "four"] (ZWH a.ZJ) := by
 refine T.ZDK.ok ZHP (by walk_at "l") (fun cdv A outer s H vs Q E hr h => ?_)
 ·obtain ⟨p, d1, d2, dx, n, t, v, o, sm, kvs, c, rfl, hp, h1, h2, hnd, hkf, hlen, hc, hv, ho, k⟩ := h
  have hu := ZIh hr
  have np2 : p ≠ d2 := fun z => by subst z; rw [hp] at h2; cases h2
  have n12 : d1 ≠ d2 := fun z => by subst z; rw [h1] at h2; cases h2
  refine ⟨_, QB.h (ZFV (ZJh hu (qv 2) (ZGY K rfl (qv 0)) (ZFw (ZFS ZFU (ZFS (qv 1) ZFT)))) (ZFV (qsS (i := 3) ZHP.nd (qv 1)) (ZFX (ZIU PassesOwn.never rfl (ZJC rfl T.JH (ZFS (ZGn (v := .int 40) rfl T.ZDT ⟨_, rfl⟩) ZFT)) (qgN (i := 4) ZHP.nd) (ZFV (qsS (i := 3) ZHP.nd (ZFb ZIs (qv 3) ZFU)) (ZFV (qsS (i := 5) ZHP.nd (ZFw (ZFS (ZJy hu (ZGY K rfl (qv 0)) (ZFw (ZFS (qv 4) (ZFS (ZFb ZGF ZFU (qv 3)) ZFT)))) (ZFS (ZJy hu (ZGY K rfl (qv 0)) (ZFw (ZFS (qv 4) (ZFS (ZFb ZF9 (ZFb ZGF ZFU (qv 3)) ZFU) ZFT)))) ZFT)))) (ZFX (ZJh hu (qcS (ZNH T) hr T.ZDI T.ZB8.kp T.ZC7 (ZFS (ZFn (ZFp K rfl) (qv 5) ZFU) (ZFS (ZFn (ZFp K rfl) (qv 5) ZFU) ZFT))) (ZGY K rfl (qv 0)) (ZFw (ZFS (ZFb ZF9 (qv 4) ZFU) (ZFS (qv 3) ZFT))))))))))), ?_⟩
  walk_at "s"
  walk_at "w"
  refine ZFd (by show 2 ≤ sizeLine; decide) fun b3 H3 n3 f3 S3 => ?_
  walk_at "w"
  refine ZOR (k := kOf 0 t) (S3 _ _ h2) f3 (Nat.lt_of_le_of_lt (show kvs.length ≤ 41000 by omega) (by decide)) fun H4 f4 K4 => ?_
  have K04 : Kp d2 H H4 := (Kp.same S3).trans K4
  have nt : ∀ (l : List (List Key × V)) (xs : List V), HO.dT l ≠ .tup xs := fun l xs z => by cases z
  have e0 : t / 2 ^ 0 = t := by simp
  have hk4 : ZGl H4 (ZG0 kvs (kOf 0 t) v) sm (fun l s => s ≠ t / 2 ^ l ∨ l ≤ 0) := by
   have h := ((hkf.same S3).put (i := 0) (t := t) (hv.same S3) (by rw [e0]; exact ho)).kpX K4 (S3 _ _ h2) (nt _)
   rw [e0] at h
   refine h.mono fun l s hl g => ?_
   rcases g with g | g
   ·exact .inl g
   ·have : l = 0 := by omega
    subst this
    by_cases e : s = t / 2 ^ 0
    ·exact .inr ⟨rfl, e⟩
    ·exact .inl e
  have hl4 : (ZG0 kvs (kOf 0 t) v).length ≤ 41 * c + 1 := Nat.le_trans (ZIM _ _ _) (by omega)
  walk_at "w"
  refine ZMB (by decide) (by decide) (ZPe (fun i σ H' => (∃ v4 v5, σ = [some (.ref p), some (.int t), some v, some (.int (t / 2 ^ i)), v4, v5]) ∧ Kp d2 H H' ∧ ∃ kvs', H' d2 = some (.dT kvs') ∧ ZGl H' kvs' sm (fun l s => s ≠ t / 2 ^ l ∨ l ≤ i) ∧ kvs'.length ≤ 41 * c + 1 + i) ?_ ?_ ?_)
  ·exact ⟨⟨none, none, by rw [e0]; rfl⟩, K04, _, f4, hk4, hl4⟩
  ·rintro i σ H5 hi ⟨⟨v4, v5, rfl⟩, K5, kv5, f5, hk5, hl5⟩
   have hi40 : i < 40 := hi
   have hp5 := K5 _ _ hp np2
   have ez : (0 + (i : Int)) = (i : Int) := by omega
   rw [ez]
   walk_at "w"
   generalize hs : t / 2 ^ i / 2 = s
   have hs1 : t / 2 ^ (i + 1) = s := by rw [ZOh, hs]
   refine ZKY f5 ?_
   walk_at "w"
   refine ZFd (by show 2 ≤ sizeLine; decide) fun b6 H6 n6 f6 S6 => ?_
   refine ZLf (k := kOf i (2 * s)) (S6 _ _ f5) f6 ?_
   have hp6 := S6 _ _ hp5
   have f56 := S6 _ _ f5
   walk_at "w"
   refine ZKY f56 ?_
   walk_at "w"
   refine ZFd (by show 2 ≤ sizeLine; decide) fun b7 H7 n7 f7 S7 => ?_
   refine ZLf (k := kOf i (2 * s + 1)) (S7 _ _ f56) f7 ?_
   have S57 := S6.trans S7
   walk_at "w"
   refine ZFd (by show 2 ≤ sizeLine; decide) fun b8 H8 n8 f8 S8 => ?_
   have S58 := S57.trans S8
   have hk8 := hk5.same S58
   obtain ⟨oa, ha1, ha2⟩ := hk8 i (2 * s) (by omega) (.inr (Nat.le_refl _))
   obtain ⟨ob, hb1, hb2⟩ := hk8 i (2 * s + 1) (by omega) (.inr (Nat.le_refl _))
   walk_at "w"
   refine ⟨_, _, oa, ob, _, _, rfl, ha1, ha2, hb1, hb2, ZX9 (by omega), fun v9 o9 H9 h9 g9 S9 => ?_⟩
   have g9 : Is4 (inS sm (i + 1) s) o9 := g9.congr fun q => ZTp
   have S59 := S58.trans S9
   have hp9 := S59 _ _ hp5
   walk_at "w"
   refine ZFd (by show 2 ≤ sizeLine; decide) fun b10 H10 n10 f10 S10 => ?_
   have S510 := S59.trans S10
   have f510 := S510 _ _ f5
   refine ZOR (k := kOf (i + 1) s) f510 ?_ (Nat.lt_of_le_of_lt (show kv5.length ≤ 42000 by omega) (by decide)) fun H11 f11 K11 => ?_
   ·rw [f10]
    show some (HO.tup [V.int ((i : Int) + 1), V.int s]) = some (HO.tup [V.int ((i + 1 : Nat) : Int), V.int s])
    rw [show ((i + 1 : Nat) : Int) = (i : Int) + 1 by omega]
   walk_at "w"
   refine ⟨⟨some (.int i), some (.ref b8), by rw [hs1]; rfl⟩, (K5.then S510).trans K11, _, f11, ?_, Nat.le_trans (ZIM _ _ _) (by omega)⟩
   have h := ((hk5.same S510).put (i := i + 1) (t := t) (h9.same S10) (by rw [hs1]; exact g9)).kpX K11 f510 (nt _)
   rw [hs1] at h
   refine h.mono fun l s' hl g => ?_
   rcases g with g | g
   ·exact .inl (.inl g)
   ·by_cases e : l = i + 1
    ·by_cases e2 : s' = t / 2 ^ l
     ·exact .inr ⟨e, e2⟩
     ·exact .inl (.inl e2)
    ·exact .inl (.inr (by omega))
  ·rintro σ H5 ⟨⟨v4, v5, rfl⟩, K5, kv5, f5, hk5, hl5⟩
   walk_at "w"
   refine k H5 ⟨dx, kv5, K5 _ _ hp np2, K5 _ _ h1 n12, f5, hnd, hk5.mono fun l s hl _ => .inr hl, ?_⟩ K5
   have : kv5.length ≤ 41 * c + 1 + 40 := hl5
   omega
def ZYF (C : Addr) : Sp := fun vs H Q _ => ∃ (p d1 d2 : Addr) (n t h : Int) (sm : PL) (c : Nat), vs = [.ref p, .int t, .int h] ∧ ZF4 C H p n d1 d2 sm c ∧ Tm t ∧ c ≤ 1000 ∧ sm.length ≤ 1000 ∧
 ∀ H', ZF4 C H' p n d1 d2 (ZGP sm t h) (c + 1) → Fr3 p d1 d2 H H' → Q .non H'
theorem ZPQ : ZFa ["self", "t", "h"] ["self", "t", "h"] (ZFW ZJ7) := ZFv
theorem ZLR (T : Txt K mg a) : ZFc P w K mg base CX0 4 a.ZAn a.ZAr ["self", "t", "h"] (ZYF a.ZJ) := by
 refine T.ZDt.ok ZPQ (by walk_at "l") (fun cdv A outer s H vs Q E hr h => ?_)
 ·obtain ⟨p, d1, d2, n, t, x, sm, c, rfl, ⟨dx, kvs, hp, h1, h2, hnd, hkf, hlen⟩, ht, hc, hsl, k⟩ := h
  have hu := ZIh hr
  have np1 : p ≠ d1 := fun z => by subst z; rw [hp] at h1; cases h1
  have n21 : d2 ≠ d1 := fun z => by subst z; rw [h1] at h2; cases h2
  refine ⟨_, QB.h (ZFV (ZFu (qcS (ZKJ T) hr T.ZBQ T.J6.kp T.ZBI (ZFS (qv 1) ZFT))) (ZFV (ZJh hu (qv 2) (ZGY K rfl (qv 0)) (qv 1)) (ZFX (ZFu (ZGs (qv 0) T.ZQ T.ZBt (ZKK T) hr T.ZBw .nil ZGm (ZFS (qv 1) (ZFS (qcS (ZQp T) hr T.ZD1 T.ZCm.kp T.ZEA (ZFS (ZFw (ZFS (ZFw (ZFS (qv 1) (ZFS (qv 2) ZFT))) ZFT)) ZFT)) ZFT))))))), ?_⟩
  walk_at "s"
  walk_at "w"
  refine ⟨t, rfl, ht, ?_⟩
  walk_at "w"
  refine ZOD h1 (Nat.lt_of_le_of_lt hsl (by decide)) fun H3 f3 K3 => ?_
  have hp3 := K3 _ _ hp np1
  have h23 := K3 _ _ h2 n21
  have hk3 : ZGl H3 kvs (ZGP sm t x) (fun l s => s ≠ t / 2 ^ l) := (ZGl.other hkf fun q hq => by
   rw [ZLk hnd]
   constructor
   ·exact fun z => .inl ⟨hq, z⟩
   ·rintro (z | z)
    ·exact z.2
    ·exact absurd (by rw [z]) hq).kpX K3 h1 (fun xs z => by cases z)
  walk_at "w"
  refine ZGJ hp3 ZI5 ?_
  walk_at "w"
  refine ZFd (by show 2 ≤ sizeLine; decide) fun b4 H4 n4 f4 S4 => ?_
  walk_at "w"
  refine ZFd (by show 1 ≤ sizeLine; decide) fun b5 H5 n5 f5 S5 => ?_
  walk_at "w"
  refine ⟨b5, [(t, x)], rfl, ⟨_, f5, .cons ⟨b4, rfl, S5 _ _ f4⟩ .nil⟩, List.pairwise_singleton _ _, fun v6 o6 H6 h6 g6 S6 => ?_⟩
  have S36 := S4.trans (S5.trans S6)
  walk_at "w"
  refine ⟨p, d1, d2, dx, n, t, v6, o6, ZGP sm t x, kvs, c, rfl, S36 _ _ hp3, S36 _ _ f3, S36 _ _ h23, ZHy hnd, hk3.same S36, hlen, hc, h6, g6.congr fun q => ?_, fun H7 hT7 K7 => ?_⟩
  ·rw [List.mem_singleton, ZHd, ZLk hnd]
   simp only [Int.pow_zero, Int.ediv_one]
   constructor
   ·rintro rfl
    exact ⟨.inr rfl, rfl⟩
   ·rintro ⟨h1 | h1, h2⟩
    ·exact absurd h2 h1.1
    ·exact h1
  ·walk_at "w"
   exact k H7 hT7 fun b o e e1 e2 e3 => K7 _ _ (S36 _ _ (K3 _ _ e e2)) e3
def ZWI (C : Addr) : Sp := fun vs H Q _ => ∃ (p dx : Addr) (x : V) (cv : PL), vs = [.ref p, x] ∧ H p = some (.ins C dx []) ∧ ((x = .non ∧ cv = []) ∨ ∃ t, x = .ref t ∧ PrT H t cv) ∧ (cv.map (·.1)).Nodup ∧ (∀ q ∈ cv, Tm q.1) ∧ cv.length ≤ 100 ∧
 ∀ (d1 d2 : Addr) (sm : PL) (H' : Hp), H d1 = none → H d2 = none → ZF4 C H' p 0 d1 d2 sm cv.length → (∀ q, q ∈ sm ↔ q ∈ cv) → sm.length ≤ cv.length → Kp p H H' → Q .non H'
theorem ZHn : ZFa ["self", "curve", "t", "h"] ["self", "curve"] (ZFW ZGK) := ZFv
theorem ZLv (T : Txt K mg a) : ZFc P w K mg base CX0 5 a.Yn a.Za ["self", "curve"] (ZWI a.ZJ) := by
 refine T.ZCY.ok ZHn (by walk_at "l") (fun cdv A outer s H vs Q E hr h => ?_)
 ·obtain ⟨p, dx, x, cv, rfl, hp, hx, hnd, htm, hlen, k⟩ := h
  refine ⟨_, QB.h (ZFV (ZIV K rfl (qv 0) ZFU) (ZFV (ZIV K rfl (qv 0) ZLa) (ZFV (ZIV K rfl (qv 0) ZTe) (ZFX (ZF1 (ZFk (ZMV) (qv 1) ZHO (ZFm _)) (ZFX (ZIU PassesOwn.never rfl (ZKS K rfl (qv 1)) (ZGb (n := 2) K rfl rfl (ZFi (qgN (i := 2) ZHn.nd) (ZFi (qgN (i := 3) ZHn.nd) ZGO))) (ZFX (ZFu (ZGs (qv 0) T.ZQ T.ZCX (ZLR T) hr T.ZCU .nil ZGm (ZFS (qv 2) (ZFS (qv 3) ZFT))))))) ZFq))))), ?_⟩
  walk_at "s"
  walk_at "w"
  refine ZHq hp T.ZQ T.YD (by show 0 < 1000; decide) fun H1 f1 K1 => ?_
  walk_at "w"
  refine ZOE fun d1 H2 n2 f2 S2 => ?_
  have hp2 := S2 _ _ f1
  have nd1 : d1 ≠ p := fun z => by rw [z, f1] at n2; cases n2
  walk_at "w"
  refine ZHq hp2 T.ZQ T.Zm (by show 1 < 1000; decide) fun H3 f3 K3 => ?_
  have f23 := K3 _ _ f2 nd1
  walk_at "w"
  refine ZTf fun d2 H4 n4 f4 S4 => ?_
  have hp4 := S4 _ _ f3
  have nd2 : d2 ≠ p := fun z => by rw [z, f3] at n4; cases n4
  walk_at "w"
  refine ZHq hp4 T.ZQ T.Zh (by show 2 < 1000; decide) fun H5 f5 K5 => ?_
  have f5 : H5 p = some (.ins a.ZJ dx (tfl 0 d1 d2)) := by rw [f5, ZWG]
  have K05 : Kp p H H5 := (((K1.then S2).trans K3).then S4).trans K5
  have f25 := K5 _ _ (S4 _ _ f23) nd1
  have f45 := K5 _ _ f4 nd2
  have hn1 : H d1 = none := by
   cases e : H d1 with
   | none => rfl
   | some o =>
    have := K1 _ _ e nd1
    rw [n2] at this
    cases this
  have hn2 : H d2 = none := by
   cases e : H d2 with
   | none => rfl
   | some o =>
    have := ((K1.then S2).trans K3) _ _ e nd2
    rw [n4] at this
    cases this
  have hT5 : ZF4 a.ZJ H5 p 0 d1 d2 [] 0 := ⟨dx, [], f5, f25, f45, List.nodup_nil, fun l s hl _ => ⟨none, .non, .inl ⟨rfl, rfl⟩⟩, Nat.le_refl _⟩
  walk_at "w"
  rcases hx with ⟨rfl, rfl⟩ | ⟨t, rfl, hT⟩
  ·refine ZJu (fun h => absurd rfl h) (fun _ => ?_)
   walk_at "w"
   exact k d1 d2 [] H5 hn1 hn2 hT5 (fun q => Iff.rfl) (Nat.le_refl _) K05
  ·refine ZJu (fun _ => ?_) (fun h => by cases h)
   obtain ⟨us, g, hP⟩ := hT
   have ntp : ∀ {b : Addr} {xs : List V}, H b = some (.tup xs) → b ≠ p := fun e z => by rw [z, hp] at e; cases e
   have g5 := K05 _ _ g (ntp g)
   walk_at "w"
   refine ZK2 (xs := us) (fun i σ H' => (∃ v2 v3, σ = [some (.ref p), some (.ref t), v2, v3]) ∧ Kp p H H' ∧ ∃ sm, ZF4 a.ZJ H' p 0 d1 d2 sm i ∧ (∀ q, q ∈ sm ↔ q ∈ cv.take i) ∧ sm.length ≤ i) ?_ ?_ ?_ ?_
   ·exact ⟨⟨_, _, rfl⟩, K05, [], hT5, fun q => by rw [List.take_zero], Nat.le_refl _⟩
   ·rintro i σ H6 _ ⟨_, K6, _⟩
    exact SqT.of (K6 _ _ g (ntp g))
   ·rintro i x σ H6 hx ⟨⟨v2, v3, rfl⟩, K6, sm, hT6, hm6, hl6⟩
    obtain ⟨cc, q, rfl, hq, hc⟩ := hP.at hx
    have hc6 := K6 _ _ hc (ntp hc)
    obtain ⟨dx6, kv6, hp6, h16, h26, hnd6, hkf6, hlen6⟩ := id hT6
    have hi : i < cv.length := (List.getElem?_eq_some_iff.mp hq).1
    walk_at "w"
    refine ZGJ hp6 ZI5 ?_
    walk_at "w"
    refine ⟨p, d1, d2, 0, q.1, q.2, sm, i, rfl, hT6, htm q (List.mem_of_getElem? hq), by omega, by omega, fun H7 hT7 Fr7 => ?_⟩
    walk_at "w"
    refine ⟨⟨_, _, rfl⟩, fun b o e nb => Fr7 _ _ (K6 _ _ e nb) nb (fun z => by rw [z, hn1] at e; cases e) (fun z => by rw [z, hn2] at e; cases e), ZGP sm q.1 q.2, hT7, fun r => ?_, Nat.le_trans (ZOG _ _ _) (by omega)⟩
    rw [ZLk hnd6, List.take_succ, hq, List.mem_append, hm6]
    have hne : ∀ r ∈ cv.take i, r.1 ≠ q.1 := fun r hr e => by
     obtain ⟨j, hj, rfl⟩ := List.getElem_of_mem hr
     rw [List.length_take] at hj
     rw [List.getElem_take] at e
     obtain ⟨z2, y2⟩ := List.getElem?_eq_some_iff.mp hq
     have : (cv.map (·.1))[j]'(by rw [List.length_map]; omega) = (cv.map (·.1))[i]'(by rw [List.length_map]; omega) := by
      rw [List.getElem_map, List.getElem_map, y2]
      exact e
     have := (List.getElem_inj hnd).mp this
     omega
    constructor
    ·rintro (h | h)
     ·exact .inl h.2
     ·exact .inr (by rw [h]; exact List.mem_cons_self)
    ·rintro (h | h)
     ·exact .inl ⟨hne r h, h⟩
     ·exact .inr (by simpa using h)
   ·rintro σ H6 ⟨⟨v2, v3, rfl⟩, K6, sm, hT6, hm6, hl6⟩
    rw [hP.length] at hT6 hm6 hl6
    rw [List.take_length] at hm6
    walk_at "w"
    exact k d1 d2 sm H6 hn1 hn2 hT6 hm6 hl6 K6
end
theorem ZF4.kpX {C : Addr} {H H' : Hp} {p d1 d2 l : Addr} {n : Int} {sm : PL} {c : Nat} {xs : List V} (h : ZF4 C H p n d1 d2 sm c) (k : Kp l H H') (hl : H l = some (.lst xs)) : ZF4 C H' p n d1 d2 sm c := by
 obtain ⟨dx, kvs, h1, h2, h3, h4, h5, h6⟩ := h
 exact ⟨dx, kvs, k _ _ h1 (fun z => by rw [z, hl] at h1; cases h1), k _ _ h2 (fun z => by rw [z, hl] at h2; cases h2), k _ _ h3 (fun z => by rw [z, hl] at h3; cases h3), h4, h5.kpX k hl (fun _ z => by cases z), h6⟩
theorem ZYG {p d1 d2 : Addr} {H H' : Hp} (h : Kp p H H') : Fr3 p d1 d2 H H' := fun b o e e1 _ _ => h b o e e1
theorem ZF4.keepT {C : Addr} {H H' : Hp} {p d1 d2 : Addr} {n : Int} {sm : PL} {c : Nat} (g : ZF4 C H p n d1 d2 sm c) (f : Fr3 p d1 d2 H H') {b : Addr} {xs : List V} (e : H b = some (.tup xs)) : H' b = some (.tup xs) := by
 obtain ⟨dy, kws, g1, g2, g3, _⟩ := g
 exact f _ _ e (fun z => by rw [z, g1] at e; cases e) (fun z => by rw [z, g2] at e; cases e) (fun z => by rw [z, g3] at e; cases e)
theorem ZF4.keepL {C : Addr} {H H' : Hp} {p d1 d2 : Addr} {n : Int} {sm : PL} {c : Nat} (g : ZF4 C H p n d1 d2 sm c) (f : Fr3 p d1 d2 H H') {b : Addr} {xs : List V} (e : H b = some (.lst xs)) : H' b = some (.lst xs) := by
 obtain ⟨dy, kws, g1, g2, g3, _⟩ := g
 exact f _ _ e (fun z => by rw [z, g1] at e; cases e) (fun z => by rw [z, g2] at e; cases e) (fun z => by rw [z, g3] at e; cases e)
theorem ZF4.nd {C : Addr} {H : Hp} {p d1 d2 : Addr} {n : Int} {sm : PL} {c : Nat} (g : ZF4 C H p n d1 d2 sm c) : (sm.map (·.1)).Nodup := by
 obtain ⟨dy, kws, g1, g2, g3, g4, _⟩ := g
 exact g4
section
variable {P : Program} {w : World} {K : W.Frag} {mg : Str → Option Value} {base : Heap} {a : Ad}
local macro_rules | `(tactic| walk_at "rd") => `(tactic| first
 | with_reducible first | refine ZGw (by assumption) (‹Txt _ _ _›).ZQ (‹Txt _ _ _›).YD ZJJ ?_ | refine ZGw (by assumption) (‹Txt _ _ _›).ZQ (‹Txt _ _ _›).Zm ZIP ?_ | refine ZGw (by assumption) (‹Txt _ _ _›).ZQ (‹Txt _ _ _›).Zh ZLu ?_)
def ZWJ (C : Addr) : Sp := fun vs H Q _ => ∃ (p d1 d2 : Addr) (n b e : Int) (sm : PL) (c : Nat), vs = [.ref p, .int b, .int e] ∧ ZF4 C H p n d1 d2 sm c ∧ InT b ∧ InT e ∧
 ∀ (v : V) (o : Option (PL)) (prs : PL) (H' : Hp), ZGC H' v o → Is4 (inCol sm b e) o → Ch e b prs (ZKs b e) → ZF4 C H' p (n + prs.length) d1 d2 sm c → Kp p H H' → Q v H'
theorem Ch.cut {e : Int} : ∀ {prs : PL} {x y : Int}, Ch e x prs y → ∀ {i : Nat} {q : Int × Int}, prs[i]? = some q → ∃ z, Ch e x (prs.take i) z ∧ (0 ≤ q.1 ∧ q.1 ≤ 40) ∧ q.2 * 2 ^ q.1.toNat = z ∧ Ch e x (prs.take (i + 1)) (z + 2 ^ q.1.toNat)
 | [], _, _, _, i, q, h => by simp at h
 | p :: r, x, y, hc, 0, q, h => by
  have : p = q := by simpa using h
  subst this
  obtain ⟨h1, h2, h3, h4, h5⟩ := hc
  exact ⟨x, rfl, h1, h2, h1, h2, h3, h4, rfl⟩
 | p :: r, x, y, hc, i + 1, q, h => by
  obtain ⟨h1, h2, h3, h4, h5⟩ := hc
  obtain ⟨z, g1, g2, g3, g4⟩ := Ch.cut h5 (i := i) (q := q) (by simpa using h)
  exact ⟨z, ⟨h1, h2, h3, h4, g1⟩, g2, g3, h1, h2, h3, h4, g4⟩
theorem Ch.fun {e : Int} : ∀ {prs : PL} {x y z : Int}, Ch e x prs y → Ch e x prs z → y = z
 | [], _, _, _, h, g => h.symm.trans g
 | p :: r, x, y, z, h, g => Ch.fun h.2.2.2.2 g.2.2.2.2
theorem ZHZ : ZFa ["self", "begin", "end", "four", "parts", "stretch"] ["self", "begin", "end"] (ZFW ZJX) := ZFv
theorem ZOv (T : Txt K mg a) : ZFc P w K mg base CX0 5 a.ZAZ a.ZAY ["self", "begin", "end"] (ZWJ a.ZJ) := by
 refine T.ZDW.ok ZHZ (by walk_at "l") (fun cdv A outer s H vs Q E hr h => ?_)
 ·obtain ⟨p, d1, d2, n, b, e, sm, c, rfl, hTr, hb, he, k⟩ := h
  have hu := ZIh hr
  obtain ⟨dx, kvs, hp, h1, h2, hnd, hkf, hlen⟩ := id hTr
  refine ⟨_, QB.h (ZFV (qsS (i := 3) ZHZ.nd ZHO) (ZFV (qsS (i := 4) ZHZ.nd (qcS (ZOt T) hr T.ZDO T.ZB1.kp T.ZDZ (ZFS (qv 1) (ZFS (qv 2) ZFT)))) (ZFV (ZIU PassesOwn.never rfl (ZKS K rfl (qv 4)) (qgN (i := 5) ZHZ.nd) (ZFX (qsS (i := 3) ZHZ.nd (qcS (ZNH T) hr.m T.ZDI T.ZB8.kp T.ZC7 (ZFS (qv 3) (ZFS (ZJy hu (ZGY K rfl (qv 0)) (qv 5)) ZFT)))))) (ZFV (ZRb K rfl (qv 0) (ZFr (ZIz K rfl) rfl T.JI ZIT (ZFS (qv 4) ZFT))) (ZFX (ZFh (qv 3))))))), ?_⟩
  walk_at "s"
  walk_at "w"
  refine ⟨b, e, rfl, hb, he, fun t prs H1 hT1 hch hpl S1 => ?_⟩
  obtain ⟨us, g1, hP1⟩ := hT1
  have hp1 := S1 _ _ hp
  walk_at "w"
  refine ZK2 (xs := us) (fun i σ H' => (∃ v v5, σ = [some (.ref p), some (.int b), some (.int e), some v, some (.ref t), v5] ∧ ∃ o z, ZGC H' v o ∧ Ch e b (prs.take i) z ∧ Is4 (inCol sm b z) o) ∧ ZFY H1 H') ?_ ?_ ?_ ?_
  ·refine ⟨⟨_, _, rfl, none, b, .non, rfl, .inl ⟨rfl, ?_⟩⟩, ZFY.refl _⟩
   cases e0 : inCol sm b b with
   | nil => rfl
   | cons q qs =>
    have := (ZGD.mp (show q ∈ inCol sm b b by rw [e0]; exact List.mem_cons_self)).2
    omega
  ·rintro i σ H' _ ⟨_, S'⟩
   exact SqT.of (S' _ _ g1)
  ·rintro i x σ H2 hx ⟨⟨v, v5, rfl, o, z, hv, hz, ho⟩, S2⟩
   obtain ⟨cc, q, rfl, hq, hc⟩ := (hP1.same S2).at hx
   obtain ⟨z', hz', hq1, hq2, hz2⟩ := Ch.cut hch hq
   obtain rfl := Ch.fun hz hz'
   have S02 := S1.trans S2
   obtain ⟨l, hl⟩ : ∃ l : Nat, q.1 = (l : Int) := ⟨q.1.toNat, by omega⟩
   have hln : q.1.toNat = l := by omega
   rw [hln] at hq2 hz2
   have hp2 := S02 _ _ hp
   have h22 := S02 _ _ h2
   obtain ⟨o2, hf2, hi2⟩ := (hkf.same S02) l q.2 (by omega) trivial
   have e4 : inS sm l q.2 = inCol sm z (z + 2 ^ l) := by unfold inS; rw [hq2]
   rw [e4] at hi2
   walk_at "w"
   refine ZKY h22 ?_
   walk_at "w"
   refine ZLf (k := kOf l q.2) h22 (by rw [hc, hl]; rfl) ?_
   refine ⟨v, _, o, o2, _, _, rfl, hv, ho, hf2, hi2, ZTq, fun v3 o3 H3 h3 g3 S3 => ?_⟩
   walk_at "w"
   refine ⟨⟨_, _, rfl, o3, z + 2 ^ l, h3, hz2, g3.congr fun r => ZQe hz.le (by have := ZHE l; omega) r⟩, S2.trans S3⟩
  ·rintro σ H2 ⟨⟨v, v5, rfl, o, z, hv, hz, ho⟩, S2⟩
   rw [hP1.length, List.take_length] at hz
   obtain rfl := Ch.fun hz hch
   have S02 := S1.trans S2
   have hp2 := S02 _ _ hp
   have g2 := S2 _ _ g1
   have hul : us.length = prs.length := hP1.length
   walk_at "w"
   refine ZQZ hp2 T.ZQ T.YD ZJJ ?_
   walk_at "w"
   refine ⟨n, _, rfl, rfl, dx, _, hp2, by show 3 < 1000; decide, ?_⟩
   rw [ZWF]
   have f3 : (upd H2 p (.ins a.ZJ dx (tfl (n + (us.length : Int)) d1 d2))) p = some (.ins a.ZJ dx (tfl (n + (us.length : Int)) d1 d2)) := ZFf
   have K3 : Kp p H2 (upd H2 p (.ins a.ZJ dx (tfl (n + (us.length : Int)) d1 d2))) := Kp.upd
   generalize upd H2 p (.ins a.ZJ dx (tfl (n + (us.length : Int)) d1 d2)) = H3 at f3 K3
   have ntp : ∀ (xs : List V), HO.ins a.ZJ dx (tfl n d1 d2) ≠ .tup xs := fun xs z => by cases z
   walk_at "w"
   refine k v o prs H3 (hv.kpX K3 hp2 ntp) (ho.congr fun r => ?_) hch ⟨dx, kvs, by rw [← hul]; exact f3, K3 _ _ (S02 _ _ h1) (fun z => by rw [z, hp] at h1; cases h1), K3 _ _ (S02 _ _ h2) (fun z => by rw [z, hp] at h2; cases h2), hnd, (hkf.same S02).kpX K3 hp2 ntp, hlen⟩ ((Kp.same S02).trans K3)
   rw [ZGD, ZGD]
   unfold ZKs
   split
   ·exact Iff.rfl
   ·constructor
    ·rintro ⟨_, g1, g2⟩
     omega
    ·rintro ⟨_, g1, g2⟩
     omega
end
section
variable {P : Program} {w : World} {K : W.Frag} {mg : Str → Option Value} {base : Heap} {a : Ad}
local macro_rules | `(tactic| walk_at "rd") => `(tactic| first
 | with_reducible first | refine ZGw (by assumption) (‹Txt _ _ _›).ZQ (‹Txt _ _ _›).YD ZJJ ?_ | refine ZGw (by assumption) (‹Txt _ _ _›).ZQ (‹Txt _ _ _›).Zm ZIP ?_ | refine ZGw (by assumption) (‹Txt _ _ _›).ZQ (‹Txt _ _ _›).Zh ZLu ?_)
def ZUA : Sp := fun vs H Q _ => ∃ (p : Addr) (b y m : Int), vs = [.ref p] ∧ H p = some (.tup [.int b, .int y, .int m]) ∧ 0 ≤ m ∧ m ≤ 1000 ∧ InT b ∧ InT (b + m * y) ∧ Q .non H
theorem ZGR : ZFa ["window", "begin", "wide", "many"] ["window"] (ZFW ZIG) := ZFv
theorem ZH6 (T : Txt K mg a) : ZFc P w K mg base CX0 4 a.YM a.YK ["window"] ZUA := by
 refine T.ZT.ok ZGR (by walk_at "l") (fun cdv A outer s H vs Q E hr h => ?_)
 ·obtain ⟨p, b, y, m, rfl, hp, h0, h1, hb, he, q⟩ := h
  refine ⟨_, QB.h (ZFV (ZGv (qv 0) (ZGb (n := 3) K rfl rfl (ZFi (qgN (i := 1) ZGR.nd) (ZFi (qgN (i := 2) ZGR.nd) (ZFi (qgN (i := 3) ZGR.nd) ZGO))))) (ZFX (ZFu (qcS (ZI4 T) hr T.Yl T.Zb.kp T.Yr (ZFS (qv 1) (ZFS (ZFb ZF9 (qv 1) (ZFb ZGF (qv 3) (qv 2))) ZFT)))))), ?_⟩
  walk_at "s"
  walk_at "w"
  refine ⟨b, b + m * y, rfl, hb, he, ?_⟩
  walk_at "w"
  exact q
def ZIH (H : Hp) (q : Addr) (b y m : Int) : Prop := H q = some (.tup [.int b, .int y, .int m]) ∧ 0 < y ∧ 1 ≤ m ∧ m ≤ 100 ∧ InT b ∧ InT (b + m * y)
theorem ZIH.col {H : Hp} {q : Addr} {b y m : Int} (h : ZIH H q b y m) {k : Int} (h0 : 0 ≤ k) (h1 : k < m) : InT (b + k * y) ∧ InT (b + k * y + y) := by
 obtain ⟨_, hy, _, _, hb, he⟩ := h
 have g1 : 0 ≤ k * y := Int.mul_nonneg h0 (by omega)
 have g2 : (k + 1) * y ≤ m * y := Int.mul_le_mul_of_nonneg_right (by omega) (by omega)
 rw [Int.add_mul, Int.one_mul] at g2
 unfold InT at *
 constructor <;> constructor <;> omega
def ZUB (C : Addr) : Sp := fun vs H Q _ => ∃ (p q d1 d2 : Addr) (n b y m : Int) (sm : PL) (c : Nat), vs = [.ref p, .ref q] ∧ ZF4 C H p n d1 d2 sm c ∧ ZIH H q b y m ∧
 ∀ (u : Addr) (us : List V) (fs : List (Option (PL))) (n' : Int) (H' : Hp), H' u = some (.tup us) → ZGQ H' us fs → ZOf sm b y m.toNat fs → ZF4 C H' p n' d1 d2 sm c → Kp p H H' → Q (.ref u) H'
theorem ZNZ : ZFa ["self", "window"] ["self", "window"] (ZFW ZH1) := ZFv
theorem ZNa (T : Txt K mg a) : ZFc P w K mg base CX0 6 a.ZAD a.ZAH ["self", "window"] (ZUB a.ZJ) := by
 refine T.ZDA.ok ZNZ (by walk_at "l") (fun cdv A outer s H vs Q E hr h => ?_)
 ·obtain ⟨p, q, d1, d2, n, b, y, m, sm, c, rfl, hTr, hW, k⟩ := h
  obtain ⟨hq, hy, hm1, hm2, hb, he⟩ := id hW
  refine ⟨_, QB.h (ZFV (ZFu (qcS (ZH6 T) hr.m T.Zq T.ZT.kp T.Zn (ZFS (qv 1) ZFT))) (ZFX (ZFh (ZHx (ZI0 K rfl) rfl T.JG ZIu (ZFS (ZHc (N := ["self", "window"]) (sc := ZFW ZH1) (own := ["first", "behind"]) (caps := ["self"]) (ks := [0]) rfl rfl rfl ⟨rfl, by decide +kernel, by decide +kernel, by decide +kernel, by decide +kernel, rfl, by decide +kernel⟩ (ZJg K rfl (qcS (ZKI T) hr.m T.ZBC T.ZAI.kp T.ZBj (ZFS (qv 1) ZFT))) (fun _ _ _ _ _ => ZGb (n := 2) K rfl rfl (ZFi (ZGg (i := 0) (show List.Nodup (α := Str) ["first", "behind", "self"] from by decide +kernel) rfl (by walk_at "o") (.inr rfl)) (ZFi (ZGg (i := 1) (show List.Nodup (α := Str) ["first", "behind", "self"] from by decide +kernel) rfl (by walk_at "o") (.inr rfl)) ZGO))) (fun _ _ _ _ _ => ZG6) (fun _ _ _ _ _ => ZGs (qv 2) T.ZQ T.ZDX (ZOv T) hr T.ZDP .nil ZGm (ZFS (qv 0) (ZFS (qv 1) ZFT)))) ZFT))))), ?_⟩
  walk_at "s"
  walk_at "w"
  refine ⟨q, b, y, m, rfl, hq, by omega, by omega, hb, he, ?_⟩
  walk_at "w"
  refine ⟨q, b, y, m, rfl, hq, hm1, by omega, fun l0 us0 H1 n1 f1 hP1 S1 => ?_⟩
  have hT1 := hTr.same S1
  have np1 : ∀ {b : Addr} {xs : List V}, H1 b = some (.tup xs) → b ≠ p := fun e z => by
   obtain ⟨dy, kws, g1, _⟩ := hT1
   rw [z, g1] at e; cases e
  have nl1 : l0 ≠ p := fun z => by
   obtain ⟨dy, kws, g1, _⟩ := hT1
   rw [z, g1] at f1; cases f1
  walk_at "w"
  intro l n2
  have nlp : l ≠ p := fun z => by
   obtain ⟨dy, kws, g1, _⟩ := hT1
   rw [z, g1] at n2; cases n2
  refine ZHB m.toNat (fun i σ' H' => (∃ o1 o2, σ' = [o1, o2, some (.ref p)]) ∧ Kp p H1 H' ∧ (∃ n', ZF4 a.ZJ H' p n' d1 d2 sm c) ∧ ∃ vs fs, H' l = some (.lst vs) ∧ ZGQ H' vs fs ∧ fs.length = i ∧ ∀ (k : Nat) o, fs[k]? = some o → Is4 (inCol sm (b + (k : Int) * y) (b + (k : Int) * y + y)) o) ?_ ?_ ?_
  ·exact ⟨⟨none, none, rfl⟩, Kp.same (ZFY.new n2), ⟨n, hT1.same (ZFY.new n2)⟩, [], [], ZFf, .nil, rfl, fun k o h => by simp at h⟩
  ·rintro σ' H2 ⟨_, K2, ⟨n', hT2⟩, vs, fs, f2, hF2, hfl, hO2⟩
   refine ⟨⟨_, SqL.of (K2 _ _ f1 nl1), by rw [hP1.length, ZIW]; exact Nat.le_refl _⟩, ?_⟩
   walk_at "w"
   refine ZJe (SqL.of f2) fun u H3 n3 f3 S3 => ?_
   exact k u vs fs n' H3 f3 (hF2.same S3) ⟨hfl, hO2⟩ (hT2.same S3) (((Kp.same S1).trans K2).then S3)
  ·rintro i σ' H2 hi ⟨⟨o1, o2, rfl⟩, K2, ⟨n', hT2⟩, vs, fs, f2, hF2, hfl, hO2⟩
   have hi2 : i < us0.length := by rw [hP1.length, ZIW]; exact hi
   have f12 := K2 _ _ f1 nl1
   refine ⟨⟨_, _, SqL.of f12, List.getElem?_eq_getElem hi2⟩, ?_⟩
   rintro x H'' ⟨rfl, hx⟩
   have hx := hx _ (SqL.of f12)
   obtain ⟨u, pr, rfl, hpr, f3⟩ := hP1.at hx
   have hpr := ZOu hpr
   subst hpr
   have f32 := K2 _ _ f3 (np1 f3)
   obtain ⟨w1, w2⟩ := hW.col (k := (i : Int)) (by omega) (by omega)
   obtain ⟨dx, kvs, hp2, _⟩ := id hT2
   walk_at "w"
   refine ZGX ?_
   walk_at "w"
   refine ZGJ hp2 ZI5 ?_
   walk_at "w"
   refine ⟨p, d1, d2, n', _, _, sm, c, rfl, hT2, w1, w2, fun v o3 prs H3 h3 g3 _ hT3 K3 => ?_⟩
   have fl3 := K3 _ _ f2 nlp
   have hF3 : ZGQ H3 vs fs := hF2.mapP fun _ _ d => d.kpX K3 hp2 (fun _ z => by cases z)
   refine ⟨vs, fl3, ?_, ⟨_, _, rfl⟩, ?_, ⟨_, hT3.kpX Kp.upd fl3⟩, vs ++ [v], fs ++ [o3], ZFf, (hF3.snoc h3).mapP fun _ _ d => d.kpL Kp.upd fl3, by simp [hfl], ?_⟩
   ·rw [hF2.len, hfl]
    exact Nat.lt_of_lt_of_le (show i < 100 by omega) (by decide)
   ·intro b' o' e nb
    rw [ZFg (fun z => by rw [z, n2] at e; cases e)]
    exact (K2.trans K3) b' o' e nb
   ·intro k' o' h'
    rw [List.getElem?_append] at h'
    split at h'
    ·exact hO2 k' o' h'
    ·have : k' = i := by
      have := (List.getElem?_eq_some_iff.mp h').1
      simp at this
      omega
     subst this
     rw [hfl, Nat.sub_self] at h'
     have : o3 = o' := by simpa using h'
     subst this
     exact g3
end
def sfl (tr dd dn wt : Addr) : List (Str × V) := [("tree", V.ref tr), ("deeds", V.ref dd), ("done", V.ref dn), ("watches", V.ref wt)]
section
variable {tr dd dn wt : Addr}
theorem sg1 : (("deeds" : Str) == "tree") = false := by decide +kernel
theorem sg2 : (("done" : Str) == "tree") = false := by decide +kernel
theorem sg3 : (("done" : Str) == "deeds") = false := by decide +kernel
theorem sg4 : (("watches" : Str) == "tree") = false := by decide +kernel
theorem sg5 : (("watches" : Str) == "deeds") = false := by decide +kernel
theorem sg6 : (("watches" : Str) == "done") = false := by decide +kernel
theorem ZUC : (sfl tr dd dn wt).lookup ("tree" : Str) = some (.ref tr) := by
 unfold sfl
 rw [List.lookup_cons, beq_self_eq_true]
theorem ZR7 : (sfl tr dd dn wt).lookup ("deeds" : Str) = some (.ref dd) := by
 unfold sfl
 rw [List.lookup_cons, sg1, List.lookup_cons, beq_self_eq_true]
theorem ZUD : (sfl tr dd dn wt).lookup ("done" : Str) = some (.ref dn) := by
 unfold sfl
 rw [List.lookup_cons, sg2, List.lookup_cons, sg3, List.lookup_cons, beq_self_eq_true]
theorem ZPR : (sfl tr dd dn wt).lookup ("watches" : Str) = some (.ref wt) := by
 unfold sfl
 rw [List.lookup_cons, sg4, List.lookup_cons, sg5, List.lookup_cons, sg6, List.lookup_cons, beq_self_eq_true]
theorem ZKt {m : Str} (h1 : (m == ("tree" : Str)) = false := by decide +kernel) (h2 : (m == ("deeds" : Str)) = false := by decide +kernel) (h3 : (m == ("done" : Str)) = false := by decide +kernel) (h4 : (m == ("watches" : Str)) = false := by decide +kernel) : (sfl tr dd dn wt).lookup m = none := by
 unfold sfl
 rw [List.lookup_cons, h1, List.lookup_cons, h2, List.lookup_cons, h3, List.lookup_cons, h4]
 rfl
theorem ZWK : ZF6 "watches" (.ref wt) (ZF6 "done" (.ref dn) (ZF6 "deeds" (.ref dd) (ZF6 "tree" (.ref tr) []))) = sfl tr dd dn wt := by
 have e1 : ¬ ("tree" : Str) = "deeds" := by decide +kernel
 have e2 : ¬ ("tree" : Str) = "done" := by decide +kernel
 have e3 : ¬ ("deeds" : Str) = "done" := by decide +kernel
 have e4 : ¬ ("tree" : Str) = "watches" := by decide +kernel
 have e5 : ¬ ("deeds" : Str) = "watches" := by decide +kernel
 have e6 : ¬ ("done" : Str) = "watches" := by decide +kernel
 show ZF6 "watches" (.ref wt) (ZF6 "done" (.ref dn) (ZF6 "deeds" (.ref dd) [(("tree" : Str), V.ref tr)])) = _
 rw [show ZF6 "deeds" (.ref dd) [(("tree" : Str), V.ref tr)] = (if ("tree" : Str) = "deeds" then _ else (("tree" : Str), V.ref tr) :: ZF6 "deeds" (.ref dd) []) from rfl, if_neg e1]
 rw [show ZF6 "done" (.ref dn) ((("tree" : Str), V.ref tr) :: ZF6 "deeds" (.ref dd) []) = (if ("tree" : Str) = "done" then _ else (("tree" : Str), V.ref tr) :: (if ("deeds" : Str) = "done" then _ else (("deeds" : Str), V.ref dd) :: ZF6 "done" (.ref dn) [])) from rfl, if_neg e2, if_neg e3]
 show (if ("tree" : Str) = "watches" then _ else (("tree" : Str), V.ref tr) :: (if ("deeds" : Str) = "watches" then _ else (("deeds" : Str), V.ref dd) :: (if ("done" : Str) = "watches" then _ else (("done" : Str), V.ref dn) :: ZF6 "watches" (.ref wt) []))) = _
 rw [if_neg e4, if_neg e5, if_neg e6]
 rfl
theorem ZYH {n : Int} {d1 d2 : Addr} : sfl tr dd dn wt ≠ tfl n d1 d2 := fun h => by
 have := congrArg List.length h
 simp [sfl, tfl] at this
end
structure SA where
 p : Addr
 tr : Addr
 d1 : Addr
 d2 : Addr
 dd : Addr
 dn : Addr
 wt : Addr
def SA.ls (S : SA) : List Addr := [S.dd, S.dn, S.wt]
def SA.own (S : SA) : List Addr := [S.tr, S.d1, S.d2, S.dd, S.dn, S.wt]
def ZKu : Option Int → V
 | none => .non
 | some i => .int i
theorem ZUE (o : Option Int) : (o.map V.int).getD .non = ZKu o := by cases o <;> rfl
def ZHH (H : Hp) (vs : List V) (ds : List (Int × Option Int)) : Prop := Paired (fun v (q : Int × Option Int) => ∃ b, v = .ref b ∧ H b = some (.tup [.int q.1, ZKu q.2])) vs ds
theorem ZHH.tups {H H' : Hp} {vs : List V} {ds : List (Int × Option Int)} (h : ZHH H vs ds) (t : ∀ b xs, H b = some (.tup xs) → H' b = some (.tup xs)) : ZHH H' vs ds := Paired.mapP h fun _ _ ⟨b, e, z⟩ => ⟨b, e, t _ _ z⟩
theorem ZHH.snoc {H : Hp} : ∀ {vs : List V} {ds : List (Int × Option Int)}, ZHH H vs ds → ∀ {b : Addr} {q : Int × Option Int}, H b = some (.tup [.int q.1, ZKu q.2]) → ZHH H (vs ++ [.ref b]) (ds ++ [q])
 | _, _, .nil, _, _, e => .cons ⟨_, rfl, e⟩ .nil
 | _, _, .cons h t, _, _, e => .cons h (ZHH.snoc t e)
theorem ZHH.len {H : Hp} {vs : List V} {ds : List (Int × Option Int)} (h : ZHH H vs ds) : vs.length = ds.length := Paired.length h
def ZFs (a : Ad) (H : Hp) (S : SA) (n : Int) (sm : PL) (c : Nat) (ds : List (Int × Option Int)) (ts : List Int) (ws : List V) : Prop :=
 ∃ dx vs, H S.p = some (.ins a.ZG dx (sfl S.tr S.dd S.dn S.wt)) ∧ ZF4 a.ZJ H S.tr n S.d1 S.d2 sm c ∧ H S.dd = some (.lst vs) ∧ ZHH H vs ds ∧ H S.dn = some (.lst (ts.map V.int)) ∧ H S.wt = some (.lst ws) ∧ S.dd ≠ S.dn ∧ S.dd ≠ S.wt ∧ S.dn ≠ S.wt
def FrS (S : SA) (H H' : Hp) : Prop := ∀ b o, H b = some o → b ∉ S.own → H' b = some o
theorem FrS.trans {S : SA} {H H1 H2 : Hp} (h : FrS S H H1) (g : FrS S H1 H2) : FrS S H H2 := fun b o e n => g b o (h b o e n) n
theorem FrS.same {S : SA} {H H' : Hp} (h : ZFY H H') : FrS S H H' := fun b o e _ => h b o e
theorem FrS.kp {S : SA} {H H' : Hp} {q : Addr} (h : Kp q H H') (m : q ∈ S.own) : FrS S H H' := fun b o e n => h b o e fun z => n (z ▸ m)
theorem FrS.fr3 {S : SA} {H H' : Hp} (h : Fr3 S.tr S.d1 S.d2 H H') : FrS S H H' := fun b o e n => h b o e (fun z => n (by simp [SA.own, z])) (fun z => n (by simp [SA.own, z])) (fun z => n (by simp [SA.own, z]))
section
variable {a : Ad} {H H' : Hp} {S : SA} {n : Int} {sm : PL} {c : Nat} {ds : List (Int × Option Int)} {ts : List Int} {ws : List V}
theorem ZFs.tree (h : ZFs a H S n sm c ds ts ws) : ZF4 a.ZJ H S.tr n S.d1 S.d2 sm c := let ⟨_, _, _, h, _⟩ := h; h
theorem ZFs.nd (h : ZFs a H S n sm c ds ts ws) : (sm.map (·.1)).Nodup := h.tree.nd
theorem ZFs.same (h : ZFs a H S n sm c ds ts ws) (s : ZFY H H') : ZFs a H' S n sm c ds ts ws := by
 obtain ⟨dx, vs, h1, h2, h3, h4, h5, h6, h7⟩ := h
 exact ⟨dx, vs, s _ _ h1, h2.same s, s _ _ h3, h4.tups fun b xs e => s _ _ e, s _ _ h5, s _ _ h6, h7⟩
theorem ZFs.nown (h : ZFs a H S n sm c ds ts ws) {b : Addr} {o : HO} (e : H b = some o) (h1 : ∀ C dx fs, o ≠ .ins C dx fs) (h2 : (∃ m, o = .dK m) → b ≠ S.d1) (h3 : ∀ m, o ≠ .dT m) (h4 : (∃ m, o = .lst m) → b ∉ S.ls) : b ∉ S.own := by
 obtain ⟨dx, vs, g1, ⟨dy, kvs, t1, t2, t3, _⟩, g3, g4, g5, g6, _⟩ := h
 intro z
 simp only [SA.own, List.mem_cons, List.not_mem_nil, or_false] at z
 rcases z with z | z | z | z | z | z
 ·rw [z, t1] at e; exact h1 _ _ _ (Option.some.inj e).symm
 ·exact h2 ⟨_, (by rw [z, t2] at e; exact (Option.some.inj e).symm)⟩ z
 ·rw [z, t3] at e; exact h3 _ (Option.some.inj e).symm
 ·exact h4 ⟨_, (by rw [z, g3] at e; exact (Option.some.inj e).symm)⟩ (by simp [SA.ls, z])
 ·exact h4 ⟨_, (by rw [z, g5] at e; exact (Option.some.inj e).symm)⟩ (by simp [SA.ls, z])
 ·exact h4 ⟨_, (by rw [z, g6] at e; exact (Option.some.inj e).symm)⟩ (by simp [SA.ls, z])
theorem ZFs.fr3 (h : ZFs a H S n sm c ds ts ws) {n' : Int} {sm' : PL} {c' : Nat} (f : Fr3 S.tr S.d1 S.d2 H H') (t : ZF4 a.ZJ H' S.tr n' S.d1 S.d2 sm' c') : ZFs a H' S n' sm' c' ds ts ws := by
 obtain ⟨dx, vs, h1, h2, h3, h4, h5, h6, h7⟩ := h
 refine ⟨dx, vs, ?_, t, h2.keepL f h3, h4.tups (fun b xs e => h2.keepT f e), h2.keepL f h5, h2.keepL f h6, h7⟩
 obtain ⟨dy, kvs, t1, t2, t3, _⟩ := h2
 exact f _ _ h1 (fun z => by rw [z, t1] at h1; injection h1 with h1; injection h1 with _ _ h3; exact ZYH h3.symm) (fun z => by rw [z, t2] at h1; cases h1) (fun z => by rw [z, t3] at h1; cases h1)
theorem ZFs.kpDone (h : ZFs a H S n sm c ds ts ws) {ts' : List Int} (k : Kp S.dn H H') (f : H' S.dn = some (.lst (ts'.map V.int))) : ZFs a H' S n sm c ds ts' ws := by
 obtain ⟨dx, vs, h1, h2, h3, h4, h5, h6, h7, h8, h9⟩ := h
 exact ⟨dx, vs, k _ _ h1 (fun z => by rw [z, h5] at h1; cases h1), h2.kpX k h5, k _ _ h3 h7, h4.tups (fun b xs e => k _ _ e (fun z => by rw [z, h5] at e; cases e)), f, k _ _ h6 (Ne.symm h9), h7, h8, h9⟩
theorem ZFs.kpDeeds (h : ZFs a H S n sm c ds ts ws) {ds' : List (Int × Option Int)} {vs' : List V} (k : Kp S.dd H H') (f : H' S.dd = some (.lst vs')) (g : ZHH H' vs' ds') : ZFs a H' S n sm c ds' ts ws := by
 obtain ⟨dx, vs, h1, h2, h3, h4, h5, h6, h7, h8, h9⟩ := h
 exact ⟨dx, vs', k _ _ h1 (fun z => by rw [z, h3] at h1; cases h1), h2.kpX k h3, f, g, k _ _ h5 (Ne.symm h7), k _ _ h6 (Ne.symm h8), h7, h8, h9⟩
end
def ZML (m : PL) (t : Int) : Option Int → PL
 | none => ZHi m t
 | some h => ZGP m t h
section
variable {P : Program} {w : World} {K : W.Frag} {mg : Str → Option Value} {base : Heap} {a : Ad}
local macro_rules | `(tactic| walk_at "rd") => `(tactic| first
 | with_reducible first | refine ZGw (by assumption) (‹Txt _ _ _›).ZQ (‹Txt _ _ _›).Zm ZIP ?_ | refine ZGw (by assumption) (‹Txt _ _ _›).ZY (‹Txt _ _ _›).ZBf ZUC ?_ | refine ZGw (by assumption) (‹Txt _ _ _›).ZY (‹Txt _ _ _›).ZA4 ZR7 ?_ | refine ZGw (by assumption) (‹Txt _ _ _›).ZY (‹Txt _ _ _›).ZBa ZUD ?_ | refine ZGw (by assumption) (‹Txt _ _ _›).ZY (‹Txt _ _ _›).ZAL ZPR ?_)
def ZWL (C : Addr) : Sp := fun vs H Q _ => ∃ (p d1 d2 : Addr) (n t v : Int) (sm : PL) (c : Nat), vs = [.ref p, .int t] ∧ ZF4 C H p n d1 d2 sm c ∧ ZGA sm t = some v ∧ c ≤ 1000 ∧
 ∀ H', ZF4 C H' p n d1 d2 (ZHi sm t) (c + 1) → Fr3 p d1 d2 H H' → Q .non H'
theorem ZOw : ZFa ["self", "t"] ["self", "t"] (ZFW ZJW) := ZFv
theorem ZOx (T : Txt K mg a) : ZFc P w K mg base CX0 4 a.ZAQ a.ZAT ["self", "t"] (ZWL a.ZJ) := by
 refine T.ZDM.ok ZOw (by walk_at "l") (fun cdv A outer s H vs Q E hr h => ?_)
 ·obtain ⟨p, d1, d2, n, t, v, sm, c, rfl, ⟨dx, kvs, hp, h1, h2, hnd, hkf, hlen⟩, hg, hc, k⟩ := h
  have np1 : p ≠ d1 := fun z => by subst z; rw [hp] at h1; cases h1
  have n21 : d2 ≠ d1 := fun z => by subst z; rw [h1] at h2; cases h2
  refine ⟨_, QB.h (ZFV (ZFu (ZTr (ZGY K rfl (qv 0)) (qv 1))) (ZFX (ZFu (ZGs (qv 0) T.ZQ T.ZBt (ZKK T) hr T.ZBw .nil ZGm (ZFS (qv 1) (ZFS ZHO ZFT)))))), ?_⟩
  walk_at "s"
  walk_at "w"
  refine ZTt h1 ?_
  walk_at "w"
  refine ZTu h1 hg fun H3 f3 K3 => ?_
  have hp3 := K3 _ _ hp np1
  have h23 := K3 _ _ h2 n21
  have hk3 : ZGl H3 kvs (ZHi sm t) (fun l s => s ≠ t / 2 ^ l) := (ZGl.other hkf fun q hq => by
   rw [ZNB]
   exact ⟨fun z => ⟨hq, z⟩, fun z => z.2⟩).kpX K3 h1 (fun xs z => by cases z)
  walk_at "w"
  refine ZGJ hp3 ZI5 ?_
  walk_at "w"
  refine ⟨p, d1, d2, dx, n, t, .non, none, ZHi sm t, kvs, c, rfl, hp3, f3, h23, ZPL hnd, hk3, hlen, hc, .non, .inl ⟨rfl, ?_⟩, fun H7 hT7 K7 => ?_⟩
  ·cases e : inS (ZHi sm t) 0 t with
   | nil => rfl
   | cons q qs =>
    have hq : q ∈ inS (ZHi sm t) 0 t := by rw [e]; exact List.mem_cons_self
    rw [ZHd, ZNB] at hq
    simp only [Int.pow_zero, Int.ediv_one] at hq
    exact absurd hq.2 hq.1.1
  ·walk_at "w"
   exact k H7 hT7 fun b o e e1 e2 e3 => K7 _ _ (K3 _ _ e e2) e3
def ZWM (a : Ad) : Sp := fun vs H Q _ => ∃ (p dx : Addr) (x : V) (cv : PL), vs = [.ref p, x] ∧ H p = some (.ins a.ZG dx []) ∧ ((x = .non ∧ cv = []) ∨ ∃ t, x = .ref t ∧ PrT H t cv) ∧ (cv.map (·.1)).Nodup ∧ (∀ q ∈ cv, Tm q.1) ∧ cv.length ≤ 100 ∧
 ∀ (S : SA) (sm : PL) (H' : Hp), S.p = p → (∀ b ∈ S.own, H b = none) → ZFs a H' S 0 sm cv.length [] [] [] → (∀ q, q ∈ sm ↔ q ∈ cv) → sm.length ≤ cv.length → Kp p H H' → Q .non H'
theorem ZLF : ZFa ["self", "curve"] ["self", "curve"] (ZFW ZGI) := ZFv
theorem ZLG (T : Txt K mg a) : ZFc P w K mg base CX0 7 a.Ya a.ZZ ["self", "curve"] (ZWM a) := by
 refine T.ZCO.ok ZLF (by walk_at "l") (fun cdv A outer s H vs Q E hr h => ?_)
 ·obtain ⟨p, dx, x, cv, rfl, hp, hx, hnd, htm, hlen, k⟩ := h
  refine ⟨_, QB.h (ZFV (ZIV K rfl (qv 0) (ZVu T.ZEi (ZLv T) hr rfl T.ZE8 T.ZCT .nil ZGm (ZFS (qv 1) ZFT))) (ZFV (ZIV K rfl (qv 0) (ZGp ZFT)) (ZFV (ZIV K rfl (qv 0) (ZGp ZFT)) (ZFX (ZIV K rfl (qv 0) (ZGp ZFT)))))), ?_⟩
  walk_at "s"
  walk_at "w"
  refine ZMa fun tr dt H1 n1 f1 S1 => ?_
  refine ⟨tr, dt, x, cv, rfl, f1, ?_, hnd, htm, hlen, fun d1 d2 sm H2 m1 m2 hT2 hm hl K2 => ⟨rfl, ?_⟩⟩
  ·rcases hx with h | ⟨t, h1, h2⟩
   ·exact .inl h
   ·exact .inr ⟨t, h1, h2.same S1⟩
  have S02 : ZFY H H2 := fun b o e => K2 _ _ (S1 _ _ e) (ZF2 e n1)
  have hp2 := S02 _ _ hp
  have nt : tr ≠ p := fun z => by rw [z, hp] at n1; cases n1
  have free : ∀ {b : Addr}, H1 b = none → H b = none := fun {b} e => by
   cases e2 : H b with
   | none => rfl
   | some o => rw [S1 _ _ e2] at e; cases e
  have free2 : ∀ {b : Addr}, H2 b = none → H b = none := fun {b} e => by
   cases e2 : H b with
   | none => rfl
   | some o => rw [S02 _ _ e2] at e; cases e
  walk_at "w"
  refine ZHq hp2 T.ZY T.ZBf (by show 0 < 1000; decide) fun H3 f3 K3 => ?_
  walk_at "w"
  refine ZFd (by show 0 ≤ sizeLine; decide) fun dd H4 n4 f4 S4 => ?_
  have np4 : dd ≠ p := fun z => by rw [z, f3] at n4; cases n4
  walk_at "w"
  refine ZHq (S4 _ _ f3) T.ZY T.ZA4 (by show 1 < 1000; decide) fun H5 f5 K5 => ?_
  walk_at "w"
  refine ZFd (by show 0 ≤ sizeLine; decide) fun dn H6 n6 f6 S6 => ?_
  have np6 : dn ≠ p := fun z => by rw [z, f5] at n6; cases n6
  walk_at "w"
  refine ZHq (S6 _ _ f5) T.ZY T.ZBa (by show 2 < 1000; decide) fun H7 f7 K7 => ?_
  walk_at "w"
  refine ZFd (by show 0 ≤ sizeLine; decide) fun wt H8 n8 f8 S8 => ?_
  have np8 : wt ≠ p := fun z => by rw [z, f7] at n8; cases n8
  walk_at "w"
  refine ZHq (S8 _ _ f7) T.ZY T.ZAL (by show 3 < 1000; decide) fun H9 f9 K9 => ?_
  rw [ZWK] at f9
  have K29 : Kp p H2 H9 := (((((K3.then S4).trans K5).then S6).trans K7).then S8).trans K9
  have K24 : Kp p H2 H5 := (K3.then S4).trans K5
  have K26 : Kp p H2 H7 := (K24.then S6).trans K7
  have g4 : H9 dd = some (.lst []) := K9 _ _ (S8 _ _ (K7 _ _ (S6 _ _ (K5 _ _ f4 np4)) np4)) np4
  have g6 : H9 dn = some (.lst []) := K9 _ _ (S8 _ _ (K7 _ _ f6 np6)) np6
  have g8 : H9 wt = some (.lst []) := K9 _ _ f8 np8
  have e46 : dd ≠ dn := fun z => by rw [← z, K5 _ _ f4 np4] at n6; cases n6
  have e48 : dd ≠ wt := fun z => by rw [← z, K7 _ _ (S6 _ _ (K5 _ _ f4 np4)) np4] at n8; cases n8
  have e68 : dn ≠ wt := fun z => by rw [← z, K7 _ _ f6 np6] at n8; cases n8
  have hT9 : ZF4 a.ZJ H9 tr 0 d1 d2 sm cv.length := by
   obtain ⟨dy, kvs, t1, t2, t3, t4, t5, t6⟩ := hT2
   have nt2 : ∀ {b : Addr} {xs : List V}, H2 b = some (.tup xs) → H9 b = some (.tup xs) := fun e => K29 _ _ e (fun z => by rw [z, hp2] at e; cases e)
   exact ⟨dy, kvs, K29 _ _ t1 nt, K29 _ _ t2 (fun z => by rw [z, hp2] at t2; cases t2), K29 _ _ t3 (fun z => by rw [z, hp2] at t3; cases t3), t4, t5.tups (fun b xs e => nt2 e), t6⟩
  have fr4 : H dd = none := by
   cases e : H dd with
   | none => rfl
   | some o => rw [K3 _ _ (S02 _ _ e) np4] at n4; cases n4
  have fr6 : H dn = none := by
   cases e : H dn with
   | none => rfl
   | some o => rw [K24 _ _ (S02 _ _ e) np6] at n6; cases n6
  have fr8 : H wt = none := by
   cases e : H wt with
   | none => rfl
   | some o => rw [K26 _ _ (S02 _ _ e) np8] at n8; cases n8
  walk_at "w"
  refine k ⟨p, tr, d1, d2, dd, dn, wt⟩ sm H9 rfl (fun b hb => ?_) ⟨dx, [], f9, hT9, g4, .nil, g6, g8, e46, e48, e68⟩ hm hl ((Kp.same S02).trans K29)
  simp only [SA.own, List.mem_cons, List.not_mem_nil, or_false] at hb
  rcases hb with rfl | rfl | rfl | rfl | rfl | rfl
  ·exact n1
  ·exact free m1
  ·exact free m2
  ·exact fr4
  ·exact fr6
  ·exact fr8
def ZUF (a : Ad) : Sp := fun vs H Q _ => ∃ (S : SA) (n t : Int) (o : Option Int) (sm : PL) (c : Nat) (ds : List (Int × Option Int)) (ts : List Int) (ws : List V), vs = [.ref S.p, .int t, ZKu o] ∧ ZFs a H S n sm c ds ts ws ∧
 Tm t ∧ (o = none → (ZGA sm t).isSome = true) ∧ c ≤ 900 ∧ sm.length ≤ 900 ∧ ts.length ≤ 900 ∧
 ∀ H', ZFs a H' S n (ZML sm t o) (c + 1) ds (ts ++ [t]) ws → FrS S H H' → Q .non H'
theorem ZMj : ZFa ["self", "t", "h"] ["self", "t", "h"] (ZFW ZIa) := ZFv
theorem ZMk (T : Txt K mg a) : ZFc P w K mg base CX0 5 a.JV a.Ja ["self", "t", "h"] (ZUF a) := by
 refine T.ZC4.ok ZMj (by walk_at "l") (fun cdv A outer s H vs Q E hr h => ?_)
 ·obtain ⟨S, n, t, o, sm, c, ds, ts, ws, rfl, hS, ht, ho, hc, hsl, htl, k⟩ := h
  refine ⟨_, QB.h (ZFV (ZF1 (ZFk (ZNx) (qv 2) ZHO (ZFm _)) (ZFX (ZFu (ZGs (ZGY K rfl (qv 0)) T.ZQ T.ZDS (ZOx T) hr T.ZDY .nil ZGm (ZFS (qv 1) ZFT)))) (ZFX (ZFu (ZGs (ZGY K rfl (qv 0)) T.ZQ T.ZCX (ZLR T) hr T.ZCU .nil ZGm (ZFS (qv 1) (ZFS (qv 2) ZFT)))))) (ZFX (ZFu (ZIL PySem.F.plainAttrs_list PySem.F.slot_list_append PySem.F.type_list_append ZG2 (ZGY K rfl (qv 0)) (ZFS (qv 1) ZFT))))), ?_⟩
  walk_at "s"
  have fin : ∀ H1, ZF4 a.ZJ H1 S.tr n S.d1 S.d2 (ZML sm t o) (c + 1) → Fr3 S.tr S.d1 S.d2 H H1 → ZFs a H1 S n (ZML sm t o) (c + 1) ds ts ws := fun H1 hT F => hS.fr3 F hT
  obtain ⟨dx, vs, hp, hT, _⟩ := id hS
  obtain ⟨dy, kvs, hq, _⟩ := id hT
  walk_at "w"
  cases o with
  | none =>
   obtain ⟨v, hv⟩ := Option.isSome_iff_exists.mp (ho rfl)
   refine ZFt (fun _ => ?_) (fun h => absurd rfl h)
   walk_at "w"
   refine ZGJ hq ZI5 ?_
   walk_at "w"
   refine ⟨S.tr, S.d1, S.d2, n, t, v, sm, c, rfl, hT, hv, by omega, fun H1 hT1 F1 => ?_⟩
   have hS1 := fin H1 hT1 F1
   obtain ⟨dx1, vs1, hp1, hT1', hd1, hD1, hn1, hw1, hne⟩ := id hS1
   walk_at "w"
   refine ⟨tyL hn1, ?_⟩
   walk_at "w"
   refine ZHI hn1 (by rw [List.length_map]; exact Nat.lt_of_le_of_lt htl (by decide)) fun H2 f2 K2 => ?_
   walk_at "w"
   exact k H2 (hS1.kpDone K2 (by rw [List.map_append]; exact f2)) ((FrS.fr3 F1).trans (.kp K2 (by simp [SA.own])))
  | some h =>
   refine ZFt (fun h => by simp [ZKu] at h) (fun _ => ?_)
   walk_at "w"
   refine ZGJ hq ZI5 ?_
   walk_at "w"
   refine ⟨S.tr, S.d1, S.d2, n, t, h, sm, c, rfl, hT, ht, by omega, by omega, fun H1 hT1 F1 => ?_⟩
   have hS1 := fin H1 hT1 F1
   obtain ⟨dx1, vs1, hp1, hT1', hd1, hD1, hn1, hw1, hne⟩ := id hS1
   walk_at "w"
   refine ⟨tyL hn1, ?_⟩
   walk_at "w"
   refine ZHI hn1 (by rw [List.length_map]; exact Nat.lt_of_le_of_lt htl (by decide)) fun H2 f2 K2 => ?_
   walk_at "w"
   exact k H2 (hS1.kpDone K2 (by rw [List.map_append]; exact f2)) ((FrS.fr3 F1).trans (.kp K2 (by simp [SA.own])))
def ZYv (a : Ad) : Sp := fun vs H Q _ => ∃ (S : SA) (n t : Int) (o : Option Int) (sm : PL) (c : Nat) (ds : List (Int × Option Int)) (ts : List Int) (ws : List V), vs = [.ref S.p, .int t, ZKu o] ∧ ZFs a H S n sm c ds ts ws ∧
 Tm t ∧ (o = none → (ZGA sm t).isSome = true) ∧ c ≤ 900 ∧ sm.length ≤ 900 ∧ ts.length ≤ 900 ∧ ds.length ≤ 900 ∧
 ∀ H', ZFs a H' S n (ZML sm t o) (c + 1) (ds ++ [(t, ZGA sm t)]) (ts ++ [t]) ws → FrS S H H' → Q (ZKu (ZGA sm t)) H'
theorem ZLS : ZFa ["self", "t", "h", "before"] ["self", "t", "h"] (ZFW ZJ8) := ZFv
theorem ZPS (T : Txt K mg a) : ZFc P w K mg base CX0 6 a.ZAm a.ZAp ["self", "t", "h"] (ZYv a) := by
 refine T.ZDf.ok ZLS (by walk_at "l") (fun cdv A outer s H vs Q E hr h => ?_)
 ·obtain ⟨S, n, t, o, sm, c, ds, ts, ws, rfl, hS, ht, ho, hc, hsl, htl, hdl, k⟩ := h
  have hu := ZIh hr
  refine ⟨_, QB.h (ZFV (qsS (i := 3) ZLS.nd (ZJy hu (ZGY K rfl (ZGY K rfl (qv 0))) (qv 1))) (ZFV (ZFu (ZGs (qv 0) T.ZY T.ZCy (ZMk T) hr T.ZCv .nil ZGm (ZFS (qv 1) (ZFS (qv 2) ZFT)))) (ZFV (ZFu (ZIL PySem.F.plainAttrs_list PySem.F.slot_list_append PySem.F.type_list_append ZG2 (ZGY K rfl (qv 0)) (ZFS (ZFw (ZFS (qv 1) (ZFS (qv 3) ZFT))) ZFT))) (ZFX (ZFh (qv 3)))))), ?_⟩
  walk_at "s"
  obtain ⟨dx, vs, hp, hT, _⟩ := id hS
  obtain ⟨dy, kvs, hq, hd1, _⟩ := id hT
  walk_at "w"
  refine ZRd hd1 ?_
  walk_at "w"
  refine ZTd hd1 ?_
  rw [ZUE]
  walk_at "w"
  refine ZGJ hp ZKt ?_
  walk_at "w"
  refine ⟨S, n, t, o, sm, c, ds, ts, ws, rfl, hS, ht, ho, hc, hsl, htl, fun H1 hS1 F1 => ?_⟩
  obtain ⟨dx1, vs1, hp1, hT1, hd1, hD1, _⟩ := id hS1
  walk_at "w"
  refine ⟨tyL hd1, ?_⟩
  walk_at "w"
  refine ZFd (by show 2 ≤ sizeLine; decide) fun b H2 n2 f2 S2 => ?_
  walk_at "w"
  refine ZHI (S2 _ _ hd1) (by rw [hD1.len]; exact Nat.lt_of_le_of_lt hdl (by decide)) fun H3 f3 K3 => ?_
  have nt : ∀ {b : Addr} {xs : List V}, H2 b = some (.tup xs) → H3 b = some (.tup xs) := fun e => K3 _ _ e (fun z => by rw [z, S2 _ _ hd1] at e; cases e)
  walk_at "w"
  exact k H3 ((hS1.same S2).kpDeeds K3 f3 (((hD1.tups fun b xs e => S2 _ _ e).tups fun b xs e => nt e).snoc (q := (t, ZGA sm t)) (nt f2))) ((F1.trans (.same S2)).trans (.kp K3 (by simp [SA.own])))
def ZYI (a : Ad) : Sp := fun vs H Q _ => ∃ (S : SA) (n t h : Int) (sm : PL) (c : Nat) (ds : List (Int × Option Int)) (ts : List Int) (ws : List V), vs = [.ref S.p, .int t, .int h] ∧ ZFs a H S n sm c ds ts ws ∧
 Tm t ∧ c ≤ 900 ∧ sm.length ≤ 900 ∧ ts.length ≤ 900 ∧ ds.length ≤ 900 ∧
 ∀ H', ZFs a H' S n (ZGP sm t h) (c + 1) (ds ++ [(t, ZGA sm t)]) (ts ++ [t]) ws → FrS S H H' → Q (ZKu (ZGA sm t)) H'
theorem ZOy : ZFa ["self", "t", "h"] ["self", "t", "h"] (ZFW ZJY) := ZFv
theorem ZOz (T : Txt K mg a) : ZFc P w K mg base CX0 7 a.ZAX a.ZAd ["self", "t", "h"] (ZYI a) := by
 refine T.ZDV.ok ZOy (by walk_at "l") (fun cdv A outer s H vs Q E hr h => ?_)
 ·obtain ⟨S, n, t, h, sm, c, ds, ts, ws, rfl, hS, ht, hc, hsl, htl, hdl, k⟩ := h
  refine ⟨_, QB.h (ZFV (ZFu (qcS (ZKJ T) hr.m T.ZBQ T.J6.kp T.ZBI (ZFS (qv 1) ZFT))) (ZFX (ZFh (ZGs (qv 0) T.ZY T.ZDl (ZPS T) hr T.ZDq .nil ZGm (ZFS (qv 1) (ZFS (qv 2) ZFT)))))), ?_⟩
  walk_at "s"
  obtain ⟨dx, vs, hp, hT, _⟩ := id hS
  walk_at "w"
  refine ⟨t, rfl, ht, ?_⟩
  walk_at "w"
  refine ZGJ hp ZKt ?_
  walk_at "w"
  exact ⟨S, n, t, some h, sm, c, ds, ts, ws, rfl, hS, ht, (fun z => by cases z), hc, hsl, htl, hdl, fun H1 hS1 F1 => k H1 hS1 F1⟩
def ZUG (a : Ad) : Sp := fun vs H Q _ => ∃ (S : SA) (q : Addr) (n b y m : Int) (sm : PL) (c : Nat) (ds : List (Int × Option Int)) (ts : List Int) (ws : List V), vs = [.ref S.p, .ref q] ∧ ZFs a H S n sm c ds ts ws ∧ ZIH H q b y m ∧
 ∀ (u : Addr) (us : List V) (fs : List (Option (PL))) (n' : Int) (H' : Hp), H' u = some (.tup us) → ZGQ H' us fs → ZOf sm b y m.toNat fs → ZFs a H' S n' sm c ds ts ws → Kp S.tr H H' → Q (.ref u) H'
theorem ZMl : ZFa ["self", "window"] ["self", "window"] (ZFW ZIb) := ZFv
theorem ZJm (T : Txt K mg a) : ZFc P w K mg base CX0 7 a.JU a.JT ["self", "window"] (ZUG a) := by
 refine T.ZC5.ok ZMl (by walk_at "l") (fun cdv A outer s H vs Q E hr h => ?_)
 ·obtain ⟨S, q, n, b, y, m, sm, c, ds, ts, ws, rfl, hS, hW, k⟩ := h
  refine ⟨_, QB.h (ZFX (ZFh (ZGs (ZGY K rfl (qv 0)) T.ZQ T.ZDJ (ZNa T) hr T.ZDG .nil ZGm (ZFS (qv 1) ZFT)))), ?_⟩
  walk_at "s"
  obtain ⟨dx, vs, hp, hT, _⟩ := id hS
  obtain ⟨dy, kvs, hq, hd1, _⟩ := id hT
  walk_at "w"
  refine ZGJ hq ZI5 ?_
  walk_at "w"
  exact ⟨S.tr, q, S.d1, S.d2, n, b, y, m, sm, c, rfl, hT, hW, fun u us fs n' H1 h1 g1 z1 hT1 K1 => k u us fs n' H1 h1 g1 z1 (hS.fr3 (ZYG K1) hT1) K1⟩
end
section
variable {a : Ad} {H H' : Hp} {S : SA} {n : Int} {sm : PL} {c : Nat} {ds : List (Int × Option Int)} {ts : List Int} {ws : List V}
theorem ZFs.live (h : ZFs a H S n sm c ds ts ws) : ∀ b ∈ S.p :: S.own, ∃ o, H b = some o := by
 obtain ⟨dx, vs, h1, ⟨dy, kvs, t1, t2, t3, _⟩, h3, h4, h5, h6, h7⟩ := h
 intro b hb
 simp only [SA.own, List.mem_cons, List.not_mem_nil, or_false] at hb
 rcases hb with rfl | rfl | rfl | rfl | rfl | rfl | rfl
 ·exact ⟨_, h1⟩
 ·exact ⟨_, t1⟩
 ·exact ⟨_, t2⟩
 ·exact ⟨_, t3⟩
 ·exact ⟨_, h3⟩
 ·exact ⟨_, h5⟩
 ·exact ⟨_, h6⟩
theorem ZFs.noTup (h : ZFs a H S n sm c ds ts ws) : ∀ b ∈ S.own, ∀ xs, H b ≠ some (.tup xs) := by
 obtain ⟨dx, vs, h1, ⟨dy, kvs, t1, t2, t3, _⟩, h3, h4, h5, h6, h7⟩ := h
 intro b hb xs e
 simp only [SA.own, List.mem_cons, List.not_mem_nil, or_false] at hb
 rcases hb with rfl | rfl | rfl | rfl | rfl | rfl
 ·rw [t1] at e; cases e
 ·rw [t2] at e; cases e
 ·rw [t3] at e; cases e
 ·rw [h3] at e; cases e
 ·rw [h5] at e; cases e
 ·rw [h6] at e; cases e
theorem ZFs.frL (h : ZFs a H S n sm c ds ts ws) {l : List Addr} (f : FrL l H H') (d : ∀ b ∈ l, b ∉ S.p :: S.own) (nt : ∀ b ∈ l, ∀ xs, H b ≠ some (.tup xs)) : ZFs a H' S n sm c ds ts ws := by
 obtain ⟨dx, vs, h1, ⟨dy, kvs, t1, t2, t3, t4, t5, t6⟩, h3, h4, h5, h6, h7⟩ := h
 have k : ∀ b o, H b = some o → b ∈ S.p :: S.own → H' b = some o := fun b o e m => f _ _ e fun z => d b z m
 have kt : ∀ b xs, H b = some (.tup xs) → H' b = some (.tup xs) := fun b xs e => f _ _ e fun z => nt b z xs e
 exact ⟨dx, vs, k _ _ h1 (by simp), ⟨dy, kvs, k _ _ t1 (by simp [SA.own]), k _ _ t2 (by simp [SA.own]), k _ _ t3 (by simp [SA.own]), t4, t5.tups kt, t6⟩, k _ _ h3 (by simp [SA.own]), h4.tups kt, k _ _ h5 (by simp [SA.own]), k _ _ h6 (by simp [SA.own]), h7⟩
end
def BP (cv : PL) : Prop := ∀ p ∈ cv, Bn 200 p.1 ∧ Bn 200 p.2
section
variable {P : Program} {w : World} {K : W.Frag} {mg : Str → Option Value} {base : Heap} {a : Ad}
def ZYJ (K : W.Frag) : Sp := fun vs H Q _ => ∃ (t : Addr) (cv : PL) (b e : Int), vs = [.ref t, .int b, .int e] ∧ PrT H t cv ∧ cv.length ≤ 1000 ∧
 ∀ (u : Addr) (H' : Hp), PrT H' u (inCol cv b e) → ZFY H H' → Q (.ref u) H'
theorem ZQs : ZFa ["curve", "begin", "end"] ["curve", "begin", "end"] (ZFW ZJG) := ZFv
theorem ZMM (T : Txt K mg a) : ZFc P w K mg base CX0 1 a.ZBK a.ZBx ["curve", "begin", "end"] (ZYJ K) := by
 refine T.ZBN.ok ZQs (by walk_at "l") (fun cdv A outer s H vs Q E hr h => ?_)
 ·obtain ⟨t, cv, b, e, rfl, ⟨us, hT0, hP⟩, hlen, k⟩ := h
  have hT : SqT K H t us := SqT.of hT0
  refine ⟨_, QB.h (ZFX (ZFh (ZHx (ZI0 K rfl) rfl T.JG ZIu (ZFS (ZHc (N := ["curve", "begin", "end"]) (sc := ZFW ZJG) (own := ["t", "h"]) (caps := ["begin", "end"]) (ks := [1, 2]) rfl rfl rfl ⟨rfl, by decide +kernel, by decide +kernel, by decide +kernel, by decide +kernel, rfl, by decide +kernel⟩ (ZKS K rfl (qv 0)) (fun _ _ _ _ _ => ZGb (n := 2) K rfl rfl (ZFi (ZGg (i := 0) (show List.Nodup (α := Str) ["t", "h", "begin", "end"] from by decide +kernel) rfl (by walk_at "o") (.inr rfl)) (ZFi (ZGg (i := 1) (show List.Nodup (α := Str) ["t", "h", "begin", "end"] from by decide +kernel) rfl (by walk_at "o") (.inr rfl)) ZGO))) (fun _ _ _ _ _ => ZTE (ZIy ZG9 ZHs (qv 2) (qv 0) (qv 3))) (fun _ _ _ _ _ => ZFw (ZFS (qv 0) (ZFS (qv 1) ZFT)))) ZFT)))), ?_⟩
  walk_at "s"
  walk_at "w"
  intro l hl
  refine ZHB cv.length (fun i σ' H' => (∃ o1 o2, σ' = [o1, o2, some (.int b), some (.int e)]) ∧ ZFY H H' ∧ ∃ vs, H' l = some (.lst vs) ∧ ZFe H' vs (inCol (cv.take i) b e)) ?_ ?_ ?_
  ·exact ⟨⟨none, none, rfl⟩, ZFY.new hl, [], ZFf, .nil⟩
  ·rintro σ H' ⟨_, s, vs, f, hPc⟩
   refine ⟨⟨_, s.seqT hT, by rw [hP.length]; exact Nat.le_refl _⟩, ?_⟩
   walk_at "w"
   refine ZJe (SqL.of f) fun u H4 n4 f4 S4 => ?_
   rw [List.take_length] at hPc
   exact k u H4 ⟨vs, f4, hPc.same S4⟩ (s.trans S4)
  ·rintro i σ H' hi ⟨⟨o1, o2, rfl⟩, s, vs, f, hPc⟩
   have hi2 : i < us.length := by rw [hP.length]; exact hi
   refine ⟨⟨_, _, s.seqT hT, List.getElem?_eq_getElem hi2⟩, ?_⟩
   rintro u H'' ⟨rfl, hu'⟩
   have hu' := hu' _ (s.seqT hT)
   obtain ⟨c, p, rfl, hp, hc⟩ := (hP.same s).at hu'
   have e3 : cv.take (i + 1) = cv.take i ++ [p] := by
    rw [List.take_succ, hp]
    rfl
   have e4 : inCol (cv.take (i + 1)) b e = inCol (cv.take i) b e ++ (if (decide (b ≤ p.1) && decide (p.1 < e)) = true then [p] else []) := by
    rw [e3, inCol, List.filter_append]
    congr 1
    simp only [List.filter_cons, List.filter_nil]
   walk_at "w"
   refine ZFt (fun h1 => ?_) (fun h1 => ?_)
   ·walk_at "w"
    refine ZFt (fun h2 => ?_) (fun h2 => ?_)
    ·walk_at "w"
     refine ZFd (by show 2 ≤ sizeLine; decide) fun t4 H4 n4 f4 S4 => ?_
     have f34 := S4 _ _ f
     refine ⟨vs, f34, ?_, ⟨_, _, rfl⟩, ?_, ?_⟩
     ·have e := hPc.length
      rw [e]
      refine Nat.lt_of_le_of_lt (List.length_filter_le _ _) ?_
      rw [List.length_take]
      exact Nat.lt_of_le_of_lt (Nat.min_le_left _ _) (Nat.lt_of_lt_of_le (Nat.lt_of_lt_of_le hi hlen) (by decide))
     ·exact (s.trans S4).kpN hl Kp.upd
     ·refine ⟨_, ZFf, ?_⟩
      rw [e4, decide_eq_true h1, decide_eq_true h2, Bool.and_self, if_pos rfl]
      exact ZFe.kpL Kp.upd f34 ((hPc.same S4).snoc f4)
    ·refine ⟨⟨_, _, rfl⟩, s, vs, f, ?_⟩
     rw [e4, decide_eq_false h2, Bool.and_false, if_neg (by decide), List.append_nil]
     exact hPc
   ·walk_at "w"
    refine ZGH ?_
    refine ⟨⟨_, _, rfl⟩, s, vs, f, ?_⟩
    rw [e4, decide_eq_false h1, Bool.false_and, if_neg (by decide), List.append_nil]
    exact hPc
def Hts (H : Hp) (p : Addr) (low tall rows : Int) : Prop := H p = some (.tup [.int low, .int tall, .int rows]) ∧ Bn 200 low ∧ 0 < tall ∧ Bn 200 tall ∧ 0 ≤ rows ∧ rows ≤ 1000
theorem Hts.same {H H' : Hp} {p : Addr} {low tall rows : Int} (h : Hts H p low tall rows) (s : ZFY H H') : Hts H' p low tall rows := ⟨s _ _ h.1, h.2⟩
def ZWN (K : W.Frag) : Sp := fun vs H Q _ => ∃ (x d : Int) (p : Addr) (low tall rows : Int), vs = [.int x, .int d, .ref p] ∧ Hts H p low tall rows ∧ 0 < d ∧ Bn 201 d ∧ Q (.int (fl low tall (x, d))) H
theorem ZJK : ZFa ["height", "parts", "heights", "low", "tall", "rows"] ["height", "parts", "heights"] (ZFW ZLo) := ZFv
theorem ZNI (T : Txt K mg a) : ZFc P w K mg base CX0 1 a.ZB7 a.ZB3 ["height", "parts", "heights"] (ZWN K) := by
 refine T.ZB4.ok ZJK (by walk_at "l") (fun cdv A outer s H vs Q E hr h => ?_)
 ·obtain ⟨x, d, p, low, tall, rows, rfl, ⟨hp, hb1, ht, hb2, _⟩, hd, hbd, q⟩ := h
  refine ⟨_, QB.h (ZFV (ZGv (qv 2) (ZGb (n := 3) K rfl rfl (ZFi (qgN (i := 3) ZJK.nd) (ZFi (qgN (i := 4) ZJK.nd) (ZFi (qgN (i := 5) ZJK.nd) ZGO))))) (ZFX (ZFh (ZFb ZIs (ZFb ZGk (qv 0) (ZFb ZGF (qv 3) (qv 1))) (ZFb ZGF (qv 4) (qv 1)))))), ?_⟩
  walk_at "s"
  walk_at "w"
  refine ZLX (ZMH hb1 hbd (by decide)) ?_
  walk_at "w"
  refine ZLX (ZMH hb2 hbd (by decide)) ?_
  refine ZLX ((hb2.mul hbd).divB (Int.mul_pos ht hd) (by decide)) ?_
  exact q
def ZWO (K : W.Frag) : Sp := fun vs H Q _ => ∃ (c1 c2 : Addr) (u v : Int × Int) (t : Int) (p : Addr) (low tall rows : Int), vs = [.ref c1, .ref c2, .int t, .ref p] ∧ H c1 = some (.tup [.int u.1, .int u.2]) ∧ H c2 = some (.tup [.int v.1, .int v.2]) ∧
 Hts H p low tall rows ∧ u.1 < v.1 ∧ Bn 200 u.1 ∧ Bn 200 u.2 ∧ Bn 200 v.1 ∧ Bn 200 v.2 ∧ Bn 200 t ∧ Q (.int (fl low tall (frP u v t))) H
theorem ZNJ : ZFa ["one", "other", "t", "heights", "parts"] ["one", "other", "t", "heights"] (ZFW ZLn) := ZFv
theorem ZNK (T : Txt K mg a) : ZFc P w K mg base CX0 2 a.ZCE a.ZCD ["one", "other", "t", "heights"] (ZWO K) := by
 refine T.ZCB.ok ZNJ (by walk_at "l") (fun cdv A outer s H vs Q E hr h => ?_)
 ·obtain ⟨c1, c2, u, v, t, p, low, tall, rows, rfl, h1, h2, hh, hlt, b1, b2, b3, b4, b5, q⟩ := h
  refine ⟨_, QB.h (ZFV (qsS (i := 4) ZNJ.nd (ZFb ZGk (ZFn (ZFp K rfl) (qv 1) ZFU) (ZFn (ZFp K rfl) (qv 0) ZFU))) (ZFX (ZFh (qcS (ZNI T) hr T.ZDE T.ZB4.kp T.ZC6 (ZFS (ZFb ZF9 (ZFb ZGF (ZFn (ZFp K rfl) (qv 0) ZFU) (qv 4)) (ZFb ZGF (ZFb ZGk (ZFn (ZFp K rfl) (qv 1) ZFU) (ZFn (ZFp K rfl) (qv 0) ZFU)) (ZFb ZGk (qv 2) (ZFn (ZFp K rfl) (qv 0) ZFU)))) (ZFS (qv 4) (ZFS (qv 3) ZFT))))))), ?_⟩
  walk_at "s"
  walk_at "w"
  refine ZLX (ZMH b2 (b3.sub b1) (by decide)) ?_
  walk_at "w"
  refine ZLX (ZMH (b4.sub b2) (b5.sub b1) (by decide)) ?_
  walk_at "w"
  exact ⟨_, _, p, low, tall, rows, rfl, hh, by omega, b3.sub b1, q⟩
theorem ZJL {H H' : Hp} {l q : Addr} {xs ys : List V} (k : Kp l H H') (hl : H l = some (.lst xs)) (h : H q = some (.tup ys)) : H' q = some (.tup ys) := k _ _ h (fun z => by subst z; rw [hl] at h; cases h)
def ZYK (K : W.Frag) : Sp := fun vs H Q _ => ∃ (t u p : Addr) (cv : PL) (x z low tall rows : Int), vs = [.ref t, .ref u, .ref p] ∧ PrT H t cv ∧ H u = some (.tup [.int x, .int z]) ∧ Hts H p low tall rows ∧ Asc cv ∧ BP cv ∧ cv.length ≤ 100 ∧ Bn 200 x ∧ Bn 200 z ∧
 ∀ (l : Addr) (H' : Hp), H l = none → H' l = some (.lst (((ZOe cv x z).map (fl low tall)).map V.int)) → ZFY H H' → Q (.ref l) H'
theorem ZYw {x y : Int} {n : Nat} (h : Bn n x) (g : Bn n y) : Bn n (if y > x then y else x) := by split; exact g; exact h
theorem ZYx {x y : Int} {n : Nat} (h : Bn n x) (g : Bn n y) : Bn n (if y < x then y else x) := by split; exact g; exact h
theorem ZR8 {cv : PL} {b e : Int} {p : Int × Int} (h : p ∈ inCol cv b e) : p ∈ cv := (List.mem_filter.mp h).1
theorem ZHS : ZFa ["samples", "times", "heights", "first", "behind", "met", "one", "other"] ["samples", "times", "heights"] (ZFW ZIk) := ZFv
theorem ZPT (T : Txt K mg a) : ZFc P w K mg base CX0 3 a.ZA0 a.ZAu ["samples", "times", "heights"] (ZYK K) := by
 refine T.ZCV.ok ZHS (by walk_at "l") (fun cdv A outer s H vs Q E hr h => ?_)
 ·obtain ⟨t, u, p, cv, x, z, low, tall, rows, rfl, hT, hu, hh, hasc, hbp, hlen, bx, bz, k⟩ := h
  refine ⟨_, QB.h (ZFV (ZGv (qv 1) (ZGb (n := 2) K rfl rfl (ZFi (qgN (i := 3) ZHS.nd) (ZFi (qgN (i := 4) ZHS.nd) ZGO)))) (ZFV (ZPi (N := ["samples", "times", "heights", "first", "behind", "met", "one", "other"]) (sc := ZFW ZIk) (own := ["t", "h"]) (caps := ["heights"]) (ks := [2]) (i := 5) rfl rfl rfl ⟨rfl, by decide +kernel, by decide +kernel, by decide +kernel, by decide +kernel, rfl, by decide +kernel⟩ ZHS.nd rfl (by walk_at "o") (ZKS K rfl (qcS (ZMM T) hr.m T.ZCn T.ZBN.kp T.ZCt (ZFS (qv 0) (ZFS (qv 3) (ZFS (qv 4) ZFT))))) (fun _ _ _ _ _ => ZGb (n := 2) K rfl rfl (ZFi (ZGg (i := 0) (show List.Nodup (α := Str) ["t", "h", "heights"] from by decide +kernel) rfl (by walk_at "o") (.inr rfl)) (ZFi (ZGg (i := 1) (show List.Nodup (α := Str) ["t", "h", "heights"] from by decide +kernel) rfl (by walk_at "o") (.inr rfl)) ZGO))) (fun _ _ _ _ _ => ZG6) (fun _ _ _ _ _ => qcS (ZNI T) hr.m T.ZDE T.ZB4.kp T.ZC6 (ZFS (qv 1) (ZFS ZFU (ZFS (qv 2) ZFT))))) (ZFV (ZIU PassesOwn.never rfl (ZXu K rfl rfl T.ZDx (ZFS (qv 0) (ZFS (ZTD (ZVg K rfl) (qv 0) (ZVZ ZFU) ZVY) ZFT))) (ZGb (n := 2) K rfl rfl (ZFi (qgN (i := 6) ZHS.nd) (ZFi (qgN (i := 7) ZHS.nd) ZGO))) (ZFX (ZF1 (QW.pt (ZJf (ZFk (ZHs) (ZFn (ZFp K rfl) (qv 6) ZFU) (qv 4) (ZFm _)) (ZIo (ZFk (ZHs) (qv 3) (ZFn (ZFp K rfl) (qv 7) ZFU) (ZFm _))))) (ZFV (ZFu (ZIL PySem.F.plainAttrs_list PySem.F.slot_list_append PySem.F.type_list_append ZG2 (qv 5) (ZFS (qcS (ZNK T) hr T.ZC8 T.ZCB.kp T.ZDF (ZFS (qv 6) (ZFS (qv 7) (ZFS (ZFr (ZNv rfl) rfl T.ZAy ZKQ (ZFS (qv 3) (ZFS (ZFn (ZFp K rfl) (qv 6) ZFU) ZFT))) (ZFS (qv 2) ZFT))))) ZFT))) (ZFX (ZFu (ZIL PySem.F.plainAttrs_list PySem.F.slot_list_append PySem.F.type_list_append ZG2 (qv 5) (ZFS (qcS (ZNK T) hr T.ZC8 T.ZCB.kp T.ZDF (ZFS (qv 6) (ZFS (qv 7) (ZFS (ZFr (ZNw rfl) rfl T.ZAl ZKR (ZFS (qv 4) (ZFS (ZFn (ZFp K rfl) (qv 7) ZFU) ZFT))) (ZFS (qv 2) ZFT))))) ZFT))))) ZFq))) (ZFX (ZFh (qv 5)))))), ?_⟩
  walk_at "s"
  walk_at "w"
  refine ⟨t, cv, x, z, rfl, hT, by omega, fun w1 H1 hw S1 => ?_⟩
  obtain ⟨us1, g1, pw⟩ := id hw
  have hcl : (inCol cv x z).length ≤ 100 := Nat.le_trans (List.length_filter_le _ _) hlen
  walk_at "w"
  intro l n1
  have nl : H l = none := S1.free n1
  refine ZHB (inCol cv x z).length (fun i σ' H' => (∃ o1 o2, σ' = [o1, o2, some (.ref p)]) ∧ ZFY H1 H' ∧ H' l = some (.lst (((((inCol cv x z).take i).map (fun q => (q.2, (1 : Int)))).map (fl low tall)).map V.int))) ?_ ?_ ?_
  ·exact ⟨⟨none, none, rfl⟩, ZFY.new n1, ZFf⟩
  ·rintro σ H2 ⟨_, S2, f2⟩
   refine ⟨⟨_, SqT.of (S2 _ _ g1), by rw [pw.length]; exact Nat.le_refl _⟩, ?_⟩
   rw [List.take_length] at f2
   have S02 := S1.trans S2
   walk_at "w"
   refine PrT.sl (hT.same S02) fun w3 H3 h3 S3 => ?_
   obtain ⟨us, gT, pT⟩ := hT.same (S02.trans S3)
   obtain ⟨us3, g3, p3⟩ := id h3
   have ec : ZOK cv (some 1) none = cv.drop 1 := by
    unfold ZOK
    rw [show HT.sIx cv.length 0 (some 1) = min 1 cv.length from HT.sIx_nat cv.length 0 1, show HT.sIx cv.length cv.length none = cv.length from rfl]
    by_cases hz : cv.length = 0
    ·have : cv = [] := List.length_eq_zero_iff.mp hz
     subst this
     rfl
    ·rw [show min 1 cv.length = 1 by omega]
     exact List.take_of_length_le (by simp)
   rw [ec] at p3
   walk_at "w"
   refine ZXv (SqB.ofT gT) (SqB.ofT g3) ?_
   have f3 := S3 _ _ f2
   refine ZVp (xs := us) (ys := us3) (b1 := false) (b2 := false) (l1 := t) (l2 := w3) (cv.length - 1) (by rw [pT.length, p3.length, List.length_drop]; omega) (fun i σ H' => Kp l H3 H' ∧ (∃ v6 v7, σ = [some (.ref t), some (.ref u), some (.ref p), some (.int x), some (.int z), some (.ref l), v6, v7]) ∧ ∃ ns : List Int, H' l = some (.lst (ns.map V.int)) ∧
    ns = (((inCol cv x z).map (fun q => (q.2, (1 : Int)))) ++ ((cv.zip (cv.drop 1)).take i).flatMap (ZG8 x z)).map (fl low tall) ∧ ns.length ≤ 100 + 2 * i) ?_ ?_ ?_ ?_
   ·refine ⟨Kp.same (ZFY.refl _), ⟨_, _, rfl⟩, _, f3, ?_, ?_⟩
    ·rw [List.take_zero, List.flatMap_nil, List.append_nil]
    ·rw [List.length_map, List.length_map]; omega
   ·rintro i σ H4 ⟨K4, _, _⟩
    exact ⟨SqB.ofT (ZJL K4 f3 gT), SqB.ofT (ZJL K4 f3 g3)⟩
   ·rintro i σ H4 T H5 a b hi ⟨K4, ⟨v6, v7, rfl⟩, ns, f4, ens, hns⟩ ha hb nT fT S5
    obtain ⟨c1, q1, rfl, hq1, hc1⟩ := pT.at ha
    obtain ⟨c2, q2, rfl, hq2, hc2⟩ := p3.at hb
    have hlt := ZRo hasc hq1 hq2
    have hz := ZV1 hq1 hq2
    have K5 : Kp l H3 H5 := K4.then S5
    have f5 := S5 _ _ f4
    have g1' := ZJL K5 f3 hc1
    have g2' := ZJL K5 f3 hc2
    have hh5 : Hts H5 p low tall rows := ⟨ZJL K5 f3 ((hh.same (S02.trans S3)).1), hh.2⟩
    have hb1 := hbp q1 (List.mem_of_getElem? hq1)
    have hb2 := hbp q2 (List.mem_of_mem_drop (List.mem_of_getElem? hq2))
    have e3 : (cv.zip (cv.drop 1)).take (i + 1) = (cv.zip (cv.drop 1)).take i ++ [(q1, q2)] := by rw [List.take_succ, hz]; rfl
    have hnl : ∀ k : Nat, k ≤ 400 → k < sizeLine := fun k hk => Nat.lt_of_le_of_lt hk (by decide)
    have e4 : (((inCol cv x z).map (fun q => (q.2, (1 : Int)))) ++ ((cv.zip (cv.drop 1)).take (i + 1)).flatMap (ZG8 x z)).map (fl low tall) = ns ++ (ZG8 x z (q1, q2)).map (fl low tall) := by
     rw [ens, e3, List.flatMap_append, ← List.append_assoc, List.map_append]
     simp only [List.flatMap_cons, List.flatMap_nil, List.append_nil]
    walk_at "w"
    refine ZFt (fun h1 => ?_) (fun h1 => ?_)
    ·walk_at "w"
     refine ZFt (fun h2 => ?_) (fun h2 => ?_)
     ·have e5 : (ZG8 x z (q1, q2)).map (fl low tall) = [fl low tall (frP q1 q2 (mx x q1.1)), fl low tall (frP q1 q2 (mn z q2.1))] := by
       unfold ZG8
       rw [if_pos ⟨h1, h2⟩]
       rfl
      walk_at "w"
      refine ⟨tyL f5, ?_⟩
      walk_at "w"
      refine ⟨c1, c2, q1, q2, _, p, low, tall, rows, rfl, g1', g2', hh5, hlt, hb1.1, hb1.2, hb2.1, hb2.2, ZYw bx hb1.1, ?_⟩
      walk_at "w"
      refine ZHI f5 (by rw [List.length_map]; exact hnl _ (by omega)) fun H6 f6 K6 => ?_
      have g1'' := ZJL K6 f5 g1'
      have g2'' := ZJL K6 f5 g2'
      walk_at "w"
      refine ⟨tyL f6, ?_⟩
      walk_at "w"
      refine ⟨c1, c2, q1, q2, _, p, low, tall, rows, rfl, g1'', g2'', ⟨ZJL K6 f5 hh5.1, hh5.2⟩, hlt, hb1.1, hb1.2, hb2.1, hb2.2, ZYx bz hb2.1, ?_⟩
      walk_at "w"
      refine ZHI f6 (by rw [List.length_append, List.length_map]; exact hnl _ (by simp only [List.length_cons, List.length_nil]; omega)) fun H7 f7 K7 => ?_
      walk_at "w"
      refine ⟨(K5.trans K6).trans K7, ⟨_, _, rfl⟩, ns ++ [fl low tall (frP q1 q2 (mx x q1.1)), fl low tall (frP q1 q2 (mn z q2.1))], ?_, ?_, ?_⟩
      ·rw [f7, List.map_append, List.append_assoc]
       rfl
      ·rw [e4, e5]
      ·rw [List.length_append]
       show ns.length + 2 ≤ _
       omega
     ·have e5 : (ZG8 x z (q1, q2)).map (fl low tall) = [] := by
       unfold ZG8
       rw [if_neg (fun g => h2 g.2)]
       rfl
      walk_at "w"
      exact ⟨K5, ⟨_, _, rfl⟩, ns, f5, by rw [e4, e5, List.append_nil], by omega⟩
    ·have e5 : (ZG8 x z (q1, q2)).map (fl low tall) = [] := by
      unfold ZG8
      rw [if_neg (fun g => h1 g.1)]
      rfl
     walk_at "w"
     refine ZGH ?_
     walk_at "w"
     exact ⟨K5, ⟨_, _, rfl⟩, ns, f5, by rw [e4, e5, List.append_nil], by omega⟩
   ·rintro σ H4 ⟨K4, ⟨v6, v7, rfl⟩, ns, f4, ens, hns⟩
    walk_at "w"
    refine k l H4 nl ?_ ((S02.trans S3).kpN nl K4)
    rw [f4, ens, List.take_of_length_le (by rw [List.length_zip, List.length_drop]; omega)]
    rfl
  ·rintro i σ H2 hi ⟨⟨o1, o2, rfl⟩, S2, f2⟩
   have hi2 : i < us1.length := by rw [pw.length]; exact hi
   refine ⟨⟨_, _, SqT.of (S2 _ _ g1), List.getElem?_eq_getElem hi2⟩, ?_⟩
   rintro v H'' ⟨rfl, hv⟩
   have hv := hv _ (SqT.of (S2 _ _ g1))
   obtain ⟨c, q, rfl, hq, hc⟩ := (pw.same S2).at hv
   have e3 : (inCol cv x z).take (i + 1) = (inCol cv x z).take i ++ [q] := by rw [List.take_succ, hq]; rfl
   walk_at "w"
   refine ZGX ?_
   walk_at "w"
   refine ⟨_, _, p, low, tall, rows, rfl, hh.same (S1.trans S2), by decide, by unfold Bn; decide, ?_⟩
   refine ⟨_, f2, ?_, ⟨_, _, rfl⟩, S2.kpN n1 Kp.upd, ?_⟩
   ·rw [List.length_map, List.length_map, List.length_map, List.length_take]
    exact Nat.lt_of_le_of_lt (Nat.le_trans (Nat.min_le_right _ _) hcl) (by decide)
   ·rw [ZFf, e3, List.map_append, List.map_append, List.map_append]
    rfl
def ZYy (K : W.Frag) : Sp := fun vs H Q _ => ∃ (t u p : Addr) (cv : PL) (x z low tall rows : Int), vs = [.ref t, .ref u, .ref p] ∧ PrT H t cv ∧ H u = some (.tup [.int x, .int z]) ∧ Hts H p low tall rows ∧ Asc cv ∧ BP cv ∧ cv.length ≤ 100 ∧ Bn 200 x ∧ Bn 200 z ∧
 ∀ (v : V) (o : Option (Int × Int)) (H' : Hp), ZHM H' v o → ZQd ((ZOe cv x z).map (fl low tall)) rows o → ZFY H H' → Q v H'
theorem ZHe : ZFa ["samples", "times", "heights", "met", "least", "greatest"] ["samples", "times", "heights"] (ZFW ZIZ) := ZFv
theorem ZMm (T : Txt K mg a) : ZFc P w K mg base CX0 4 a.Jg a.Jc ["samples", "times", "heights"] (ZYy K) := by
 refine T.ZA6.ok ZHe (by walk_at "l") (fun cdv A outer s H vs Q E hr h => ?_)
 ·obtain ⟨t, u, p, cv, x, z, low, tall, rows, rfl, hT, hu, hh, hasc, hbp, hlen, bx, bz, k⟩ := h
  refine ⟨_, QB.h (ZFV (qsS (i := 3) ZHe.nd (qcS (ZPT T) hr T.ZDj T.ZCV.kp T.ZDy (ZFS (qv 0) (ZFS (qv 1) (ZFS (qv 2) ZFT))))) (ZFV (ZF1 (ZFk (ZGj) (ZFr (ZIz K rfl) rfl T.JI ZIT (ZFS (qv 3) ZFT)) ZFU (ZFm _)) (ZFX (ZFh ZHO)) ZFq) (ZFV (qsS (i := 4) ZHe.nd (ZFr (ZNv rfl) rfl T.ZAy ZKQ (ZFS (ZFr (ZVq K rfl rfl) rfl T.ZAl ZKR (ZFS (qv 3) ZFT)) (ZFS ZFU ZFT)))) (ZFV (qsS (i := 5) ZHe.nd (ZFr (ZNw rfl) rfl T.ZAl ZKR (ZFS (ZFr (ZVr K rfl rfl) rfl T.ZAy ZKQ (ZFS (qv 3) ZFT)) (ZFS (ZFb ZGk (ZFn (ZFp K rfl) (qv 2) ZFU) ZFU) ZFT)))) (ZFX (ZFh (ZHU (ZFk (ZG9) (qv 4) (qv 5) (ZFm _)) (ZFw (ZFS (qv 4) (ZFS (qv 5) ZFT))) ZHO))))))), ?_⟩
  walk_at "s"
  walk_at "w"
  refine ⟨t, u, p, cv, x, z, low, tall, rows, rfl, hT, hu, hh, hasc, hbp, hlen, bx, bz, fun l H1 n1 f1 S1 => ?_⟩
  have g1 := (hh.same S1).1
  generalize hfs : (ZOe cv x z).map (fl low tall) = fs at f1 k
  walk_at "w"
  refine ZFt (fun h => ?_) (fun h => ?_)
  ·walk_at "w"
   have : fs = [] := List.length_eq_zero_iff.mp (by have h := V.int.inj h; rw [List.length_map] at h; omega)
   exact k _ _ H1 .non (.inl ⟨this, rfl⟩) S1
  ·have hne : fs ≠ [] := fun z => h (by rw [z]; rfl)
   walk_at "w"
   refine ZVs (SqL.of f1) hne fun m hm1 hm2 => ?_
   walk_at "w"
   refine ZVt (SqL.of f1) hne fun M hM1 hM2 => ?_
   walk_at "w"
   have e1 : (if (0 : Int) > m then 0 else m) = max m 0 := by split <;> omega
   have e2 : (if rows - 1 < M then rows - 1 else M) = min M (rows - 1) := by split <;> omega
   rw [e1, e2]
   refine ZFt (fun h2 => ?_) (fun h2 => ?_)
   ·walk_at "w"
    refine ZFd (by show 2 ≤ sizeLine; decide) fun c H2 n2 f2 S2 => ?_
    refine k _ (some (max m 0, min M (rows - 1))) H2 (.pr f2) (.inr ⟨m, M, hm1, hm2, hM1, hM2, ?_⟩) (S1.trans S2)
    rw [if_pos h2]
   ·walk_at "w"
    refine k _ none H1 .non (.inr ⟨m, M, hm1, hm2, hM1, hM2, ?_⟩) S1
    rw [if_neg h2]
def Win (H : Hp) (q : Addr) (b y m : Int) : Prop := H q = some (.tup [.int b, .int y, .int m]) ∧ Bn 190 b ∧ 0 < y ∧ Bn 150 y ∧ 1 ≤ m ∧ m ≤ 100
theorem Win.same {H H' : Hp} {q : Addr} {b y m : Int} (h : Win H q b y m) (s : ZFY H H') : Win H' q b y m := ⟨s _ _ h.1, h.2⟩
theorem ZYL {k : Int} (h0 : 0 ≤ k) (h1 : k ≤ 100) : Bn 7 k := by unfold Bn; omega
theorem ZYM {b y k : Int} (h1 : Bn 190 b) (h2 : Bn 150 y) (h0 : 0 ≤ k) (h3 : k ≤ 100) : Bn 191 (b + k * y) := h1.add (((ZYL h0 h3).mul h2).mono (by decide))
def ZO0 (cv : PL) (b y m low tall rows : Int) (os : List (Option (Int × Int))) : Prop := os.length = m.toNat ∧ ∀ (k : Nat) o, os[k]? = some o → ZQd ((ZOe (inCol cv b (b + m * y)) (b + (k : Int) * y) (b + (k : Int) * y + y)).map (fl low tall)) rows o
theorem Asc.inCol {cv : PL} {b e : Int} (h : Asc cv) : Asc (inCol cv b e) := List.Pairwise.filter _ h
theorem BP.inCol {cv : PL} {b e : Int} (h : BP cv) : BP (inCol cv b e) := fun p hp => h p (ZR8 hp)
def ZYN (K : W.Frag) : Sp := fun vs H Q _ => ∃ (t q p : Addr) (cv : PL) (b y m low tall rows : Int), vs = [.ref t, .ref q, .ref p] ∧ PrT H t cv ∧ Win H q b y m ∧ Hts H p low tall rows ∧ Asc cv ∧ BP cv ∧ cv.length ≤ 100 ∧
 ∀ (u : Addr) (vs : List V) (os : List (Option (Int × Int))) (H' : Hp), H' u = some (.tup vs) → ZGq H' vs os → ZO0 cv b y m low tall rows os → ZFY H H' → Q (.ref u) H'
theorem ZH7 : ZFa ["curve", "window", "heights", "begin", "wide", "many", "counting"] ["curve", "window", "heights"] (ZFW ZJH) := ZFv
theorem ZQt (T : Txt K mg a) : ZFc P w K mg base CX0 5 a.ZBc a.ZBL ["curve", "window", "heights"] (ZYN K) := by
 refine T.ZCh.ok ZH7 (by walk_at "l") (fun cdv A outer s H vs Q E hr h => ?_)
 ·obtain ⟨t, q, p, cv, b, y, m, low, tall, rows, rfl, hT, ⟨hq, hb, hy, hby, hm1, hm2⟩, hh, hasc, hbp, hlen, k⟩ := h
  refine ⟨_, QB.h (ZFV (ZGv (qv 1) (ZGb (n := 3) K rfl rfl (ZFi (qgN (i := 3) ZH7.nd) (ZFi (qgN (i := 4) ZH7.nd) (ZFi (qgN (i := 5) ZH7.nd) ZGO))))) (ZFV (qsS (i := 6) ZH7.nd (qcS (ZMM T) hr.m T.ZCn T.ZBN.kp T.ZCt (ZFS (qv 0) (ZFS (qv 3) (ZFS (ZFb ZF9 (qv 3) (ZFb ZGF (qv 5) (qv 4))) ZFT))))) (ZFX (ZFh (ZHx (ZI0 K rfl) rfl T.JG ZIu (ZFS (ZHc (N := ["curve", "window", "heights", "begin", "wide", "many", "counting"]) (sc := ZFW ZJH) (own := ["times"]) (caps := ["counting", "heights"]) (ks := [6, 2]) rfl rfl rfl ⟨rfl, by decide +kernel, by decide +kernel, by decide +kernel, by decide +kernel, rfl, by decide +kernel⟩ (ZJg K rfl (qcS (ZKI T) hr.m T.ZBC T.ZAI.kp T.ZBj (ZFS (qv 1) ZFT))) (fun _ _ _ _ _ => ZGg (i := 0) (show List.Nodup (α := Str) ["times", "counting", "heights"] from by decide +kernel) rfl (by walk_at "o") (.inr rfl)) (fun _ _ _ _ _ => ZG6) (fun _ _ _ _ _ => qcS (ZMm T) hr T.ZC3 T.ZA6.kp T.ZCz (ZFS (qv 1) (ZFS (qv 0) (ZFS (qv 2) ZFT))))) ZFT)))))), ?_⟩
  walk_at "s"
  walk_at "w"
  refine ⟨t, cv, _, _, rfl, hT, by omega, fun w1 H1 hw S1 => ?_⟩
  walk_at "w"
  refine ⟨q, b, y, m, rfl, S1 _ _ hq, by omega, by omega, fun l0 us0 H1' n1' f1' hP' S1' => ?_⟩
  have S01 := S1.trans S1'
  walk_at "w"
  intro l n1
  have nl : H l = none := S01.free n1
  refine ZHB m.toNat (fun i σ' H' => (∃ o, σ' = [o, some (.ref w1), some (.ref p)]) ∧ ZFY H1' H' ∧ ∃ vs os, H' l = some (.lst vs) ∧ ZGq H' vs os ∧ os.length = i ∧ ∀ (k : Nat) o, os[k]? = some o → ZQd ((ZOe (inCol cv b (b + m * y)) (b + (k : Int) * y) (b + (k : Int) * y + y)).map (fl low tall)) rows o) ?_ ?_ ?_
  ·exact ⟨⟨none, rfl⟩, ZFY.new n1, [], [], ZFf, .nil, rfl, fun k o h => by simp at h⟩
  ·rintro σ H2 ⟨_, S2, vs, os, f2, hD, ho, hI⟩
   refine ⟨⟨_, SqL.of (S2 _ _ f1'), by rw [hP'.length, ZIW]; exact Nat.le_refl _⟩, ?_⟩
   walk_at "w"
   refine ZJe (SqL.of f2) fun u H4 n4 f4 S4 => ?_
   exact k u vs os H4 f4 (hD.same S4) ⟨ho, hI⟩ (S01.trans (S2.trans S4))
  ·rintro i σ H2 hi ⟨⟨o, rfl⟩, S2, vs, os, f2, hD, ho, hI⟩
   have hi2 : i < us0.length := by rw [hP'.length, ZIW]; exact hi
   refine ⟨⟨_, _, SqL.of (S2 _ _ f1'), List.getElem?_eq_getElem hi2⟩, ?_⟩
   rintro x H'' ⟨rfl, hx⟩
   have hx := hx _ (SqL.of (S2 _ _ f1'))
   obtain ⟨u, pr, rfl, hpr, f3⟩ := (hP'.same S2).at hx
   have hpr := ZOu hpr
   subst hpr
   have S02 := S01.trans S2
   walk_at "w"
   refine ZGX ?_
   walk_at "w"
   have hbx := ZYM hb hby (k := (i : Int)) (by omega) (by omega)
   refine ⟨w1, u, p, _, _, _, low, tall, rows, rfl, hw.same (S1'.trans S2), f3, hh.same S02, Asc.inCol hasc, BP.inCol hbp, Nat.le_trans (List.length_filter_le _ _) hlen, hbx.mono (by decide), (hbx.add (hby.mono (by decide))).mono (by decide), fun v o2 H5 hd5 hI5 S25 => ?_⟩
   have f5 := S25 _ _ f2
   refine ⟨vs, f5, ?_, ⟨_, rfl⟩, (S2.trans S25).kpN n1 Kp.upd, vs ++ [v], os ++ [o2], ZFf, ?_, by simp [ho], ?_⟩
   ·rw [hD.len, ho]
    exact Nat.lt_of_lt_of_le hi (Nat.le_trans (show m.toNat ≤ 1000 by omega) (by decide))
   ·exact ((hD.same S25).snoc hd5).mapP fun _ _ d => d.kpL Kp.upd f5
   ·intro k' o' h'
    rw [List.getElem?_append] at h'
    split at h'
    ·exact hI k' o' h'
    ·have : k' = i := by
      have := (List.getElem?_eq_some_iff.mp h').1
      simp at this
      omega
     subst this
     rw [ho, Nat.sub_self] at h'
     have : o2 = o' := by simpa using h'
     subst this
     exact hI5
end
theorem ZWP {cv ps : PL} {p : Int × Int} (hasc : Asc cv) (hnd : (ps.map (·.1)).Nodup) (hs : ∀ q ∈ ps, q ∈ cv) (hp : p ∈ cv) (q : Int × Int) : q ∈ ZGP ps p.1 p.2 ↔ q ∈ ps ∨ q = p := by
 obtain ⟨t, h⟩ := q
 rw [← ZHX (ZHy hnd), ZOF, ← ZHX hnd]
 by_cases e : t = p.1
 ·rw [if_pos e]
  constructor
  ·intro z
   refine .inr ?_
   rw [e, ← Option.some.inj z]
  ·rintro (z | z)
   ·have := ZV4 hasc (hs _ ((ZHX hnd).mp z)) hp e
    rw [← this]
   ·rw [← z]
 ·rw [if_neg e]
  constructor
  ·exact .inl
  ·rintro (z | z)
   ·exact z
   ·rw [← z] at e
    exact absurd rfl e
theorem ZPu {cv : PL} (hasc : Asc cv) : ∀ (prs acc : PL), (acc.map (·.1)).Nodup → (∀ q ∈ acc, q ∈ cv) → (∀ q ∈ prs, q ∈ cv) → ∀ q, q ∈ prs.foldl (fun m p => ZGP m p.1 p.2) acc ↔ q ∈ acc ∨ q ∈ prs
 | [], acc, _, _, _, q => by simp
 | p :: prs, acc, hn, ha, hp, q => by
  have hpm := ZWP hasc hn ha (hp p List.mem_cons_self)
  rw [List.foldl_cons, ZPu hasc prs _ (ZHy hn) (fun z hz => by
   rcases (hpm z).mp hz with hz | rfl
   ·exact ha z hz
   ·exact hp z List.mem_cons_self) (fun z hz => hp z (List.mem_cons_of_mem _ hz)), hpm, List.mem_cons, or_assoc]
def ZH8 (fs : List (Option (PL))) : PL := fs.flatMap fun o => o.getD []
theorem ZNL {fs : List (Option (PL))} {r : Int × Int} : r ∈ ZH8 fs ↔ ∃ qs, some qs ∈ fs ∧ r ∈ qs := by
 unfold ZH8
 rw [List.mem_flatMap]
 constructor
 ·rintro ⟨o, ho, hr⟩
  cases o with
  | none => cases hr
  | some qs => exact ⟨qs, ho, hr⟩
 ·rintro ⟨qs, ho, hr⟩
  exact ⟨some qs, ho, hr⟩
section
variable {P : Program} {w : World} {K : W.Frag} {mg : Str → Option Value} {base : Heap} {a : Ad}
def ZUH (K : W.Frag) : Sp := fun vs H Q _ => ∃ (t : Addr) (us : List V) (fs : List (Option (PL))) (cv : PL), vs = [.ref t] ∧ H t = some (.tup us) ∧ ZGQ H us fs ∧ fs.length ≤ 15 ∧ Asc cv ∧ (∀ qs, some qs ∈ fs → ∀ r ∈ qs, r ∈ cv) ∧
 ∀ (t' : Addr) (kp : PL) (H' : Hp), PrT H' t' kp → Asc kp → kp.length ≤ 100 → (∀ r, r ∈ kp ↔ ∃ qs, some qs ∈ fs ∧ r ∈ qs) → ZFY H H' → Q (.ref t') H'
theorem ZKA : ZFa ["fours", "samples", "four"] ["fours"] (ZFW ZKd) := ZFv
theorem ZMN (T : Txt K mg a) : ZFc P w K mg base CX0 2 a.ZBr a.ZBZ ["fours"] (ZUH K) := by
 refine T.ZBq.ok ZKA (by walk_at "l") (fun cdv A outer s H vs Q E hr h => ?_)
 ·obtain ⟨t, us, fs, cv, rfl, hT, hF, hlen, hasc, hin, k⟩ := h
  have hul : us.length = fs.length := hF.len
  refine ⟨_, QB.h (ZFV (qsS (i := 1) ZKA.nd (ZGp ZFT)) (ZFV (ZIU PassesOwn.never rfl (ZKS K rfl (qv 0)) (qgN (i := 2) ZKA.nd) (ZFX (ZF1 (ZFk (ZMV) (qv 2) ZHO (ZFm _)) (ZFX (ZFu (ZIL PySem.F.plainAttrs_list PySem.F.slot_list_extend PySem.F.type_list_extend ZQS (qv 1) (ZFS (qv 2) ZFT)))) ZFq))) (ZFX (ZFh (qcS (ZLQ T) hr T.ZCW T.ZAz.kp T.ZCb (ZFS (qv 1) ZFT)))))), ?_⟩
  walk_at "s"
  walk_at "w"
  refine ZFd (by show 0 ≤ sizeLine; decide) fun l H1 n1 f1 S1 => ?_
  have hT1 := S1 _ _ hT
  walk_at "w"
  refine ZK2 (xs := us) (fun i σ H' => (∃ v2, σ = [some (.ref t), some (.ref l), v2]) ∧ ZFY H H' ∧ ∃ vs, H' l = some (.lst vs) ∧ ZFe H' vs (ZH8 (fs.take i)) ∧ (ZH8 (fs.take i)).length ≤ 4 * i) ?_ ?_ ?_ ?_
  ·exact ⟨⟨_, rfl⟩, S1, [], f1, .nil, Nat.zero_le _⟩
  ·rintro i σ H2 _ ⟨_, S2, _⟩
   exact SqT.of (S2 _ _ hT)
  ·rintro i xv σ H2 hx ⟨⟨v2, rfl⟩, S2, vs, f2, hP2, hl2⟩
   obtain ⟨o, ho, hd⟩ := (hF.same S2).at hx
   have hi : i < fs.length := by have := (List.getElem?_eq_some_iff.mp ho).1; exact this
   have e3 : ZH8 (fs.take (i + 1)) = ZH8 (fs.take i) ++ o.getD [] := by
    unfold ZH8
    rw [List.take_succ, ho, List.flatMap_append]
    simp
   walk_at "w"
   cases hd with
   | non =>
    refine ZJu (fun h => absurd rfl h) (fun _ => ?_)
    walk_at "w"
    refine ⟨⟨_, rfl⟩, S2, vs, f2, ?_, ?_⟩
    ·rw [e3]; simpa using hP2
    ·rw [e3]; simp; omega
   | @pr c qs hq hl4 =>
    obtain ⟨ws, gq, pq⟩ := hq
    refine ZJu (fun _ => ?_) (fun h => by cases h)
    walk_at "w"
    refine ⟨tyL f2, ?_⟩
    walk_at "w"
    refine ZQT f2 gq ?_ ?_ fun H3 f3 K3 => ?_
    ·intro j z
     cases pq with
     | nil => cases z
     | cons a t =>
      obtain ⟨c', e, _⟩ := a
      rw [List.head?_cons, e] at z
      cases z
    ·rw [hP2.length, pq.length, hl4]
     exact Nat.le_trans (show _ ≤ 1000 by omega) (by decide)
    walk_at "w"
    refine ⟨⟨_, rfl⟩, S2.kpN n1 K3, _, f3, ?_, ?_⟩
    ·rw [e3]
     exact (ZFe.kpL K3 f2 hP2).app (ZFe.kpL K3 f2 pq)
    ·rw [e3, List.length_append]
     show _ + qs.length ≤ _
     omega
  ·rintro σ H2 ⟨⟨v2, rfl⟩, S2, vs, f2, hP2, hl2⟩
   rw [hul, List.take_length] at hP2 hl2
   walk_at "w"
   refine ⟨true, l, vs, _, rfl, f2, hP2, by omega, fun t' kp H3 hT3 hC hlk S3 => ?_⟩
   refine k t' kp H3 hT3 hC.1 (by omega) (fun r => ?_) (S2.trans S3)
   have hm : ∀ q ∈ ZH8 fs, q ∈ cv := fun q hq => by
    obtain ⟨qs, h1, h2⟩ := ZNL.mp hq
    exact hin qs h1 q h2
   rw [← ZNL]
   obtain ⟨t0, h0⟩ := r
   rw [hC.2, ZHX (ZMC _)]
   have := ZPu hasc (ZH8 fs) [] List.nodup_nil (fun q hq => by cases hq) hm (t0, h0)
   rw [show ZHL (ZH8 fs) = (ZH8 fs).foldl (fun m p => ZGP m p.1 p.2) [] from rfl, this]
   simp
def ZR9 (cv : PL) (x z : Int) (o : Option (PL)) : Prop := (o = none ∧ inCol cv x z = []) ∨ ∃ q0 q1 q2 q3, o = some [q0, q1, q2, q3] ∧ (∀ r ∈ [q0, q1, q2, q3], r ∈ inCol cv x z) ∧ ∀ p ∈ inCol cv x z, q0.1 ≤ p.1 ∧ p.1 ≤ q1.1 ∧ q2.2 ≤ p.2 ∧ p.2 ≤ q3.2
def ZII (cv : PL) (b y m : Int) (fs : List (Option (PL))) : Prop := fs.length = m.toNat ∧ ∀ (k : Nat) o, fs[k]? = some o → ZR9 cv (b + (k : Int) * y) (b + (k : Int) * y + y) o
theorem ZII.mem {cv : PL} {b y m : Int} {fs : List (Option (PL))} (h : ZII cv b y m fs) {qs : PL} (hq : some qs ∈ fs) : ∃ k : Nat, (k : Int) < m ∧ ∀ r ∈ qs, r ∈ cv ∧ b + (k : Int) * y ≤ r.1 ∧ r.1 < b + (k : Int) * y + y := by
 obtain ⟨k, hk, e⟩ := List.getElem_of_mem hq
 refine ⟨k, by rw [h.1] at hk; omega, fun r hr => ?_⟩
 rcases h.2 k _ (by rw [List.getElem?_eq_getElem hk, e]) with ⟨z, _⟩ | ⟨q0, q1, q2, q3, e4, h4, _⟩
 ·cases z
 ·obtain rfl := Option.some.inj e4
  exact ZGD.mp (h4 r hr)
theorem ZII.kept {cv kp : PL} {b y m : Int} {fs : List (Option (PL))} (hy : 0 < y) (h : ZII cv b y m fs) (hm : ∀ r, r ∈ kp ↔ ∃ qs, some qs ∈ fs ∧ r ∈ qs) : L2.Kept cv kp b y m := by
 constructor
 ·intro p hp
  obtain ⟨qs, hq, hr⟩ := (hm p).mp hp
  obtain ⟨k, hk, hall⟩ := h.mem hq
  obtain ⟨g1, g2, g3⟩ := hall p hr
  have h1 : (0 : Int) ≤ (k : Int) * y := Int.mul_nonneg (by omega) (by omega)
  have h2 : ((k : Int) + 1) * y ≤ m * y := Int.mul_le_mul_of_nonneg_right (by omega) (by omega)
  rw [Int.add_mul, Int.one_mul] at h2
  exact ⟨g1, by omega, by omega⟩
 ·intro k hk0 hk1 p hp g1 g2
  obtain ⟨n, rfl⟩ : ∃ n : Nat, k = (n : Int) := ⟨k.toNat, by omega⟩
  have hn : n < fs.length := by rw [h.1]; omega
  have hpc : p ∈ inCol cv (b + (n : Int) * y) (b + (n : Int) * y + y) := ZGD.mpr ⟨hp, g1, g2⟩
  rcases h.2 n _ (List.getElem?_eq_getElem hn) with ⟨_, z⟩ | ⟨q0, q1, q2, q3, e4, h4, hle⟩
  ·rw [z] at hpc
   cases hpc
  ·obtain ⟨l0, l1, l2, l3⟩ := hle p hpc
   have mem : ∀ r ∈ [q0, q1, q2, q3], r ∈ kp := fun r hr => (hm r).mpr ⟨_, by rw [← e4]; exact List.getElem_mem hn, hr⟩
   have c0 := (ZGD.mp (h4 q0 (by simp))).2
   have c1 := (ZGD.mp (h4 q1 (by simp))).2
   have c2 := (ZGD.mp (h4 q2 (by simp))).2
   have c3 := (ZGD.mp (h4 q3 (by simp))).2
   exact ⟨⟨q0, mem _ (by simp), c0.1, l0⟩, ⟨q1, mem _ (by simp), l1, c1.2⟩, ⟨q2, mem _ (by simp), c2.1, c2.2, l2⟩, ⟨q3, mem _ (by simp), c3.1, c3.2, l3⟩⟩
def ZUI (K : W.Frag) : Sp := fun vs H Q _ => ∃ (t q p : Addr) (us : List V) (fs : List (Option (PL))) (cv : PL) (b y m low tall rows : Int), vs = [.ref t, .ref q, .ref p] ∧ H t = some (.tup us) ∧ ZGQ H us fs ∧ ZII cv b y m fs ∧ m ≤ 15 ∧ Win H q b y m ∧ Hts H p low tall rows ∧ Asc cv ∧ BP cv ∧
 ∀ (u : Addr) (vs : List V) (os : List (Option (Int × Int))) (kp : PL) (H' : Hp), H' u = some (.tup vs) → ZGq H' vs os → Asc kp → L2.Kept cv kp b y m → ZO0 kp b y m low tall rows os → ZFY H H' → Q (.ref u) H'
theorem ZQu : ZFa ["fours", "window", "heights"] ["fours", "window", "heights"] (ZFW ZKe) := ZFv
theorem ZQv (T : Txt K mg a) : ZFc P w K mg base CX0 6 a.ZBs a.ZBb ["fours", "window", "heights"] (ZUI K) := by
 refine T.ZCi.ok ZQu (by walk_at "l") (fun cdv A outer s H vs Q E hr h => ?_)
 ·obtain ⟨t, q, p, us, fs, cv, b, y, m, low, tall, rows, rfl, hT, hF, hO, hm, hW, hh, hasc, hbp, k⟩ := h
  refine ⟨_, QB.h (ZFX (ZFh (qcS (ZQt T) hr T.ZEH T.ZCh.kp T.ZD9 (ZFS (qcS (ZMN T) hr.m T.ZCp T.ZBq.kp T.ZCs (ZFS (qv 0) ZFT)) (ZFS (qv 1) (ZFS (qv 2) ZFT)))))), ?_⟩
  walk_at "s"
  walk_at "w"
  refine ⟨t, us, fs, cv, rfl, hT, hF, by rw [hO.1]; omega, hasc, fun qs hq r hr => ?_, fun t' kp H1 hT1 hak hlk hmk S1 => ?_⟩
  ·obtain ⟨_, _, hall⟩ := hO.mem hq
   exact (hall r hr).1
  have hkept := hO.kept hW.2.2.1 hmk
  walk_at "w"
  refine ⟨t', q, p, kp, b, y, m, low, tall, rows, rfl, hT1, hW.same S1, hh.same S1, hak, fun r hr => hbp r (hkept.1 r hr).1, hlk, fun u vs os H2 f2 hD2 hO2 S2 => ?_⟩
  exact k u vs os kp H2 f2 hD2 hak hkept hO2 (S1.trans S2)
end
abbrev Lyr := Str × List (Option (Int × Int))
def ZMO (H : Hp) (v : V) (q : Lyr) : Prop := ∃ c t us, v = .ref c ∧ H c = some (.tup [.str q.1, .ref t]) ∧ H t = some (.tup us) ∧ ZGq H us q.2
theorem ZMO.tups {H H' : Hp} {v : V} {q : Lyr} (h : ZMO H v q) (f : ∀ b xs, H b = some (.tup xs) → H' b = some (.tup xs)) : ZMO H' v q := by
 obtain ⟨c, t, us, e, h1, h2, h3⟩ := h
 refine ⟨c, t, us, e, f _ _ h1, f _ _ h2, h3.mapP fun v o h => ?_⟩
 cases h with
 | non => exact .non
 | pr e => exact .pr (f _ _ e)
def ZMn (H : Hp) (l : Addr) (qs : List Lyr) : Prop := ∃ vs, H l = some (.lst vs) ∧ Paired (ZMO H) vs qs
theorem ZMn.same {H H' : Hp} {l : Addr} {qs : List Lyr} (h : ZMn H l qs) (s : ZFY H H') : ZMn H' l qs := by
 obtain ⟨vs, h1, h2⟩ := h
 exact ⟨vs, s _ _ h1, Paired.mapP h2 fun _ _ z => z.tups fun b xs e => s _ _ e⟩
def ZKB (o : Option (Int × Int)) (r : Int) : Bool := match o with
 | none => false
 | some p => decide (p.1 ≤ r) && decide (r ≤ p.2)
def ZH9 (qs : List Lyr) (k : Nat) (r : Int) : Str := match qs with
 | [] => "."
 | q :: qs => if ZKB ((q.2[k]?).getD none) r = true then q.1 else ZH9 qs k r
def LOk (qs : List Lyr) (m : Nat) : Prop := ∀ q ∈ qs, q.1.length = 1 ∧ q.2.length = m
theorem ZMP {m : Nat} : ∀ {qs : List Lyr}, LOk qs m → ∀ (k : Nat) (r : Int), (ZH9 qs k r).length = 1
 | [], _, _, _ => rfl
 | q :: qs, h, k, r => by
  unfold ZH9
  split
  ·exact (h q List.mem_cons_self).1
  ·exact ZMP (fun z hz => h z (List.mem_cons_of_mem _ hz)) k r
def lineL (qs : List Lyr) (m : Nat) (r : Int) : List Str := (List.range m).map fun k => ZH9 qs k r
theorem ZKv {qs : List Lyr} {n : Nat} (h : LOk qs n) (r : Int) : ∀ m : Nat, ((lineL qs m r).map (·.length)).sum = m
 | 0 => rfl
 | m + 1 => by
  have := ZKv h r m
  unfold lineL at this ⊢
  rw [List.range_succ, List.map_append, List.map_append, List.sum_append, this]
  simp only [List.map_cons, List.map_nil, List.sum_cons, List.sum_nil]
  rw [ZMP h, Nat.add_zero]
def ZLA (qs : List Lyr) (m : Nat) (r : Int) : Str := ZLb (lineL qs m r)
theorem ZNM {qs : List Lyr} {n : Nat} (h : LOk qs n) (m : Nat) (r : Int) : (ZLA qs m r).length = m := by
 unfold ZLA
 rw [ZTU, ZKv h]
section
variable {P : Program} {w : World} {K : W.Frag} {mg : Str → Option Value} {base : Heap} {a : Ad}
def ZYz : Sp := fun vs H Q _ => ∃ (v : V) (o : Option (Int × Int)) (r : Int), vs = [v, .int r] ∧ ZHM H v o ∧ Q (.bl (ZKB o r)) H
theorem ZQw : ZFa ["pair", "row"] ["pair", "row"] (ZFW ZKg) := ZFv
theorem ZQx (T : Txt K mg a) : ZFc P w K mg base CX0 1 a.ZBD a.ZBv ["pair", "row"] ZYz := by
 refine T.ZCk.ok ZQw (by walk_at "l") (fun cdv A outer s H vs Q E hr h => ?_)
 ·obtain ⟨v, o, r, rfl, hd, q⟩ := h
  refine ⟨_, QB.h (ZFX (ZFh (ZIx (ZHp (ZMV) (qv 0) ZHO (ZFm _)) (ZIw (ZLY ZG9 ZG9 (ZFn (ZFp K rfl) (qv 0) ZFU) (qv 1) (ZFn (ZFp K rfl) (qv 0) ZFU)))))), ?_⟩
  walk_at "s"
  walk_at "w"
  cases hd with
  | non =>
   refine ZJu (fun h => absurd rfl h) (fun _ => ?_)
   exact q
  | @pr c p e =>
   refine ZJu (fun _ => ?_) (fun h => by cases h)
   walk_at "w"
   refine ZFt (fun h => ?_) (fun h => ?_)
   ·walk_at "w"
    have e2 : ZKB (some p) r = decide (r ≤ p.2) := by simp [ZKB, h]
    rw [← e2]
    exact q
   ·have e2 : ZKB (some p) r = false := by simp [ZKB, h]
    rw [e2] at q
    exact q
def ZYO (K : W.Frag) : Sp := fun vs H Q _ => ∃ (l : Addr) (qs : List Lyr) (k m : Nat) (r : Int), vs = [.ref l, .int k, .int r] ∧ ZMn H l qs ∧ LOk qs m ∧ k < m ∧ Q (.str (ZH9 qs k r)) H
theorem ZJa (qs : List Lyr) (k : Nat) (r : Int) : ∀ i : Nat, (∀ j q, j < i → qs[j]? = some q → ZKB ((q.2[k]?).getD none) r = false) → ZH9 qs k r = ZH9 (qs.drop i) k r
 | 0, _ => rfl
 | i + 1, h => by
  rw [ZJa qs k r i fun j q hj => h j q (by omega)]
  by_cases hi : i < qs.length
  ·rw [List.drop_eq_getElem_cons hi]
   have := h i _ (by omega) (List.getElem?_eq_getElem hi)
   conv => lhs; unfold ZH9
   rw [this]
   rfl
  ·rw [List.drop_of_length_le (by omega), List.drop_of_length_le (by omega)]
theorem ZKC : ZFa ["layers", "k", "row", "sign", "dots"] ["layers", "k", "row"] (ZFW ZKf) := ZFv
theorem ZQy (T : Txt K mg a) : ZFc P w K mg base CX0 2 a.ZBm a.ZBX ["layers", "k", "row"] (ZYO K) := by
 refine T.ZCq.ok ZKC (by walk_at "l") (fun cdv A outer s H vs Q E hr h => ?_)
 ·obtain ⟨l, qs, n, m, r, rfl, ⟨vs, hl, hp⟩, hok, hn, q⟩ := h
  have hvl : vs.length = qs.length := Paired.length hp
  refine ⟨_, QB.h (ZFV (ZIU PassesOwn.never rfl (ZJg K rfl (qv 0)) (ZGb (n := 2) K rfl rfl (ZFi (qgN (i := 3) ZKC.nd) (ZFi (qgN (i := 4) ZKC.nd) ZGO))) (ZFX (ZF1 (ZG4 (qcS (ZQx T) hr T.ZD6 T.ZCk.kp T.ZEM (ZFS (ZFn (ZFp K rfl) (qv 4) (qv 1)) (ZFS (qv 2) ZFT)))) (ZFX (ZFh (qv 3))) ZFq))) (ZFX (ZFh ZGB))), ?_⟩
  walk_at "s"
  walk_at "w"
  refine ZPf (xs := vs) (fun i σ H' => H' = H ∧ (∃ v3 v4, σ = [some (.ref l), some (.int n), some (.int r), v3, v4]) ∧ ∀ j q, j < i → qs[j]? = some q → ZKB ((q.2[n]?).getD none) r = false) ⟨rfl, ⟨_, _, rfl⟩, fun j q hj => absurd hj (by omega)⟩ (fun i σ H' _ h => by rw [h.1]; exact SqL.of hl) ?_ ?_
  ·rintro i x σ H1 hx ⟨rfl, ⟨v3, v4, rfl⟩, hno⟩
   obtain ⟨qq, hq, c, t, us, rfl, hc, ht, hD⟩ := Paired.get hp hx
   have hlen := (hok qq (List.mem_of_getElem? hq)).2
   have hi2 : n < us.length := by rw [hD.len]; omega
   obtain ⟨o, ho, hd⟩ := hD.at (List.getElem?_eq_getElem hi2)
   walk_at "w"
   refine ZMA (SqT.of ht) (ZIn (List.getElem?_eq_getElem hi2)) ?_
   walk_at "w"
   refine ⟨_, o, r, rfl, hd, ?_⟩
   walk_at "w"
   have eo : (qq.2[n]?).getD none = o := by rw [ho]; rfl
   cases hh : ZKB o r with
   | true =>
    refine ZGX ?_
    walk_at "w"
    have hi : i < qs.length := (List.getElem?_eq_some_iff.mp hq).1
    rw [ZJa qs n r i hno, List.drop_eq_getElem_cons hi] at q
    have eq : qs[i] = qq := (List.getElem?_eq_some_iff.mp hq).2
    rw [eq] at q
    unfold ZH9 at q
    rw [eo, hh, if_pos rfl] at q
    exact q
   | false =>
    refine ZGH ?_
    walk_at "w"
    refine ⟨rfl, ⟨_, _, rfl⟩, fun j q' hj hq' => ?_⟩
    rcases Nat.lt_or_eq_of_le (Nat.le_of_lt_succ hj) with hj | rfl
    ·exact hno j q' hj hq'
    ·rw [hq] at hq'
     cases hq'
     rw [eo]
     exact hh
  ·rintro σ H1 ⟨rfl, ⟨v3, v4, rfl⟩, hno⟩
   walk_at "w"
   rw [ZJa qs n r vs.length hno, List.drop_of_length_le (by omega)] at q
   exact q
def ZYP (K : W.Frag) : Sp := fun vs H Q _ => ∃ (l : Addr) (qs : List Lyr) (m r : Int), vs = [.ref l, .int m, .int r] ∧ ZMn H l qs ∧ LOk qs m.toNat ∧ 0 ≤ m ∧ m ≤ 1000 ∧ ∀ H', ZFY H H' → Q (.str (ZLA qs m.toNat r ++ "\n")) H'
theorem ZO1 : ZFa ["layers", "many", "row"] ["layers", "many", "row"] (ZFW ZIN) := ZFv
theorem ZO2 (T : Txt K mg a) : ZFc P w K mg base CX0 3 a.ZAR a.ZAS ["layers", "many", "row"] (ZYP K) := by
 refine T.ZB0.ok ZO1 (by walk_at "l") (fun cdv A outer s H vs Q E hr h => ?_)
 ·obtain ⟨l0, qs, m, r, rfl, hL, hok, hm0, hlen, k⟩ := h
  refine ⟨_, QB.h (ZFX (ZFh (ZFb ZVj (ZIL PySem.F.plainAttrs_str PySem.F.slot_str_join PySem.F.type_str_join (ZPk K rfl) ZGB (ZFS (ZHc (N := ["layers", "many", "row"]) (sc := ZFW ZIN) (own := ["k"]) (caps := ["layers", "row"]) (ks := [0, 2]) rfl rfl rfl ⟨rfl, by decide +kernel, by decide +kernel, by decide +kernel, by decide +kernel, rfl, by decide +kernel⟩ (ZJC rfl T.JH (ZFS (qv 1) ZFT)) (fun _ _ _ _ _ => ZGg (i := 0) (show List.Nodup (α := Str) ["k", "layers", "row"] from by decide +kernel) rfl (by walk_at "o") (.inr rfl)) (fun _ _ _ _ _ => ZG6) (fun _ _ _ _ _ => qcS (ZQy T) hr T.ZEG T.ZCq.kp T.ZD8 (ZFS (qv 1) (ZFS (qv 0) (ZFS (qv 2) ZFT))))) ZFT)) ZGB))), ?_⟩
  walk_at "s"
  walk_at "w"
  refine ⟨tyS, ?_⟩
  walk_at "w"
  refine ZMB (by omega) (by omega) ?_
  intro l hl
  refine ZHB m.toNat (fun i σ' H' => (∃ o, σ' = [o, some (.ref l0), some (.int r)]) ∧ ZFY H H' ∧ H' l = some (.lst ((lineL qs i r).map V.str))) ?_ ?_ ?_
  ·exact ⟨⟨none, rfl⟩, ZFY.new hl, ZFf⟩
  ·rintro σ H' ⟨_, s, f⟩
   refine ⟨Nat.le_refl _, ?_⟩
   walk_at "w"
   refine ZPl (SqL.of f) ?_ ?_
   ·rw [ZKv hok]
    show m.toNat + _ * 0 ≤ _
    omega
   rw [ZME]
   walk_at "w"
   refine ZVk ?_ (k H' s)
   show (ZLA qs m.toNat r).length + 1 ≤ sizeLine
   rw [ZNM hok]
   exact Nat.le_trans (show m.toNat + 1 ≤ 1001 by omega) (by decide)
  ·rintro i σ H' hi ⟨⟨o, rfl⟩, s, f⟩
   refine ⟨hi, ?_⟩
   rintro x H'' ⟨rfl, rfl⟩
   have e0 : (0 + (i : Int)) = (i : Int) := by omega
   walk_at "w"
   refine ZGX ?_
   walk_at "w"
   rw [e0]
   refine ⟨l0, qs, i, m.toNat, r, rfl, hL.same s, hok, hi, ?_⟩
   refine ⟨_, f, ?_, ⟨_, rfl⟩, s.kpN hl Kp.upd, ?_⟩
   ·rw [List.length_map, lineL, List.length_map, List.length_range]
    exact Nat.lt_of_lt_of_le hi (Nat.le_trans (show m.toNat ≤ 1000 by omega) (by decide))
   ·rw [ZFf, lineL, lineL, List.range_succ, List.map_append, List.map_append]
    rfl
def ZHg (qs : List Lyr) (m : Nat) (x : Int) (n : Nat) : List Str := (List.range n).map fun (i : Nat) => ZLA qs m (x + (i : Int) * (-1)) ++ "\n"
theorem ZQz {qs : List Lyr} {j : Nat} (h : LOk qs j) (m : Nat) (x : Int) (n : Nat) : ((ZHg qs m x n).map (·.length)).sum = n * (m + 1) := by
 induction n with
 | zero => simp [ZHg]
 | succ n ih =>
  have : ZHg qs m x (n + 1) = ZHg qs m x n ++ [ZLA qs m (x + (n : Int) * (-1)) ++ "\n"] := by simp [ZHg, List.range_succ]
  rw [this, List.map_append, List.sum_append, ih]
  simp only [List.map_cons, List.map_nil, List.sum_cons, List.sum_nil]
  rw [ZPm, ZNM h]
  show n * (m + 1) + (m + 1 + 0) = _
  rw [Nat.succ_mul]
def textL (qs : List Lyr) (m rows : Int) : Str := ZLb (ZHg qs m.toNat (rows - 1) rows.toNat)
def ZYQ (K : W.Frag) : Sp := fun vs H Q _ => ∃ (l : Addr) (qs : List Lyr) (m r : Int), vs = [.ref l, .int m, .int r] ∧ ZMn H l qs ∧ LOk qs m.toNat ∧ 0 ≤ m ∧ m ≤ 1000 ∧ 0 ≤ r ∧ r ≤ 1000 ∧ ∀ H', ZFY H H' → Q (.str (textL qs m r)) H'
theorem ZMo : ZFa ["layers", "many", "rows"] ["layers", "many", "rows"] (ZFW ZHj) := ZFv
theorem ZMp (T : Txt K mg a) : ZFc P w K mg base CX0 4 a.JS a.Jb ["layers", "many", "rows"] (ZYQ K) := by
 refine T.ZA7.ok ZMo (by walk_at "l") (fun cdv A outer s H vs Q E hr h => ?_)
 ·obtain ⟨l0, qs, m, r, rfl, hL, hok, hm0, hlen, hr0, hr1, k⟩ := h
  refine ⟨_, QB.h (ZFX (ZFh (ZIL PySem.F.plainAttrs_str PySem.F.slot_str_join PySem.F.type_str_join (ZPk K rfl) ZGB (ZFS (ZHc (N := ["layers", "many", "rows"]) (sc := ZFW ZHj) (own := ["row"]) (caps := ["layers", "many"]) (ks := [0, 1]) rfl rfl rfl ⟨rfl, by decide +kernel, by decide +kernel, by decide +kernel, by decide +kernel, rfl, by decide +kernel⟩ (ZRa rfl T.JH (ZFS (ZFb ZGk (qv 2) ZFU) (ZFS (ZJv ZIr ZFU) (ZFS (ZJv ZIr ZFU) ZFT)))) (fun _ _ _ _ _ => ZGg (i := 0) (show List.Nodup (α := Str) ["row", "layers", "many"] from by decide +kernel) rfl (by walk_at "o") (.inr rfl)) (fun _ _ _ _ _ => ZG6) (fun _ _ _ _ _ => qcS (ZO2 T) hr T.ZDb T.ZB0.kp T.ZDR (ZFS (qv 1) (ZFS (qv 2) (ZFS (qv 0) ZFT))))) ZFT)))), ?_⟩
  walk_at "s"
  walk_at "w"
  refine ⟨tyS, ?_⟩
  walk_at "w"
  refine ZTT (by omega) (by omega) (by decide) (by decide) ?_
  intro l hl
  have en : (r - 1 - -1).toNat = r.toNat := by congr 1; omega
  rw [en]
  refine ZHB r.toNat (fun i σ' H' => (∃ o, σ' = [o, some (.ref l0), some (.int m)]) ∧ ZFY H H' ∧ H' l = some (.lst ((ZHg qs m.toNat (r - 1) i).map V.str))) ?_ ?_ ?_
  ·exact ⟨⟨none, rfl⟩, ZFY.new hl, ZFf⟩
  ·rintro σ H' ⟨_, s, f⟩
   refine ⟨Nat.le_refl _, ?_⟩
   walk_at "w"
   refine ZPl (SqL.of f) ?_ ?_
   ·rw [ZQz hok]
    show r.toNat * (m.toNat + 1) + _ * 0 ≤ _
    have h1 : r.toNat * (m.toNat + 1) ≤ 1000 * 1001 := Nat.mul_le_mul (by omega) (by omega)
    omega
   rw [ZME]
   exact k H' s
  ·rintro i σ H' hi ⟨⟨o, rfl⟩, s, f⟩
   refine ⟨hi, ?_⟩
   rintro x H'' ⟨rfl, rfl⟩
   walk_at "w"
   refine ZGX ?_
   walk_at "w"
   refine ⟨l0, qs, m, _, rfl, hL.same s, hok, hm0, hlen, fun H5 S5 => ?_⟩
   refine ⟨_, S5 _ _ f, ?_, ⟨_, rfl⟩, (s.trans S5).kpN hl Kp.upd, ?_⟩
   ·rw [List.length_map, ZHg, List.length_map, List.length_range]
    exact Nat.lt_of_lt_of_le hi (Nat.le_trans (show r.toNat ≤ 1000 by omega) (by decide))
   ·rw [ZFf, ZHg, ZHg, List.range_succ, List.map_append, List.map_append]
    rfl
end
def bfl (d : Addr) : List (Str × V) := [("stores", V.ref d)]
theorem ZQ0 {d : Addr} : (bfl d).lookup ("stores" : Str) = some (.ref d) := by
 unfold bfl
 rw [List.lookup_cons, beq_self_eq_true]
theorem ZJn {d : Addr} {m : Str} (h1 : (m == ("stores" : Str)) = false) : (bfl d).lookup m = none := by
 unfold bfl
 rw [List.lookup_cons, h1]
 rfl
structure SS where
 S : SA
 sm : PL
 c : Nat
 ds : List (Int × Option Int)
 ts : List Int
 ws : List V
def SS.At (a : Ad) (H : Hp) (q : SS) : Prop := ∃ n, ZFs a H q.S n q.sm q.c q.ds q.ts q.ws
def SS.all (q : SS) : List Addr := q.S.p :: q.S.own
def ZGy (m : List (Str × SS)) : List (Str × V) := m.map fun q => (q.1, V.ref q.2.S.p)
theorem ZSA (m : List (Str × SS)) : (ZGy m).length = m.length := by simp [ZGy]
theorem ZQ1 (m : List (Str × SS)) : (ZGy m).map (·.1) = m.map (·.1) := by simp [ZGy, List.map_map, Function.comp_def]
theorem ZIX (m : List (Str × SS)) (k : Str) : ZF0 (ZGy m) k = (ZF0 m k).map fun q => V.ref q.S.p := ZT0 (fun q : SS => V.ref q.S.p) m k
structure BIn (a : Ad) (H : Hp) (p d : Addr) (m : List (Str × SS)) : Prop where
 nd : (m.map (·.1)).Nodup
 st : ∀ q ∈ m, q.2.At a H
 pw : m.Pairwise fun x y => ∀ b ∈ x.2.all, b ∉ y.2.all
 ap : ∀ q ∈ m, p ∉ q.2.all ∧ d ∉ q.2.all
def ZFo (a : Ad) (H : Hp) (p d : Addr) (m : List (Str × SS)) : Prop := (∃ dx, H p = some (.ins a.ZP dx (bfl d))) ∧ H d = some (.dK (dkS (ZGy m))) ∧ BIn a H p d m
def BL (p d : Addr) (m : List (Str × SS)) : List Addr := p :: d :: m.flatMap fun q => q.2.all
def trs (m : List (Str × SS)) : List Addr := m.map fun q => q.2.S.tr
theorem ZGL {p d b : Addr} {m : List (Str × SS)} : b ∈ BL p d m ↔ b = p ∨ b = d ∨ ∃ q ∈ m, b ∈ q.2.all := by simp [BL, List.mem_flatMap]
theorem ZUh {α : Type} {R : α → α → Prop} (sy : ∀ x y, R x y → R y x) : ∀ {l : List α}, l.Pairwise R → ∀ {x y : α}, x ∈ l → y ∈ l → x ≠ y → R x y
 | [], _, _, _, h, _, _ => by cases h
 | z :: l, h, x, y, hx, hy, n => by
  rw [List.pairwise_cons] at h
  rcases List.mem_cons.mp hx with e1 | hx <;> rcases List.mem_cons.mp hy with e2 | hy
  ·exact absurd (e1.trans e2.symm) n
  ·rw [e1]; exact h.1 y hy
  ·rw [e2]; exact sy _ _ (h.1 x hx)
  ·exact ZUh sy h.2 hx hy n
section
variable {a : Ad} {H H' : Hp} {p d : Addr} {m : List (Str × SS)} {l : List Addr}
theorem SS.At.frL {q : SS} (h : q.At a H) (f : FrL l H H') (n : ∀ b ∈ l, b ∉ q.all) (nt : ∀ b ∈ l, ∀ xs, H b ≠ some (.tup xs)) : q.At a H' := by
 obtain ⟨x, h⟩ := h
 exact ⟨x, h.frL f n nt⟩
theorem SS.At.same {q : SS} (h : q.At a H) (s : ZFY H H') : q.At a H' := by
 obtain ⟨x, h⟩ := h
 exact ⟨x, h.same s⟩
theorem BIn.frL (h : BIn a H p d m) (f : FrL l H H') (n : ∀ q ∈ m, ∀ b ∈ l, b ∉ q.2.all) (nt : ∀ b ∈ l, ∀ xs, H b ≠ some (.tup xs)) : BIn a H' p d m := ⟨h.nd, fun q hq => (h.st q hq).frL f (n q hq) nt, h.pw, h.ap⟩
theorem BIn.same (h : BIn a H p d m) (s : ZFY H H') : BIn a H' p d m := ⟨h.nd, fun q hq => (h.st q hq).same s, h.pw, h.ap⟩
theorem BIn.apart (h : BIn a H p d m) {x y : Str × SS} (hx : x ∈ m) (hy : y ∈ m) (n : x ≠ y) : ∀ b ∈ x.2.all, b ∉ y.2.all := ZUh (fun _ _ h b hb z => h b z hb) h.pw hx hy n
theorem BIn.look (h : BIn a H p d m) {q : Str × SS} (hq : q ∈ m) (g : q.2.At a H') (k : Kp q.2.S.tr H H') : BIn a H' p d m := by
 refine ⟨h.nd, fun x hx => ?_, h.pw, h.ap⟩
 by_cases e : x = q
 ·rw [e]; exact g
 ·have hA := h.apart hq hx (Ne.symm e)
  obtain ⟨n, hS⟩ := h.st q hq
  refine (h.st x hx).frL (l := [q.2.S.tr]) (FrL.kp k (by simp)) (fun b hb => ?_) fun b hb xs => ?_
  ·rw [List.mem_singleton.mp hb]
   exact hA _ (by simp [SS.all, SA.own])
  ·rw [List.mem_singleton.mp hb]
   exact hS.noTup _ (by simp [SA.own]) xs
theorem ZFo.bin (h : ZFo a H p d m) : BIn a H p d m := h.2.2
theorem ZFo.frL (h : ZFo a H p d m) (f : FrL l H H') (n : ∀ b ∈ l, b ∉ BL p d m) (nt : ∀ b ∈ l, ∀ xs, H b ≠ some (.tup xs)) : ZFo a H' p d m := by
 obtain ⟨⟨dx, h1⟩, h2, h3⟩ := h
 exact ⟨⟨dx, f _ _ h1 fun z => n _ z (ZGL.mpr (.inl rfl))⟩, f _ _ h2 fun z => n _ z (ZGL.mpr (.inr (.inl rfl))), h3.frL f (fun q hq b hb z => n b hb (ZGL.mpr (.inr (.inr ⟨q, hq, z⟩)))) nt⟩
theorem ZFo.same (h : ZFo a H p d m) (s : ZFY H H') : ZFo a H' p d m := by
 obtain ⟨⟨dx, h1⟩, h2, h3⟩ := h
 exact ⟨⟨dx, s _ _ h1⟩, s _ _ h2, h3.same s⟩
theorem ZFo.live (h : ZFo a H p d m) : ∀ b ∈ BL p d m, ∃ o, H b = some o := fun b hb => by
 obtain ⟨⟨dx, h1⟩, h2, h3⟩ := h
 rcases ZGL.mp hb with rfl | rfl | ⟨q, hq, z⟩
 ·exact ⟨_, h1⟩
 ·exact ⟨_, h2⟩
 ·obtain ⟨n, hS⟩ := h3.st q hq
  exact hS.live b z
theorem ZFo.fresh (h : ZFo a H p d m) {b : Addr} (e : H b = none) : b ∉ BL p d m := fun z => by
 obtain ⟨o, e2⟩ := h.live b z
 rw [e] at e2; cases e2
theorem ZFo.kpL (h : ZFo a H p d m) {q : Addr} {xs : List V} (k : Kp q H H') (hq : H q = some (.lst xs)) (nq : q ∉ BL p d m) : ZFo a H' p d m :=
 h.frL (l := [q]) (FrL.kp k (by simp)) (fun b hb => by rw [List.mem_singleton.mp hb]; exact nq) fun b hb ys => by rw [List.mem_singleton.mp hb, hq]; intro z; cases z
theorem ZFo.pur (h : ZFo a H p d m) {q : Addr} (hp : Pur H q) (k : Kp q H H') (nq : q ∉ BL p d m) : ZFo a H' p d m := by
 obtain ⟨x, n, c, e, _⟩ := hp
 exact h.kpL k e nq
theorem ZFo.looked (h : ZFo a H p d m) (g : BIn a H' p d m) (f : FrL (trs m) H H') : ZFo a H' p d m := by
 obtain ⟨⟨dx, h1⟩, h2, h3⟩ := h
 have nt : ∀ b, (∀ q ∈ m, b ∉ q.2.all) → b ∉ trs m := fun b n z => by
  obtain ⟨q, hq, rfl⟩ := List.mem_map.mp z
  exact n q hq (by simp [SS.all, SA.own])
 exact ⟨⟨dx, f _ _ h1 (nt _ fun q hq => (h3.ap q hq).1)⟩, f _ _ h2 (nt _ fun q hq => (h3.ap q hq).2), g⟩
theorem ZNN {k : Str} {q q' : SS} (nd : (m.map (·.1)).Nodup) (hg : ZF0 m k = some q) (e : q'.S = q.S) : ZGy (ZHl m k q') = ZGy m ∧ (ZHl m k q').map (·.1) = m.map (·.1) := by
 have ha : (m.any fun p => decide (p.1 = k)) = true := by
  rw [List.any_eq_true]
  exact ⟨_, ZIF hg, by simp⟩
 unfold ZHl
 rw [if_pos ha]
 unfold ZGy
 constructor
 ·rw [List.map_map]
  refine List.map_congr_left fun x hx => ?_
  simp only [Function.comp]
  split
  ·rename_i c
   have h1 : ZF0 m k = some x.2 := ZIp nd (by rw [← c]; exact hx)
   rw [hg] at h1
   rw [e, Option.some.inj h1]
  ·rfl
 ·rw [List.map_map]
  refine List.map_congr_left fun x hx => ?_
  simp only [Function.comp]
  split <;> rfl
theorem ZLw {k : Str} {q q' : SS} (n : (m.map (·.1)).Nodup) (hg : ZF0 m k = some q) {x : Str × SS} (hx : x ∈ ZHl m k q') : x = (k, q') ∨ (x ∈ m ∧ x.1 ≠ k) := by
 have ha : (m.any fun p => decide (p.1 = k)) = true := by
  rw [List.any_eq_true]
  exact ⟨_, ZIF hg, by simp⟩
 unfold ZHl at hx
 rw [if_pos ha] at hx
 obtain ⟨z, hz, e⟩ := List.mem_map.mp hx
 by_cases c : z.1 = k
 ·rw [if_pos c] at e
  left; rw [← e, c]
 ·rw [if_neg c] at e
  right; rw [← e]; exact ⟨hz, c⟩
theorem ZWQ {k : Str} {q q' : SS} (nd : (m.map (·.1)).Nodup) (hg : ZF0 m k = some q) (e : q'.S = q.S) (h : m.Pairwise fun x y => ∀ b ∈ x.2.all, b ∉ y.2.all) : (ZHl m k q').Pairwise fun x y => ∀ b ∈ x.2.all, b ∉ y.2.all := by
 have ha : (m.any fun p => decide (p.1 = k)) = true := by
  rw [List.any_eq_true]
  exact ⟨_, ZIF hg, by simp⟩
 have hal : ∀ x ∈ m, (if x.1 = k then (x.1, q') else x).2.all = x.2.all := fun x hx => by
  split
  ·rename_i c
   have h1 : ZF0 m k = some x.2 := ZIp nd (by rw [← c]; exact hx)
   rw [hg] at h1
   unfold SS.all
   rw [e, Option.some.inj h1]
  ·rfl
 unfold ZHl
 rw [if_pos ha, List.pairwise_map]
 exact h.imp_of_mem fun {x y} hx hy g b hb => by
  rw [hal x hx] at hb
  rw [hal y hy]
  exact g b hb
theorem ZFo.deed (h : ZFo a H p d m) {k : Str} {q q' : SS} (hg : ZF0 m k = some q) (e : q'.S = q.S) (g : q'.At a H') (f : FrS q.S H H') : ZFo a H' p d (ZHl m k q') := by
 obtain ⟨⟨dx, h1⟩, h2, h3⟩ := h
 have hq := ZIF hg
 obtain ⟨n, hS⟩ := h3.st _ hq
 have apq := h3.ap _ hq
 obtain ⟨e1, e2⟩ := ZNN h3.nd hg e
 refine ⟨⟨dx, f _ _ h1 fun z => apq.1 (List.mem_cons_of_mem _ z)⟩, by rw [e1]; exact f _ _ h2 fun z => apq.2 (List.mem_cons_of_mem _ z), by rw [e2]; exact h3.nd, fun x hx => ?_, ZWQ h3.nd hg e h3.pw, fun x hx => ?_⟩
 ·rcases ZLw h3.nd hg hx with rfl | ⟨hx, nx⟩
  ·exact g
  ·have hA := h3.apart hq hx fun z => nx (by rw [← z])
   exact (h3.st x hx).frL (l := q.S.own) (fun b o eb nb => f _ _ eb nb) (fun b hb => hA b (List.mem_cons_of_mem _ hb)) hS.noTup
 ·rcases ZLw h3.nd hg hx with rfl | ⟨hx, nx⟩
  ·unfold SS.all
   rw [e]
   exact apq
  ·exact h3.ap x hx
theorem ZFo.more (h : ZFo a H p d m) {k : Str} {S : SA} (hg : ZF0 m k = none) {H1 : Hp} (hfr : ∀ b ∈ S.p :: S.own, H b = none) (s : ZFY H H1) (g : (SS.mk S [] 0 [] [] []).At a H1) (kp : Kp d H1 H') (f : H' d = some (.dK (dkS (ZGy (m ++ [(k, ⟨S, [], 0, [], [], []⟩)]))))) : ZFo a H' p d (m ++ [(k, ⟨S, [], 0, [], [], []⟩)]) := by
 have hl := h.live
 obtain ⟨⟨dx, h1⟩, h2, h3⟩ := h
 have npd : p ≠ d := fun z => by rw [z, h2] at h1; cases h1
 have nt : ∀ xs, H1 d ≠ some (.tup xs) := fun xs z => by rw [s _ _ h2] at z; cases z
 have fa : ∀ b ∈ BL p d m, b ∉ S.p :: S.own := fun b hb z => by
  obtain ⟨o, e⟩ := hl b hb
  rw [hfr b z] at e; cases e
 have nd' : d ∉ S.p :: S.own := fa d (ZGL.mpr (.inr (.inl rfl)))
 refine ⟨⟨dx, kp _ _ (s _ _ h1) npd⟩, f, ?_, fun x hx => ?_, ?_, fun x hx => ?_⟩
 ·rw [List.map_append, List.nodup_append]
  refine ⟨h3.nd, by simp, fun y hy z hz e => ?_⟩
  simp only [List.map_cons, List.map_nil, List.mem_singleton] at hz
  rw [ZKa] at hg
  exact hg (by rw [← hz, ← e]; exact hy)
 ·have aux : ∀ q : SS, q.At a H1 → d ∉ q.all → q.At a H' := fun q hq nq => hq.frL (l := [d]) (FrL.kp kp (by simp)) (fun b hb => by rw [List.mem_singleton.mp hb]; exact nq) fun b hb => by rw [List.mem_singleton.mp hb]; exact nt
  rcases List.mem_append.mp hx with hx | hx
  ·exact aux _ ((h3.st x hx).same s) (h3.ap x hx).2
  ·rw [List.mem_singleton.mp hx]
   exact aux _ g nd'
 ·rw [List.pairwise_append]
  refine ⟨h3.pw, List.pairwise_singleton _ _, fun x hx y hy b hb => ?_⟩
  rw [List.mem_singleton.mp hy]
  exact fa b (ZGL.mpr (.inr (.inr ⟨x, hx, hb⟩)))
 ·rcases List.mem_append.mp hx with hx | hx
  ·exact h3.ap x hx
  ·rw [List.mem_singleton.mp hx]
   exact ⟨fa p (ZGL.mpr (.inl rfl)), nd'⟩
end
def ZIA (k : Str) : Bool := decide (1 ≤ k.length) && decide (k.length ≤ 8) && k.cps.toList.all fun c => decide (c ∈ ("abcdefghijklmnopqrstuvwxyz" : Str).cps.toList)
theorem ZSB (K : W.Frag) : W.kitOne K (.type "str") (.type "str") = some true := by kernel_rfl
section
variable {P : Program} {w : World} {K : W.Frag} {mg : Str → Option Value} {base : Heap} {a : Ad}
local macro_rules | `(tactic| walk_at "rd") => `(tactic| first
 | with_reducible first | refine ZRv ?_ | refine ZTv ?_ | refine ZGw (by assumption) (‹Txt _ _ _›).Yh (‹Txt _ _ _›).ZAg ZQ0 ?_)
def ZUJ : Sp := fun vs H Q _ => ∃ k : Str, vs = [.str k] ∧ k.length ≤ 1000 ∧ ∀ H', ZFY H H' → Q (.bl (ZIA k)) H'
theorem ZQ2 : ZFa ["thing"] ["thing"] (ZFW ZJI) := ZFv
theorem ZQ3 (T : Txt K mg a) : ZFc P w K mg base CX0 1 a.ZBT a.ZBF ["thing"] ZUJ := by
 refine T.ZCo.ok ZQ2 (by walk_at "l") (fun cdv A outer s H vs Q E hr h => ?_)
 ·obtain ⟨z, rfl, hl, k⟩ := h
  have hzl : z.length = z.cps.toList.length := by rw [Array.length_toList]; rfl
  refine ⟨_, QB.h (ZFX (ZFh (ZIx (ZFr (ZN2 K rfl) rfl T.ZR ZGo (ZFS (qv 0) (ZFS (ZMX (v := .ty "str") rfl T.ZDr ZW7 rfl) ZFT))) (ZIx (ZLY ZG9 ZG9 ZFU (ZFr ZV2 rfl T.JI ZIT (ZFS (qv 0) ZFT)) (ZGn (v := .int 8) rfl T.ZCe ⟨_, rfl⟩)) (ZIw (ZFr (ZXh K rfl rfl) rfl T.ZDv ZW9 (ZFS (ZHc (N := ["thing"]) (sc := ZFW ZJI) (own := ["sign"]) (caps := []) (ks := []) rfl rfl rfl ⟨rfl, by decide +kernel, by decide +kernel, by decide +kernel, by decide +kernel, rfl, by decide +kernel⟩ (ZX5 (qv 0)) (fun _ _ _ _ _ => ZGg (i := 0) (show List.Nodup (α := Str) ["sign"] from by decide +kernel) rfl (by walk_at "o") (.inr rfl)) (fun _ _ _ _ _ => ZG6) (fun _ _ _ _ _ => ZHp (ZX2) (qv 0) (ZGn (v := .str "abcdefghijklmnopqrstuvwxyz") rfl T.ZD4 ⟨_, rfl⟩) (by with_unfolding_all rfl))) ZFT))))))), ?_⟩
  walk_at "s"
  walk_at "w"
  refine ZIv (.str z) (ZSB _) ?_
  walk_at "w"
  refine ZGX ?_
  walk_at "w"
  refine ZV3 (Nat.le_trans hl (by decide)) ?_
  walk_at "w"
  have e1 : ZIA z = (decide (1 ≤ z.length) && (decide (z.length ≤ 8) && z.cps.toList.all fun c => decide (c ∈ ("abcdefghijklmnopqrstuvwxyz" : Str).cps.toList))) := by unfold ZIA; rw [Bool.and_assoc]
  refine ZFt (fun h1 => ?_) (fun h1 => ?_)
  ·walk_at "w"
   refine ZFt (fun h2 => ?_) (fun h2 => ?_)
   ·walk_at "w"
    intro l hl1
    refine ZHB z.cps.toList.length (fun i σ' H' => (∃ o, σ' = [o]) ∧ ZFY H H' ∧ H' l = some (.lst (((z.cps.toList.take i).map fun c => decide (c ∈ ("abcdefghijklmnopqrstuvwxyz" : Str).cps.toList)).map V.bl))) ?_ ?_ ?_
    ·exact ⟨⟨none, rfl⟩, ZFY.new hl1, ZFf⟩
    ·rintro σ H' ⟨_, s, f⟩
     refine ⟨by show z.cps.size ≤ _; rw [Array.length_toList]; exact Nat.le_refl _, ?_⟩
     rw [List.take_length] at f
     walk_at "w"
     refine ZXX (SqL.of f) ?_
     have e2 : ((z.cps.toList.map fun c => decide (c ∈ ("abcdefghijklmnopqrstuvwxyz" : Str).cps.toList)).all id) = ZIA z := by
      rw [e1, decide_eq_true (by omega), decide_eq_true (by omega), Bool.true_and, Bool.true_and, List.all_map]
      rfl
     rw [e2]
     exact k H' s
    ·rintro i σ H' hi ⟨⟨o, rfl⟩, s, f⟩
     refine ⟨by show i < z.cps.size; rw [Array.length_toList] at hi; exact hi, ?_⟩
     rintro x H'' ⟨rfl, c, hc, rfl⟩
     walk_at "w"
     refine ZGX ?_
     walk_at "w"
     refine ZX3 ?_
     refine ⟨_, f, ?_, ⟨_, rfl⟩, s.kpN hl1 Kp.upd, ?_⟩
     ·rw [List.length_map, List.length_map, List.length_take]
      exact Nat.lt_of_le_of_lt (Nat.min_le_right _ _) (Nat.lt_of_le_of_lt (show z.cps.toList.length ≤ 1000 by omega) (by decide))
     ·rw [ZFf, List.take_succ, hc, List.map_append, List.map_append]
      rfl
   ·have := k H (ZFY.refl _)
    rw [e1, decide_eq_false (show ¬ z.length ≤ 8 by simp at h2; omega), Bool.false_and, Bool.and_false] at this
    exact this
  ·refine ⟨_, rfl, ZGH ?_⟩
   have := k H (ZFY.refl _)
   rw [e1, decide_eq_false (show ¬ 1 ≤ z.length by simp at h1; omega), Bool.false_and] at this
   exact this
def ZWR (a : Ad) : Sp := fun vs H Q _ => ∃ p dx : Addr, vs = [.ref p] ∧ H p = some (.ins a.ZP dx []) ∧ ∀ (d : Addr) (H' : Hp), H d = none → ZFo a H' p d [] → Kp p H H' → Q .non H'
theorem ZLH : ZFa ["self"] ["self"] (ZFW ZHm) := ZFv
theorem ZLI (T : Txt K mg a) : ZFc P w K mg base CX0 1 a.YZ a.YY ["self"] (ZWR a) := by
 refine T.ZCI.ok ZLH (by walk_at "l") (fun cdv A outer s H vs Q E hr h => ?_)
 ·obtain ⟨p, dx, rfl, hp, k⟩ := h
  refine ⟨_, QB.h (ZFX (ZIV K rfl (qv 0) ZLa)), ?_⟩
  walk_at "s"
  walk_at "w"
  refine ZT2 fun d H1 n1 f1 S1 => ?_
  have nd : d ≠ p := fun z => by rw [z, hp] at n1; cases n1
  walk_at "w"
  refine ZHq (S1 _ _ hp) T.Yh T.ZAg (by show 0 < 1000; decide) fun H2 f2 K2 => ?_
  walk_at "w"
  exact k d H2 n1 ⟨⟨dx, f2⟩, K2 _ _ f1 nd, by simp, fun q hq => (by cases hq), .nil, fun q hq => by cases hq⟩ ((Kp.same S1).trans K2)
def ZUK (a : Ad) : Sp := fun vs H Q _ => ∃ (p d : Addr) (m : List (Str × SS)) (k : Str), vs = [.ref p, .str k] ∧ ZIA k = true ∧ ZFo a H p d m ∧ m.length ≤ 60 ∧
 (∀ q, ZF0 m k = some q → ∀ H', ZFY H H' → Q (.ref q.S.p) H') ∧
 (ZF0 m k = none → ∀ (S : SA) (H' : Hp), (∀ b ∈ S.p :: S.own, H b = none) → ZFo a H' p d (m ++ [(k, ⟨S, [], 0, [], [], []⟩)]) → Kp d H H' → Q (.ref S.p) H')
theorem ZMq : ZFa ["self", "name"] ["self", "name"] (ZFW ZIc) := ZFv
theorem ZMr (T : Txt K mg a) : ZFc P w K mg base CX0 9 a.JY a.JX ["self", "name"] (ZUK a) := by
 refine T.ZC0.ok ZMq (by walk_at "l") (fun cdv A outer s H vs Q E hr h => ?_)
 ·obtain ⟨p, d, m, z, rfl, hz, hB, hml, k1, k2⟩ := h
  have hu := ZIh hr
  have hzl : z.length ≤ 1000 := by
   unfold ZIA at hz
   simp only [Bool.and_eq_true, decide_eq_true_eq] at hz
   omega
  refine ⟨_, QB.h (ZFV (ZF1 (ZG5 (ZG4 (qcS (ZQ3 T) hr.m T.ZD7 T.ZCo.kp T.ZEJ (ZFS (qv 1) ZFT)))) (ZFX ZF7) ZFq) (ZFV (ZF1 (ZFk (ZQf hu) (qv 1) (ZGY K rfl (qv 0)) (by with_unfolding_all rfl)) (ZFX (ZJh hu (ZOO (dvs := [V.non]) T.ZEc (ZLG T) hr rfl T.ZEh T.ZBy (.cons rfl .nil) ZGm) (ZGY K rfl (qv 0)) (qv 1))) ZFq) (ZFX (ZFh (ZMY hu (ZGY K rfl (qv 0)) (qv 1)))))), ?_⟩
  walk_at "s"
  walk_at "w"
  refine ⟨z, rfl, hzl, fun H1 S1 => ?_⟩
  rw [hz]
  have hB1 := hB.same S1
  obtain ⟨⟨dx, hp1⟩, hd1, hI1⟩ := id hB1
  walk_at "w"
  refine ZGH ?_
  walk_at "w"
  refine ZQj hd1 ?_
  rw [ZIX]
  walk_at "w"
  cases hg : ZF0 m z with
  | some q =>
   refine ZGH ?_
   walk_at "w"
   refine ZLl (v := .ref q.S.p) hd1 (by rw [ZIX, hg]; rfl) ?_
   exact k1 q hg H1 S1
  | none =>
   refine ZGX ?_
   walk_at "w"
   refine ZMa fun x dx2 H2 n2 f2 S2 => ?_
   refine ⟨x, dx2, .non, [], rfl, f2, .inl ⟨rfl, rfl⟩, List.nodup_nil, (fun q hq => by cases hq), Nat.zero_le _, fun S sm H3 eS hfr hSt hsm hsl K3 => ⟨rfl, ?_⟩⟩
   subst eS
   obtain rfl : sm = [] := List.eq_nil_iff_forall_not_mem.mpr fun r hr => by have := (hsm r).mp hr; cases this
   have S13 : ZFY H1 H3 := S2.kpN n2 K3
   have hB3 := hB1.same S13
   obtain ⟨⟨dx3, hp3⟩, hd3, hI3⟩ := id hB3
   walk_at "w"
   refine ZT1 hd3 (Nat.lt_of_le_of_lt (show (ZGy m).length ≤ 60 by simpa [ZGy] using hml) (by decide)) fun H4 f4 K4 => ?_
   have e4 : ZHl (ZGy m) z (.ref S.p) = ZGy (m ++ [(z, ⟨S, [], 0, [], [], []⟩)]) := by
    rw [ZTz (by rw [ZIX, hg]; rfl)]
    simp [ZGy]
   rw [e4] at f4
   have fr1 : ∀ b ∈ S.p :: S.own, H1 b = none := fun b hb => by
    rcases List.mem_cons.mp hb with rfl | hb
    ·exact n2
    ·exact ZHr S2 (hfr b hb)
   have hB4 := hB1.more hg fr1 S13 ⟨0, hSt⟩ K4 f4
   obtain ⟨⟨dx4, hp4⟩, hd4, hI4⟩ := id hB4
   walk_at "w"
   refine ZLl (v := .ref S.p) hd4 ?_ ?_
   ·rw [ZIX, ZIp hI4.nd (v := ⟨S, [], 0, [], [], []⟩) (by simp)]
    rfl
   ·exact k2 hg S H4 (fun b hb => ZHr S1 (fr1 b hb)) hB4 (((Kp.same S1).trans (Kp.same S13)).trans K4)
def ZUL (a : Ad) : Sp := fun vs H Q _ => ∃ (p d : Addr) (m : List (Str × SS)), vs = [.ref p] ∧ ZFo a H p d m ∧ m.length ≤ 60 ∧ ∀ (l : Addr) (ss : List Str) (H' : Hp), H l = none → H' l = some (.lst (ss.map V.str)) → ss.Perm (m.map (·.1)) → ss.Pairwise leS → ZFY H H' → Q (.ref l) H'
theorem ZMs : ZFa ["self"] ["self"] (ZFW ZId) := ZFv
theorem ZIJ (T : Txt K mg a) : ZFc P w K mg base CX0 1 a.Jd a.JR ["self"] (ZUL a) := by
 refine T.ZC1.ok ZMs (by walk_at "l") (fun cdv A outer s H vs Q E hr h => ?_)
 ·obtain ⟨p, d, m, rfl, hB, hml, k⟩ := h
  refine ⟨_, QB.h (ZFX (ZFh (ZFr (ZPM rfl) rfl T.ZAt ZM5 (ZFS (ZGY K rfl (qv 0)) ZFT)))), ?_⟩
  walk_at "s"
  obtain ⟨⟨dx, hp⟩, hd, hI⟩ := id hB
  walk_at "w"
  refine ZQk hd (by rw [ZSA]; omega) fun l H1 ss n1 f1 hp1 hs1 S1 => ?_
  rw [ZQ1] at hp1
  exact k l ss H1 n1 f1 hp1 hs1 S1
theorem ZO3 {sm cv : PL} {x z : Int} {o : Option (PL)} (hm : ∀ r, r ∈ cv ↔ r ∈ sm) (h : Is4 (inCol sm x z) o) : ZR9 cv x z o := by
 have e : ∀ r, r ∈ inCol cv x z ↔ r ∈ inCol sm x z := fun r => by rw [ZGD, ZGD, hm]
 rcases h with ⟨h1, h2⟩ | ⟨q0, q1, q2, q3, h0, m0, m1, m2, m3, hb⟩
 ·refine .inl ⟨h1, List.eq_nil_iff_forall_not_mem.mpr fun r hr => ?_⟩
  have := (e r).mp hr
  rw [h2] at this
  cases this
 ·refine .inr ⟨q0, q1, q2, q3, h0, fun r hr => (e r).mpr ?_, fun r hr => ?_⟩
  ·simp only [List.mem_cons, List.not_mem_nil, or_false] at hr
   rcases hr with rfl | rfl | rfl | rfl <;> assumption
  ·have := hb r ((e r).mp hr)
   exact ⟨this.1, this.2.1, by omega, by omega⟩
theorem ZO4 {sm : PL} (n : (sm.map (·.1)).Nodup) : ∃ cv, Asc cv ∧ ∀ r, r ∈ cv ↔ r ∈ sm := by
 have h := ZMD n (List.mergeSort_perm (sm.map (·.1)) (fun a b => decide (a ≤ b))) (by
  have := List.pairwise_mergeSort (le := fun a b : Int => decide (a ≤ b)) (fun a b c h1 h2 => by simp at *; omega) (fun a b => by simp; omega) (sm.map (·.1))
  exact this.imp fun h => by simpa using h)
 exact ⟨_, h.1, fun r => by obtain ⟨t, x⟩ := r; rw [h.2, ZHX n]⟩
def ZWS (sm : PL) (b y w low tall rows : Int) (os : List (Option (Int × Int))) : Prop := ∃ cv kp, Asc cv ∧ (∀ r, r ∈ cv ↔ r ∈ sm) ∧ Asc kp ∧ L2.Kept cv kp b y w ∧ ZO0 kp b y w low tall rows os
def ZUi (m : List (Str × SS)) (b y w low tall rows : Int) (k : Str) (q : Lyr) : Prop := ∃ st c, ZF0 m k = some st ∧ k.cps.toList.head? = some c ∧ q.1 = ⟨#[c]⟩ ∧ ZWS st.sm b y w low tall rows q.2
def ZMQ (a : Ad) : Sp := fun vs H Q _ => ∃ (p d q h : Addr) (m : List (Str × SS)) (b y w low tall rows : Int), vs = [.ref p, .ref q, .ref h] ∧ ZFo a H p d m ∧ m.length ≤ 60 ∧ (∀ x ∈ m, ZIA x.1 = true ∧ BP x.2.sm) ∧ ZIH H q b y w ∧ w ≤ 15 ∧ Hts H h low tall rows ∧
 ∀ (ss : List Str) (qs : List Lyr) (H' : Hp), ss.Perm (m.map (·.1)) → ss.Pairwise leS → Paired (ZUi m b y w low tall rows) ss qs → ZFo a H' p d m → FrL (trs m) H H' → Q (.str (textL qs w rows)) H'
theorem FrL.tup {l : List Addr} {H H' : Hp} {b : Addr} {xs : List V} (f : FrL l H H') (nt : ∀ b ∈ l, ∀ xs, H b ≠ some (.tup xs)) (e : H b = some (.tup xs)) : H' b = some (.tup xs) := f _ _ e fun z => nt b z xs e
theorem BIn.noTup {a : Ad} {H : Hp} {p d : Addr} {m : List (Str × SS)} (h : BIn a H p d m) : ∀ b ∈ trs m, ∀ xs, H b ≠ some (.tup xs) := fun b hb xs => by
 obtain ⟨q, hq, rfl⟩ := List.mem_map.mp hb
 obtain ⟨n, hS⟩ := h.st q hq
 exact hS.noTup _ (by simp [SA.own]) xs
theorem ZIH.win {H : Hp} {q : Addr} {b y w : Int} (h : ZIH H q b y w) : Win H q b y w := by
 obtain ⟨h1, h2, h3, h4, h5, h6⟩ := h
 unfold InT at h5 h6
 have : 1 * y ≤ w * y := Int.mul_le_mul_of_nonneg_right h3 (by omega)
 exact ⟨h1, by unfold Bn; omega, h2, by unfold Bn; omega, h3, h4⟩
theorem ZHo : ZFa ["self", "window", "heights", "layers"] ["self", "window", "heights"] (ZFW ZHT) := ZFv
theorem ZLx (T : Txt K mg a) : ZFc P w K mg base CX0 8 a.Zc a.Zf ["self", "window", "heights"] (ZMQ a) := by
 refine T.ZAP.ok ZHo (by walk_at "l") (fun cdv A outer s H vs Q E hr h => ?_)
 ·obtain ⟨p, d, q, h, m, b, y, w, low, tall, rows, rfl, hB, hml, hnm, hW, hw15, hH, k⟩ := h
  have hu := ZIh hr
  refine ⟨_, QB.h (ZFV (ZFu (qcS (ZH6 T) hr.m T.Zq T.ZT.kp T.Zn (ZFS (qv 1) ZFT))) (ZFV (ZPi (N := ["self", "window", "heights", "layers"]) (sc := ZFW ZHT) (own := ["name"]) (caps := ["window", "heights", "self"]) (ks := [1, 2, 0]) (i := 3) rfl rfl rfl ⟨rfl, by decide +kernel, by decide +kernel, by decide +kernel, by decide +kernel, rfl, by decide +kernel⟩ ZHo.nd rfl (by walk_at "o") (ZJg K rfl (ZLe (qv 0) T.Yh T.JW (ZIJ T) hr.m T.Je .nil ZGm)) (fun _ _ _ _ _ => ZGg (i := 0) (show List.Nodup (α := Str) ["name", "window", "heights", "self"] from by decide +kernel) rfl (by walk_at "o") (.inr rfl)) (fun _ _ _ _ _ => ZG6) (fun _ _ _ _ _ => ZFw (ZFS (ZFn ZW4 (qv 0) ZFU) (ZFS (qcS (ZQv T) hr.m T.ZEK T.ZCi.kp T.ZEC (ZFS (ZGs (ZMY hu (ZGY K rfl (qv 3)) (qv 0)) T.ZY T.ZA9 (ZJm T) hr T.ZA8 .nil ZGm (ZFS (qv 1) ZFT)) (ZFS (qv 1) (ZFS (qv 2) ZFT)))) ZFT)))) (ZFX (ZFh (qcS (ZMp T) hr.m T.ZC2 T.ZA7.kp T.ZCx (ZFS (qv 3) (ZFS (ZFn (ZFp K rfl) (qv 1) ZFU) (ZFS (ZFn (ZFp K rfl) (qv 2) ZFU) ZFT)))))))), ?_⟩
  walk_at "s"
  walk_at "w"
  refine ⟨q, b, y, w, rfl, hW.1, by have := hW.2.2.1; omega, by omega, hW.2.2.2.2.1, hW.2.2.2.2.2, ?_⟩
  obtain ⟨⟨dx, hp⟩, hd, hI⟩ := id hB
  walk_at "w"
  refine ZGJ hp (ZJn (by decide +kernel)) ?_
  walk_at "w"
  refine ⟨p, d, m, rfl, hB, hml, fun l1 ss H1 n1 f1 hp1 hs1 S1 => ?_⟩
  walk_at "w"
  intro l hl
  have hB1 := hB.same S1
  have nl1 : l1 ∉ trs m := fun z => by
   obtain ⟨x, hx, e⟩ := List.mem_map.mp z
   exact hB.fresh n1 (ZGL.mpr (.inr (.inr ⟨x, hx, by rw [← e]; simp [SS.all, SA.own]⟩)))
  have nlB := hB1.fresh hl
  have nll : l ∉ trs m := fun z => by
   obtain ⟨x, hx, e⟩ := List.mem_map.mp z
   exact nlB (ZGL.mpr (.inr (.inr ⟨x, hx, by rw [← e]; simp [SS.all, SA.own]⟩)))
  have nll1 : l1 ≠ l := fun z => by rw [z, hl] at f1; cases f1
  refine ZHB ss.length (fun i σ' H' => (∃ o, σ' = [o, some (.ref q), some (.ref h), some (.ref p)]) ∧ ZFo a H' p d m ∧ FrL (trs m) H1 H' ∧ ∃ vs qs, H' l = some (.lst vs) ∧ Paired (ZMO H') vs qs ∧ Paired (ZUi m b y w low tall rows) (ss.take i) qs) ?_ ?_ ?_
  ·exact ⟨⟨none, rfl⟩, hB1.same (ZFY.new hl), FrL.same (ZFY.new hl), [], [], ZFf, .nil, .nil⟩
  ·rintro σ H2 ⟨_, hB2, F2, vs, qs, f2, hL2, hO2⟩
   refine ⟨⟨_, SqL.of (F2 _ _ f1 nl1), by simp⟩, ?_⟩
   rw [List.take_length] at hO2
   have hq2 := FrL.tup F2 hB1.bin.noTup (S1 _ _ hW.1)
   have hh2 := FrL.tup F2 hB1.bin.noTup (S1 _ _ hH.1)
   walk_at "w"
   refine ⟨l, qs, w, rows, rfl, ⟨vs, f2, hL2⟩, fun x hx => ?_, by have := hW.2.2.1; omega, by omega, hH.2.2.2.2.1, hH.2.2.2.2.2, fun H3 S3 => k ss qs H3 hp1 hs1 hO2 (hB2.same S3) (((FrL.same S1).trans F2).trans (FrL.same S3))⟩
   obtain ⟨i, hi, e⟩ := List.getElem_of_mem hx
   have hi2 : i < ss.length := by rw [Paired.length hO2]; exact hi
   obtain ⟨y', e2, st, c, _, _, g1, cv, kp, _, _, _, _, hDO⟩ := Paired.get hO2 (List.getElem?_eq_getElem hi2)
   rw [List.getElem?_eq_getElem hi, e] at e2
   cases e2
   exact ⟨by rw [g1]; rfl, hDO.1⟩
  ·rintro i σ H2 hi ⟨⟨o, rfl⟩, hB2, F2, vs, qs, f2, hL2, hO2⟩
   have f12 := F2 _ _ f1 nl1
   refine ⟨⟨_, _, SqL.of f12, by rw [List.getElem?_map, List.getElem?_eq_getElem hi]; rfl⟩, ?_⟩
   rintro u H3 ⟨eh, hu'⟩
   obtain rfl : H2 = H3 := eh.symm
   have hu' := hu' _ (SqL.of f12)
   rw [List.getElem?_map, List.getElem?_eq_getElem hi] at hu'
   obtain rfl := Option.some.inj hu'
   generalize hkk : ss[i] = kk at *
   have hkm : kk ∈ m.map (·.1) := hp1.mem_iff.mp (by rw [← hkk]; exact List.getElem_mem hi)
   obtain ⟨⟨k', st⟩, hst, ek⟩ := List.mem_map.mp hkm
   dsimp only at ek
   subst ek
   have hg := ZIp hB.bin.nd hst
   obtain ⟨hn1, hbp⟩ := hnm _ hst
   dsimp only at hn1 hbp
   obtain ⟨c, hc⟩ : ∃ c, k'.cps.toList.head? = some c := by
    unfold ZIA at hn1
    simp only [Bool.and_eq_true, decide_eq_true_eq] at hn1
    have h0 : 0 < k'.cps.toList.length := by
     have : k'.length = k'.cps.toList.length := by rw [Array.length_toList]; rfl
     omega
    exact ⟨k'.cps.toList[0], by rw [List.head?_eq_getElem?, List.getElem?_eq_getElem h0]⟩
   have hkl : k'.length ≤ sizeLine := by
    unfold ZIA at hn1
    simp only [Bool.and_eq_true, decide_eq_true_eq] at hn1
    exact Nat.le_trans hn1.1.2 (by decide)
   obtain ⟨⟨dx2, hp2⟩, hd2, hI2⟩ := id hB2
   obtain ⟨n2, hS2⟩ := hI2.st _ hst
   dsimp only at hS2
   obtain ⟨dxS, vsS, hpS, _⟩ := id hS2
   have hW2 : ZIH H2 q b y w := ⟨FrL.tup F2 hB1.bin.noTup (S1 _ _ hW.1), hW.2⟩
   have hh2 : Hts H2 h low tall rows := ⟨FrL.tup F2 hB1.bin.noTup (S1 _ _ hH.1), hH.2⟩
   walk_at "w"
   refine ZGX ?_
   walk_at "w"
   refine ZX6 (c := c) hkl (by rw [List.head?_eq_getElem?] at hc; exact ZIn (j := 0) hc) ?_
   walk_at "w"
   refine ZLl (v := .ref st.S.p) hd2 (by rw [ZIX, hg]; rfl) ?_
   walk_at "w"
   refine ZGJ hpS ZKt ?_
   walk_at "w"
   refine ⟨st.S, q, n2, b, y, w, st.sm, st.c, st.ds, st.ts, st.ws, rfl, hS2, hW2, fun u5 us5 fs n5 H5 f5 hF5 h45 hS5 K5 => ?_⟩
   have ktup : ∀ b xs, H2 b = some (.tup xs) → H5 b = some (.tup xs) := fun b xs e => K5 _ _ e fun z => by rw [z] at e; exact hS2.noTup _ (by simp [SA.own]) xs e
   have hB5 := hB2.looked (hI2.look hst ⟨n5, hS5⟩ K5) (FrL.kp K5 (List.mem_map.mpr ⟨_, hst, rfl⟩))
   obtain ⟨cv, hcv, hcm⟩ := ZO4 hS2.nd
   have hFO : ZII cv b y w fs := ⟨h45.1, fun k' o hk => ZO3 hcm (h45.2 k' o hk)⟩
   walk_at "w"
   refine ⟨u5, q, h, us5, fs, cv, b, y, w, low, tall, rows, rfl, f5, hF5, hFO, hw15, ZIH.win ⟨ktup _ _ hW2.1, hW2.2⟩, ⟨ktup _ _ hh2.1, hh2.2⟩, hcv, fun r hr => hbp r ((hcm r).mp hr), fun u6 vs6 os kp H6 f6 hD6 hak hkept hDO S6 => ?_⟩
   walk_at "w"
   refine ZFd (by show 2 ≤ sizeLine; decide) fun c7 H7 n7 f7 S7 => ?_
   have S57 := S6.trans S7
   have f27 : H7 l = some (.lst vs) := S57 _ _ (K5 _ _ f2 fun z => nll (by rw [z]; exact List.mem_map.mpr ⟨_, hst, rfl⟩))
   have kt7 : ∀ b xs, H7 b = some (.tup xs) → upd H7 l (.lst (vs ++ [.ref c7])) b = some (.tup xs) := fun b xs e => by
    rw [ZFg (fun z => by rw [z, f27] at e; cases e)]
    exact e
   refine ⟨vs, f27, ?_, ⟨_, rfl⟩, (hB5.same S57).kpL Kp.upd f27 nlB, ?_, vs ++ [.ref c7], qs ++ [(⟨#[c]⟩, os)], ZFf, ?_, ?_⟩
   ·have h1 := Paired.length hL2
    have h2 := Paired.length hO2
    rw [List.length_take] at h2
    have h3 := hp1.length_eq
    rw [List.length_map] at h3
    exact Nat.lt_of_le_of_lt (show vs.length ≤ 60 by omega) (by decide)
   ·intro b' o' e' nb
    rw [ZFg (fun z => by rw [z, hl] at e'; cases e')]
    exact S57 _ _ (K5 _ _ (F2 _ _ e' nb) fun z => nb (by rw [z]; exact List.mem_map.mpr ⟨_, hst, rfl⟩))
   ·exact Paired.snocP (Paired.mapP hL2 fun _ _ z => z.tups fun b xs e => kt7 _ _ (S57 _ _ (ktup _ _ e))) ⟨c7, u6, vs6, rfl, kt7 _ _ f7, kt7 _ _ (S7 _ _ f6), (hD6.same S7).mapP fun v o hd => by
     cases hd with
     | non => exact .non
     | pr e => exact .pr (kt7 _ _ e)⟩
   ·rw [List.take_succ, List.getElem?_eq_getElem hi, hkk]
    exact Paired.snocP hO2 ⟨st, c, hg, hc, rfl, cv, kp, hcv, hcm, hak, hkept, hDO⟩
def ZSC (sm : PL) (b y w : Int) (kp : PL) : Prop := ∃ fs, ZOf sm b y w.toNat fs ∧ Asc kp ∧ ∀ r, r ∈ kp ↔ ∃ qs, some qs ∈ fs ∧ r ∈ qs
def ZPv (a : Ad) : Sp := fun vs H Q _ => ∃ (p d q : Addr) (m : List (Str × SS)) (b y w : Int), vs = [.ref p, .ref q] ∧ ZFo a H p d m ∧ m.length ≤ 60 ∧ ZIH H q b y w ∧ w ≤ 15 ∧
 ∀ (ns : List Int) (H' : Hp), Paired (fun (x : Str × SS) (n : Int) => ∃ kp, ZSC x.2.sm b y w kp ∧ n = (kp.length : Int)) m ns → ZFo a H' p d m → FrL (trs m) H H' → Q (.int ns.sum) H'
theorem ZKL : ZFa ["self", "window"] ["self", "window"] (ZFW ZH3) := ZFv
theorem ZNb (T : Txt K mg a) : ZFc P w K mg base CX0 8 a.YB a.YH ["self", "window"] (ZPv a) := by
 refine T.ZBe.ok ZKL (by walk_at "l") (fun cdv A outer s H vs Q E hr h => ?_)
 ·obtain ⟨p, d, q, m, b, y, w, rfl, hB, hml, hW, hw15, k⟩ := h
  have hu := ZIh hr
  refine ⟨_, QB.h (ZFV (ZFu (qcS (ZH6 T) hr.m T.Zq T.ZT.kp T.Zn (ZFS (qv 1) ZFT))) (ZFX (ZFh (ZFr (ZXz K rfl rfl) rfl T.ZDh ZXo (ZFS (ZV8 (ZHc (N := ["self", "window"]) (sc := ZFW ZH3) (own := ["store"]) (caps := ["window"]) (ks := [1]) rfl rfl rfl ⟨rfl, by decide +kernel, by decide +kernel, by decide +kernel, by decide +kernel, rfl, by decide +kernel⟩ (ZTy (ZGY K rfl (qv 0))) (fun _ _ _ _ _ => ZGg (i := 0) (show List.Nodup (α := Str) ["store", "window"] from by decide +kernel) rfl (by walk_at "o") (.inr rfl)) (fun _ _ _ _ _ => ZG6) (fun _ _ _ _ _ => ZFr (ZIz K rfl) rfl T.JI ZIT (ZFS (qcS (ZMN T) hr.m T.ZCp T.ZBq.kp T.ZCs (ZFS (ZGs (qv 0) T.ZY T.ZA9 (ZJm T) hr T.ZA8 .nil ZGm (ZFS (qv 1) ZFT)) ZFT)) ZFT)))) ZFT))))), ?_⟩
  walk_at "s"
  walk_at "w"
  refine ⟨q, b, y, w, rfl, hW.1, by have := hW.2.2.1; omega, by omega, hW.2.2.2.2.1, hW.2.2.2.2.2, ?_⟩
  obtain ⟨⟨dx, hp⟩, hd, hI⟩ := id hB
  walk_at "w"
  refine ZYB hd fun ob H1 nf f1 K1 => ?_
  intro l hl
  have npd : p ≠ d := fun z => by rw [z, hd] at hp; cases hp
  have hI1 : BIn a H1 p d m := hI.frL (l := [d]) (FrL.kp K1 (by simp)) (fun x hx b hb => by rw [List.mem_singleton.mp hb]; exact (hI.ap x hx).2) fun b hb xs => by rw [List.mem_singleton.mp hb, hd]; intro z; cases z
  have nlB : l ∉ BL p d m := hB.fresh (by
   cases e : H l with
   | none => rfl
   | some o =>
    by_cases z : l = d
    ·rw [z, f1] at hl; cases hl
    ·rw [K1 _ _ e z] at hl; cases hl)
  have nll : l ∉ trs m := fun z => by
   obtain ⟨x, hx, e⟩ := List.mem_map.mp z
   exact nlB (ZGL.mpr (.inr (.inr ⟨x, hx, by rw [← e]; simp [SS.all, SA.own]⟩)))
  have ntr : ∀ b, (∀ x ∈ m, b ∉ x.2.all) → b ∉ trs m := fun b n z => by
   obtain ⟨x, hx, rfl⟩ := List.mem_map.mp z
   exact n x hx (by simp [SS.all, SA.own])
  have ndt : d ∉ trs m := ntr d fun x hx => (hI.ap x hx).2
  refine ZHB m.length (fun i σ' H' => (∃ o, σ' = [o, some (.ref q)]) ∧ BIn a H' p d m ∧ FrL (trs m) H1 H' ∧ ∃ ns : List Int, H' l = some (.lst (ns.map V.int)) ∧ Paired (fun (x : Str × SS) (n : Int) => ∃ kp, ZSC x.2.sm b y w kp ∧ n = (kp.length : Int)) (m.take i) ns) ?_ ?_ ?_
  ·exact ⟨⟨none, rfl⟩, hI1.same (ZFY.new hl), FrL.same (ZFY.new hl), [], ZFf, .nil⟩
  ·rintro σ H2 ⟨_, hI2, F2, ns, f2, hO2⟩
   have fd2 := F2 _ _ f1 ndt
   refine ⟨⟨fd2, by simp [dkS, ZGy]⟩, ?_⟩
   rw [List.take_length] at hO2
   walk_at "w"
   refine ZT3 nf fd2 fun H3 f3 K3 => ?_
   walk_at "w"
   refine ZX0 (SqL.of (K3 _ _ f2 fun z => nlB (by rw [z]; exact ZGL.mpr (.inr (.inl rfl))))) ?_
   have F03 : FrL (trs m) H H3 := fun b' o' e' nb => by
    by_cases z : b' = d
    ·rw [z, f3]; rw [z, hd] at e'; exact e'
    ·exact K3 _ _ (F2 _ _ (K1 _ _ e' z) nb) z
   refine k ns H3 hO2 (hB.looked (hI2.frL (l := [d]) (FrL.kp K3 (by simp)) (fun x hx b hb => by rw [List.mem_singleton.mp hb]; exact (hI.ap x hx).2) fun b hb xs => ?_) F03) F03
   rw [List.mem_singleton.mp hb, fd2]; intro z; cases z
  ·rintro i σ H2 hi ⟨⟨o, rfl⟩, hI2, F2, ns, f2, hO2⟩
   have fd2 := F2 _ _ f1 ndt
   refine ⟨⟨fd2, by simpa [dkS, ZGy] using hi⟩, ?_⟩
   rintro u H3 ⟨eh, pr, hpr, rfl⟩
   obtain rfl : H2 = H3 := eh.symm
   have hst : m[i] ∈ m := List.getElem_mem hi
   have epr : pr = (.inr m[i].1, .ref m[i].2.S.p) := by
    unfold dkS ZGy at hpr
    rw [List.getElem?_map, List.getElem?_map, List.getElem?_eq_getElem hi] at hpr
    exact (Option.some.inj hpr).symm
   rw [epr]
   obtain ⟨n2, hS2⟩ := hI2.st _ hst
   obtain ⟨dxS, vsS, hpS, _⟩ := id hS2
   have hW2 : ZIH H2 q b y w := ⟨FrL.tup F2 hI1.noTup (K1 _ _ hW.1 fun z => by have := hW.1; rw [z, hd] at this; cases this), hW.2⟩
   walk_at "w"
   refine ZGX ?_
   walk_at "w"
   refine ZGJ hpS ZKt ?_
   walk_at "w"
   refine ⟨m[i].2.S, q, n2, b, y, w, m[i].2.sm, m[i].2.c, m[i].2.ds, m[i].2.ts, m[i].2.ws, rfl, hS2, hW2, fun u5 us5 fs n5 H5 f5 hF5 h45 hS5 K5 => ?_⟩
   obtain ⟨cv, hcv, hcm⟩ := ZO4 hS2.nd
   have hFO : ZII cv b y w fs := ⟨h45.1, fun k' o hk => ZO3 hcm (h45.2 k' o hk)⟩
   walk_at "w"
   refine ⟨u5, us5, fs, cv, rfl, f5, hF5, by rw [hFO.1]; omega, hcv, fun qs hq r hr => ?_, fun t6 kp H6 hT6 hak hlk hmk S6 => ?_⟩
   ·obtain ⟨_, _, hall⟩ := hFO.mem hq
    exact (hall r hr).1
   obtain ⟨us6, f6, hP6⟩ := id hT6
   walk_at "w"
   have f26 : H6 l = some (.lst (ns.map V.int)) := S6 _ _ (K5 _ _ f2 fun z => nll (by rw [z]; exact List.mem_map.mpr ⟨_, hst, rfl⟩))
   rw [hP6.length]
   refine ⟨_, f26, ?_, ⟨_, rfl⟩, ?_, ?_, ns ++ [(kp.length : Int)], ?_, ?_⟩
   ·have h2 := Paired.length hO2
    rw [List.length_take] at h2
    rw [List.length_map]
    exact Nat.lt_of_le_of_lt (show ns.length ≤ 60 by omega) (by decide)
   ·refine ((hI2.look hst ⟨n5, hS5⟩ K5).same S6).frL (l := [l]) (FrL.kp Kp.upd (by simp)) (fun x hx b' hb => ?_) fun b' hb xs => ?_
    ·rw [List.mem_singleton.mp hb]
     exact fun z => nlB (ZGL.mpr (.inr (.inr ⟨x, hx, z⟩)))
    ·rw [List.mem_singleton.mp hb, f26]; intro z; cases z
   ·intro b' o' e' nb
    rw [ZFg (fun z => by rw [z, hl] at e'; cases e')]
    exact S6 _ _ (K5 _ _ (F2 _ _ e' nb) fun z => nb (by rw [z]; exact List.mem_map.mpr ⟨_, hst, rfl⟩))
   ·rw [ZFf, List.map_append]; rfl
   ·rw [List.take_succ, List.getElem?_eq_getElem hi]
    exact Paired.snocP hO2 ⟨kp, ⟨fs, h45, hak, hmk⟩, rfl⟩
end
def ZLB (first behind part : Int) : PL := [(if part = 1 then behind - 4 else first, 1), ((if part = 1 then behind - 4 else first) + 1, 3), ((if part = 1 then behind - 4 else first) + 2, 0), ((if part = 1 then behind - 4 else first) + 3, 2)] ++ (if part = 0 then [((if part = 1 then behind - 4 else first) - 1, 1)] else []) ++ (if part = 1 then [(behind + 1, 2)] else [])
def ZI6 (y m k part : Int) : Prop := 4 ≤ y ∧ 0 ≤ part ∧ part ≤ 3 ∧ ¬ (part = 0 ∧ k = 0) ∧ ¬ (part = 1 ∧ k = m - 1)
section
variable {P : Program} {w : World} {K : W.Frag} {mg : Str → Option Value} {base : Heap} {a : Ad}
def ZUj : Sp := fun vs H Q _ => ∃ (q : Addr) (b y m k part : Int), vs = [.ref q, .int k, .int part] ∧ H q = some (.tup [.int b, .int y, .int m]) ∧ ZI6 y m k part ∧ Q .non H
theorem ZI7 : ZFa ["window", "k", "part"] ["window", "k", "part"] (ZFW ZH4) := ZFv
theorem ZI8 (T : Txt K mg a) : ZFc P w K mg base CX0 2 a.Ze a.Zd ["window", "k", "part"] ZUj := by
 refine T.Zg.ok ZI7 (by walk_at "l") (fun cdv A outer s H vs Q E hr h => ?_)
 ·obtain ⟨q, b, y, m, k, part, rfl, hq, ⟨h1, h2, h3, h4, h5⟩, kk⟩ := h
  refine ⟨_, QB.h (ZFV (ZF1 (ZFk (ZHs) (ZFn (ZFp K rfl) (qv 0) ZFU) ZFU (ZFm _)) (ZFX ZF7) ZFq) (ZFV (ZF1 (QW.pt (ZHw (ZG5 (ZG4 (qcS (ZHf T) hr T.Yo T.YJ.kp T.Yp (ZFS (qv 2) ZFT)))) (ZHv (ZG5 (ZIy ZG9 ZG9 ZFU (qv 2) ZFU))))) (ZFX ZF7) ZFq) (ZFV (ZF1 (QW.pt (ZJf (ZFk (ZGj) (qv 2) ZFU (ZFm _)) (ZIo (ZFk (ZGj) (qv 1) ZFU (ZFm _))))) (ZFX ZF7) ZFq) (ZFX (ZF1 (QW.pt (ZJf (ZFk (ZGj) (qv 2) ZFU (ZFm _)) (ZIo (ZFk (ZGj) (qv 1) (ZFb ZGk (ZFn (ZFp K rfl) (qv 0) ZFU) ZFU) (ZFm _))))) (ZFX ZF7) ZFq))))), ?_⟩
  walk_at "s"
  walk_at "w"
  refine ZFt (fun z => absurd z (by omega)) (fun _ => ?_)
  walk_at "w"
  refine ⟨_, rfl, .inl ⟨part, rfl, ?_⟩⟩
  walk_at "w"
  refine ZGH ?_
  walk_at "w"
  refine ZFt (fun _ => ?_) (fun z => absurd h2 z)
  walk_at "w"
  rw [decide_eq_true h3]
  refine ZGH ?_
  walk_at "w"
  rw [ZGV]
  refine ZFt (fun z1 => ?_) (fun z1 => ?_)
  ·walk_at "w"
   rw [ZGV]
   refine ZFt (fun z2 => absurd ⟨z1, z2⟩ h4) (fun z2 => ?_)
   walk_at "w"
   rw [ZGV]
   refine ZFt (fun z => absurd z (by omega)) (fun _ => ?_)
   walk_at "w"
   refine ZGH ?_
   walk_at "w"
   exact kk
  ·walk_at "w"
   refine ZGH ?_
   walk_at "w"
   rw [ZGV]
   refine ZFt (fun z3 => ?_) (fun z3 => ?_)
   ·walk_at "w"
    rw [ZGV]
    refine ZFt (fun z4 => absurd ⟨z3, z4⟩ h5) (fun z4 => ?_)
    walk_at "w"
    exact kk
   ·walk_at "w"
    refine ZGH ?_
    walk_at "w"
    exact kk
def ZNO (K : W.Frag) : Sp := fun vs H Q _ => ∃ (q : Addr) (b y m k part : Int), vs = [.ref q, .int k, .int part] ∧ H q = some (.tup [.int b, .int y, .int m]) ∧ 0 ≤ k ∧ k < m ∧ m ≤ 1000 ∧ ZI6 y m k part ∧
 ∀ (u t h : Addr) (cv : PL) (H' : Hp), H' u = some (.tup [.ref t, .ref h]) → PrT H' t cv → ZMZ (ZHL (ZLB (b + k * y) (b + k * y + y) part)) cv → H' h = some (.tup [.int 0, .int 1, .int 4]) → ZFY H H' → Q (.ref u) H'
theorem ZGc : ZFa ["window", "k", "part", "first", "behind", "begin", "samples"] ["window", "k", "part"] (ZFW ZKn) := ZFv
theorem ZQ4 (T : Txt K mg a) : ZFc P w K mg base CX0 3 a.Yk a.Ye ["window", "k", "part"] (ZNO K) := by
 refine T.ZAO.ok ZGc (by walk_at "l") (fun cdv A outer s H vs Q E hr h => ?_)
 ·obtain ⟨q, b, y, m, n, part, rfl, hq, hk0, hk1, hm, hnd, k⟩ := h
  refine ⟨_, QB.h (ZFV (ZGv (qcS (ZJZ T) hr T.Jy T.YL.kp T.Jw (ZFS (qv 0) (ZFS (qv 1) ZFT))) (ZGb (n := 2) K rfl rfl (ZFi (qgN (i := 3) ZGc.nd) (ZFi (qgN (i := 4) ZGc.nd) ZGO)))) (ZFV (ZFu (qcS (ZI8 T) hr T.Yu T.Zg.kp T.Ym (ZFS (qv 0) (ZFS (qv 1) (ZFS (qv 2) ZFT))))) (ZFV (qsS (i := 5) ZGc.nd (ZHU (ZFk (ZGj) (qv 2) ZFU (ZFm _)) (ZFb ZGk (qv 4) ZFU) (qv 3))) (ZFV (qsS (i := 6) ZGc.nd (ZGp (ZFS (ZFw (ZFS (qv 5) (ZFS ZFU ZFT))) (ZFS (ZFw (ZFS (ZFb ZF9 (qv 5) ZFU) (ZFS ZFU ZFT))) (ZFS (ZFw (ZFS (ZFb ZF9 (qv 5) ZFU) (ZFS ZFU ZFT))) (ZFS (ZFw (ZFS (ZFb ZF9 (qv 5) ZFU) (ZFS ZFU ZFT))) ZFT)))))) (ZFV (ZF1 (ZFk (ZGj) (qv 2) ZFU (ZFm _)) (ZFX (ZFu (ZIL PySem.F.plainAttrs_list PySem.F.slot_list_append PySem.F.type_list_append ZG2 (qv 6) (ZFS (ZFw (ZFS (ZFb ZGk (qv 5) ZFU) (ZFS ZFU ZFT))) ZFT)))) ZFq) (ZFV (ZF1 (ZFk (ZGj) (qv 2) ZFU (ZFm _)) (ZFX (ZFu (ZIL PySem.F.plainAttrs_list PySem.F.slot_list_append PySem.F.type_list_append ZG2 (qv 6) (ZFS (ZFw (ZFS (ZFb ZF9 (qv 4) ZFU) (ZFS ZFU ZFT))) ZFT)))) ZFq) (ZFX (ZFh (ZFw (ZFS (qcS (ZLQ T) hr.m T.ZCW T.ZAz.kp T.ZCb (ZFS (qv 6) ZFT)) (ZFS (ZFw (ZFS ZFU (ZFS ZFU (ZFS ZFU ZFT)))) ZFT))))))))))), ?_⟩
  walk_at "s"
  walk_at "w"
  refine ⟨q, b, y, m, n, rfl, hq, hk0, hk1, hm, fun u1 H1 n1 f1 S1 => ?_⟩
  walk_at "w"
  refine ⟨q, b, y, m, n, part, rfl, S1 _ _ hq, hnd, ?_⟩
  walk_at "w"
  rw [ZGV]
  by_cases p1 : part = 1
  ·subst p1
   refine ZGX ?_
   walk_at "w"
   refine ZFd (by show 2 ≤ sizeLine; decide) fun a1 H2 n2 f2 S2 => ?_
   walk_at "w"
   refine ZFd (by show 2 ≤ sizeLine; decide) fun a2 H3 n3 f3 S3 => ?_
   walk_at "w"
   refine ZFd (by show 2 ≤ sizeLine; decide) fun a3 H4 n4 f4 S4 => ?_
   walk_at "w"
   refine ZFd (by show 2 ≤ sizeLine; decide) fun a4 H5 n5 f5 S5 => ?_
   walk_at "w"
   refine ZFd (by show 4 ≤ sizeLine; decide) fun l H6 n6 f6 S6 => ?_
   have S46 := S5.trans S6
   have S36 := S4.trans S46
   have S26 := S3.trans S36
   have S16 := S2.trans S26
   have hP6 : ZFe H6 [.ref a1, .ref a2, .ref a3, .ref a4] [(_, 1), (_, 3), (_, 0), (_, 2)] := .cons ⟨a1, rfl, S26 _ _ f2⟩ (.cons ⟨a2, rfl, S36 _ _ f3⟩ (.cons ⟨a3, rfl, S46 _ _ f4⟩ (.cons ⟨a4, rfl, S6 _ _ f5⟩ .nil)))
   walk_at "w"
   rw [ZGV]
   refine ZGH ?_
   walk_at "w"
   rw [ZGV]
   refine ZGX ?_
   walk_at "w"
   refine ⟨tyL f6, ?_⟩
   walk_at "w"
   refine ZFd (by show 2 ≤ sizeLine; decide) fun a7 H7 n7 f7 S7 => ?_
   have f67 := S7 _ _ f6
   walk_at "w"
   refine ZHI f67 (by show 4 < sizeLine; decide) fun H8 f8 K8 => ?_
   have S18 : ZFY H1 H8 := (S16.trans S7).kpN (ZHr (S2.trans (S3.trans (S4.trans S5))) n6) K8
   have hP8 := ZFe.kpL K8 f67 ((hP6.same S7).snoc (p := (_, _)) f7)
   walk_at "w"
   refine ⟨true, l, _, _, rfl, f8, hP8, by simp, fun t3 cv H9 hP9 hC9 _ S9 => ?_⟩
   rw [show [(b + n * y + y - 4, 1), (b + n * y + y - 4 + 1, 3), (b + n * y + y - 4 + 2, 0), (b + n * y + y - 4 + 3, 2)] ++ [(b + n * y + y + 1, 2)] = ZLB (b + n * y) (b + n * y + y) 1 from by rfl] at hC9
   walk_at "w"
   refine ZFd (by show 3 ≤ sizeLine; decide) fun h10 H10 n10 f10 S10 => ?_
   walk_at "w"
   refine ZFd (by show 2 ≤ sizeLine; decide) fun u11 H11 n11 f11 S11 => ?_
   exact k u11 t3 h10 cv H11 f11 (hP9.same (S10.trans S11)) hC9 (S11 _ _ f10) (S1.trans (S18.trans (S9.trans (S10.trans S11))))
  ·refine ZFt (fun z => absurd z p1) (fun _ => ?_)
   by_cases p0 : part = 0
   ·subst p0
    walk_at "w"
    refine ZFd (by show 2 ≤ sizeLine; decide) fun a1 H2 n2 f2 S2 => ?_
    walk_at "w"
    refine ZFd (by show 2 ≤ sizeLine; decide) fun a2 H3 n3 f3 S3 => ?_
    walk_at "w"
    refine ZFd (by show 2 ≤ sizeLine; decide) fun a3 H4 n4 f4 S4 => ?_
    walk_at "w"
    refine ZFd (by show 2 ≤ sizeLine; decide) fun a4 H5 n5 f5 S5 => ?_
    walk_at "w"
    refine ZFd (by show 4 ≤ sizeLine; decide) fun l H6 n6 f6 S6 => ?_
    have S46 := S5.trans S6
    have S36 := S4.trans S46
    have S26 := S3.trans S36
    have S16 := S2.trans S26
    have hP6 : ZFe H6 [.ref a1, .ref a2, .ref a3, .ref a4] [(_, 1), (_, 3), (_, 0), (_, 2)] := .cons ⟨a1, rfl, S26 _ _ f2⟩ (.cons ⟨a2, rfl, S36 _ _ f3⟩ (.cons ⟨a3, rfl, S46 _ _ f4⟩ (.cons ⟨a4, rfl, S6 _ _ f5⟩ .nil)))
    walk_at "w"
    rw [ZGV]
    refine ZGX ?_
    walk_at "w"
    refine ⟨tyL f6, ?_⟩
    walk_at "w"
    refine ZFd (by show 2 ≤ sizeLine; decide) fun a7 H7 n7 f7 S7 => ?_
    have f67 := S7 _ _ f6
    walk_at "w"
    refine ZHI f67 (by show 4 < sizeLine; decide) fun H8 f8 K8 => ?_
    have S18 : ZFY H1 H8 := (S16.trans S7).kpN (ZHr (S2.trans (S3.trans (S4.trans S5))) n6) K8
    have hP8 := ZFe.kpL K8 f67 ((hP6.same S7).snoc (p := (_, _)) f7)
    walk_at "w"
    rw [ZGV]
    refine ZGH ?_
    walk_at "w"
    refine ⟨true, l, _, _, rfl, f8, hP8, by simp, fun t3 cv H9 hP9 hC9 _ S9 => ?_⟩
    rw [show [(b + n * y, 1), (b + n * y + 1, 3), (b + n * y + 2, 0), (b + n * y + 3, 2)] ++ [(b + n * y - 1, 1)] = ZLB (b + n * y) (b + n * y + y) 0 from by simp [ZLB]] at hC9
    walk_at "w"
    refine ZFd (by show 3 ≤ sizeLine; decide) fun h10 H10 n10 f10 S10 => ?_
    walk_at "w"
    refine ZFd (by show 2 ≤ sizeLine; decide) fun u11 H11 n11 f11 S11 => ?_
    exact k u11 t3 h10 cv H11 f11 (hP9.same (S10.trans S11)) hC9 (S11 _ _ f10) (S1.trans (S18.trans (S9.trans (S10.trans S11))))
   ·walk_at "w"
    refine ZFd (by show 2 ≤ sizeLine; decide) fun a1 H2 n2 f2 S2 => ?_
    walk_at "w"
    refine ZFd (by show 2 ≤ sizeLine; decide) fun a2 H3 n3 f3 S3 => ?_
    walk_at "w"
    refine ZFd (by show 2 ≤ sizeLine; decide) fun a3 H4 n4 f4 S4 => ?_
    walk_at "w"
    refine ZFd (by show 2 ≤ sizeLine; decide) fun a4 H5 n5 f5 S5 => ?_
    walk_at "w"
    refine ZFd (by show 4 ≤ sizeLine; decide) fun l H6 n6 f6 S6 => ?_
    have S46 := S5.trans S6
    have S36 := S4.trans S46
    have S26 := S3.trans S36
    have S16 := S2.trans S26
    have hP6 : ZFe H6 [.ref a1, .ref a2, .ref a3, .ref a4] [(_, 1), (_, 3), (_, 0), (_, 2)] := .cons ⟨a1, rfl, S26 _ _ f2⟩ (.cons ⟨a2, rfl, S36 _ _ f3⟩ (.cons ⟨a3, rfl, S46 _ _ f4⟩ (.cons ⟨a4, rfl, S6 _ _ f5⟩ .nil)))
    walk_at "w"
    rw [ZGV]
    refine ZFt (fun z => absurd z p0) (fun _ => ?_)
    walk_at "w"
    rw [ZGV]
    refine ZFt (fun z => absurd z p1) (fun _ => ?_)
    walk_at "w"
    refine ⟨true, l, _, _, rfl, f6, hP6, by simp, fun t3 cv H9 hP9 hC9 _ S9 => ?_⟩
    rw [show [(b + n * y, 1), (b + n * y + 1, 3), (b + n * y + 2, 0), (b + n * y + 3, 2)] = ZLB (b + n * y) (b + n * y + y) part from by simp [ZLB, p0, p1]] at hC9
    walk_at "w"
    refine ZFd (by show 3 ≤ sizeLine; decide) fun h10 H10 n10 f10 S10 => ?_
    walk_at "w"
    refine ZFd (by show 2 ≤ sizeLine; decide) fun u11 H11 n11 f11 S11 => ?_
    exact k u11 t3 h10 cv H11 f11 (hP9.same (S10.trans S11)) hC9 (S11 _ _ f10) (S1.trans (S16.trans (S9.trans (S10.trans S11))))
def ZYR (D : Addr) : Sp := fun vs H _ E => ∃ (p : Addr) (b y m : Int), vs = [.ref p] ∧ H p = some (.tup [.int b, .int y, .int m]) ∧ 0 ≤ m ∧ m ≤ 1000 ∧ ¬ (InT b ∧ InT (b + m * y)) ∧ E (.ref D) none H
theorem ZI9 (T : Txt K mg a) : ZFc P w K mg base (CX1 P w) 4 a.YM a.YK ["window"] (ZYR a.ZA) := by
 refine T.ZT.okx ZGR (by walk_at "l") (fun cdv A outer s H vs Q E hr h => ?_)
 ·obtain ⟨p, b, y, m, rfl, hp, h0, h1, hn, q⟩ := h
  refine ⟨_, QB.h (ZFV (ZGv (qv 0) (ZGb (n := 3) K rfl rfl (ZFi (qgN (i := 1) ZGR.nd) (ZFi (qgN (i := 2) ZGR.nd) (ZFi (qgN (i := 3) ZGR.nd) ZGO))))) (ZFX (ZFu (ZHV (ZLE T) hr rfl T.Yl T.Zb.kp T.Yr .nil ZJ0 (ZFS (qv 1) (ZFS (ZFb ZF9 (qv 1) (ZFb ZGF (qv 3) (qv 2))) ZFT)))))), ?_⟩
  walk_at "s"
  walk_at "w"
  exact ⟨_, _, rfl, ZT7 hn, q⟩
def ZSD (D : Addr) : Sp := fun vs H _ E => ∃ (x z : V) (p : Addr) (b y m : Int), vs = [x, .ref p, z] ∧ H p = some (.tup [.int b, .int y, .int m]) ∧ 0 ≤ m ∧ m ≤ 1000 ∧ ¬ (InT b ∧ InT (b + m * y)) ∧ E (.ref D) none H
theorem ZLJ (T : Txt K mg a) : ZFc P w K mg base (CX1 P w) 8 a.Zc a.Zf ["self", "window", "heights"] (ZSD a.ZA) := by
 refine T.ZAP.okx ZHo (by walk_at "l") (fun cdv A outer s H vs Q E hr h => ?_)
 ·obtain ⟨x, z, p, b, y, m, rfl, hp, h0, h1, hn, q⟩ := h
  refine ⟨_, QB.h (ZFV (ZFu (ZHV (ZI9 T) hr.m rfl T.Zq T.ZT.kp T.Zn .nil ZJ0 (ZFS (qv 1) ZFT))) (ZFV ZF7 (ZFX ZF7))), ?_⟩
  walk_at "s"
  walk_at "w"
  exact ⟨p, b, y, m, rfl, hp, h0, h1, hn, q⟩
theorem ZLK (T : Txt K mg a) : ZFc P w K mg base (CX1 P w) 8 a.Zc a.Zf ["self", "window", "heights"] (fun vs H Q E => ZMQ a vs H Q E ∨ ZSD a.ZA vs H Q E) := (ZLx T).lift.or (ZLJ T)
def ZSE (D : Addr) : Sp := fun vs H _ E => ∃ (x : V) (p : Addr) (b y m : Int), vs = [x, .ref p] ∧ H p = some (.tup [.int b, .int y, .int m]) ∧ 0 ≤ m ∧ m ≤ 1000 ∧ ¬ (InT b ∧ InT (b + m * y)) ∧ E (.ref D) none H
theorem ZMt (T : Txt K mg a) : ZFc P w K mg base (CX1 P w) 8 a.YB a.YH ["self", "window"] (ZSE a.ZA) := by
 refine T.ZBe.okx ZKL (by walk_at "l") (fun cdv A outer s H vs Q E hr h => ?_)
 ·obtain ⟨x, p, b, y, m, rfl, hp, h0, h1, hn, q⟩ := h
  refine ⟨_, QB.h (ZFV (ZFu (ZHV (ZI9 T) hr.m rfl T.Zq T.ZT.kp T.Zn .nil ZJ0 (ZFS (qv 1) ZFT))) (ZFX ZF7)), ?_⟩
  walk_at "s"
  walk_at "w"
  exact ⟨p, b, y, m, rfl, hp, h0, h1, hn, q⟩
theorem ZMu (T : Txt K mg a) : ZFc P w K mg base (CX1 P w) 8 a.YB a.YH ["self", "window"] (fun vs H Q E => ZPv a vs H Q E ∨ ZSE a.ZA vs H Q E) := (ZNb T).lift.or (ZMt T)
def ZLC (H : Hp) (m : Int) (v : V) : Prop := (∃ k : Int, v = .int k ∧ (k < 0 ∨ m ≤ k)) ∨ ZIf H v
def ZO5 (D : Addr) : Sp := fun vs H _ E => ∃ (p : Addr) (b y m : Int) (v : V), vs = [.ref p, v] ∧ H p = some (.tup [.int b, .int y, .int m]) ∧ ZLC H m v ∧ E (.ref D) none H
theorem ZO6 (T : Txt K mg a) : ZFc P w K mg base (CX1 P w) 2 a.Yw a.Yq ["window", "k"] (ZO5 a.ZC) := by
 refine T.YL.okx ZGZ (by walk_at "l") (fun cdv A outer s H vs Q E hr h => ?_)
 ·obtain ⟨p, b, y, m, v, rfl, hp, hv, q⟩ := h
  refine ⟨_, QB.h (ZFV (ZGv (qv 0) (ZGb (n := 3) K rfl rfl (ZFi (qgN (i := 2) ZGZ.nd) (ZFi (qgN (i := 3) ZGZ.nd) (ZFi (qgN (i := 4) ZGZ.nd) ZGO))))) (ZFV (ZF1 (QW.pt (ZHw (ZG5 (ZG4 (qcS (ZHf T) hr T.Yo T.YJ.kp T.Yp (ZFS (qv 1) ZFT)))) (ZHv (ZG5 (ZIy ZG9 ZHs ZFU (qv 1) (qv 4)))))) (ZFX (ZIE T.ZCZ rfl T.ZCa (ZFS ZGB ZFT))) ZFq) (ZFV (qsS (i := 5) ZGZ.nd (ZFb ZF9 (qv 2) (ZFb ZGF (qv 1) (qv 3)))) (ZFX (ZFh (ZFw (ZFS (qv 5) (ZFS (ZFb ZF9 (qv 5) (qv 3)) ZFT)))))))), ?_⟩
  walk_at "s"
  walk_at "w"
  rcases hv with ⟨n, rfl, hn⟩ | hv
  ·refine ⟨_, rfl, .inl ⟨n, rfl, ?_⟩⟩
   walk_at "w"
   refine ZGH ?_
   walk_at "w"
   refine ZFt (fun h1 => ?_) (fun h1 => ?_)
   ·walk_at "w"
    refine ZJu (fun _ => ?_) (fun h => absurd h (by omega))
    walk_at "w"
    exact ZGx (by decide) q
   ·walk_at "w"
    refine ZGX ?_
    walk_at "w"
    exact ZGx (by decide) q
  ·refine ⟨_, rfl, .inr ⟨hv, ?_⟩⟩
   walk_at "w"
   refine ZGX ?_
   walk_at "w"
   exact ZGx (by decide) q
theorem ZKw (T : Txt K mg a) : ZFc P w K mg base (CX1 P w) 2 a.Yw a.Yq ["window", "k"] (fun vs H Q E => ZPt K vs H Q E ∨ ZO5 a.ZC vs H Q E) := (ZJZ T).lift.or (ZO6 T)
def Due (H : Hp) (y m k : Int) (v : V) : Prop := y < 4 ∨ ZIf H v ∨ ∃ part : Int, v = .int part ∧ (part < 0 ∨ 3 < part ∨ (part = 0 ∧ k = 0) ∨ (part = 1 ∧ k = m - 1))
def ZSF (D : Addr) : Sp := fun vs H _ E => ∃ (q : Addr) (b y m k : Int) (v : V), vs = [.ref q, .int k, v] ∧ H q = some (.tup [.int b, .int y, .int m]) ∧ Due H y m k v ∧ E (.ref D) none H
theorem ZLL (T : Txt K mg a) : ZFc P w K mg base (CX1 P w) 2 a.Ze a.Zd ["window", "k", "part"] (ZSF a.ZB) := by
 refine T.Zg.okx ZI7 (by walk_at "l") (fun cdv A outer s H vs Q E hr h => ?_)
 ·obtain ⟨q, b, y, m, k, v, rfl, hq, hd, kk⟩ := h
  refine ⟨_, QB.h (ZFV (ZF1 (ZFk (ZHs) (ZFn (ZFp K rfl) (qv 0) ZFU) ZFU (ZFm _)) (ZFX (ZIE T.Yx rfl T.Ys (ZFS ZGB ZFT))) ZFq) (ZFV (ZF1 (QW.pt (ZHw (ZG5 (ZG4 (qcS (ZHf T) hr T.Yo T.YJ.kp T.Yp (ZFS (qv 2) ZFT)))) (ZHv (ZG5 (ZIy ZG9 ZG9 ZFU (qv 2) ZFU))))) (ZFX (ZIE T.Yx rfl T.Ys (ZFS ZGB ZFT))) ZFq) (ZFV (ZF1 (QW.pt (ZJf (ZFk (ZGj) (qv 2) ZFU (ZFm _)) (ZIo (ZFk (ZGj) (qv 1) ZFU (ZFm _))))) (ZFX (ZIE T.Yx rfl T.Ys (ZFS ZGB ZFT))) ZFq) (ZFX (ZF1 (QW.pt (ZJf (ZFk (ZGj) (qv 2) ZFU (ZFm _)) (ZIo (ZFk (ZGj) (qv 1) (ZFb ZGk (ZFn (ZFp K rfl) (qv 0) ZFU) ZFU) (ZFm _))))) (ZFX (ZIE T.Yx rfl T.Ys (ZFS ZGB ZFT))) ZFq))))), ?_⟩
  walk_at "s"
  walk_at "w"
  refine ZFt (fun _ => ?_) (fun hy => ?_)
  ·walk_at "w"
   exact ZGx (by decide) kk
  walk_at "w"
  rcases hd with hd | hd | ⟨part, rfl, hd⟩
  ·exact absurd hd hy
  ·refine ⟨_, rfl, .inr ⟨hd, ?_⟩⟩
   walk_at "w"
   refine ZGX ?_
   walk_at "w"
   exact ZGx (by decide) kk
  refine ⟨_, rfl, .inl ⟨part, rfl, ?_⟩⟩
  walk_at "w"
  refine ZGH ?_
  walk_at "w"
  by_cases h2 : 0 ≤ part
  ·refine ZFt (fun _ => ?_) (fun z => absurd h2 z)
   walk_at "w"
   by_cases h3 : part ≤ 3
   ·rw [decide_eq_true h3]
    refine ZGH ?_
    walk_at "w"
    rw [ZGV]
    refine ZFt (fun z1 => ?_) (fun z1 => ?_)
    ·walk_at "w"
     rw [ZGV]
     refine ZFt (fun z2 => ?_) (fun z2 => absurd hd (by omega))
     walk_at "w"
     exact ZGx (by decide) kk
    ·walk_at "w"
     refine ZGH ?_
     walk_at "w"
     rw [ZGV]
     refine ZFt (fun z3 => ?_) (fun z3 => absurd hd (by omega))
     walk_at "w"
     rw [ZGV]
     refine ZFt (fun z4 => ?_) (fun z4 => absurd hd (by omega))
     walk_at "w"
     exact ZGx (by decide) kk
   ·rw [decide_eq_false h3]
    refine ZGX ?_
    walk_at "w"
    exact ZGx (by decide) kk
  ·refine ZFt (fun z => absurd z h2) (fun _ => ?_)
   walk_at "w"
   refine ZGX ?_
   walk_at "w"
   exact ZGx (by decide) kk
theorem ZIg (T : Txt K mg a) : ZFc P w K mg base (CX1 P w) 2 a.Ze a.Zd ["window", "k", "part"] (fun vs H Q E => ZUj vs H Q E ∨ ZSF a.ZB vs H Q E) := (ZI8 T).lift.or (ZLL T)
def ZPw (D : Addr) : Sp := fun vs H _ E => ∃ (q : Addr) (b y m : Int) (v z : V), vs = [.ref q, v, z] ∧ H q = some (.tup [.int b, .int y, .int m]) ∧ ZLC H m v ∧ E (.ref D) none H
theorem ZO7 (T : Txt K mg a) : ZFc P w K mg base (CX1 P w) 3 a.Yk a.Ye ["window", "k", "part"] (ZPw a.ZC) := by
 refine T.ZAO.okx ZGc (by walk_at "l") (fun cdv A outer s H vs Q E hr h => ?_)
 ·obtain ⟨q, b, y, m, v, z, rfl, hq, hv, k⟩ := h
  refine ⟨_, QB.h (ZFV (ZGv (ZHV (ZKw T) hr rfl T.Jy T.YL.kp T.Jw .nil ZJ0 (ZFS (qv 0) (ZFS (qv 1) ZFT))) (ZGb (n := 2) K rfl rfl (ZFi (qgN (i := 3) ZGc.nd) (ZFi (qgN (i := 4) ZGc.nd) ZGO)))) (ZFV (ZFu (ZHV (ZIg T) hr rfl T.Yu T.Zg.kp T.Ym .nil ZJ0 (ZFS (qv 0) (ZFS (qv 1) (ZFS (qv 2) ZFT))))) (ZFV ZF7 (ZFV ZF7 (ZFV ZF7 (ZFV ZF7 (ZFX ZF7))))))), ?_⟩
  walk_at "s"
  walk_at "w"
  exact .inr ⟨q, b, y, m, v, rfl, hq, hv, k⟩
def ZPx (D : Addr) : Sp := fun vs H _ E => ∃ (q : Addr) (b y m k : Int) (v : V), vs = [.ref q, .int k, v] ∧ H q = some (.tup [.int b, .int y, .int m]) ∧ 0 ≤ k ∧ k < m ∧ m ≤ 1000 ∧ Due H y m k v ∧ ∀ H', ZFY H H' → E (.ref D) none H'
theorem Due.same {H H' : Hp} {y m k : Int} {v : V} (h : Due H y m k v) (s : ZFY H H') : Due H' y m k v := by
 rcases h with h | h | h
 ·exact .inl h
 ·exact .inr (.inl (h.same s))
 ·exact .inr (.inr h)
theorem ZO8 (T : Txt K mg a) : ZFc P w K mg base (CX1 P w) 3 a.Yk a.Ye ["window", "k", "part"] (ZPx a.ZB) := by
 refine T.ZAO.okx ZGc (by walk_at "l") (fun cdv A outer s H vs Q E hr h => ?_)
 ·obtain ⟨q, b, y, m, n, v, rfl, hq, h0, h1, h2, hd, k⟩ := h
  refine ⟨_, QB.h (ZFV (ZGv (ZHV (ZKw T) hr rfl T.Jy T.YL.kp T.Jw .nil ZJ0 (ZFS (qv 0) (ZFS (qv 1) ZFT))) (ZGb (n := 2) K rfl rfl (ZFi (qgN (i := 3) ZGc.nd) (ZFi (qgN (i := 4) ZGc.nd) ZGO)))) (ZFV (ZFu (ZHV (ZIg T) hr rfl T.Yu T.Zg.kp T.Ym .nil ZJ0 (ZFS (qv 0) (ZFS (qv 1) (ZFS (qv 2) ZFT))))) (ZFV ZF7 (ZFV ZF7 (ZFV ZF7 (ZFV ZF7 (ZFX ZF7))))))), ?_⟩
  walk_at "s"
  walk_at "w"
  refine .inl ⟨q, b, y, m, n, rfl, hq, h0, h1, h2, fun u1 H1 n1 f1 S1 => ?_⟩
  walk_at "w"
  exact .inr ⟨q, b, y, m, n, v, rfl, S1 _ _ hq, hd.same S1, k H1 S1⟩
theorem ZPU (T : Txt K mg a) : ZFc P w K mg base (CX1 P w) 3 a.Yk a.Ye ["window", "k", "part"] (fun vs H Q E => ZNO K vs H Q E ∨ (ZPw a.ZC vs H Q E ∨ ZPx a.ZB vs H Q E)) := (ZQ4 T).lift.or ((ZO7 T).or (ZO8 T))
def wd (b1 b2 b3 : Bool) : Str := if [b1, b2, b3] = [true, false, false] then "times" else if [b1, b2, b3] = [false, true, false] then "column" else if [b1, b2, b3] = [false, false, true] then "apart" else "other"
theorem ZMv (b1 b2 b3 c1 c2 c3 : Bool) : PyData.eqv (.list [.bool b1, .bool b2, .bool b3]) (.list [.bool c1, .bool c2, .bool c3]) = decide ([b1, b2, b3] = [c1, c2, c3]) := by
 cases b1 <;> cases b2 <;> cases b3 <;> cases c1 <;> cases c2 <;> cases c3 <;> rfl
theorem ZKx (b1 b2 b3 : Bool) : (PyData.list [.bool b1, .bool b2, .bool b3]).depth ≤ 60 := by cases b1 <;> cases b2 <;> cases b3 <;> decide
def ZYS (K : W.Frag) (a : Ad) : Sp := fun vs H Q _ => ∃ (e C : Addr) (b1 b2 b3 : Bool), vs = [.ref e] ∧ H e = some (ZID e (.ref C)) ∧ ZHN K C ∧ ZG7 K C ∧ W.kitAny K (.ref C) [.ref a.ZE, .ref a.ZD, .ref a.ZK, .ref a.ZH, .ref a.ZI] = some false ∧
 W.kitOne K (.ref C) (.ref a.ZA) = some b1 ∧ W.kitOne K (.ref C) (.ref a.ZC) = some b2 ∧ W.kitOne K (.ref C) (.ref a.ZB) = some b3 ∧ ∀ H', ZFY H H' → Q (.str (wd b1 b2 b3)) H'
theorem ZNP : ZFa ["_law_e", "_law_kinds"] ["_law_e"] (ZFW ZLr) := ZFv
theorem ZKD (T : Txt K mg a) : ZQc P w K mg base 1 a.ZCP a.ZCF ["_law_e"] (ZYS K a) := by
 refine T.ZAq.okNU ZNP (fun vs H Q E h => ?_) (fun cdv A outer s H vs Q E hu64 h => ?_)
 ·obtain ⟨e, C, b1, b2, b3, rfl, _⟩ := h
  rfl
 ·obtain ⟨e, C, b1, b2, b3, rfl, he, hC, hA, h0, h1, h2, h3, k⟩ := h
  refine ⟨_, QB.h (ZFV (ZF1 (ZG4 (ZFr (ZVy K rfl) rfl T.ZR ZGo (ZFS (qv 0) (ZFS (ZFw (ZFS (ZGn (v := V.ref a.ZE) rfl T.ZEX rfl) (ZFS (ZGn (v := V.ref a.ZD) rfl T.ZDo rfl) (ZFS (ZGn (v := V.ref a.ZK) rfl T.ZEW rfl) (ZFS (ZGn (v := V.ref a.ZH) rfl T.ZD2 rfl) (ZFS (ZGn (v := V.ref a.ZI) rfl T.ZEE rfl) ZFT)))))) ZFT)))) (ZFX (ZFh ZGB)) ZFq) (ZFV (qsS (i := 1) ZNP.nd (ZGp (ZFS (ZFr (ZMf K rfl) rfl T.ZR ZGo (ZFS (qv 0) (ZFS (ZGn (v := V.ref a.ZA) rfl T.ZBU rfl) ZFT))) (ZFS (ZFr (ZMf K rfl) rfl T.ZR ZGo (ZFS (qv 0) (ZFS (ZGn (v := V.ref a.ZC) rfl T.ZCa rfl) ZFT))) (ZFS (ZFr (ZMf K rfl) rfl T.ZR ZGo (ZFS (qv 0) (ZFS (ZGn (v := V.ref a.ZB) rfl T.Ys rfl) ZFT))) ZFT))))) (ZFV (ZF1 (ZFk (ZN3 K rfl hu64) (qv 1) (ZGp (ZFS ZHK (ZFS ZHK (ZFS ZHK ZFT)))) (ZFm _)) (ZFX (ZFh ZGB)) ZFq) (ZFV (ZF1 (ZFk (ZN3 K rfl hu64) (qv 1) (ZGp (ZFS ZHK (ZFS ZHK (ZFS ZHK ZFT)))) (ZFm _)) (ZFX (ZFh ZGB)) ZFq) (ZFX (ZFh (ZHU (ZFk (ZN3 K rfl hu64) (qv 1) (ZGp (ZFS ZHK (ZFS ZHK (ZFS ZHK ZFT)))) (ZFm _)) ZGB ZGB))))))), ?_⟩
  walk_at "s"
  walk_at "w"
  refine ZFd (by show 5 ≤ sizeLine; decide) fun t1 H1 n1 f1 S1 => ?_
  walk_at "w"
  refine ZVz (S1 _ _ he) hC hA f1 (.cons rfl (.cons rfl (.cons rfl (.cons rfl (.cons rfl .nil))))) h0 ?_
  walk_at "w"
  refine ZGH ?_
  walk_at "w"
  refine ZMg (S1 _ _ he) hC hA rfl h1 ?_
  walk_at "w"
  refine ZMg (S1 _ _ he) hC hA rfl h2 ?_
  walk_at "w"
  refine ZMg (S1 _ _ he) hC hA rfl h3 ?_
  walk_at "w"
  refine ZFd (by show 3 ≤ sizeLine; decide) fun l2 H2 n2 f2 S2 => ?_
  walk_at "w"
  refine ZFd (by show 3 ≤ sizeLine; decide) fun l3 H3 n3 f3 S3 => ?_
  walk_at "w"
  refine ZN4 (.lst (SqL.of (S3 _ _ f2)) (.cons (.bl b1) (.cons (.bl b2) (.cons (.bl b3) .nil)))) (.lst (SqL.of f3) (.cons (.bl true) (.cons (.bl false) (.cons (.bl false) .nil)))) rfl rfl (ZKx b1 b2 b3) ?_
  rw [ZMv]
  walk_at "w"
  refine ZFt (fun z => ?_) (fun z1 => ?_)
  ·walk_at "w"
   have := k H3 (S1.trans (S2.trans S3))
   rw [wd, if_pos z] at this
   exact this
  walk_at "w"
  refine ZFd (by show 3 ≤ sizeLine; decide) fun l4 H4 n4 f4 S4 => ?_
  have f24 := S4 _ _ (S3 _ _ f2)
  walk_at "w"
  refine ZN4 (.lst (SqL.of f24) (.cons (.bl b1) (.cons (.bl b2) (.cons (.bl b3) .nil)))) (.lst (SqL.of f4) (.cons (.bl false) (.cons (.bl true) (.cons (.bl false) .nil)))) rfl rfl (ZKx b1 b2 b3) ?_
  rw [ZMv]
  walk_at "w"
  refine ZFt (fun z => ?_) (fun z2 => ?_)
  ·walk_at "w"
   have := k H4 (S1.trans (S2.trans (S3.trans S4)))
   rw [wd, if_neg z1, if_pos z] at this
   exact this
  walk_at "w"
  refine ZFd (by show 3 ≤ sizeLine; decide) fun l5 H5 n5 f5 S5 => ?_
  walk_at "w"
  refine ZN4 (.lst (SqL.of (S5 _ _ f24)) (.cons (.bl b1) (.cons (.bl b2) (.cons (.bl b3) .nil)))) (.lst (SqL.of f5) (.cons (.bl false) (.cons (.bl false) (.cons (.bl true) .nil)))) rfl rfl (ZKx b1 b2 b3) ?_
  rw [ZMv]
  walk_at "w"
  have := k H5 (S1.trans (S2.trans (S3.trans (S4.trans S5))))
  rw [wd, if_neg z1, if_neg z2] at this
  refine ZFt (fun z => ?_) (fun z => ?_)
  ·walk_at "w"
   rw [if_pos z] at this
   exact this
  ·walk_at "w"
   rw [if_neg z] at this
   exact this
def ZYT (H : Hp) (q : Addr) (b y w : Int) : Prop := H q = some (.tup [.int b, .int y, .int w]) ∧ 0 ≤ w ∧ w ≤ 1000 ∧ ¬ (InT b ∧ InT (b + w * y))
theorem ZO9 (T : Txt K mg a) : W.kitAny K (.ref a.ZA) [.ref a.ZE, .ref a.ZD, .ref a.ZK, .ref a.ZH, .ref a.ZI] = some false := by
 simp only [W.kitAny, T.Z0, T.Zj, T.Z7, T.Zs, T.Zr]
theorem ZYU (T : Txt K mg a) : W.kitAny K (.ref a.ZC) [.ref a.ZE, .ref a.ZD, .ref a.ZK, .ref a.ZH, .ref a.ZI] = some false := by
 simp only [W.kitAny, T.YO, T.Z4, T.YT, T.YG, T.YA]
theorem ZUM (T : Txt K mg a) : W.kitAny K (.ref a.ZB) [.ref a.ZE, .ref a.ZD, .ref a.ZK, .ref a.ZH, .ref a.ZI] = some false := by
 simp only [W.kitAny, T.YR, T.Z5, T.YQ, T.YF, T.YE]
def ZUk (a : Ad) : Sp := fun vs H Q _ => ∃ (p d q : Addr) (m : List (Str × SS)) (b y w : Int), vs = [.ref p, .ref q] ∧ ZFo a H p d m ∧ m.length ≤ 60 ∧ (∀ x ∈ m, ZIA x.1 = true ∧ BP x.2.sm) ∧
 ∃ f : Bool, (f = false → ZIH H q b y w ∧ w ≤ 15) ∧ (f = true → ZYT H q b y w) ∧ ∀ H', ZFo a H' p d m → FrL (trs m) H H' → Q (.str (if f = true then "times" else "told")) H'
theorem ZIm : ZFa ["_law_board_here", "_law_window", "_law_word_here", "_law_e"] ["_law_board_here", "_law_window"] (ZFW ZKp) := ZFv
theorem ZQ5 (T : Txt K mg a) : ZFc P w K mg base CX0 9 a.ZBS a.ZBV ["_law_board_here", "_law_window"] (ZUk a) := by
 refine T.ZCg.ok ZIm (by walk_at "l") (fun cdv A outer s H vs Q E hr h => ?_)
 ·obtain ⟨p, d, q, m, b, y, w, rfl, hB, hml, hnm, f, hf1, hf2, k⟩ := h
  refine ⟨_, QB.h (ZFV (qsS (i := 2) ZIm.nd ZGB) (ZFV (ZOV rfl rfl (ZLh (ZPr (qv 0) T.Yh T.ZCS (ZLK T) hr.m T.ZCR .nil (ZFS (qv 1) (ZFS (ZFw (ZFS ZFU (ZFS ZFU (ZFS ZFU ZFT)))) ZFT)))) (ZLi (i := 3) K rfl rfl rfl rfl ZIm.nd rfl rfl rfl T.YS T.YU (fun _ => ZFX (qsS (i := 2) ZIm.nd (ZLj (ZKD T) (Room.clr hr.m) rfl T.ZCG T.ZAq.kp T.ZB9 .nil (ZFS (qv 3) ZFT)))) ZOT)) (ZFX (ZFh (qv 2))))), ?_⟩
  walk_at "s"
  obtain ⟨⟨dx, hp⟩, hd, hI⟩ := id hB
  walk_at "w"
  refine ZGJ hp (ZJn (by decide +kernel)) ?_
  walk_at "w"
  refine ZFd (by show 3 ≤ sizeLine; decide) fun t1 H1 n1 f1 S1 => ?_
  walk_at "w"
  cases f
  ·obtain ⟨hW, hw⟩ := hf1 rfl
   refine .inl ⟨p, d, q, t1, m, b, y, w, 0, 1, 3, rfl, hB.same S1, hml, hnm, ⟨S1 _ _ hW.1, hW.2⟩, hw, ⟨f1, by unfold Bn; decide, by decide, by unfold Bn; decide, by decide, by decide⟩, fun ss qs H2 _ _ _ hB2 F2 => ?_⟩
   walk_at "w"
   exact k H2 hB2 ((FrL.same S1).trans F2)
  ·obtain ⟨hq, h0, h1, hn⟩ := hf2 rfl
   refine .inr ⟨_, _, q, b, y, w, rfl, S1 _ _ hq, h0, h1, hn, ?_⟩
   walk_at "w"
   refine ZJF T.ZO (ZGX ?_)
   refine ZJ1 fun e H2 n2 f2 S2 => ?_
   walk_at "w"
   refine ⟨e, a.ZA, true, false, false, rfl, f2, T.ZAC, T.ZBi, ZO9 T, T.ZS, T.ZU, T.ZV, fun H3 S3 => ?_⟩
   walk_at "w"
   exact k H3 (hB.same (S1.trans (S2.trans S3))) (FrL.same (S1.trans (S2.trans S3)))
theorem ZJM : ZFa ["_law_board_here", "_law_window", "_law_word_here", "_law_e"] ["_law_board_here", "_law_window"] (ZFW ZLs) := ZFv
theorem ZSG (T : Txt K mg a) : ZFc P w K mg base CX0 9 a.ZCH a.ZCN ["_law_board_here", "_law_window"] (ZUk a) := by
 refine T.ZDB.ok ZJM (by walk_at "l") (fun cdv A outer s H vs Q E hr h => ?_)
 ·obtain ⟨p, d, q, m, b, y, w, rfl, hB, hml, hnm, f, hf1, hf2, k⟩ := h
  refine ⟨_, QB.h (ZFV (qsS (i := 2) ZJM.nd ZGB) (ZFV (ZOV rfl rfl (ZLh (ZPr (qv 0) T.Yh T.ZDC (ZMu T) hr.m T.ZDD .nil (ZFS (qv 1) ZFT))) (ZLi (i := 3) K rfl rfl rfl rfl ZJM.nd rfl rfl rfl T.YS T.YU (fun _ => ZFX (qsS (i := 2) ZJM.nd (ZLj (ZKD T) (Room.clr hr.m) rfl T.ZCG T.ZAq.kp T.ZB9 .nil (ZFS (qv 3) ZFT)))) ZOT)) (ZFX (ZFh (qv 2))))), ?_⟩
  walk_at "s"
  obtain ⟨⟨dx, hp⟩, hd, hI⟩ := id hB
  walk_at "w"
  refine ZGJ hp (ZJn (by decide +kernel)) ?_
  walk_at "w"
  cases f
  ·obtain ⟨hW, hw⟩ := hf1 rfl
   refine .inl ⟨p, d, q, m, b, y, w, rfl, hB, hml, hW, hw, fun ns H2 _ hB2 F2 => ?_⟩
   walk_at "w"
   exact k H2 hB2 F2
  ·obtain ⟨hq, h0, h1, hn⟩ := hf2 rfl
   refine .inr ⟨_, q, b, y, w, rfl, hq, h0, h1, hn, ?_⟩
   walk_at "w"
   refine ZJF T.ZO (ZGX ?_)
   refine ZJ1 fun e H2 n2 f2 S2 => ?_
   walk_at "w"
   refine ⟨e, a.ZA, true, false, false, rfl, f2, T.ZAC, T.ZBi, ZO9 T, T.ZS, T.ZU, T.ZV, fun H3 S3 => ?_⟩
   walk_at "w"
   exact k H3 (hB.same (S2.trans S3)) (FrL.same (S2.trans S3))
def ZUN (a : Ad) : Sp := fun vs H Q _ => ∃ (q : Addr) (b y m : Int) (v z : V), vs = [.ref q, v, z] ∧ H q = some (.tup [.int b, .int y, .int m]) ∧ m ≤ 1000 ∧
 ((ZLC H m v ∧ ∀ H', ZFY H H' → Q (.str "column") H') ∨ ∃ k : Int, v = .int k ∧ 0 ≤ k ∧ k < m ∧ ∃ g : Bool, (g = false → ∃ part : Int, z = .int part ∧ ZI6 y m k part) ∧ (g = true → Due H y m k z) ∧ ∀ H', ZFY H H' → Q (.str (if g = true then "apart" else "told")) H')
theorem ZIQ : ZFa ["_law_window", "_law_k", "_law_part", "_law_word_here", "_law_e"] ["_law_window", "_law_k", "_law_part"] (ZFW ZJ9) := ZFv
theorem ZJb (T : Txt K mg a) : ZFc P w K mg base CX0 4 a.ZAj a.ZAk ["_law_window", "_law_k", "_law_part"] (ZUN a) := by
 refine T.Jx.ok ZIQ (by walk_at "l") (fun cdv A outer s H vs Q E hr h => ?_)
 ·obtain ⟨q, b, y, m, v, z, rfl, hq, hm, hcase⟩ := h
  refine ⟨_, QB.h (ZFV (qsS (i := 3) ZIQ.nd ZGB) (ZFV (ZOV rfl rfl (ZLh (ZVx (ZPU T) hr.m rfl T.ZD3 T.ZAO.kp T.ZED .nil (ZFS (qv 0) (ZFS (qv 1) (ZFS (qv 2) ZFT))))) (ZLi (i := 4) K rfl rfl rfl rfl ZIQ.nd rfl rfl rfl T.YS T.YU (fun _ => ZFX (qsS (i := 3) ZIQ.nd (ZLj (ZKD T) (Room.clr hr.m) rfl T.ZCG T.ZAq.kp T.ZB9 .nil (ZFS (qv 4) ZFT)))) ZOT)) (ZFX (ZFh (qv 3))))), ?_⟩
  walk_at "s"
  walk_at "w"
  rcases hcase with ⟨hv, k⟩ | ⟨n, rfl, h0, h1, g, hg1, hg2, k⟩
  ·refine .inr (.inl ⟨q, b, y, m, v, z, rfl, hq, hv, ?_⟩)
   walk_at "w"
   refine ZJF T.ZW (ZGX ?_)
   refine ZJ1 fun e H2 n2 f2 S2 => ?_
   walk_at "w"
   refine ⟨e, a.ZC, false, true, false, rfl, f2, T.ZCZ, T.ZDw, ZYU T, T.Zk, T.Z3, T.Z2, fun H3 S3 => ?_⟩
   walk_at "w"
   exact k H3 (S2.trans S3)
  cases g
  ·obtain ⟨part, rfl, hnd⟩ := hg1 rfl
   refine .inl ⟨q, b, y, m, n, part, rfl, hq, h0, h1, hm, hnd, fun u t h cv H2 _ _ _ _ S2 => ?_⟩
   walk_at "w"
   exact k H2 S2
  ·have hd := hg2 rfl
   refine .inr (.inr ⟨q, b, y, m, n, z, rfl, hq, h0, h1, hm, hd, fun H1 S1 => ?_⟩)
   walk_at "w"
   refine ZJF T.ZX (ZGX ?_)
   refine ZJ1 fun e H2 n2 f2 S2 => ?_
   walk_at "w"
   refine ⟨e, a.ZB, false, false, true, rfl, f2, T.Yx, T.ZDm, ZUM T, T.Zl, T.Z6, T.Z1, fun H3 S3 => ?_⟩
   walk_at "w"
   exact k H3 (S1.trans (S2.trans S3))
theorem ZPA {H : Hp} {Q : VK} {l : Addr} {ns : List Int} {d : Int} (h : H l = some (.lst (ns.map V.int))) (h0 : 0 ≤ d) (h1 : d < (ns.length : Int)) (q : ∀ n ∈ ns, Q (.int n) H) : ZQE K (.ref l) (.int d) H Q := by
 obtain ⟨j, rfl⟩ : ∃ j : Nat, d = (j : Int) := ⟨d.toNat, by omega⟩
 have hj : j < ns.length := by omega
 exact ZL9 (SqL.of h) (ZIn (by rw [List.getElem?_map, List.getElem?_eq_getElem hj]; rfl)) (q _ (List.getElem_mem hj))
def ZYV : Sp := fun vs H Q _ => ∃ p : Addr, vs = [.ref p] ∧ Pur H p ∧ ∀ (u q : Addr) (b y m : Int) (f : Bool) (H' : Hp), H' u = some (.tup [.ref q, .bl f]) → H' q = some (.tup [.int b, .int y, .int m]) → 1 ≤ y → 1 ≤ m → m ≤ 9 → (f = false → InT b ∧ InT (b + m * y)) → (f = true → ¬ (InT b ∧ InT (b + m * y))) → Pur H' p → Kp p H H' → Q (.ref u) H'
theorem ZJN : ZFa ["_law_purse_here", "_law_wide", "_law_many", "_law_far"] ["_law_purse_here"] (ZFW ZLt) := ZFv
theorem ZSH (T : Txt K mg a) : ZFc P w K mg base CX0 2 a.ZCC a.ZB6 ["_law_purse_here"] ZYV := by
 refine T.ZDL.ok ZJN (by walk_at "l") (fun cdv A outer s H vs Q E hr h => ?_)
 ·obtain ⟨p, rfl, hp, k⟩ := h
  refine ⟨_, QB.h (ZFV (qsS (i := 1) ZJN.nd (ZFb ZF9 ZFU (qcS (ZF8 T) hr T.ZM T.ZL.kp T.ZN (ZFS (qv 0) (ZFS (ZFn (ZG1 K rfl) (ZGp (ZFS ZFU (ZFS ZFU (ZFS (ZFb ZIS ZFU ZFU) ZFT)))) (qcS (ZF8 T) hr T.ZM T.ZL.kp T.ZN (ZFS (qv 0) (ZFS ZFU ZFT)))) ZFT))))) (ZFV (qsS (i := 2) ZJN.nd (ZFb ZF9 ZFU (qcS (ZF8 T) hr T.ZM T.ZL.kp T.ZN (ZFS (qv 0) (ZFS ZFU ZFT))))) (ZFV (qsS (i := 3) ZJN.nd (ZFn (ZG1 K rfl) (ZGp (ZFS ZFU (ZFS ZFU (ZFS ZFU (ZFS (qcS (ZF8 T) hr T.ZM T.ZL.kp T.ZN (ZFS (qv 0) (ZFS ZFU ZFT))) (ZFS (qcS (ZF8 T) hr T.ZM T.ZL.kp T.ZN (ZFS (qv 0) (ZFS (ZFb ZIS ZFU ZFU) ZFT))) ZFT)))))) (qcS (ZF8 T) hr T.ZM T.ZL.kp T.ZN (ZFS (qv 0) (ZFS ZFU ZFT))))) (ZFV (ZF1 (ZFk (ZGj) (qcS (ZF8 T) hr T.ZM T.ZL.kp T.ZN (ZFS (qv 0) (ZFS ZFU ZFT))) ZFU (ZFm _)) (ZFX (ZFh (ZFw (ZFS (ZFw (ZFS (ZFb ZGk (ZJv ZIr (ZFb ZIS ZFU ZFU)) (qv 3)) (ZFS (qv 1) (ZFS (qv 2) ZFT)))) (ZFS (ZHp (ZNe) (qv 3) ZFU (ZFm _)) ZFT))))) ZFq) (ZFX (ZFh (ZFw (ZFS (ZFw (ZFS (ZFb ZF9 (ZFb ZGk (ZFb ZIS ZFU ZFU) (ZFb ZGF (qv 1) (qv 2))) (qv 3)) (ZFS (qv 1) (ZFS (qv 2) ZFT)))) (ZFS (ZHp (ZNe) (qv 3) ZFU (ZFm _)) ZFT))))))))), ?_⟩
  walk_at "s"
  walk_at "w"
  refine ZFd (by show 3 ≤ sizeLine; decide) fun l1 H1 n1 f1 S1 => ?_
  have hne1 := hp.neN n1
  walk_at "w"
  refine ⟨p, _, rfl, hp.same S1, by decide, by decide, fun d2 H2 h2 h2' P2 K2 => ?_⟩
  walk_at "w"
  refine ZPA (ns := [_, _, _]) (K2 _ _ f1 hne1) h2 (by simpa using h2') fun n hn => ?_
  have hn2 : 0 < n ∧ n ≤ 1073741824 := by
   simp only [List.mem_cons, List.not_mem_nil, or_false] at hn
   rcases hn with rfl | rfl | rfl <;> decide
  walk_at "w"
  refine ⟨p, _, rfl, P2, hn2.1, Int.lt_of_le_of_lt hn2.2 (by decide), fun d3 H3 h3 h3' P3 K3 => ?_⟩
  walk_at "w"
  refine ⟨p, _, rfl, P3, by decide, by decide, fun d4 H4 h4 h4' P4 K4 => ?_⟩
  walk_at "w"
  refine ⟨p, _, rfl, P4, by decide, by decide, fun d5 H5 h5 h5' P5 K5 => ?_⟩
  walk_at "w"
  refine ⟨p, _, rfl, P5, by decide, by decide, fun d6 H6 h6 h6' P6 K6 => ?_⟩
  walk_at "w"
  refine ZFd (by show 5 ≤ sizeLine; decide) fun l7 H7 n7 f7 S7 => ?_
  have hne7 := P6.neN n7
  walk_at "w"
  refine ⟨p, _, rfl, P6.same S7, by decide, by decide, fun d8 H8 h8 h8' P8 K8 => ?_⟩
  walk_at "w"
  refine ZPA (ns := [_, _, _, _, _]) (K8 _ _ f7 hne7) h8 (by simpa using h8') fun far hf => ?_
  have hf0 : 0 ≤ far := by
   simp only [List.mem_cons, List.not_mem_nil, or_false] at hf
   rcases hf with rfl | rfl | rfl | rfl | rfl <;> omega
  have KA : Kp p H H8 := (((((((Kp.same S1).trans K2).trans K3).trans K4).trans K5).trans K6).then S7).trans K8
  walk_at "w"
  refine ⟨p, _, rfl, P8, by decide, by decide, fun d9 H9 h9 h9' P9 K9 => ?_⟩
  have hpos : 0 ≤ (1 + d3) * (1 + d4) := Int.mul_nonneg (by omega) (by omega)
  have hle : (1 + d3) * (1 + d4) ≤ 1073741824 * 9 := Int.mul_le_mul (by omega) (by omega) (by omega) (by decide)
  have hcm : (1 + d4) * (1 + d3) = (1 + d3) * (1 + d4) := Int.mul_comm _ _
  walk_at "w"
  rw [ZGV]
  refine ZFt (fun _ => ?_) (fun _ => ?_)
  ·walk_at "w"
   refine ZFd (by show 3 ≤ sizeLine; decide) fun q10 H10 n10 f10 S10 => ?_
   walk_at "w"
   refine ZFd (by show 2 ≤ sizeLine; decide) fun u11 H11 n11 f11 S11 => ?_
   refine k u11 q10 _ _ _ _ H11 f11 (S11 _ _ f10) (by omega) (by omega) (by omega) (fun z => ?_) (fun z => ?_) (P9.same (S10.trans S11)) ((KA.trans K9).then (S10.trans S11))
   ·have := of_decide_eq_false z
    rw [hcm]
    exact ⟨⟨by omega, by omega⟩, ⟨by omega, by omega⟩⟩
   ·have := of_decide_eq_true z
    rintro ⟨⟨z1, _⟩, _⟩
    omega
  ·walk_at "w"
   refine ZFd (by show 3 ≤ sizeLine; decide) fun q10 H10 n10 f10 S10 => ?_
   walk_at "w"
   refine ZFd (by show 2 ≤ sizeLine; decide) fun u11 H11 n11 f11 S11 => ?_
   refine k u11 q10 _ _ _ _ H11 f11 (S11 _ _ f10) (by omega) (by omega) (by omega) (fun z => ?_) (fun z => ?_) (P9.same (S10.trans S11)) ((KA.trans K9).then (S10.trans S11))
   ·have := of_decide_eq_false z
    rw [hcm]
    exact ⟨⟨by omega, by omega⟩, ⟨by omega, by omega⟩⟩
   ·have := of_decide_eq_true z
    rw [hcm]
    rintro ⟨_, ⟨_, z1⟩⟩
    omega
def ZUO (a : Ad) : Sp := fun vs H Q _ => ∃ p : Addr, vs = [.ref p] ∧ Pur H p ∧ ∀ (x d : Addr) (m : List (Str × SS)) (H' : Hp), (∀ b ∈ BL x d m, H b = none) → ZFo a H' x d m → m.length ≤ 1 → (∀ x ∈ m, ZIA x.1 = true ∧ BP x.2.sm) → Pur H' p → Kp p H H' → Q (.ref x) H'
theorem ZKE : ZFa ["_law_purse_here", "_law_board_here", "_law_store"] ["_law_purse_here"] (ZFW ZKq) := ZFv
theorem ZQ6 (T : Txt K mg a) : ZFc P w K mg base CX0 10 a.ZBp a.ZBW ["_law_purse_here"] (ZUO a) := by
 refine T.ZCl.ok ZKE (by walk_at "l") (fun cdv A outer s H vs Q E hr h => ?_)
 ·obtain ⟨p, rfl, hp, k⟩ := h
  refine ⟨_, QB.h (ZFV (qsS (i := 1) ZKE.nd (ZOO T.ZEb (ZLI T) hr.m rfl T.ZEm T.ZCL .nil ZGm)) (ZFV (ZF1 (ZFk (ZGj) (qcS (ZF8 T) hr.m T.ZM T.ZL.kp T.ZN (ZFS (qv 0) (ZFS ZFU ZFT))) ZFU (ZFm _)) (ZFV (qsS (i := 2) ZKE.nd (ZGs (qv 1) T.Yh T.ZCu (ZMr T) hr T.ZCw .nil ZGm (ZFS ZGB ZFT))) (ZFX (ZFu (ZGs (qv 2) T.ZY T.ZDN (ZOz T) hr.m T.ZDa .nil ZGm (ZFS (ZFb ZGk (qcS (ZF8 T) hr.m T.ZM T.ZL.kp T.ZN (ZFS (qv 0) (ZFS ZFU ZFT))) ZFU) (ZFS (qcS (ZF8 T) hr.m T.ZM T.ZL.kp T.ZN (ZFS (qv 0) (ZFS ZFU ZFT))) ZFT)))))) ZFq) (ZFX (ZFh (qv 1))))), ?_⟩
  walk_at "s"
  walk_at "w"
  refine ZMa fun x dx H1 n1 f1 S1 => ?_
  refine ⟨x, dx, rfl, f1, fun d H2 n2 hB2 K2 => ⟨rfl, ?_⟩⟩
  have S02 : ZFY H H2 := S1.kpN n1 K2
  have P2 := hp.same S02
  have hfr2 : ∀ b ∈ BL x d [], H b = none := fun b hb => by
   rcases ZGL.mp hb with rfl | rfl | ⟨q, hq, _⟩
   ·exact n1
   ·exact ZHr S1 n2
   ·cases hq
  have npB : ∀ {m : List (Str × SS)}, (∀ b ∈ BL x d m, H b = none) → p ∉ BL x d m := fun h z => by
   obtain ⟨_, _, _, e, _⟩ := hp
   rw [h p z] at e; cases e
  walk_at "w"
  refine ⟨p, _, rfl, P2, by decide, by decide, fun d3 H3 h3 h3' P3 K3 => ?_⟩
  have hB3 := hB2.pur P2 K3 (npB hfr2)
  have K03 : Kp p H H3 := (Kp.same S02).trans K3
  walk_at "w"
  rw [ZGV]
  refine ZFt (fun _ => ?_) (fun _ => ?_)
  ·obtain ⟨⟨dx3, hp3⟩, hd3, hI3⟩ := id hB3
   walk_at "w"
   refine ZGJ hp3 (ZJn (by decide +kernel)) ?_
   walk_at "w"
   refine ⟨x, d, [], _, rfl, by decide +kernel, hB3, by decide, (fun q hq => by simp [ZF0] at hq), fun _ S H4 hfS hB4 K4 => ?_⟩
   have hg4 : ZF0 ([] ++ [(("ab" : Str), (⟨S, [], 0, [], [], []⟩ : SS))]) "ab" = some ⟨S, [], 0, [], [], []⟩ := ZIp (by simp) (by simp)
   have hfr4 : ∀ b ∈ BL x d ([] ++ [(("ab" : Str), (⟨S, [], 0, [], [], []⟩ : SS))]), H b = none := fun b hb => by
    rcases ZGL.mp hb with rfl | rfl | ⟨q, hq, hz⟩
    ·exact n1
    ·exact ZHr S1 n2
    ·rw [List.nil_append, List.mem_singleton] at hq
     rw [hq] at hz
     cases e : H b with
     | none => rfl
     | some o =>
      have := hfS b hz
      by_cases zp : b = p
      ·obtain ⟨_, _, _, e2, _⟩ := P3
       rw [zp, e2] at this; cases this
      ·rw [K03 _ _ e zp] at this; cases this
   have ndp : p ≠ d := fun z => npB hfr2 (by rw [z]; exact ZGL.mpr (.inr (.inl rfl)))
   have P4 := P3.kp K4 ndp
   have K04 : Kp p H H4 := fun b o e nb => K4 _ _ (K03 _ _ e nb) fun z => by rw [z, ZHr S1 n2] at e; cases e
   have hq4 := ZIF hg4
   obtain ⟨n4, hS4⟩ := hB4.bin.st _ hq4
   obtain ⟨dxS, vsS, hpS, _⟩ := id hS4
   walk_at "w"
   refine ZGJ hpS ZKt ?_
   walk_at "w"
   refine ⟨p, _, rfl, P4, by decide, by decide, fun d5 H5 h5 h5' P5 K5 => ?_⟩
   walk_at "w"
   refine ⟨p, _, rfl, P5, by decide, by decide, fun d6 H6 h6 h6' P6 K6 => ?_⟩
   have hB6 := (hB4.pur P4 K5 (npB hfr4)).pur P5 K6 (npB hfr4)
   obtain ⟨n6, hS6⟩ := hB6.bin.st _ hq4
   have pno : p ∉ S.own := fun z => npB hfr4 (ZGL.mpr (.inr (.inr ⟨_, hq4, List.mem_cons_of_mem _ z⟩)))
   walk_at "w"
   refine ⟨S, n6, _, _, [], 0, [], [], [], rfl, hS6, ⟨by omega, by omega⟩, by decide, by decide, by decide, by decide, fun H7 hS7 F7 => ?_⟩
   have hB7 := hB6.deed hg4 (q' := ⟨S, ZGP [] (d5 - 30) d6, 1, [(d5 - 30, ZGA [] (d5 - 30))], [d5 - 30], []⟩) rfl ⟨_, hS7⟩ F7
   obtain ⟨xx, nn, cc, e6, r6⟩ := P6
   have P7 : Pur H7 p := ⟨xx, nn, cc, F7 _ _ e6 pno, r6⟩
   have hmem : ∀ z ∈ ZHl ([] ++ [(("ab" : Str), (⟨S, [], 0, [], [], []⟩ : SS))]) "ab" ⟨S, ZGP [] (d5 - 30) d6, 1, [(d5 - 30, ZGA [] (d5 - 30))], [d5 - 30], []⟩, z = (("ab" : Str), (⟨S, ZGP [] (d5 - 30) d6, 1, [(d5 - 30, ZGA [] (d5 - 30))], [d5 - 30], []⟩ : SS)) := fun z hz => by
    rcases ZLw hB6.bin.nd hg4 hz with h | ⟨h, h'⟩
    ·exact h
    ·rw [List.nil_append, List.mem_singleton] at h
     rw [h] at h'
     exact absurd rfl h'
   walk_at "w"
   refine k x d _ H7 (fun b hb => ?_) hB7 ?_ (fun z hz => ?_) P7 ?_
   ·rcases ZGL.mp hb with h | h | ⟨q, hq, hz⟩
    ·exact hfr4 b (ZGL.mpr (.inl h))
    ·exact hfr4 b (ZGL.mpr (.inr (.inl h)))
    ·rw [hmem q hq] at hz
     exact hfr4 b (ZGL.mpr (.inr (.inr ⟨_, hq4, hz⟩)))
   ·have := congrArg List.length (ZNN hB6.bin.nd hg4 (q' := ⟨S, ZGP [] (d5 - 30) d6, 1, [(d5 - 30, ZGA [] (d5 - 30))], [d5 - 30], []⟩) rfl).2
    simp only [List.length_map] at this
    rw [this]
    exact Nat.le_refl _
   ·rw [hmem z hz]
    refine ⟨show ZIA "ab" = true from by decide +kernel, fun r hr => ?_⟩
    have : r = (d5 - 30, d6) := by simpa [ZGP] using hr
    rw [this]
    exact ⟨by unfold Bn; omega, by unfold Bn; omega⟩
   ·intro b o e nb
    refine F7 _ _ (K6 _ _ (K5 _ _ (K04 _ _ e nb) nb) nb) fun z => ?_
    rw [hfr4 b (ZGL.mpr (.inr (.inr ⟨_, hq4, List.mem_cons_of_mem _ z⟩)))] at e
    cases e
  ·walk_at "w"
   exact k x d [] H3 hfr2 hB3 (by decide) (fun z hz => by cases hz) P3 K03
def ZWT : Sp := fun vs H Q _ => ∃ (p : Addr) (m : Int), vs = [.ref p, .int m] ∧ Pur H p ∧ 0 ≤ m ∧ ∀ (v : V) (H' : Hp), ZLC H' m v → Pur H' p → Kp p H H' → Q v H'
theorem ZJo : ZFa ["_law_purse_here", "_law_many", "_law_some"] ["_law_purse_here", "_law_many"] (ZFW ZIe) := ZFv
theorem ZJp (T : Txt K mg a) : ZFc P w K mg base CX0 2 a.JZ a.Jf ["_law_purse_here", "_law_many"] ZWT := by
 refine T.Jh.ok ZJo (by walk_at "l") (fun cdv A outer s H vs Q E hr h => ?_)
 ·obtain ⟨p, m, rfl, hp, hm, k⟩ := h
  refine ⟨_, QB.h (ZFV (qsS (i := 2) ZJo.nd (ZGp (ZFS (qv 1) (ZFS (ZJv ZIr ZFU) (ZFS (ZFb ZF9 (qv 1) (qcS (ZF8 T) hr T.ZM T.ZL.kp T.ZN (ZFS (qv 0) (ZFS (ZFb ZIS ZFU ZFU) ZFT)))) (ZFS ZHO (ZFS ZGB (ZFS (ZGp (ZFS ZFU ZFT)) (ZFS (ZFw (ZFS ZFU ZFT)) (ZFS (ZFb ZGk (ZJv ZIr ZFU) (qcS (ZF8 T) hr T.ZM T.ZL.kp T.ZN (ZFS (qv 0) (ZFS (ZFb ZIS ZFU ZFU) ZFT)))) ZFT)))))))))) (ZFX (ZFh (ZFn (ZG1 K rfl) (qv 2) (qcS (ZF8 T) hr T.ZM T.ZL.kp T.ZN (ZFS (qv 0) (ZFS (ZFr (ZIz K rfl) rfl T.JI ZIT (ZFS (qv 2) ZFT)) ZFT))))))), ?_⟩
  walk_at "s"
  walk_at "w"
  refine ⟨p, _, rfl, hp, by decide, by decide, fun d1 H1 h1 h1' P1 K1 => ?_⟩
  walk_at "w"
  refine ZFd (by show 1 ≤ sizeLine; decide) fun t2 H2 n2 f2 S2 => ?_
  walk_at "w"
  refine ZFd (by show 1 ≤ sizeLine; decide) fun t3 H3 n3 f3 S3 => ?_
  have P3 := P1.same (S2.trans S3)
  walk_at "w"
  refine ⟨p, _, rfl, P3, by decide, by decide, fun d4 H4 h4 h4' P4 K4 => ?_⟩
  walk_at "w"
  refine ZFd (by show 8 ≤ sizeLine; decide) fun l5 H5 n5 f5 S5 => ?_
  walk_at "w"
  refine ⟨p, _, rfl, P4.same S5, by show (0 : Int) < 8; decide, by show (8 : Int) < 2 ^ 250; decide, fun d6 H6 h6 h6' P6 K6 => ?_⟩
  have g2 := K6 _ _ (S5 _ _ (K4 _ _ (S3 _ _ f2) (P1.neN n2))) (P1.neN n2)
  have g3 := K6 _ _ (S5 _ _ (K4 _ _ f3 ((P1.same S2).neN n3))) ((P1.same S2).neN n3)
  have g5 := K6 _ _ f5 (P4.neN n5)
  have KA : Kp p H H6 := (((K1.then (S2.trans S3)).trans K4).then S5).trans K6
  walk_at "w"
  obtain ⟨n7, rfl⟩ : ∃ n : Nat, d6 = (n : Int) := ⟨d6.toNat, by omega⟩
  have h8 : n7 < 8 := by simp at h6'; omega
  have hx : ∃ x, [V.int m, .int (-1), .int (m + d1), .non, .str "0", .ref t2, .ref t3, .int (-1 - d4)][n7]? = some x ∧ ZLC H6 m x := by
   match n7, h8 with
   | 0, _ => exact ⟨_, rfl, .inl ⟨_, rfl, by omega⟩⟩
   | 1, _ => exact ⟨_, rfl, .inl ⟨_, rfl, by omega⟩⟩
   | 2, _ => exact ⟨_, rfl, .inl ⟨_, rfl, by omega⟩⟩
   | 3, _ => exact ⟨_, rfl, .inr .non⟩
   | 4, _ => exact ⟨_, rfl, .inr (.str _)⟩
   | 5, _ => exact ⟨_, rfl, .inr (.lst g2)⟩
   | 6, _ => exact ⟨_, rfl, .inr (.tup g3)⟩
   | 7, _ => exact ⟨_, rfl, .inl ⟨_, rfl, by omega⟩⟩
  obtain ⟨x, hx, hB⟩ := hx
  refine ZL9 (SqL.of g5) (ZIn hx) ?_
  walk_at "w"
  exact k x H6 hB P6 KA
def ZY0 : Sp := fun vs H Q _ => ∃ (q : Addr) (b y m k part : Int), vs = [.ref q, .int k, .int part] ∧ H q = some (.tup [.int b, .int y, .int m]) ∧ ∃ g : Bool, (g = true ↔ Due H y m k (.int part)) ∧ Q (.bl g) H
theorem ZUP : ZFa ["_law_window", "_law_k", "_law_part"] ["_law_window", "_law_k", "_law_part"] (ZFW ZMi) := ZFv
theorem ZUQ (T : Txt K mg a) : ZFc P w K mg base CX0 1 a.ZCc a.ZCd ["_law_window", "_law_k", "_law_part"] ZY0 := by
 refine T.ZDc.ok ZUP (by walk_at "l") (fun cdv A outer s H vs Q E hr h => ?_)
 ·obtain ⟨q, b, y, m, k, part, rfl, hq, g, hg, kk⟩ := h
  have k1 : Due H y m k (.int part) → Q (.bl true) H := fun z => by rw [← hg.mpr z]; exact kk
  have k2 : ZI6 y m k part → Q (.bl false) H := fun z => by
   cases g with
   | false => exact kk
   | true =>
    rcases hg.mp rfl with h | h | ⟨_, e, h⟩
    ·exact absurd h (by have := z.1; omega)
    ·cases h
    ·cases e
     obtain ⟨z1, z2, z3, z4, z5⟩ := z
     omega
  refine ⟨_, QB.h (ZFV (ZF1 (QW.pt (ZHw (ZFk (ZHs) (ZFn (ZFp K rfl) (qv 0) ZFU) ZFU (ZFm _)) (ZHw (ZFk (ZHs) (qv 2) ZFU (ZFm _)) (ZHv (ZFk (ZNe) (qv 2) ZFU (ZFm _)))))) (ZFX (ZFh ZHK)) ZFq) (ZFX (ZFh (ZYq (ZIx (ZHp (ZGj) (qv 2) ZFU (ZFm _)) (ZIw (ZHp (ZGj) (qv 1) ZFU (ZFm _)))) (ZIw (ZIx (ZHp (ZGj) (qv 2) ZFU (ZFm _)) (ZIw (ZHp (ZGj) (qv 1) (ZFb ZGk (ZFn (ZFp K rfl) (qv 0) ZFU) ZFU) (ZFm _))))))))), ?_⟩
  walk_at "s"
  walk_at "w"
  refine ZFt (fun z => ?_) (fun z1 => ?_)
  ·walk_at "w"
   exact k1 (.inl z)
  walk_at "w"
  refine ZFt (fun z => ?_) (fun z2 => ?_)
  ·walk_at "w"
   exact k1 (.inr (.inr ⟨_, rfl, .inl z⟩))
  walk_at "w"
  refine ZFt (fun z => ?_) (fun z3 => ?_)
  ·walk_at "w"
   exact k1 (.inr (.inr ⟨_, rfl, .inr (.inl z)⟩))
  walk_at "w"
  rw [ZGV]
  by_cases h0 : part = 0
  ·refine ZFt (fun _ => ?_) (fun z => absurd h0 z)
   walk_at "w"
   rw [ZGV]
   refine ZFt (fun z => ?_) (fun z4 => ?_)
   ·exact k1 (.inr (.inr ⟨_, rfl, .inr (.inr (.inl ⟨h0, z⟩))⟩))
   ·walk_at "w"
    rw [ZGV]
    refine ZFt (fun z => absurd z (by omega)) (fun _ => ?_)
    exact k2 ⟨by omega, by omega, by omega, fun z => z4 z.2, fun z => by omega⟩
  ·refine ZFt (fun z => absurd z h0) (fun _ => ?_)
   refine ⟨_, rfl, ZGH ?_⟩
   walk_at "w"
   rw [ZGV]
   refine ZFt (fun z5 => ?_) (fun z5 => ?_)
   ·walk_at "w"
    rw [ZGV]
    by_cases h6 : k = m - 1
    ·rw [decide_eq_true h6]
     exact k1 (.inr (.inr ⟨_, rfl, .inr (.inr (.inr ⟨z5, h6⟩))⟩))
    ·rw [decide_eq_false h6]
     exact k2 ⟨by omega, by omega, by omega, fun z => h0 z.1, fun z => h6 z.2⟩
   ·exact k2 ⟨by omega, by omega, by omega, fun z => h0 z.1, fun z => z5 z.1⟩
theorem ZSI {f : Bool} {u v : V} {σ : St} {H : Hp} {R : VK} (h : R (if f = true then u else v) H) : if f = true then tC u σ H R else tC v σ H R := by
 cases f <;> exact h
theorem ZSJ {f : Bool} {x y : Str} : (if f = true then V.str x else V.str y) = V.str (if f = true then x else y) := by cases f <;> rfl
theorem ZYW (H : Hp) (y m k part : Int) : Due H y m k (.int part) ∨ ZI6 y m k part := by
 by_cases h : ZI6 y m k part
 ·exact .inr h
 ·refine .inl ?_
  by_cases hy : y < 4
  ·exact .inl hy
  refine .inr (.inr ⟨part, rfl, ?_⟩)
  unfold ZI6 at h
  omega
theorem ZYX {H : Hp} {y m k : Int} {v : V} (h : ZLC H 4 v) : Due H y m k v := by
 rcases h with ⟨j, rfl, hj⟩ | h
 ·exact .inr (.inr ⟨j, rfl, by omega⟩)
 ·exact .inr (.inl h)
theorem ZYY {k : Str} (h : ZIA k = true) : PyData.canLay0 (.str k) = true := by
 show PyData.strOk k = true
 unfold ZIA at h
 simp only [Bool.and_eq_true, List.all_eq_true, decide_eq_true_eq] at h
 unfold PyData.strOk
 rw [Array.all_eq_true_iff_forall_mem]
 intro c hc
 have h2 := h.2 c (Array.mem_toList_iff.mpr hc)
 have : ∀ c ∈ ("abcdefghijklmnopqrstuvwxyz" : Str).cps.toList, c < 0x110000 := by decide +kernel
 simpa using this c h2
def ZNk (K : W.Frag) : Sp := fun vs H Q _ => ∃ (s : Addr) (ns : List Int), vs = [.ref s] ∧ SqL K H s (ns.map V.int) ∧ ns.length ≤ 63 ∧ ∀ H', Q (.bl true) H'
theorem ZHa : ZFa ["_law_script", "_law_k", "_law_purse_here", "_law_window", "_law_is_out", "_law_board_here", "_law_names", "_law_wanted", "_law_j", "_law_part"] ["_law_script"] (ZFW ZHk) := ZFv
theorem ZYZ (T : Txt K mg a) : ZFc P w K mg base CX0 11 a.ZDk a.ZDs ["_law_script"] (ZNk K) := by
 refine T.ZFD.ok ZHa (by walk_at "l") (fun cdv A outer s H vs Q E hr h => ?_)
 ·obtain ⟨s, ns, rfl, hS, hn, k⟩ := h
  have hu := ZIh hr
  have hu64 := hr.units
  refine ⟨_, QB.h (ZFV (ZIU PassesOwn.never rfl (ZJC rfl T.JH (ZFS (ZFr (ZNv rfl) rfl T.ZAy ZKQ (ZFS ZFU (ZFS (ZFr (ZNw rfl) rfl T.ZAl ZKR (ZFS (ZFr (ZIz K rfl) rfl T.JI ZIT (ZFS (qv 0) ZFT)) (ZFS ZFU ZFT))) ZFT))) ZFT)) (qgN (i := 1) ZHa.nd) (ZFV (qsS (i := 2) ZHa.nd (qcS (ZQn T) hr.m T.ZEI T.ZCj.kp T.ZEL (ZFS (qcS (ZRz T) hr.m T.ZES T.ZDH.kp T.ZEe (ZFS (qv 0) (ZFS (qv 1) ZFT))) (ZFS (qv 1) ZFT)))) (ZFV (ZGv (qcS (ZSH T) hr.m T.ZEY T.ZDL.kp T.ZEZ (ZFS (qv 2) ZFT)) (ZGb (n := 2) K rfl rfl (ZFi (qgN (i := 3) ZHa.nd) (ZFi (qgN (i := 4) ZHa.nd) ZGO)))) (ZFV (qsS (i := 5) ZHa.nd (qcS (ZQ6 T) hr T.ZEF T.ZCl.kp T.ZEB (ZFS (qv 2) ZFT))) (ZFV (qsS (i := 6) ZHa.nd (ZLe (qv 5) T.Yh T.JW (ZIJ T) hr.m T.Je .nil ZGm)) (ZFV (qsS (i := 7) ZHa.nd (ZHU (ZG4 (qv 4)) ZGB ZGB)) (ZFV (ZF1 (QW.pt (ZHw (ZFk (ZLz) (qcS (ZQ5 T) hr.m T.ZDz T.ZCg.kp T.ZD5 (ZFS (qv 5) (ZFS (qv 3) ZFT))) (qv 7) (ZFm _)) (ZHw (ZFk (ZLz) (qcS (ZSG T) hr.m T.ZEV T.ZDB.kp T.ZET (ZFS (qv 5) (ZFS (qv 3) ZFT))) (qv 7) (ZFm _)) (ZHv (ZFk (ZXj K rfl hu64) (ZLe (qv 5) T.Yh T.JW (ZIJ T) hr.m T.Je .nil ZGm) (qv 6) (ZFm _)))))) (ZFX (ZFh ZHK)) ZFq) (ZFV (qsS (i := 3) ZHa.nd (ZFw (ZFS (ZFb ZGk (qcS (ZF8 T) hr.m T.ZM T.ZL.kp T.ZN (ZFS (qv 2) (ZFS ZFU ZFT))) ZFU) (ZFS (ZFb ZF9 ZFU (qcS (ZF8 T) hr.m T.ZM T.ZL.kp T.ZN (ZFS (qv 2) (ZFS ZFU ZFT)))) (ZFS (ZFb ZF9 ZFU (qcS (ZF8 T) hr.m T.ZM T.ZL.kp T.ZN (ZFS (qv 2) (ZFS ZFU ZFT)))) ZFT))))) (ZFV (qsS (i := 8) ZHa.nd (qcS (ZF8 T) hr.m T.ZM T.ZL.kp T.ZN (ZFS (qv 2) (ZFS (ZFn (ZFp K rfl) (qv 3) ZFU) ZFT)))) (ZFV (qsS (i := 9) ZHa.nd (ZFb ZGk (qcS (ZF8 T) hr.m T.ZM T.ZL.kp T.ZN (ZFS (qv 2) (ZFS ZFU ZFT))) ZFU)) (ZFV (ZF1 (ZFk (ZLz) (qcS (ZJb T) hr.m T.ZAv T.Jx.kp T.ZAi (ZFS (qv 3) (ZFS (qv 8) (ZFS (qv 9) ZFT)))) (ZHU (ZG4 (qcS (ZUQ T) hr.m T.ZEl T.ZDc.kp T.ZEf (ZFS (qv 3) (ZFS (qv 8) (ZFS (qv 9) ZFT))))) ZGB ZGB) (ZFm _)) (ZFX (ZFh ZHK)) ZFq) (ZFV (ZF1 (ZFk (ZLz) (qcS (ZJb T) hr.m T.ZAv T.Jx.kp T.ZAi (ZFS (ZFw (ZFS (ZFn (ZFp K rfl) (qv 3) ZFU) (ZFS ZFU (ZFS (ZFn (ZFp K rfl) (qv 3) ZFU) ZFT)))) (ZFS (qcS (ZJp T) hr.m T.ZA2 T.Jh.kp T.ZA3 (ZFS (qv 2) (ZFS (ZFn (ZFp K rfl) (qv 3) ZFU) ZFT))) (ZFS ZFU ZFT)))) ZGB (ZFm _)) (ZFX (ZFh ZHK)) ZFq) (ZFX (ZF1 (ZFk (ZLz) (qcS (ZJb T) hr.m T.ZAv T.Jx.kp T.ZAi (ZFS (ZFw (ZFS (ZFn (ZFp K rfl) (qv 3) ZFU) (ZFS ZFU (ZFS (ZFn (ZFp K rfl) (qv 3) ZFU) ZFT)))) (ZFS (qv 8) (ZFS (qcS (ZJp T) hr.m T.ZA2 T.Jh.kp T.ZA3 (ZFS (qv 2) (ZFS ZFU ZFT))) ZFT)))) ZGB (ZFm _)) (ZFX (ZFh ZHK)) ZFq)))))))))))))) (ZFX (ZFh ZHK))), ?_⟩
  walk_at "s"
  walk_at "w"
  generalize hj : (if (if (12 : Int) < ((ns.map V.int).length : Int) then (12 : Int) else ((ns.map V.int).length : Int)) > 1 then (if (12 : Int) < ((ns.map V.int).length : Int) then (12 : Int) else ((ns.map V.int).length : Int)) else 1) = j
  have hj1 : 1 ≤ j := by rw [← hj]; split <;> omega
  have hj2 : j ≤ 12 := by rw [← hj]; split <;> (try split) <;> omega
  refine ZMB (by omega) (by omega) (ZPe (fun i σ H' => (∃ v1 v2 v3 v4 v5 v6 v7 v8 v9, σ = [some (.ref s), v1, v2, v3, v4, v5, v6, v7, v8, v9]) ∧ ZFY H H') ⟨⟨_, _, _, _, _, _, _, _, _, rfl⟩, ZFY.refl H⟩ ?_ ?_)
  ·rintro i σ H1 hi ⟨⟨v1, v2, v3, v4, v5, v6, v7, v8, v9, rfl⟩, S1⟩
   have hi2 : (i : Int) < 12 := by omega
   walk_at "w"
   refine ⟨s, ns, _, rfl, S1.seq hS, by omega, ?_⟩
   walk_at "w"
   refine ⟨_, _, rfl, by omega, by omega, fun p H2 n2 P2 S2 => ?_⟩
   walk_at "w"
   refine ⟨p, rfl, P2, fun u q b y m f H3 f3 g3 hy hm1 hm2 hin hout P3 K3 => ?_⟩
   have new3 : ZFY H1 H3 := S2.kpN n2 K3
   walk_at "w"
   refine ⟨p, rfl, P3, fun x d mm H4 hfr hB4 hml hnm P4 K4 => ?_⟩
   have S14 : ZFY H1 H4 := new3.kpN n2 K4
   have pB : p ∉ BL x d mm := fun z => by
    obtain ⟨_, _, _, e, _⟩ := P3
    rw [hfr p z] at e; cases e
   have g4 := K4 _ _ g3 (P3.ne_tup g3)
   have hfr1 : ∀ b ∈ BL x d mm, H1 b = none := fun b hb => ZHr new3 (hfr b hb)
   have tr1 : ∀ b ∈ trs mm, H1 b = none := fun b hb => by
    obtain ⟨z, hz, e⟩ := List.mem_map.mp hb
    exact hfr1 b (ZGL.mpr (.inr (.inr ⟨z, hz, by rw [← e]; simp [SS.all, SA.own]⟩)))
   have ptr : p ∉ trs mm := fun z => by
    obtain ⟨t, ht, e⟩ := List.mem_map.mp z
    exact pB (ZGL.mpr (.inr (.inr ⟨t, ht, by rw [← e]; simp [SS.all, SA.own]⟩)))
   obtain ⟨⟨dx4, hp4⟩, hd4, hI4⟩ := id hB4
   walk_at "w"
   refine ZGJ hp4 (ZJn (by decide +kernel)) ?_
   walk_at "w"
   refine ⟨x, d, mm, rfl, hB4, by omega, fun l5 ss5 H5 n5 f5 hp5 hs5 S5 => ?_⟩
   have hB5 := hB4.same S5
   have g5 := S5 _ _ g4
   have P5 := P4.same S5
   have S15 := S14.trans S5
   have l5tr : l5 ∉ trs mm := fun z => by
    obtain ⟨t, ht, e⟩ := List.mem_map.mp z
    exact hB4.fresh n5 (ZGL.mpr (.inr (.inr ⟨t, ht, by rw [← e]; simp [SS.all, SA.own]⟩)))
   have lay5 : ∀ z ∈ ss5, PyData.canLay0 (.str z) = true := fun z hz => by
    obtain ⟨t, ht, e⟩ := List.mem_map.mp (hp5.mem_iff.mp hz)
    rw [← e]
    exact ZYY (hnm t ht).1
   walk_at "w"
   refine ZSI ?_
   rw [ZSJ]
   walk_at "w"
   have hWc : ∀ H' : Hp, H' q = some (.tup [.int b, .int y, .int m]) → (f = false → ZIH H' q b y m ∧ m ≤ 15) ∧ (f = true → ZYT H' q b y m) := fun H' e => ⟨fun z => ⟨⟨e, by omega, hm1, by omega, hin z⟩, by omega⟩, fun z => ⟨e, by omega, by omega, hout z⟩⟩
   refine ⟨x, d, q, mm, b, y, m, rfl, hB5, by omega, hnm, f, (hWc H5 g5).1, (hWc H5 g5).2, fun H6 hB6 F6 => ?_⟩
   have g6 := FrL.tup F6 hB5.bin.noTup g5
   have P6 : Pur H6 p := by
    obtain ⟨xx, nn, cc, e, r⟩ := P5
    exact ⟨xx, nn, cc, F6 _ _ e ptr, r⟩
   have S16 : ZFY H1 H6 := F6.fresh S15 tr1
   have f56 := F6 _ _ f5 l5tr
   walk_at "w"
   refine ZKW ?_
   rw [decide_eq_true rfl]
   walk_at "w"
   refine ZGH ?_
   walk_at "w"
   refine ⟨x, d, q, mm, b, y, m, rfl, hB6, by omega, hnm, f, (hWc H6 g6).1, (hWc H6 g6).2, fun H7 hB7 F7 => ?_⟩
   have P7 : Pur H7 p := by
    obtain ⟨xx, nn, cc, e, r⟩ := P6
    exact ⟨xx, nn, cc, F7 _ _ e ptr, r⟩
   have S17 : ZFY H1 H7 := F7.fresh S16 tr1
   have f57 := F7 _ _ f56 l5tr
   walk_at "w"
   refine ZKW ?_
   rw [decide_eq_true rfl]
   walk_at "w"
   refine ZGH ?_
   obtain ⟨⟨dx7, hp7⟩, hd7, hI7⟩ := id hB7
   walk_at "w"
   refine ZGJ hp7 (ZJn (by decide +kernel)) ?_
   walk_at "w"
   refine ⟨x, d, mm, rfl, hB7, by omega, fun l8 ss8 H8 n8 f8 hp8 hs8 S8 => ?_⟩
   obtain rfl : ss8 = ss5 := ZOm (hp8.trans hp5.symm) hs8 hs5
   walk_at "w"
   refine ZWA (SqL.of f8) (SqL.of (S8 _ _ f57)) lay5 lay5 ?_
   rw [decide_eq_true rfl]
   walk_at "w"
   refine ZGH ?_
   have P8 := P7.same S8
   have S18 := S17.trans S8
   walk_at "w"
   refine ⟨p, _, rfl, P8, by decide, by decide, fun d9 H9 h9 h9' P9 K9 => ?_⟩
   walk_at "w"
   refine ⟨p, _, rfl, P9, by decide, by decide, fun d10 H10 h10 h10' P10 K10 => ?_⟩
   walk_at "w"
   refine ⟨p, _, rfl, P10, by decide, by decide, fun d11 H11 h11 h11' P11 K11 => ?_⟩
   walk_at "w"
   refine ZFd (by show 3 ≤ sizeLine; decide) fun q12 H12 n12 f12 S12 => ?_
   have S112 : ZFY H1 H12 := (((S18.kpN n2 K9).kpN n2 K10).kpN n2 K11).trans S12
   walk_at "w"
   refine ⟨p, _, rfl, P11.same S12, by omega, Int.lt_of_le_of_lt (show 1 + d11 ≤ 5 by omega) (by decide), fun d13 H13 h13 h13' P13 K13 => ?_⟩
   walk_at "w"
   refine ⟨p, _, rfl, P13, by decide, by decide, fun d14 H14 h14 h14' P14 K14 => ?_⟩
   have f14 := K14 _ _ (K13 _ _ f12 (P11.neN n12)) (P11.neN n12)
   have S114 : ZFY H1 H14 := (S112.kpN n2 K13).kpN n2 K14
   obtain ⟨g, hg⟩ : ∃ g : Bool, g = true ↔ Due H14 (1 + d10) (1 + d11) d13 (.int (d14 - 1)) := by
    by_cases z : Due H14 (1 + d10) (1 + d11) d13 (.int (d14 - 1))
    ·exact ⟨true, fun _ => z, fun _ => rfl⟩
    ·exact ⟨false, fun h => (by cases h), fun h => absurd h z⟩
   walk_at "w"
   refine ⟨q12, _, _, _, _, _, rfl, f14, by omega, .inr ⟨d13, rfl, h13, h13', g, fun z => ⟨_, rfl, ?_⟩, fun z => hg.mp z, fun H15 S15' => ?_⟩⟩
   ·rcases ZYW H14 (1 + d10) (1 + d11) d13 (d14 - 1) with h | h
    ·rw [z] at hg; cases hg.mpr h
    ·exact h
   have f15 := S15' _ _ f14
   walk_at "w"
   refine ⟨q12, _, _, _, _, _, rfl, f15, g, ⟨fun z => (hg.mp z).same S15', fun z => hg.mpr ?_⟩, ?_⟩
   ·rcases z with h | h | h
    ·exact .inl h
    ·cases h
    ·exact .inr (.inr h)
   walk_at "w"
   refine ZSI ?_
   rw [ZSJ]
   refine ZKW ?_
   rw [decide_eq_true rfl]
   walk_at "w"
   refine ZGH ?_
   have P15 := P14.same S15'
   have S115 := S114.trans S15'
   walk_at "w"
   refine ZFd (by show 3 ≤ sizeLine; decide) fun q16 H16 n16 f16 S16' => ?_
   have f1516 := S16' _ _ f15
   walk_at "w"
   refine ⟨p, _, rfl, P15.same S16', by omega, fun v17 H17 hv17 P17 K17 => ?_⟩
   walk_at "w"
   refine ⟨q16, _, _, _, v17, _, rfl, K17 _ _ f16 (P15.neN n16), by omega, .inl ⟨hv17, fun H18 S18' => ?_⟩⟩
   have f18 := S18' _ _ (K17 _ _ f1516 ((P15.same S16').ne_tup f1516))
   have P18 := P17.same S18'
   have S118 : ZFY H1 H18 := ((S115.trans S16').kpN n2 K17).trans S18'
   walk_at "w"
   refine ZKW ?_
   rw [decide_eq_true rfl]
   walk_at "w"
   refine ZGH ?_
   walk_at "w"
   refine ZFd (by show 3 ≤ sizeLine; decide) fun q19 H19 n19 f19 S19 => ?_
   walk_at "w"
   refine ⟨p, _, rfl, P18.same S19, by decide, fun v20 H20 hv20 P20 K20 => ?_⟩
   walk_at "w"
   refine ⟨q19, _, _, _, _, v20, rfl, K20 _ _ f19 (P18.neN n19), by omega, .inr ⟨d13, rfl, h13, h13', true, (fun z => by cases z), fun _ => ZYX hv20, fun H21 S21 => ?_⟩⟩
   walk_at "w"
   refine ZKW ?_
   rw [if_pos rfl, decide_eq_true rfl]
   walk_at "w"
   refine ZGH ?_
   walk_at "w"
   exact ⟨⟨_, _, _, _, _, _, _, _, _, rfl⟩, S1.trans (((S118.trans S19).kpN n2 K20).trans S21)⟩
  ·rintro σ H1 ⟨⟨v1, v2, v3, v4, v5, v6, v7, v8, v9, rfl⟩, S1⟩
   walk_at "w"
   exact k H1
end
structure FnH (K : W.Frag) (x : Str) (st : Stmt) (f : Addr) (d : FuncData) : Prop where
 a : W.nsIn K mainGlobals x = some (some (.ref f))
 F : Fun K x x st f d
structure MtH (K : W.Frag) (C : Addr) (x q : Str) (st : Stmt) (f : Addr) (d : FuncData) : Prop where
 a : W.findIn K (.ref C) x = some (some (.ref f))
 i : W.isFn K (.ref f) = true
 F : Fun K x q st f d
open PySem.W in
theorem all_mk {l : OpenLaw} {w : World} {K : Frag} {h : Heap} {mg : Str → Option Value} {fa : Addr} (X : K.In h) (G : h.Ns mainGlobals mg) (hfa : mg "law" = some (.ref fa))
 {ZJ ZG ZP ZF ZK ZC ZI ZA ZD ZH ZE ZB : Addr}
 {f0 f1 f2 f3 f4 f5 f6 f7 f8 f9 f10 f11 f12 f13 f14 f15 f16 f17 f18 f19 f20 f21 f22 f23 f24 f25 f26 f27 f28 f29 f30 f31 f32 f33 f34 f35 f36 f37 f38 f39 f40 f41 f42 f43 f44 f45 f46 f47 f48 f49 f50 f51 f52 f53 f54 f55 f56 f57 f58 f59 f60 f61 f62 f63 f64 f65 f66 : Addr} {d0 d1 d2 d3 d4 d5 d6 d7 d8 d9 d10 d11 d12 d13 d14 d15 d16 d17 d18 d19 d20 d21 d22 d23 d24 d25 d27 d28 d29 d30 d31 d32 d34 d35 d36 d37 d38 d39 d40 d41 d42 d43 d44 d45 d46 d47 d48 d49 d50 d51 d52 d53 d54 d55 d56 d57 d58 d59 d60 d61 d62 d63 d64 d65 : FuncData}
 {od26 an26 : Option Addr} {sl26 : Array (Option Value)} {oc26 kV26 dc26 pm26 cd26 ct26 : Value}
 {dt26 : Addr} {dod26 : Option Addr} {dsl26 : Array (Option Value)} {doc26 : Value} {dn26 : Nat}
 {od33 an33 : Option Addr} {sl33 : Array (Option Value)} {oc33 kV33 dc33 pm33 cd33 ct33 : Value}
 {dt33 : Addr} {dod33 : Option Addr} {dsl33 : Array (Option Value)} {doc33 : Value} {dn33 : Nat}
 {od66 an66 : Option Addr} {sl66 : Array (Option Value)} {oc66 kV66 dc66 pm66 cd66 ct66 : Value}
 {tk_TOP_LEVEL : Tok}
 {tk_TIMES_END : Tok}
 {tk_LETTERS : Tok}
 {tk_LONGEST_NAME : Tok}
 (e_FourPointsError : ZJ4 K "FourPointsError" ZF)
 (e_NoText : ZJ4 K "NoText" ZK)
 (e_NoColumn : ZJ4 K "NoColumn" ZC)
 (e_NotHalf : ZJ4 K "NotHalf" ZI)
 (e_OutOfTimes : ZJ4 K "OutOfTimes" ZA)
 (e_NoSample : ZJ4 K "NoSample" ZD)
 (e_NoWatch : ZJ4 K "NoWatch" ZH)
 (e_NoName : ZJ4 K "NoName" ZE)
 (e_NotApart : ZJ4 K "NotApart" ZB)
 (ZW : subIn K (.ref ZC) (.ref ZF) = some true) (Zt : kitOne K (.ref ZC) (.ref ZF) = some true)
 (Jv : subIn K (.ref ZC) (.ref ZK) = some false) (YT : kitOne K (.ref ZC) (.ref ZK) = some false)
 (Y3 : subIn K (.ref ZC) (.ref ZC) = some true) (Z3 : kitOne K (.ref ZC) (.ref ZC) = some true)
 (JK : subIn K (.ref ZC) (.ref ZI) = some false) (YA : kitOne K (.ref ZC) (.ref ZI) = some false)
 (Yi : subIn K (.ref ZC) (.ref ZA) = some false) (Zk : kitOne K (.ref ZC) (.ref ZA) = some false)
 (Y1 : subIn K (.ref ZC) (.ref ZD) = some false) (Z4 : kitOne K (.ref ZC) (.ref ZD) = some false)
 (JM : subIn K (.ref ZC) (.ref ZH) = some false) (YG : kitOne K (.ref ZC) (.ref ZH) = some false)
 (Jq : subIn K (.ref ZC) (.ref ZE) = some false) (YO : kitOne K (.ref ZC) (.ref ZE) = some false)
 (JE : subIn K (.ref ZC) (.ref ZB) = some false) (Z2 : kitOne K (.ref ZC) (.ref ZB) = some false)
 (ZO : subIn K (.ref ZA) (.ref ZF) = some true) (Zi : kitOne K (.ref ZA) (.ref ZF) = some true)
 (Y2 : subIn K (.ref ZA) (.ref ZK) = some false) (Z7 : kitOne K (.ref ZA) (.ref ZK) = some false)
 (Yc : subIn K (.ref ZA) (.ref ZC) = some false) (ZU : kitOne K (.ref ZA) (.ref ZC) = some false)
 (Yt : subIn K (.ref ZA) (.ref ZI) = some false) (Zr : kitOne K (.ref ZA) (.ref ZI) = some false)
 (YN : subIn K (.ref ZA) (.ref ZA) = some true) (ZS : kitOne K (.ref ZA) (.ref ZA) = some true)
 (Yj : subIn K (.ref ZA) (.ref ZD) = some false) (Zj : kitOne K (.ref ZA) (.ref ZD) = some false)
 (Yz : subIn K (.ref ZA) (.ref ZH) = some false) (Zs : kitOne K (.ref ZA) (.ref ZH) = some false)
 (Y0 : subIn K (.ref ZA) (.ref ZE) = some false) (Z0 : kitOne K (.ref ZA) (.ref ZE) = some false)
 (Yf : subIn K (.ref ZA) (.ref ZB) = some false) (ZV : kitOne K (.ref ZA) (.ref ZB) = some false)
 (Zv : subIn K (.ref ZD) (.ref ZF) = some true) (Zw : kitOne K (.ref ZD) (.ref ZF) = some true)
 (Jm : subIn K (.ref ZD) (.ref ZK) = some false) (Js : kitOne K (.ref ZD) (.ref ZK) = some false)
 (Y9 : subIn K (.ref ZD) (.ref ZC) = some false) (JF : kitOne K (.ref ZD) (.ref ZC) = some false)
 (JN : subIn K (.ref ZD) (.ref ZI) = some false) (JO : kitOne K (.ref ZD) (.ref ZI) = some false)
 (Yg : subIn K (.ref ZD) (.ref ZA) = some false) (Yb : kitOne K (.ref ZD) (.ref ZA) = some false)
 (Y8 : subIn K (.ref ZD) (.ref ZD) = some true) (Y4 : kitOne K (.ref ZD) (.ref ZD) = some true)
 (JL : subIn K (.ref ZD) (.ref ZH) = some false) (JQ : kitOne K (.ref ZD) (.ref ZH) = some false)
 (Jo : subIn K (.ref ZD) (.ref ZE) = some false) (Ju : kitOne K (.ref ZD) (.ref ZE) = some false)
 (Y6 : subIn K (.ref ZD) (.ref ZB) = some false) (Y5 : kitOne K (.ref ZD) (.ref ZB) = some false)
 (YI : subIn K (.ref ZE) (.ref ZF) = some true) (YC : kitOne K (.ref ZE) (.ref ZF) = some true)
 (ZAM : subIn K (.ref ZE) (.ref ZK) = some false) (ZAK : kitOne K (.ref ZE) (.ref ZK) = some false)
 (Jt : subIn K (.ref ZE) (.ref ZC) = some false) (Jk : kitOne K (.ref ZE) (.ref ZC) = some false)
 (ZAA : subIn K (.ref ZE) (.ref ZI) = some false) (J8 : kitOne K (.ref ZE) (.ref ZI) = some false)
 (JC : subIn K (.ref ZE) (.ref ZA) = some false) (JA : kitOne K (.ref ZE) (.ref ZA) = some false)
 (Jj : subIn K (.ref ZE) (.ref ZD) = some false) (Jl : kitOne K (.ref ZE) (.ref ZD) = some false)
 (J7 : subIn K (.ref ZE) (.ref ZH) = some false) (ZAF : kitOne K (.ref ZE) (.ref ZH) = some false)
 (ZAJ : subIn K (.ref ZE) (.ref ZE) = some true) (ZAN : kitOne K (.ref ZE) (.ref ZE) = some true)
 (Ji : subIn K (.ref ZE) (.ref ZB) = some false) (Jr : kitOne K (.ref ZE) (.ref ZB) = some false)
 (ZX : subIn K (.ref ZB) (.ref ZF) = some true) (Zu : kitOne K (.ref ZB) (.ref ZF) = some true)
 (Jn : subIn K (.ref ZB) (.ref ZK) = some false) (YQ : kitOne K (.ref ZB) (.ref ZK) = some false)
 (JB : subIn K (.ref ZB) (.ref ZC) = some false) (Z6 : kitOne K (.ref ZB) (.ref ZC) = some false)
 (JJ : subIn K (.ref ZB) (.ref ZI) = some false) (YE : kitOne K (.ref ZB) (.ref ZI) = some false)
 (Yd : subIn K (.ref ZB) (.ref ZA) = some false) (Zl : kitOne K (.ref ZB) (.ref ZA) = some false)
 (Y7 : subIn K (.ref ZB) (.ref ZD) = some false) (Z5 : kitOne K (.ref ZB) (.ref ZD) = some false)
 (JP : subIn K (.ref ZB) (.ref ZH) = some false) (YF : kitOne K (.ref ZB) (.ref ZH) = some false)
 (Jp : subIn K (.ref ZB) (.ref ZE) = some false) (YR : kitOne K (.ref ZB) (.ref ZE) = some false)
 (JD : subIn K (.ref ZB) (.ref ZB) = some true) (Z1 : kitOne K (.ref ZB) (.ref ZB) = some true)
 (e_Tree : ZTw K "Tree" ZJ)
 (na_Tree_looks : findIn K (.ref ZJ) "looks" = some none)
 (na_Tree_samples : findIn K (.ref ZJ) "samples" = some none)
 (na_Tree_kept_fours : findIn K (.ref ZJ) "kept_fours" = some none)
 (e_Store : ZTw K "Store" ZG)
 (na_Store_tree : findIn K (.ref ZG) "tree" = some none)
 (na_Store_deeds : findIn K (.ref ZG) "deeds" = some none)
 (na_Store_done : findIn K (.ref ZG) "done" = some none)
 (na_Store_watches : findIn K (.ref ZG) "watches" = some none)
 (e_Board : ZTw K "Board" ZP)
 (na_Board_stores : findIn K (.ref ZP) "stores" = some none)
 (F0 : FnH K "_wall" ZPs f0 d0)
 (F1 : FnH K "is_whole" ZJ5 f1 d1)
 (F2 : FnH K "curve_of" ZIj f2 d2)
 (F3 : FnH K "part_of" ZJG f3 d3)
 (F4 : FnH K "times_of" ZJ6 f4 d4)
 (F5 : FnH K "columns_of" ZHz f5 d5)
 (F6 : FnH K "height_of" ZJT f6 d6)
 (F7 : FnH K "four_of" ZKc f7 d7)
 (F8 : FnH K "joined" ZLm f8 d8)
 (F9 : FnH K "kept_of" ZKd f9 d9)
 (F10 : FnH K "dots_of" ZJH f10 d10)
 (F11 : FnH K "dots_by" ZKe f11 d11)
 (F12 : FnH K "column_dots" ZIZ f12 d12)
 (F13 : FnH K "rows_met" ZIk f13 d13)
 (F14 : FnH K "row_at" ZLn f14 d14)
 (F15 : FnH K "row_of" ZLo f15 d15)
 (F16 : FnH K "layers_text" ZHj f16 d16)
 (F17 : FnH K "line_text" ZIN f17 d17)
 (F18 : FnH K "sign_at" ZKf f18 d18)
 (F19 : FnH K "has_dot" ZKg f19 d19)
 (F20 : FnH K "is_border" ZJU f20 d20)
 (F21 : FnH K "check_borders" ZH0 f21 d21)
 (F22 : FnH K "check_time" ZI1 f22 d22)
 (F23 : FnH K "check_window" ZIG f23 d23)
 (F24 : FnH K "stretches" ZJV f24 d24)
 (F25 : FnH K "longest" ZKh f25 d25)
 (a26 : findIn K (.ref ZJ) "__init__" = some (some (.ref f26))) (i26 : isFn K (.ref f26) = true)
 (l26 : K.lookup f26 = some ⟨oc26, od26, .func (fnOf "__init__" "Tree.__init__" (ZGS ZGK) (ZGE ZGK) (ZFW ZGK) (.ref dt26) kV26 dc26 pm26 an26 cd26 ct26), sl26⟩) (c26 : codeIn K cd26 "Tree.__init__" = true) (k26 : keepIn K (.ref f26) = true)
 (dl26 : K.lookup dt26 = some ⟨doc26, dod26, .seq #[.none] dn26, dsl26⟩)
 (F27 : MtH K ZJ "put" "Tree.put" ZJ7 f27 d27)
 (F28 : MtH K ZJ "take" "Tree.take" ZJW f28 d28)
 (F29 : MtH K ZJ "renew" "Tree.renew" ZI2 f29 d29)
 (F30 : MtH K ZJ "four" "Tree.four" ZJX f30 d30)
 (F31 : MtH K ZJ "fours" "Tree.fours" ZH1 f31 d31)
 (F32 : MtH K ZJ "told" "Tree.told" ZLP f32 d32)
 (a33 : findIn K (.ref ZG) "__init__" = some (some (.ref f33))) (i33 : isFn K (.ref f33) = true)
 (l33 : K.lookup f33 = some ⟨oc33, od33, .func (fnOf "__init__" "Store.__init__" (ZGS ZGI) (ZGE ZGI) (ZFW ZGI) (.ref dt33) kV33 dc33 pm33 an33 cd33 ct33), sl33⟩) (c33 : codeIn K cd33 "Store.__init__" = true) (k33 : keepIn K (.ref f33) = true)
 (dl33 : K.lookup dt33 = some ⟨doc33, dod33, .seq #[.none] dn33, dsl33⟩)
 (F34 : MtH K ZG "put" "Store.put" ZJY f34 d34)
 (F35 : MtH K ZG "take" "Store.take" ZKi f35 d35)
 (F36 : MtH K ZG "height" "Store.height" ZJl f36 d36)
 (F37 : MtH K ZG "check_sample" "Store.check_sample" ZH2 f37 d37)
 (F38 : MtH K ZG "do" "Store.do" ZJ8 f38 d38)
 (F39 : MtH K ZG "bring" "Store.bring" ZIa f39 d39)
 (F40 : MtH K ZG "undo" "Store.undo" ZKj f40 d40)
 (F41 : MtH K ZG "times" "Store.times" ZKG f41 d41)
 (F42 : MtH K ZG "four" "Store.four" ZKk f42 d42)
 (F43 : MtH K ZG "fours" "Store.fours" ZIb f43 d43)
 (F44 : MtH K ZG "told" "Store.told" ZKl f44 d44)
 (F45 : MtH K ZG "watch" "Store.watch" ZKH f45 d45)
 (F46 : MtH K ZG "news" "Store.news" ZKm f46 d46)
 (F47 : FnH K "is_name" ZJI f47 d47)
 (F48 : MtH K ZP "__init__" "Board.__init__" ZHm f48 d48)
 (F49 : MtH K ZP "store" "Board.store" ZIc f49 d49)
 (F50 : MtH K ZP "names" "Board.names" ZId f50 d50)
 (F51 : MtH K ZP "picture" "Board.picture" ZHT f51 d51)
 (F52 : MtH K ZP "kept" "Board.kept" ZH3 f52 d52)
 (F53 : FnH K "parting" ZKn f53 d53)
 (F54 : FnH K "check_parting" ZH4 f54 d54)
 (F55 : FnH K "_law_cell" ZLp f55 d55)
 (F56 : FnH K "_law_purse" ZKo f56 d56)
 (F57 : FnH K "_law_draw" ZLq f57 d57)
 (F58 : FnH K "_law_word" ZLr f58 d58)
 (F59 : FnH K "_law_drawn" ZKp f59 d59)
 (F60 : FnH K "_law_kept" ZLs f60 d60)
 (F61 : FnH K "_law_parted" ZJ9 f61 d61)
 (F62 : FnH K "_law_edge" ZLt f62 d62)
 (F63 : FnH K "_law_board" ZKq f63 d63)
 (F64 : FnH K "_law_no_number" ZIe f64 d64)
 (F65 : FnH K "_law_due" ZMi f65 d65)
 (a66 : nsIn K mainGlobals "law" = some (some (.ref f66)))
 (l66 : K.lookup f66 = some ⟨oc66, od66, .func (fnOf "law" "law" (ZGS ZHk) (ZGE ZHk) (ZFW ZHk) .none kV66 dc66 pm66 an66 cd66 ct66), sl66⟩) (c66 : codeIn K cd66 "law" = true) (k66 : keepIn K (.ref f66) = true)
 (ac_TOP_LEVEL : nsIn K mainGlobals "TOP_LEVEL" = some (some (.int 40 tk_TOP_LEVEL)))
 (ac_TIMES_END : nsIn K mainGlobals "TIMES_END" = some (some (.int 1099511627776 tk_TIMES_END)))
 (ac_LETTERS : nsIn K mainGlobals "LETTERS" = some (some (.str "abcdefghijklmnopqrstuvwxyz" tk_LETTERS)))
 (ac_LONGEST_NAME : nsIn K mainGlobals "LONGEST_NAME" = some (some (.int 8 tk_LONGEST_NAME)))
 (ZBM : nsIn K mainGlobals "ValueError" = some none)
 (ZDn : nsIn K mainGlobals "abs" = some none)
 (ZDv : nsIn K mainGlobals "all" = some none)
 (ZC9 : nsIn K mainGlobals "bool" = some none)
 (ZDu : nsIn K mainGlobals "int" = some none)
 (ZR : nsIn K mainGlobals "isinstance" = some none)
 (JI : nsIn K mainGlobals "len" = some none)
 (ZEN : nsIn K mainGlobals "list" = some none)
 (ZAy : nsIn K mainGlobals "max" = some none)
 (ZAl : nsIn K mainGlobals "min" = some none)
 (JH : nsIn K mainGlobals "range" = some none)
 (ZAt : nsIn K mainGlobals "sorted" = some none)
 (ZDr : nsIn K mainGlobals "str" = some none)
 (ZDh : nsIn K mainGlobals "sum" = some none)
 (JG : nsIn K mainGlobals "tuple" = some none)
 (ZDx : nsIn K mainGlobals "zip" = some none)
   : ∃ fd : FuncData, (∀ (s : Shared) (v : Value), BindsTo s fd ⟨[v], []⟩ [("_law_script", v)]) ∧ ∀ base : Heap, K.In base → base.Ns mainGlobals mg → ZFc l.prog w K mg base CX0 11 fa fd ["_law_script"] (ZNk K) := by
  have e := hfa.symm.trans (mg_of X G a66)
  cases e
  have F26 := ZPo (st := ZGK) l26 c26 k26
  have F33 := ZPo (st := ZGI) l33 c33 k33
  have F66 := fun_mk (st := ZHk) l66 c66 k66
  have T : Txt K mg ⟨f0, d0, f1, d1, f2, d2, f3, d3, f4, d4, f5, d5, f6, d6, f7, d7, f8, d8, f9, d9, f10, d10, f11, d11, f12, d12, f13, d13, f14, d14, f15, d15, f16, d16, f17, d17, f18, d18, f19, d19, f20, d20, f21, d21, f22, d22, f23, d23, f24, d24, f25, d25, f26, fnOf "__init__" "Tree.__init__" (ZGS ZGK) (ZGE ZGK) (ZFW ZGK) (.ref dt26) kV26 dc26 pm26 an26 cd26 ct26, f27, d27, f28, d28, f29, d29, f30, d30, f31, d31, f32, d32, f33, fnOf "__init__" "Store.__init__" (ZGS ZGI) (ZGE ZGI) (ZFW ZGI) (.ref dt33) kV33 dc33 pm33 an33 cd33 ct33, f34, d34, f35, d35, f36, d36, f37, d37, f38, d38, f39, d39, f40, d40, f41, d41, f42, d42, f43, d43, f44, d44, f45, d45, f46, d46, f47, d47, f48, d48, f49, d49, f50, d50, f51, d51, f52, d52, f53, d53, f54, d54, f55, d55, f56, d56, f57, d57, f58, d58, f59, d59, f60, d60, f61, d61, f62, d62, f63, d63, f64, d64, f65, d65, fa, fnOf "law" "law" (ZGS ZHk) (ZGE ZHk) (ZFW ZHk) .none kV66 dc66 pm66 an66 cd66 ct66, ZJ, ZG, ZP, ZF, ZK, ZC, ZI, ZA, ZD, ZH, ZE, ZB, tk_TOP_LEVEL, tk_TIMES_END, tk_LETTERS, tk_LONGEST_NAME⟩ := ⟨F0.F, (F0.F.b1 fun _ _ _ _ _ _ _ => rfl), (mg_of X G F0.a), F1.F, (F1.F.b1 fun _ _ _ _ _ _ _ => rfl), (mg_of X G F1.a), F2.F, (F2.F.b1 fun _ _ _ _ _ _ _ => rfl), (mg_of X G F2.a), F3.F, (F3.F.b3 fun _ _ _ _ _ _ _ _ _ => rfl), (mg_of X G F3.a), F4.F, (F4.F.b2 fun _ _ _ _ _ _ _ _ => rfl), (mg_of X G F4.a), F5.F, (F5.F.b1 fun _ _ _ _ _ _ _ => rfl), (mg_of X G F5.a), F6.F, (F6.F.b1 fun _ _ _ _ _ _ _ => rfl), (mg_of X G F6.a), F7.F, (F7.F.b1 fun _ _ _ _ _ _ _ => rfl), (mg_of X G F7.a), F8.F, (F8.F.b2 fun _ _ _ _ _ _ _ _ => rfl), (mg_of X G F8.a), F9.F, (F9.F.b1 fun _ _ _ _ _ _ _ => rfl), (mg_of X G F9.a), F10.F, (F10.F.b3 fun _ _ _ _ _ _ _ _ _ => rfl), (mg_of X G F10.a), F11.F, (F11.F.b3 fun _ _ _ _ _ _ _ _ _ => rfl), (mg_of X G F11.a), F12.F, (F12.F.b3 fun _ _ _ _ _ _ _ _ _ => rfl), (mg_of X G F12.a), F13.F, (F13.F.b3 fun _ _ _ _ _ _ _ _ _ => rfl), (mg_of X G F13.a), F14.F, (F14.F.b4 fun _ _ _ _ _ _ _ _ _ _ => rfl), (mg_of X G F14.a), F15.F, (F15.F.b3 fun _ _ _ _ _ _ _ _ _ => rfl), (mg_of X G F15.a), F16.F, (F16.F.b3 fun _ _ _ _ _ _ _ _ _ => rfl), (mg_of X G F16.a), F17.F, (F17.F.b3 fun _ _ _ _ _ _ _ _ _ => rfl), (mg_of X G F17.a), F18.F, (F18.F.b3 fun _ _ _ _ _ _ _ _ _ => rfl), (mg_of X G F18.a), F19.F, (F19.F.b2 fun _ _ _ _ _ _ _ _ => rfl), (mg_of X G F19.a), F20.F, (F20.F.b1 fun _ _ _ _ _ _ _ => rfl), (mg_of X G F20.a), F21.F, (F21.F.b2 fun _ _ _ _ _ _ _ _ => rfl), (mg_of X G F21.a), F22.F, (F22.F.b1 fun _ _ _ _ _ _ _ => rfl), (mg_of X G F22.a), F23.F, (F23.F.b1 fun _ _ _ _ _ _ _ => rfl), (mg_of X G F23.a), F24.F, (F24.F.b2 fun _ _ _ _ _ _ _ _ => rfl), (mg_of X G F24.a), F25.F, (F25.F.b2 fun _ _ _ _ _ _ _ _ => rfl), (mg_of X G F25.a), F26, (fun s us hI hl => by match us, hl with | [_, _], _ => exact binds_K hI rfl dl26 rfl rfl rfl), (fun s us hI hl => have hl2 : us.length = 1 := (by simpa using hl); match us, hl2 with | [_], _ => binds_K hI rfl dl26 rfl rfl rfl), (fun s u v hI => binds_K hI rfl dl26 rfl rfl rfl), F27.F, (F27.F.b3 fun _ _ _ _ _ _ _ _ _ => rfl), ⟨F27.a, F27.i, F27.F.kp⟩, F28.F, (F28.F.b2 fun _ _ _ _ _ _ _ _ => rfl), ⟨F28.a, F28.i, F28.F.kp⟩, F29.F, (F29.F.b3 fun _ _ _ _ _ _ _ _ _ => rfl), ⟨F29.a, F29.i, F29.F.kp⟩, F30.F, (F30.F.b3 fun _ _ _ _ _ _ _ _ _ => rfl), ⟨F30.a, F30.i, F30.F.kp⟩, F31.F, (F31.F.b2 fun _ _ _ _ _ _ _ _ => rfl), ⟨F31.a, F31.i, F31.F.kp⟩, F32.F, (F32.F.b1 fun _ _ _ _ _ _ _ => rfl), ⟨F32.a, F32.i, F32.F.kp⟩, F33, (fun s us hI hl => by match us, hl with | [_, _], _ => exact binds_K hI rfl dl33 rfl rfl rfl), (fun s us hI hl => have hl2 : us.length = 1 := (by simpa using hl); match us, hl2 with | [_], _ => binds_K hI rfl dl33 rfl rfl rfl), (fun s u v hI => binds_K hI rfl dl33 rfl rfl rfl), F34.F, (F34.F.b3 fun _ _ _ _ _ _ _ _ _ => rfl), ⟨F34.a, F34.i, F34.F.kp⟩, F35.F, (F35.F.b2 fun _ _ _ _ _ _ _ _ => rfl), ⟨F35.a, F35.i, F35.F.kp⟩, F36.F, (F36.F.b2 fun _ _ _ _ _ _ _ _ => rfl), ⟨F36.a, F36.i, F36.F.kp⟩, F37.F, (F37.F.b2 fun _ _ _ _ _ _ _ _ => rfl), ⟨F37.a, F37.i, F37.F.kp⟩, F38.F, (F38.F.b3 fun _ _ _ _ _ _ _ _ _ => rfl), ⟨F38.a, F38.i, F38.F.kp⟩, F39.F, (F39.F.b3 fun _ _ _ _ _ _ _ _ _ => rfl), ⟨F39.a, F39.i, F39.F.kp⟩, F40.F, (F40.F.b1 fun _ _ _ _ _ _ _ => rfl), ⟨F40.a, F40.i, F40.F.kp⟩, F41.F, (F41.F.b1 fun _ _ _ _ _ _ _ => rfl), ⟨F41.a, F41.i, F41.F.kp⟩, F42.F, (F42.F.b3 fun _ _ _ _ _ _ _ _ _ => rfl), ⟨F42.a, F42.i, F42.F.kp⟩, F43.F, (F43.F.b2 fun _ _ _ _ _ _ _ _ => rfl), ⟨F43.a, F43.i, F43.F.kp⟩, F44.F, (F44.F.b1 fun _ _ _ _ _ _ _ => rfl), ⟨F44.a, F44.i, F44.F.kp⟩, F45.F, (F45.F.b2 fun _ _ _ _ _ _ _ _ => rfl), ⟨F45.a, F45.i, F45.F.kp⟩, F46.F, (F46.F.b2 fun _ _ _ _ _ _ _ _ => rfl), ⟨F46.a, F46.i, F46.F.kp⟩, F47.F, (F47.F.b1 fun _ _ _ _ _ _ _ => rfl), (mg_of X G F47.a), F48.F, (F48.F.b1 fun _ _ _ _ _ _ _ => rfl), F49.F, (F49.F.b2 fun _ _ _ _ _ _ _ _ => rfl), ⟨F49.a, F49.i, F49.F.kp⟩, F50.F, (F50.F.b1 fun _ _ _ _ _ _ _ => rfl), ⟨F50.a, F50.i, F50.F.kp⟩, F51.F, (F51.F.b3 fun _ _ _ _ _ _ _ _ _ => rfl), ⟨F51.a, F51.i, F51.F.kp⟩, F52.F, (F52.F.b2 fun _ _ _ _ _ _ _ _ => rfl), ⟨F52.a, F52.i, F52.F.kp⟩, F53.F, (F53.F.b3 fun _ _ _ _ _ _ _ _ _ => rfl), (mg_of X G F53.a), F54.F, (F54.F.b3 fun _ _ _ _ _ _ _ _ _ => rfl), (mg_of X G F54.a), F55.F, (F55.F.b2 fun _ _ _ _ _ _ _ _ => rfl), (mg_of X G F55.a), F56.F, (F56.F.b2 fun _ _ _ _ _ _ _ _ => rfl), (mg_of X G F56.a), F57.F, (F57.F.b2 fun _ _ _ _ _ _ _ _ => rfl), (mg_of X G F57.a), F58.F, (F58.F.b1 fun _ _ _ _ _ _ _ => rfl), (mg_of X G F58.a), F59.F, (F59.F.b2 fun _ _ _ _ _ _ _ _ => rfl), (mg_of X G F59.a), F60.F, (F60.F.b2 fun _ _ _ _ _ _ _ _ => rfl), (mg_of X G F60.a), F61.F, (F61.F.b3 fun _ _ _ _ _ _ _ _ _ => rfl), (mg_of X G F61.a), F62.F, (F62.F.b1 fun _ _ _ _ _ _ _ => rfl), (mg_of X G F62.a), F63.F, (F63.F.b1 fun _ _ _ _ _ _ _ => rfl), (mg_of X G F63.a), F64.F, (F64.F.b2 fun _ _ _ _ _ _ _ _ => rfl), (mg_of X G F64.a), F65.F, (F65.F.b3 fun _ _ _ _ _ _ _ _ _ => rfl), (mg_of X G F65.a), F66, (F66.b1 fun _ _ _ _ _ _ _ => rfl), (mg_of X G a66), ⟨e_Tree.pg, e_Tree.hd, e_Tree.po, e_Tree.sa⟩, (mg_of X G e_Tree.a), ⟨e_Tree.mi, a26, i26, e_Tree.kc⟩, na_Tree_looks, na_Tree_samples, na_Tree_kept_fours, ⟨e_Store.pg, e_Store.hd, e_Store.po, e_Store.sa⟩, (mg_of X G e_Store.a), ⟨e_Store.mi, a33, i33, e_Store.kc⟩, na_Store_tree, na_Store_deeds, na_Store_done, na_Store_watches, ⟨e_Board.pg, e_Board.hd, e_Board.po, e_Board.sa⟩, (mg_of X G e_Board.a), ⟨e_Board.mi, F48.a, F48.i, e_Board.kc⟩, na_Board_stores, e_FourPointsError.ex, ⟨e_FourPointsError.ga, e_FourPointsError.gt, e_FourPointsError.cl, e_FourPointsError.ob, e_FourPointsError.be⟩, (mg_of X G e_FourPointsError.a), e_NoText.ex, ⟨e_NoText.ga, e_NoText.gt, e_NoText.cl, e_NoText.ob, e_NoText.be⟩, (mg_of X G e_NoText.a), e_NoColumn.ex, ⟨e_NoColumn.ga, e_NoColumn.gt, e_NoColumn.cl, e_NoColumn.ob, e_NoColumn.be⟩, (mg_of X G e_NoColumn.a), e_NotHalf.ex, ⟨e_NotHalf.ga, e_NotHalf.gt, e_NotHalf.cl, e_NotHalf.ob, e_NotHalf.be⟩, (mg_of X G e_NotHalf.a), e_OutOfTimes.ex, ⟨e_OutOfTimes.ga, e_OutOfTimes.gt, e_OutOfTimes.cl, e_OutOfTimes.ob, e_OutOfTimes.be⟩, (mg_of X G e_OutOfTimes.a), e_NoSample.ex, ⟨e_NoSample.ga, e_NoSample.gt, e_NoSample.cl, e_NoSample.ob, e_NoSample.be⟩, (mg_of X G e_NoSample.a), e_NoWatch.ex, ⟨e_NoWatch.ga, e_NoWatch.gt, e_NoWatch.cl, e_NoWatch.ob, e_NoWatch.be⟩, (mg_of X G e_NoWatch.a), e_NoName.ex, ⟨e_NoName.ga, e_NoName.gt, e_NoName.cl, e_NoName.ob, e_NoName.be⟩, (mg_of X G e_NoName.a), e_NotApart.ex, ⟨e_NotApart.ga, e_NotApart.gt, e_NotApart.cl, e_NotApart.ob, e_NotApart.be⟩, (mg_of X G e_NotApart.a), ZW, Zt, Jv, YT, Y3, Z3, JK, YA, Yi, Zk, Y1, Z4, JM, YG, Jq, YO, JE, Z2, ZO, Zi, Y2, Z7, Yc, ZU, Yt, Zr, YN, ZS, Yj, Zj, Yz, Zs, Y0, Z0, Yf, ZV, Zv, Zw, Jm, Js, Y9, JF, JN, JO, Yg, Yb, Y8, Y4, JL, JQ, Jo, Ju, Y6, Y5, YI, YC, ZAM, ZAK, Jt, Jk, ZAA, J8, JC, JA, Jj, Jl, J7, ZAF, ZAJ, ZAN, Ji, Jr, ZX, Zu, Jn, YQ, JB, Z6, JJ, YE, Yd, Zl, Y7, Z5, JP, YF, Jp, YR, JD, Z1, (mg_of X G ac_TOP_LEVEL), (mg_of X G ac_TIMES_END), (mg_of X G ac_LETTERS), (mg_of X G ac_LONGEST_NAME), (mg_none_of X G ZBM), (mg_none_of X G ZDn), (mg_none_of X G ZDv), (mg_none_of X G ZC9), (mg_none_of X G ZDu), (mg_none_of X G ZR), (mg_none_of X G JI), (mg_none_of X G ZEN), (mg_none_of X G ZAy), (mg_none_of X G ZAl), (mg_none_of X G JH), (mg_none_of X G ZAt), (mg_none_of X G ZDr), (mg_none_of X G ZDh), (mg_none_of X G JG), (mg_none_of X G ZDx)⟩
  exact ⟨fnOf "law" "law" (ZGS ZHk) (ZGE ZHk) (ZFW ZHk) .none kV66 dc66 pm66 an66 cd66 ct66, fun s v => .of_eq rfl, fun base _ _ => ZYZ T⟩
theorem walk {l : W.OpenLaw} {q : Program} {loose : List Str} {XP : (Str → Option Value) → Heap → Prop} {YP : World → Heap → Prop} {d : DefRec} {K : Params → W.Frag} (hn : l.most = some 63) (hdf : d.params.defaults = [])
  (hY : ∀ (w : World) (h : Heap), YP w h → (K w.params).In h)
  (F : ∀ (w : World) (mg : Str → Option Value) (fa : Addr) (h : Heap), (K w.params).In h → h.Ns mainGlobals mg → mg d.name = some (.ref fa) →
   ∃ fd : FuncData, (∀ (s : Shared) (u : Value), BindsTo s fd ⟨[u], []⟩ [("_law_script", u)]) ∧ ∀ base : Heap, (K w.params).In base → base.Ns mainGlobals mg → ZFc l.prog w (K w.params) mg base CX0 11 fa fd ["_law_script"] (ZNk (K w.params))) :
  W.WalkO q loose XP YP l.row.toRowW d [] (fun f vs => PySem.call f vs) :=
 L2.walk_of (n := 63) (k := 11) (x := "_law_script") (CX := fun _ => CX0) (sp := fun w => ZNk (K w.params)) hn (by decide) hdf ⟨rfl, by decide, by decide, rfl⟩ hY F (fun _ _ a ns hl _ hS => ⟨a, ns, rfl, hS, hl, fun _ => rfl⟩) fun _ _ _ _ _ z => z
end My
local macro_rules | `(tactic| walk_at "e") => `(tactic| (refine' ⟨?a, ?b, ?c, ?d, ?e, ?f, ?g⟩; (case a => k_is); (case b => k_exc); (case c => k_is); (case d => k_is); (case e => k_is); (case f => k_is); (case g => k_is)))
local macro_rules | `(tactic| walk_at "c") => `(tactic| (refine' ⟨?a, ?b, ?c, ?d, ?e, ?f, ?g⟩; (case a => k_is); (case b => k_is); (case c => k_is); (case d => k_is); (case e => k_is); (case f => k_is); (case g => k_is)))
local macro_rules | `(tactic| walk_at "f") => `(tactic| (refine' ⟨?a, L2.fun_mk ?b ?c ?d⟩; (case a => k_is); (case b => k_is); (case c => k_is); (case d => k_is)))
local macro_rules | `(tactic| walk_at "m") => `(tactic| (refine' ⟨?a, ?b, L2.fun_mk ?c ?d ?e⟩; (case a => k_is); (case b => k_is); (case c => k_is); (case d => k_is); (case e => k_is)))
namespace PySem.W.Fast
def tw12220600421509644609:=()
def tw2219225211686833922:=()
def tw385892923016071299:=()
def tw1797948310889856259:=()
def tw16914178248981967683:=()
def tw14368897234785783877:=()
def tw6550272231672529638:=()
def tw8129689551348530118:=()
def tw134676046957221799:=()
def tw14712312488931286281:=()
def tw6264799528422194859:=()
def tw9114722414637335180:=()
def tw7458725330000067437:=()
def tw6891394006756514830:=()
def tw9466669139911191342:=()
def tw14793352407792911:=()
def tw7158147283743188304:=()
def tw4270007793964367829:=()
def tw11197362433227167418:=()
def tw8860881996045939931:=()
def tw15340062003347609726:=()
def tw14341921302452890111:=()
def tw2142791501494965969:=()
def tw7766223700679119054:=()
def tw8059893842092587920:=()
def tw6946660642361253467:=()
def tw15810388235465921521:=()
def tw2226475501052467249:=()
def tw1547370229144136131:=()
def tw12107007250311642437:=()
def tw18246361040280291176:=()
def tw14106671389387581685:=()
def tw17053956250421995421:=()
def tw5127548516916155108:=()
def tw13524050064700652077:=()
def tw8412537434358778667:=()
def tw15555128597689933630:=()
def tw7188376523205745397:=()
def tw18367863755053054803:=()
def tw1512251319824180255:=()
def tw5805345012409593561:=()
def tw557682803577858409:=()
def tw8564362393723736283:=()
def tw8259240103513369215:=()
def tw13951304139013503108:=()
def tw96927058567136298:=()
def tw3353234692663888618:=()
def tw17251415404800319716:=()
def tw7173642526042513055:=()
def tw6174354089496471181:=()
def tw7156779265279885866:=()
def tw5053593756466475285:=()
def tw12280679081387394337:=()
def tw18026014460715056793:=()
def tw10334213779069224941:=()
def tw9562759112361420359:=()
def tw9910428637754086010:=()
def tw13297748647700376051:=()
def tw5381861819232335961:=()
def tw5842176483550361134:=()
def tw15756150075712820596:=()
def tw2932348636177883386:=()
def tw17624290288455743197:=()
def tw2053957604313584927:=()
def tw8401271132503784896:=()
def tw3374546144127584:=()
def tw2439993038926095574:=()
def tw5827686733682349588:=()
def tw12745759743548137709:=()
def tw1121428366014941808:=()
def tw6290467140299714384:=()
def tw5043552961071098276:=()
def tw14539546739789392420:=()
def tw15298301858118749561:=()
def tw11502182829811157071:=()
def tw11114257740432648617:=()
def tw6349428901517766283:=()
def tw8649420167570218930:=()
def tw18157160863134896918:=()
def tw17388395154888861758:=()
def tw12221589096490213354:=()
def tw14731584528906612245:=()
def tw13335249329801716445:=()
def tw17363440403990451410:=()
def tw16056920431583025571:=()
def tw14554488704982233724:=()
def tw10357706608305790317:=()
def tw14481629902140144021:=()
def tw16115591835340673356:=()
def tw3663274986463706814:=()
def tw7616567388008287361:=()
def tw8063515785084357435:=()
def tw2763183583081415255:=()
def tw3843239371956702589:=()
def tw3361328105630859848:=()
def tw17599354287353281914:=()
def tw14379459088370292003:=()
def tw8175096260463373865:=()
def tw7472531573835965350:=()
def tw10451031029101237194:=()
def tw6155724823717620508:=()
def tw14023501311779487184:=()
def tw17713384499235724320:=()
def tw137639252904451042:=()
def tw9626080350378585875:=()
def tw4139619993242594776:=()
def tw1352885960646397839:=()
def tw1657480082434933538:=()
def tw7084186058210158312:=()
def tw11584402076946835166:=()
def tw8295845762403898855:=()
def tw1455946852524325270:=()
def tw12729776305418691093:=()
def tw3056420220113648128:=()
def tw5385005833756812040:=()
def tw8693454386577340637:=()
def tw18416237222821208557:=()
def tw9357044008617873704:=()
def tw7465968834704411602:=()
def tw12188245662573760302:=()
def tw16836331069008760559:=()
def tw10565546755315724907:=()
def tw13306104875396309450:=()
def tw15425454469640279520:=()
def tw11057753214565988946:=()
def tw16553815332855702646:=()
def tw9540677201032779139:=()
def tw13212613913793094389:=()
def tw14908665563626600438:=()
def tw7725340461085578955:=()
def tw603257889996861357:=()
def tw6448182014262315921:=()
def tw15880461219173832023:=()
def tw11848288123134036720:=()
def tw18376493501459887928:=()
def tw5592012763768760353:=()
def tw1687327280397437711:=()
def tw4880368618700517935:=()
def tw15804395966200785160:=()
def tw5766311260134569600:=()
def tw2237564194941769934:=()
def tw207335366497556456:=()
def tw4176883776682747019:=()
def tw13966899509363251212:=()
def tw11268921617023487992:=()
def tw6719022159570036225:=()
def tw10981112992699999123:=()
def tw14629932432469508566:=()
def tw3425941793999449888:=()
def tw3649779625706101647:=()
def tw2561570279430759481:=()
def tw10459388729557970278:=()
def tw7216691845100439706:=()
def tw292286949622332326:=()
def tw10438819119719283952:=()
def tw928733134779404103:=()
def tw10644818975768332924:=()
def tw16911391438039626896:=()
def tw7266809494773428557:=()
def tw11963202516577142527:=()
def tw12602952508637290647:=()
def tw7056331777643740421:=()
def tw12062132779151862644:=()
def tw3664820939438026213:=()
def tw12916574603815029290:=()
def tw5976462564755623798:=()
def tw16267385583529773876:=()
def tw4792744658073224643:=()
def tw5368030706293659951:=()
def tw1501367121367038025:=()
def tw4719543267209258055:=()
def tw9684650433298568068:=()
def tw6955117492594027801:=()
def tw10377901690428583094:=()
def tw14889016556928762500:=()
def tw385555607823654973:=()
def tw10597361086312083305:=()
def tw17775132625919395401:=()
def tw15239533880516208681:=()
def tw4551087098550534772:=()
def tw3312977516474995836:=()
def tw4910497687683002231:=()
def tw9982419056243191723:=()
def tw6207830848906268061:=()
def tw6842314978481309783:=()
def tw843188598402236681:=()
def tw6956357582727640025:=()
def tw8479629721277048277:=()
def tw5710611419785927780:=()
def tw10600259055881985343:=()
def tw3106579962383934582:=()
def tw6707642405054232480:=()
def tw1292472024359014283:=()
def tw14151225023864128245:=()
def tw9945303156586877499:=()
def tw11388400440281498591:=()
def tw4951929865350500487:=()
def tw5315659167015805744:=()
def tw5525231318856404620:=()
def tw9646795257503715906:=()
def tw2140752707110591959:=()
def tw6374531462081167692:=()
end PySem.W.Fast
open PySem PySem.W PyProof.Rows
set_option maxRecDepth 100000 in
set_option maxHeartbeats 0 in
theorem PySem.Challenge.cw_fourpoints_k85_boards_refuse_holds : PySem.Challenge.rw_fourpoints_k85_boards_refuse.Holds := by
 w_on; o_law; k_head; (case hw => w_witness2)
 k_fill
 refine My.walk (l := PySem.Challenge.rw_fourpoints_k85_boards_refuse) rfl rfl (fun w h Y => PySem.W.kIn_of Y) ?F
 case F =>
  intro w mg fa h KX G hmg
  refine' My.all_mk KX G hmg ?taa ?tab ?tac ?tad ?tae ?taf ?tag ?tah ?tai ?taj ?tak ?tal ?tam ?tan ?tao ?tap ?taq ?tar ?tas ?tat ?tau ?tav ?taw ?tax ?tay ?taz ?tba ?tbb ?tbc ?tbd ?tbe ?tbf ?tbg ?tbh ?tbi ?tbj ?tbk ?tbl ?tbm ?tbn ?tbo ?tbp ?tbq ?tbr ?tbs ?tbt ?tbu ?tbv ?tbw ?tbx ?tby ?tbz ?tca ?tcb ?tcc ?tcd ?tce ?tcf ?tcg ?tch ?tci ?tcj ?tck ?tcl ?tcm ?tcn ?tco ?tcp ?tcq ?tcr ?tcs ?tct ?tcu ?tcv ?tcw ?tcx ?tcy ?tcz ?tda ?tdb ?tdc ?tdd ?tde ?tdf ?tdg ?tdh ?tdi ?tdj ?tdk ?tdl ?tdm ?tdn ?tdo ?tdp ?tdq ?tdr ?tds ?tdt ?tdu ?tdv ?tdw ?tdx ?tdy ?tdz ?tea ?teb ?tec ?ted ?tee ?tef ?teg ?teh ?tei ?tej ?tek ?tel ?tem ?ten ?teo ?tep ?teq ?ter ?tes ?tet ?teu ?tev ?tew ?tex ?tey ?tez ?tfa ?tfb ?tfc ?tfd ?tfe ?tff ?tfg ?tfh ?tfi ?tfj ?tfk ?tfl ?tfm ?tfn ?tfo ?tfp ?tfq ?tfr ?tfs ?tft ?tfu ?tfv ?tfw ?tfx ?tfy ?tfz ?tga ?tgb ?tgc ?tgd ?tge ?tgf ?tgg ?tgh ?tgi ?tgj ?tgk ?tgl ?tgm ?tgn ?tgo ?tgp ?tgq ?tgr ?tgs ?tgt ?tgu ?tgv ?tgw ?tgx ?tgy ?tgz ?tha ?thb ?thc ?thd ?the ?thf ?thg ?thh ?thi ?thj ?thk ?thl ?thm ?thn ?tho ?thp ?thq ?thr ?ths ?tht ?thu ?thv ?thw ?thx ?thy ?thz ?tia ?tib
  (case taa | tab | tac | tad | tae | taf | tag | tah | tai => walk_at "e")
  (case taj => k_is)
  (case tak => kit_is)
  (case tal => k_is)
  (case tam => kit_is)
  (case tan => k_is)
  (case tao => kit_is)
  (case tap => k_is)
  (case taq => kit_is)
  (case tar => k_is)
  (case tas => kit_is)
  (case tat => k_is)
  (case tau => kit_is)
  (case tav => k_is)
  (case taw => kit_is)
  (case tax => k_is)
  (case tay => kit_is)
  (case taz => k_is)
  (case tba => kit_is)
  (case tbb => k_is)
  (case tbc => kit_is)
  (case tbd => k_is)
  (case tbe => kit_is)
  (case tbf => k_is)
  (case tbg => kit_is)
  (case tbh => k_is)
  (case tbi => kit_is)
  (case tbj => k_is)
  (case tbk => kit_is)
  (case tbl => k_is)
  (case tbm => kit_is)
  (case tbn => k_is)
  (case tbo => kit_is)
  (case tbp => k_is)
  (case tbq => kit_is)
  (case tbr => k_is)
  (case tbs => kit_is)
  (case tbt => k_is)
  (case tbu => kit_is)
  (case tbv => k_is)
  (case tbw => kit_is)
  (case tbx => k_is)
  (case tby => kit_is)
  (case tbz => k_is)
  (case tca => kit_is)
  (case tcb => k_is)
  (case tcc => kit_is)
  (case tcd => k_is)
  (case tce => kit_is)
  (case tcf => k_is)
  (case tcg => kit_is)
  (case tch => k_is)
  (case tci => kit_is)
  (case tcj => k_is)
  (case tck => kit_is)
  (case tcl => k_is)
  (case tcm => kit_is)
  (case tcn => k_is)
  (case tco => kit_is)
  (case tcp => k_is)
  (case tcq => kit_is)
  (case tcr => k_is)
  (case tcs => kit_is)
  (case tct => k_is)
  (case tcu => kit_is)
  (case tcv => k_is)
  (case tcw => kit_is)
  (case tcx => k_is)
  (case tcy => kit_is)
  (case tcz => k_is)
  (case tda => kit_is)
  (case tdb => k_is)
  (case tdc => kit_is)
  (case tdd => k_is)
  (case tde => kit_is)
  (case tdf => k_is)
  (case tdg => kit_is)
  (case tdh => k_is)
  (case tdi => kit_is)
  (case tdj => k_is)
  (case tdk => kit_is)
  (case tdl => k_is)
  (case tdm => kit_is)
  (case tdn => k_is)
  (case tdo => kit_is)
  (case tdp => k_is)
  (case tdq => kit_is)
  (case tdr => k_is)
  (case tds => kit_is)
  (case tdt => k_is)
  (case tdu => kit_is)
  (case tdv => walk_at "c")
  (case tdw | tdx | tdy => k_is)
  (case tdz => walk_at "c")
  (case tea | teb | tec | ted => k_is)
  (case tee => walk_at "c")
  (case tef => k_is)
  (case teg | teh | tei | tej | tek | tel | tem | ten | teo | tep | teq | ter | tes | tet | teu | tev | tew | tex | tey | tez | tfa | tfb | tfc | tfd | tfe | tff => walk_at "f")
  (case tfg | tfh | tfi | tfj | tfk | tfl => k_is)
  (case tfm | tfn | tfo | tfp | tfq | tfr => walk_at "m")
  (case tfs | tft | tfu | tfv | tfw | tfx => k_is)
  (case tfy | tfz | tga | tgb | tgc | tgd | tge | tgf | tgg | tgh | tgi | tgj | tgk => walk_at "m")
  (case tgl => walk_at "f")
  (case tgm | tgn | tgo | tgp | tgq => walk_at "m")
  (case tgr | tgs | tgt | tgu | tgv | tgw | tgx | tgy | tgz | tha | thb | thc | thd => walk_at "f")
  (case the | thf | thg | thh | thi | thj | thk | thl | thm | thn | tho | thp | thq | thr | ths | tht | thu | thv | thw | thx | thy | thz | tia | tib => k_is)
