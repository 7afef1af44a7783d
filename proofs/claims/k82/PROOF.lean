import PyProof.Rows.All
import Wide.All
import OpenK.AllK
import Wide.FinOn
import Lean
import PyProof.EqAt
import PyProof.EqKinds
import PyProof.TupleCall
import KE.KSortTup
import PyProof.CollectWalk
import PyProof.DictWalks
import PyProof.Rows.SortWalk
import KE.KItemsList
import PyProof.ReprText
import PyProof.Rows.StrIntSpec
import PyProof.RowDictHeap
import KE.KRevIter
import KE.KMinKey
import PyProof.P3In
import KE.KIntText
import PyProof.StrLawsTight
import PyProof.StrWalks
import PyProof.ListRange
import PyProof.DictValues
import PyProof.Rows.SortStr
import KE.KDictLaws
import PySem.Challenge.RW_fourpoints_k82_whole_pictures_of_curves
set_option Elab.async false
set_option linter.all false
set_option maxRecDepth 100000
set_option maxHeartbeats 4000000
-- CHANGE: your row's module here, as the last of these rows
abbrev L2.PL := List (Int × Int)
open PySem renaming wpAny_bind → Ua, wpAny_pure → Uh, wpAny_mono → UG, wpAny_holding → UT, wpAny_field → Vc
open PySem.Heap renaming get?_push_of_some → Ub, get?_push_size → Ug, lt_size → Uk, get?_update_other → UE, size_push → UW
open List renaming getElem?_eq_getElem → Uc, length_map → Uf, getElem?_eq_some_iff → Ui, mem_singleton → Uj, mem_cons → Ul, size_toArray → Uo, mem_cons_of_mem → Ur, map_append → Us, lookup_cons → Uu, mem_of_getElem? → Uv, find?_cons → Uw, mem_map → Ux, mem_append_right → Uy, mem_cons_self → UA, getElem?_map → UB, not_mem_nil → UC, map_cons → UD, mem_append → UI, append_nil → UJ, map_congr_left → UK, any_eq_true → UL, range → UM, length_append → UN, getElem_of_mem → UP, take_length → UQ, length_take → UR, take_succ → US, nodup_iff_pairwise_ne → UU, map_map → UV, length_filter_le → UX, length_cons → UZ, getElem_mem → Vb, lookup → Ve, nodup_append → Vg, getElem?_append_right → Vh, drop_of_length_le → Vi, mem_map_of_mem → Vj, range_succ → Vk, length → Vl, pairwise_iff_getElem → Vn, drop_eq_getElem_cons → Vo, map_nil → Vs, any_cons → Vt, pairwise_map → Vv, length_range → Vw
open Nat renaming le_refl → Ud, lt_of_lt_of_le → Ue, lt_of_le_of_lt → Um, ne_of_lt → Uq, le_trans → Uz, zero_le → UO, lt_succ_of_lt → Vf, lt_succ_self → Vq, lt_irrefl → Vr
open Bool renaming false_ne_true → Ut, and_eq_true → UH, false_eq_true → Vd, eq_iff_iff → Vm, false_and → Vu
open Array renaming length_toList → UF, getElem?_toList → Vp
open Option renaming map_some → UY
open Int renaming mul_le_mul_of_nonneg_right → Va, toNat_natCast → Vx
namespace L2
open PySem PySem.Spec PyProof.Rows
abbrev Key := Sum Int Str
def ZHv : Key -> Value -> Bool
 | .inl k, v => Value.isInt k v
 | .inr x, v => Value.isStrOf x v
def ZYt (w : World) : Key -> Int
 | .inl k => hashInt k
 | .inr x => hashStr w x
theorem ZEe : ∀ {k : Key} {v : Value}, ZHv k v = true -> (∃ i t, k = Sum.inl i /\ v = Value.int i t) \/ (∃ x t, k = Sum.inr x /\ v = Value.str x t)
 | .inl i, v, h => by
  obtain ⟨t, e⟩ := Value.isInt_shape (k := i) (v := v) h
  exact .inl ⟨i, t, rfl, e⟩
 | .inr x, v, h => by
  obtain ⟨t, e⟩ := Value.isStrOf_shape (x := x) (v := v) h
  exact .inr ⟨x, t, rfl, e⟩
theorem ZQe (i : Int) (t : Tok) : ZHv (.inl i) (.int i t) = true := by simp [ZHv, Value.isInt]
theorem ZQf (x : Str) (t : Tok) : ZHv (.inr x) (.str x t) = true := by simp [ZHv, Value.isStrOf]
theorem ZWU (a b : Int) : decide ((Sum.inl a : Key) = Sum.inl b) = (a == b) := by
 by_cases e : a = b
 ·subst e; simp
 ·have h : ¬ (Sum.inl a : Key) = Sum.inl b := fun q => e (Sum.inl.inj q)
  rw [decide_eq_false h]
  exact (beq_eq_false_iff_ne.mpr e).symm
theorem ZWV (a b : Str) : decide ((Sum.inr a : Key) = Sum.inr b) = decide (a = b) := by
 by_cases e : a = b
 ·subst e; simp
 ·have h : ¬ (Sum.inr a : Key) = Sum.inr b := fun q => e (Sum.inr.inj q)
  rw [decide_eq_false h, decide_eq_false e]
theorem ZWW (a : Int) (b : Str) : decide ((Sum.inl a : Key) = Sum.inr b) = false := decide_eq_false (fun q => nomatch q)
theorem ZWX (a : Str) (b : Int) : decide ((Sum.inr a : Key) = Sum.inl b) = false := decide_eq_false (fun q => nomatch q)
def ZEP (prog : Program) (w : World) : PySem.KeyKind prog w Key where
 is := ZHv
 hash := ZYt w
 inj := fun v a b ha hb => by
  rcases ZEe ha with ⟨i, t, rfl, rfl⟩ | ⟨x, t, rfl, rfl⟩
  ·rcases ZEe hb with ⟨j, u, rfl, e⟩ | ⟨y, u, rfl, e⟩
   ·injection e with e1 _; rw [e1]
   ·exact nomatch e
  ·rcases ZEe hb with ⟨j, u, rfl, e⟩ | ⟨y, u, rfl, e⟩
   ·exact nomatch e
   ·injection e with e1 _; rw [e1]
 byValue := fun k v h => by
  rcases ZEe h with ⟨i, t, rfl, rfl⟩ | ⟨x, t, rfl, rfl⟩ <;> rfl
 pyHash := fun hv h => by
  rcases ZEe hv with ⟨i, t, rfl, rfl⟩ | ⟨x, t, rfl, rfl⟩
  ·exact wpAny_pyHash_int h
  ·exact wpAny_pyHash_str h
 eqBool := fun hu hv h => by
  rcases ZEe hu with ⟨i, t, rfl, rfl⟩ | ⟨x, t, rfl, rfl⟩
  ·rcases ZEe hv with ⟨j, u, rfl, rfl⟩ | ⟨y, u, rfl, rfl⟩
   ·rw [ZWU] at h; exact wpAny_eqBool_int h
   ·rw [ZWW] at h; exact SeqAt.EqAt.int_str i t y u _ _ _ _ h
  ·rcases ZEe hv with ⟨j, u, rfl, rfl⟩ | ⟨y, u, rfl, rfl⟩
   ·rw [ZWX] at h; exact SeqAt.EqAt.str_int x t j u _ _ _ _ h
   ·rw [ZWV] at h; exact wpAny_eqBool_str h
 «strs» := fun k x t v h => by
  rcases ZEe h with ⟨i, u, rfl, e⟩ | ⟨y, u, rfl, e⟩
  ·exact nomatch e
  ·injection e with e1 _
   subst e1
   cases v <;> rfl
theorem ZOW (prog : Program) (w : World) (i : Int) (t : Tok) : (ZEP prog w).is (.inl i) (.int i t) = true := ZQe i t
theorem ZOX (prog : Program) (w : World) (x : Str) (t : Tok) : (ZEP prog w).is (.inr x) (.str x t) = true := ZQf x t
inductive V where
 | non | bl (b : Bool) | int (i : Int) | str (x : Str) | byt (b : Array UInt8) | flt (b : UInt64) | ref (a : Addr) | ty (n : String)
 deriving DecidableEq
def ZD0 : V -> Value -> Prop
 | .non, u => u = Value.none
 | .bl b, u => u = Value.bool b
 | .int i, u => ∃ t, u = Value.int i t
 | .str x, u => ∃ t, u = Value.str x t
 | .byt b, u => ∃ t, u = Value.bytes b t
 | .flt b, u => ∃ t, u = Value.float b t
 | .ref a, u => u = Value.ref a
 | .ty n, u => u = Value.type n
abbrev ZD3 : List V -> List Value -> Prop := Paired ZD0
theorem ZD3.length {xs : List V} {us : List Value} (r : ZD3 xs us) : xs.length = us.length := Paired.length r
theorem ZD3.get : ∀ {xs : List V} {us : List Value} {i : Nat} {x : V}, ZD3 xs us -> xs[i]? = some x -> ∃ u, us[i]? = some u /\ ZD0 x u
 | _, _, _, _, .nil, e => by simp at e
 | _, _, 0, _, .cons r _, e => by simp at e; subst e; exact ⟨_, rfl, r⟩
 | _, _, i + 1, x, .cons _ t, e => by
  obtain ⟨u, h1, h2⟩ := ZD3.get (i := i) (x := x) t (by simpa using e)
  exact ⟨u, by simpa using h1, h2⟩
theorem ZD3.set {x : V} {u : Value} (r : ZD0 x u) : ∀ {xs : List V} {us : List Value} (i : Nat), ZD3 xs us -> ZD3 (xs.set i x) (us.set i u)
 | _, _, _, .nil => .nil
 | _, _, 0, .cons _ t => .cons r t
 | _, _, i + 1, .cons q t => .cons q (ZD3.set r i t)
theorem ZD3.append : ∀ {xs ys : List V} {us ws : List Value}, ZD3 xs us -> ZD3 ys ws -> ZD3 (xs ++ ys) (us ++ ws)
 | _, _, _, _, .nil, s => s
 | _, _, _, _, .cons r t, s => .cons r (ZD3.append t s)
theorem ZD3.take : ∀ {xs : List V} {us : List Value} (n : Nat), ZD3 xs us -> ZD3 (xs.take n) (us.take n)
 | _, _, 0, _ => .nil
 | _, _, _ + 1, .nil => .nil
 | _, _, n + 1, .cons r t => .cons r (ZD3.take n t)
theorem ZD3.drop : ∀ {xs : List V} {us : List Value} (n : Nat), ZD3 xs us -> ZD3 (xs.drop n) (us.drop n)
 | _, _, 0, r => r
 | _, _, _ + 1, .nil => .nil
 | _, _, n + 1, .cons _ t => ZD3.drop n t
def ZFf : Option V -> Option Value -> Prop
 | some v, some u => ZD0 v u
 | none, none => True
 | _, _ => False
def KV {κ : Type} : List (κ × V) -> List (κ × Value) -> Prop := Paired fun (p : κ × V) (q : κ × Value) => p.1 = q.1 /\ ZD0 p.2 q.2
def kV : Key -> V
 | .inl i => .int i
 | .inr x => .str x
inductive HO where
 | lst (xs : List V)
 | tup (xs : List V)
 | dK (kvs : List (Key × V)) | dT (kvs : List (List Key × V))
 | set (S : Int -> Bool) (n : Nat)
 | ins (C dx : Addr) (fs : List (Str × V))
 | own (x : Addr)
 | xd (fs : List (Str × V))
 | met (f x : Addr)
 | rng (lo hi : Int)
 | frz (o : Obj) (u : HO)
 | tbl (ps : Array Value)
 | ext (φ : Heap -> Prop)
abbrev Hp := Addr -> Option HO
def upd (H : Hp) (a : Addr) (o : HO) : Hp := fun b => if b = a then some o else H b
theorem ZDr {H : Hp} {a : Addr} {o : HO} : upd H a o a = some o := by unfold upd; rw [if_pos rfl]
theorem ZD4 {H : Hp} {a b : Addr} {o : HO} (h : b ≠ a) : upd H a o b = H b := by unfold upd; rw [if_neg h]
theorem ZYU {H : Hp} {a b : Addr} {o u : HO} (h : H a = some o) (h' : H b = some u) (d : o ≠ u) : a ≠ b := by
 intro e; subst e; rw [h] at h'; exact d (Option.some.inj h')
theorem ZET {H : Hp} {a b : Addr} {o : HO} (h : H a = some o) (h' : H b = none) : a ≠ b := by
 intro e; subst e; rw [h] at h'; cases h'
section
variable (P : Program) (w : World)
def ZEW (H : Hp) (h : Heap) (a : Addr) : HO -> Prop
 | .lst xs => xs.length <= sizeLine /\ ∃ (its : List Value) (n : Nat), ZD3 xs its /\ h.get? a = some { cls := .type "list", data := .seq its.toArray n }
 | .tup xs => (xs.length <= sizeLine /\ ((∀ i : Int, xs.head? ≠ some (.int i)) -> ∃ o, h.get? a = some o /\ o.dict = none /\ o.slots = #[])) /\ ∃ its : List Value, ZD3 xs its /\ IsTup h a its.toArray
 | .dK kvs => kvs.length <= sizeLine /\ (a == sysModules) = false /\ ∃ vs, KV kvs vs /\ h.DictOf (ZEP P w) a vs
 | .dT kvs => kvs.length <= sizeLine /\ (a == sysModules) = false /\ ∃ xs : List (List Key × Addr × Value),
  Paired (fun (p : List Key × V) (q : List Key × Addr × Value) => p.1 = q.1 /\ H q.2.1 = some (.tup (p.1.map kV)) /\ ZD0 p.2 q.2.2) kvs xs /\
  ∃ o es ep, h.get? a = some o /\ o.ExactDict /\ o.data = .dict es ep /\ es.toList = xs.map (entryOfKey (tupleKind (ZEP P w))) /\ (xs.map (·.1)).Nodup
 | .set S n => h.SetOf (intKind P w) a S n
 | .ins C dx fs => H dx = some (.own a) /\ fs.length <= 1000 /\ dx ≠ a /\ h.get? a = some (PySem.W.instObj C dx) /\
  ∃ mA, h.Ns1 dx mA /\ (∀ f, ZFf (fs.lookup f) (mA f)) /\ PySem.Within mA (fs.map (·.1))
 | .own _ => ∃ o, h.get? a = some o
 | .xd fs => ∃ mA, h.Ns1 a mA /\ ∀ f, ZFf (fs.lookup f) (mA f)
 | .rng lo hi => ∃ t u v, h.get? a = some { cls := .type "range", data := .fields #[.int lo t, .int hi u, .int 1 v] }
 | .frz o u => h.get? a = some o /\ ZEW H h a u
 | .tbl ps => h.get? a = some { cls := .none, data := .fields ps }
 | .met f x => h.get? a = some (PySem.W.methodObj (.ref f) (.ref x))
 | .ext φ => φ h /\ (∃ o, h.get? a = some o) /\ ∀ h1 h2 : Heap, φ h1 -> (∀ o, h1.get? a = some o -> h2.get? a = some o) -> φ h2
def HOk (H : Hp) (h : Heap) : Prop := ∀ a o, H a = some o -> ZEW P w H h a o
end
section
variable {P : Program} {w : World} {H H' : Hp} {h h' : Heap} {a : Addr} {o : HO}
theorem ZEW.lt (x : ZEW P w H h a o) : a < h.objs.size := by
 cases o with
 | lst xs => obtain ⟨_, _, _, _, e⟩ := x; exact Uk e
 | tup xs => obtain ⟨_, _, _, p⟩ := x; exact p.lt
 | dK kvs => obtain ⟨_, _, _, _, o, _, _, e, _⟩ := x; exact Uk e
 | dT kvs => obtain ⟨_, _, _, _, o, _, _, e, _⟩ := x; exact Uk e
 | set S n => obtain ⟨o, _, _, _, e, _⟩ := x; exact Uk e
 | ins C dx fs => obtain ⟨_, _, _, e, _⟩ := x; exact Uk e
 | own y => obtain ⟨_, e⟩ := x; exact Uk e
 | xd fs => obtain ⟨_, ⟨_, _, _, e, _⟩, _⟩ := x; exact Uk e
 | rng lo hi => obtain ⟨_, _, _, e⟩ := x; exact Uk e
 | frz ob u => obtain ⟨e, _⟩ := x; exact Uk e
 | tbl ps => exact Uk (show h.get? a = some _ from x)
 | met f y => exact Uk (show h.get? a = some _ from x)
 | ext φ => obtain ⟨_, ⟨_, e⟩, _⟩ := x; exact Uk e
theorem Paired.mapP {α β : Type} {F G : α -> β -> Prop} : ∀ {l₁ : List α} {l₂ : List β}, Paired F l₁ l₂ -> (∀ a b, F a b -> G a b) -> Paired G l₁ l₂
 | _, _, .nil, _ => .nil
 | _, _, .cons r t, f => .cons (f _ _ r) (Paired.mapP t f)
theorem ZEW.stay (x : ZEW P w H h a o) (k : ∀ b u, (b = a \/ H b = some (.own a)) -> h.get? b = some u -> h'.get? b = some u)
  (ho : ∀ b, H b = some (.own a) -> H' b = some (.own a)) (ht : ∀ b xs, H b = some (.tup xs) -> H' b = some (.tup xs)) : ZEW P w H' h' a o := by
 induction o with
 | lst xs => obtain ⟨z, its, n, r, e⟩ := x; exact ⟨z, its, n, r, k _ _ (.inl rfl) e⟩
 | tup xs =>
  obtain ⟨⟨z, pd⟩, its, r, ob, e, c⟩ := x
  exact ⟨⟨z, fun q => let ⟨od, ed, cd⟩ := pd q; ⟨od, k _ _ (.inl rfl) ed, cd⟩⟩, its, r, ob, k _ _ (.inl rfl) e, c⟩
 | dK kvs => obtain ⟨z, y, vs, r, ob, es, ep, e, c⟩ := x; exact ⟨z, y, vs, r, ob, es, ep, k _ _ (.inl rfl) e, c⟩
 | dT kvs =>
  obtain ⟨z, y, xs, r, ob, es, ep, e, c⟩ := x
  exact ⟨z, y, xs, Paired.mapP r fun p q z => ⟨z.1, ht _ _ z.2.1, z.2.2⟩, ob, es, ep, k _ _ (.inl rfl) e, c⟩
 | set S n => obtain ⟨ob, es, ep, t, e, c⟩ := x; exact ⟨ob, es, ep, t, k _ _ (.inl rfl) e, c⟩
 | ins C dx fs =>
  obtain ⟨d, z, ne, e, mA, ⟨od, es, ep, e2, c⟩, r⟩ := x
  exact ⟨ho _ d, z, ne, k _ _ (.inl rfl) e, mA, ⟨od, es, ep, k _ _ (.inr d) e2, c⟩, r⟩
 | own y => obtain ⟨ob, e⟩ := x; exact ⟨ob, k _ _ (.inl rfl) e⟩
 | xd fs => obtain ⟨mA, ⟨od, es, ep, e, c⟩, r⟩ := x; exact ⟨mA, ⟨od, es, ep, k _ _ (.inl rfl) e, c⟩, r⟩
 | rng lo hi => obtain ⟨t, u, v, e⟩ := x; exact ⟨t, u, v, k _ _ (.inl rfl) e⟩
 | frz ob u ih => obtain ⟨e, q⟩ := x; exact ⟨k _ _ (.inl rfl) e, ih q⟩
 | tbl ps =>
  have e : h.get? a = some { cls := .none, data := .fields ps } := x
  show h'.get? a = some { cls := .none, data := .fields ps }
  exact k a _ (.inl rfl) e
 | met f y =>
  have e : h.get? a = some (PySem.W.methodObj (.ref f) (.ref y)) := x
  show h'.get? a = some (PySem.W.methodObj (.ref f) (.ref y))
  exact k a _ (.inl rfl) e
 | ext φ => obtain ⟨p, ⟨o, e⟩, st⟩ := x; exact ⟨st _ _ p fun o q => k _ _ (.inl rfl) q, ⟨o, k _ _ (.inl rfl) e⟩, st⟩
theorem HOk.lt (x : HOk P w H h) (e : H a = some o) : a < h.objs.size := (x a o e).lt
theorem HOk.fresh (x : HOk P w H h) (e : h.objs.size <= a) : H a = none := by
 cases q : H a with
 | none => rfl
 | some u => exact absurd (Ue (x.lt q) e) (Vr _)
theorem HOk.kept (x : HOk P w H h) (k : ∀ b u, h.get? b = some u -> h'.get? b = some u) : HOk P w H h' := fun a o e =>
 (x a o e).stay (fun b u _ q => k b u q) (fun _ q => q) fun _ _ q => q
theorem HOk.laid (x : HOk P w H h) (k : ∀ b u, h.get? b = some u -> h'.get? b = some u) (hp : h.objs.size <= a) (new : ZEW P w (upd H a o) h' a o) : HOk P w (upd H a o) h' := fun b u e => by
 have hn := x.fresh hp
 by_cases hb : b = a
 ·subst hb; rw [ZDr] at e; cases e; exact new
 ·rw [ZD4 hb] at e
  exact (x b u e).stay (fun c v _ q => k c v q) (fun c q => by rw [ZD4 (ZET q hn)]; exact q) fun c xs q => by rw [ZD4 (ZET q hn)]; exact q
end
def Rd (H : Hp) (a : Addr) (u : HO) : Prop := H a = some u \/ ∃ o, H a = some (.frz o u)
theorem Rd.ok {P : Program} {w : World} {H : Hp} {h : Heap} {a : Addr} {u : HO} (r : Rd H a u) (x : HOk P w H h) : ZEW P w H h a u := by
 rcases r with r | ⟨o, r⟩
 ·exact x a u r
 ·obtain ⟨_, q⟩ := x a _ r
  exact q
def Mut : Option HO -> Prop
 | some (.lst _) => True
 | some (.dK _) => True
 | some (.dT _) => True
 | some (.set _ _) => True
 | some (.ins _ _ _) => True
 | some (.ext _) => True
 | _ => False
section
variable {P : Program} {w : World} {H : Hp} {h h' : Heap} {x e : Addr} {o' : HO}
theorem HOk.write (ok : HOk P w H h) (mu : Mut (H x)) (he : e = x \/ H e = some (.own x)) (k : ∀ b u, b ≠ e -> h.get? b = some u -> h'.get? b = some u) (heo : ∃ u, h'.get? e = some u)
  (new : ZEW P w (upd H x o') h' x o') : HOk P w (upd H x o') h' := fun b u q => by
 have nown : ∀ c y, H c = some (.own y) -> c ≠ x := fun c y r z => by subst z; rw [r] at mu; exact mu
 have ntup : ∀ c xs, H c = some (.tup xs) -> c ≠ x := fun c xs r z => by subst z; rw [r] at mu; exact mu
 by_cases hb : b = x
 ·subst hb; rw [ZDr] at q; cases q; exact new
 ·rw [ZD4 hb] at q
  by_cases hbe : b = e
  ·have q' : H b = some (.own x) := by
    rcases he with z | z
    ·exact absurd (hbe.trans z) hb
    ·rw [hbe]; exact z
   rw [q] at q'; cases q'
   obtain ⟨v, hv⟩ := heo
   exact ⟨v, by rw [hbe]; exact hv⟩
  ·refine (ok b u q).stay (fun c v hc r => k c v ?_ r) (fun c r => by rw [ZD4 (nown c b r)]; exact r) fun c xs r => by rw [ZD4 (ntup c xs r)]; exact r
   rcases hc with rfl | hc
   ·exact hbe
   ·rintro rfl
    rcases he with z | z
    ·exact nown c b hc z
    ·rw [hc] at z; cases z; exact hb rfl
end
structure Un (fs ex : List Addr) (H H' : Hp) (h h' : Heap) : Prop where
 keep : ∀ b o, h.get? b = some o -> H b = none -> b ∉ fs -> b ∉ ex -> h'.get? b = some o
 slot : ∀ b o, h.get? b = some o -> H b = none -> b ∈ fs -> b ∉ ex -> ∃ sl, h'.get? b = some { o with slots := sl }
 free : ∀ b o, h.get? b = some o -> H b = none -> b ∉ ex -> H' b = none
 there : ∀ b o, h.get? b = some o -> b ∉ ex -> ∃ o', h'.get? b = some o'
 tups : ∀ b xs, H b = some (.tup xs) -> H' b = some (.tup xs)
 frzs : ∀ b o u, H b = some (.frz o u) -> H' b = some (.frz o u)
 tbls : ∀ b ps, H b = some (.tbl ps) -> ∃ more, H' b = some (.tbl (ps ++ more))
section
variable {fs fs' ex ex' : List Addr} {H H1 H2 : Hp} {h h1 h2 h' : Heap} {a x e : Addr} {o : HO}
theorem Un.any (u : Un fs ex H H1 h h1) {b : Addr} {ob : Obj} (q : h.get? b = some ob) (n : H b = none) (hx : b ∉ ex) : ∃ sl, h1.get? b = some { ob with slots := sl } := by
 by_cases hb : b ∈ fs
 ·exact u.slot b ob q n hb hx
 ·exact ⟨ob.slots, u.keep b ob q n hb hx⟩
theorem Un.kept (k : ∀ b u, h.get? b = some u -> h'.get? b = some u) : Un fs ex H H h h' :=
 ⟨fun b ob q _ _ _ => k b ob q, fun b ob q _ _ _ => ⟨ob.slots, k b ob q⟩, fun _ _ _ n _ => n, fun b ob q _ => ⟨ob, k b ob q⟩, fun _ _ q => q, fun _ _ _ q => q, fun _ ps q => ⟨#[], by rw [q]; simp⟩⟩
theorem Un.refl : Un fs ex H H h h := Un.kept fun _ _ q => q
theorem Un.laid (k : ∀ b u, h.get? b = some u -> h'.get? b = some u) (hp : h.objs.size <= a) (hn : H a = none) : Un fs ex H (upd H a o) h h' where
 keep := fun b u q _ _ _ => k b u q
 slot := fun b u q _ _ _ => ⟨u.slots, k b u q⟩
 free := fun b u q n _ => by rw [ZD4 (Uq (Ue (Uk q) hp))]; exact n
 there := fun b u q _ => ⟨u, k b u q⟩
 tups := fun b xs q => by rw [ZD4 (ZET q hn)]; exact q
 frzs := fun b u xs q => by rw [ZD4 (ZET q hn)]; exact q
 tbls := fun b ps q => ⟨#[], by rw [ZD4 (ZET q hn), q]; simp⟩
theorem Un.write (mu : Mut (H x)) (he : e = x \/ H e = some (.own x)) (k : ∀ b u, b ≠ e -> h.get? b = some u -> h'.get? b = some u) (heo : ∃ u, h'.get? e = some u) : Un fs ex H (upd H x o) h h' := by
 have hx : ∀ b, H b = none -> b ≠ x := fun b n z => by subst z; rw [n] at mu; exact mu
 have hb : ∀ b, H b = none -> b ≠ e := fun b n z => by
  subst z
  rcases he with r | r
  ·exact hx b n r
  ·rw [n] at r; cases r
 have hm : ∀ b u, H b = some u -> ¬ Mut (some u) -> b ≠ x := fun b u q nm z => by subst z; rw [q] at mu; exact nm mu
 refine ⟨fun b u q n _ _ => k b u (hb b n) q, fun b u q n _ _ => ⟨u.slots, k b u (hb b n) q⟩, fun b u q n _ => by rw [ZD4 (hx b n)]; exact n, fun b u q _ => ?_,
  fun b xs q => by rw [ZD4 (hm b _ q fun z => z)]; exact q, fun b u xs q => by rw [ZD4 (hm b _ q fun z => z)]; exact q, fun b ps q => ⟨#[], by rw [ZD4 (hm b _ q fun z => z), q]; simp⟩⟩
 by_cases hbe : b = e
 ·subst hbe; exact heo
 ·exact ⟨u, k b u hbe q⟩
end
def trk (h : Heap) (H : Hp) : List Addr := (UM h.objs.size).filter fun a => (H a).isSome
def ZIe (h : Heap) (H : Hp) : Heap := PySem.W.hideAll h (trk h H)
theorem ZQg (h : Heap) (H : Hp) : (ZIe h H).objs.size = h.objs.size := PySem.W.hideAll_size _ _
theorem ZSJ {h : Heap} {H : Hp} {b : Addr} {o : Obj} (e : h.get? b = some o) (n : H b = none) : (ZIe h H).get? b = some o :=
 PySem.W.hideAll_get _ e fun hm => by
  have q : (H b).isSome = true := (List.mem_filter.mp hm).2
  rw [n] at q; simp at q
theorem ZUe {h : Heap} {H : Hp} {b : Addr} {o : Obj} (e : (ZIe h H).get? b = some o) : h.get? b = some o /\ H b = none := by
 have e' : h.get? b = some o := PySem.W.of_hideAll (trk h H) e
 refine ⟨e', ?_⟩
 cases q : H b with
 | none => rfl
 | some x =>
  have hm : b ∈ trk h H := List.mem_filter.mpr ⟨List.mem_range.mpr (Uk e'), by simp [q]⟩
  have z : (ZIe h H).get? b = none := PySem.W.hideAll_none (trk h H) hm
  rw [z] at e; cases e
def ZUf (g h : Heap) (L : Addr) : List (Addr × Obj) := (UM h.objs.size).filterMap fun a => if a = L \/ (g.get? a).isSome = true then none else (h.get? a).map fun o => (a, o)
def ZFP (g h : Heap) (L d : Addr) : List (Addr × Obj) := (ZUf g h L).filter fun p => decide (p.1 ≠ d)
structure Mod (K : W.Frag) (mg : Str -> Option Value) (base : Heap) : Prop where
 kin : K.In base
 glob : base.Ns mainGlobals mg
 blt : ∃ mb, base.Ns builtinsNs mb /\ ∀ x : Str, x ≠ "__name__" -> mb x = bootBuiltins x
 nolimit : base.NoLimit
structure Cx where
 prog : Program
 w : World
 K : W.Frag
 mg : Str -> Option Value
 base : Heap
 A : Around
 N : List Str
 s₀ : Shared
 H₀ : Hp
 env : Env
 outer : List Env
 stack : List Env
 ex : List Addr
 fn : Str -> Bool
 calm : Bool
 pn : List (Addr × Obj)
 xe : Value -> Shared -> Prop
def frs (l : List Env) : List Addr := l.filterMap (·.frame)
abbrev Cx.fs (X : Cx) : List Addr := frs X.outer
def Vis (sc : Scope) (x : Str) : Prop := sc.names.lookup x = some .local \/ sc.names.lookup x = some .cell \/ sc.names.lookup x = some .free
def Loc (sc : Scope) (x : Str) : Prop := sc.names.lookup x = some .local \/ sc.names.lookup x = some .cell
def ZYu (env : Env) (h : Heap) (m : Str -> Option Value) (x : Str) (u : Value) : Prop :=
 (env.kindOf x = some .local /\ m x = some u) \/ ((env.kindOf x = some .cell \/ env.kindOf x = some .free) /\ ∃ c, env.cells.lookup x = some c /\ h.IsCell c (some u))
structure Cx.Ok (X : Cx) : Prop where
 mod : Mod X.K X.mg X.base
 kind : X.env.scope.kind = .function
 glob : X.env.globals = mainGlobals
 blt : X.env.builtins = builtinsNs
 above : X.s₀.heap.objs.size <= X.env.locals
 inj : ∀ x y c, X.env.cells.lookup x = some c -> X.env.cells.lookup y = some c -> x = y
 has : ∀ x, (X.env.kindOf x = some .cell \/ X.env.kindOf x = some .free) -> ∃ c, X.env.cells.lookup x = some c
 cab : ∀ x c, X.fn x = true -> X.env.cells.lookup x = some c -> X.s₀.heap.objs.size <= c
 hd : X.calm = true -> X.A.handled = none
 frames : X.A.frames = some X.stack
 stk : X.stack = X.outer \/ (X.stack = X.env :: X.outer /\ X.env.frame = some X.env.locals)
 exf : ∀ b ∈ X.ex, b ≠ X.env.locals /\ ∀ x c, X.env.cells.lookup x = some c -> c ≠ b
 bs : ∀ b o, X.base.get? b = some o -> X.s₀.heap.get? b = some o /\ X.H₀ b = none
 bsz : X.base.objs.size <= X.s₀.heap.objs.size
 noex : ∀ b o, X.base.get? b = some o -> b ∉ X.ex
 exfs : ∀ b ∈ X.ex, b ∉ X.fs
 funs : X.s₀.heap.FunFrames X.base X.outer
 frf : ∀ b ∈ X.fs, X.H₀ b = none
structure Inv (X : Cx) (pins : List (Addr × Obj)) (U : List (Option V)) (H : Hp) (s : Shared) : Prop where
 ok : X.Ok
 os : s.os = X.s₀.os
 bare : AllBare s.gens
 base : Un X.fs X.ex X.H₀ H X.s₀.heap s.heap
 loc : ∃ m, s.heap.Ns X.env.locals m /\ ∀ (i : Nat) (x : Str) (v : V), X.N[i]? = some x -> U[i]? = some (some v) -> Vis X.env.scope x -> ∃ u, ZD0 v u /\ ZYu X.env s.heap m x u
 cell : ∀ x c, X.env.cells.lookup x = some c -> ∃ v, s.heap.IsCell c v
 free : H X.env.locals = none
 freeC : ∀ x c, X.env.cells.lookup x = some c -> H c = none
 pin : ∀ p ∈ X.pn ++ pins, s.heap.get? p.1 = some p.2 /\ H p.1 = none /\ p.1 ≠ X.env.locals /\ p.1 ∉ X.fs /\ ∀ v, p.2.data ≠ .cell v
 hok : HOk X.prog X.w H s.heap
 len : U.length = X.N.length
section
variable {X : Cx} {pins : List (Addr × Obj)} {U : List (Option V)} {H H' : Hp} {s : Shared} {h' : Heap}
theorem Cx.Ok.nofr (ok : X.Ok) {b : Addr} {o : Obj} (e : X.base.get? b = some o) : b ∉ X.fs := fun hb => by
 have := (ok.funs.mem hb).1
 rw [e] at this; cases this
theorem Inv.bs (I : Inv X pins U H s) : ∀ b o, X.base.get? b = some o -> s.heap.get? b = some o /\ H b = none := fun b o e =>
 ⟨I.base.keep b o (I.ok.bs b o e).1 (I.ok.bs b o e).2 (I.ok.nofr e) (I.ok.noex b o e), I.base.free b o (I.ok.bs b o e).1 (I.ok.bs b o e).2 (I.ok.noex b o e)⟩
theorem Inv.bk (I : Inv X pins U H s) : ∀ b o, X.base.get? b = some o -> s.heap.get? b = some o := fun b o e => (I.bs b o e).1
theorem Inv.mod (I : Inv X pins U H s) : Mod X.K X.mg X.base := I.ok.mod
theorem Inv.kIn (I : Inv X pins U H s) : X.K.In s.heap := I.ok.mod.kin.keeps I.bk
theorem Inv.lt (I : Inv X pins U H s) : X.env.locals < s.heap.objs.size := let ⟨_, hn, _⟩ := I.loc; hn.lt
theorem Inv.sz (I : Inv X pins U H s) : X.s₀.heap.objs.size <= s.heap.objs.size := Uz I.ok.above (Nat.le_of_lt I.lt)
theorem Inv.nofs (I : Inv X pins U H s) {a : Addr} (h : s.heap.objs.size <= a) : a ∉ X.fs := fun hb => by
 obtain ⟨_, o, ho, _⟩ := I.ok.funs.mem hb
 exact absurd (Ue (Uk ho) (Uz I.sz h)) (Vr _)
theorem Inv.cne (I : Inv X pins U H s) : ∀ x c, X.env.cells.lookup x = some c -> c ≠ X.env.locals := fun x c e z => by
 obtain ⟨v, o, ho, hd⟩ := I.cell x c e
 obtain ⟨m, ⟨o', es, ep, ho', hd', _⟩, _⟩ := I.loc
 rw [z, ho'] at ho; cases ho; rw [hd'] at hd; cases hd
theorem Inv.funs (I : Inv X pins U H s) : s.heap.FunFrames X.base X.outer := by
 have all : ∀ (l : List Env), (∀ b ∈ frs l, b ∈ X.fs) -> X.s₀.heap.FunFrames X.base l -> s.heap.FunFrames X.base l := by
  intro l
  induction l with
  | nil => intro _ _; trivial
  | cons env r ih =>
   intro hs hl
   obtain ⟨hk, ⟨L, o, hf, hn, ho, hd⟩, hr⟩ := hl
   have hL : L ∈ X.fs := hs L (by unfold frs; rw [List.filterMap_cons, hf]; exact UA)
   obtain ⟨sl, e⟩ := I.base.slot L o ho (I.ok.frf L hL) hL fun z => I.ok.exfs L z hL
   exact ⟨hk, ⟨L, _, hf, hn, e, hd⟩, ih (fun b hb => hs b (by unfold frs; rw [List.filterMap_cons, hf]; exact Ur _ hb)) hr⟩
 exact all X.outer (fun _ hb => hb) I.ok.funs
theorem Inv.stack (I : Inv X pins U H s) : s.heap.FunFrames X.base X.stack := by
 rcases I.ok.stk with e | ⟨e, hf⟩
 ·rw [e]; exact I.funs
 ·rw [e]
  obtain ⟨m, hn, _⟩ := I.loc
  refine .cons (by rw [I.ok.kind]; decide) hf hn ?_ I.funs
  exact Heap.get?_none_of_le (Uz I.ok.bsz I.ok.above)
theorem Inv.stkSub (I : Inv X pins U H s) : ∀ b ∈ frs X.stack, b ∈ X.env.locals :: X.fs := fun b hb => by
 rcases I.ok.stk with e | ⟨e, hf⟩
 ·rw [e] at hb; exact Ur _ hb
 ·rw [e] at hb
  unfold frs at hb
  rw [List.filterMap_cons, hf] at hb
  exact hb
theorem Inv.stkFree (I : Inv X pins U H s) : ∀ b ∈ frs X.stack, H b = none := fun b hb => by
 rcases Ul.mp (I.stkSub b hb) with e | hb
 ·rw [e]; exact I.free
 ·obtain ⟨_, o, ho, _⟩ := I.ok.funs.mem hb
  exact I.base.free b o ho (I.ok.frf b hb) fun z => I.ok.exfs b z hb
theorem Inv.step {g' : Array GenState} {t' : Nat} {d' : Drawn} {ch : List Addr} (I : Inv X pins U H s)
  (hch : ∀ b ∈ ch, (b ∈ X.ex \/ X.s₀.heap.objs.size <= b) /\ b ≠ X.env.locals /\ (∀ x c, X.env.cells.lookup x = some c -> c ≠ b) /\ ∀ p ∈ X.pn ++ pins, p.1 ≠ b)
  (keep : ∀ b o, b ≠ X.env.locals -> b ∉ X.fs -> b ∉ ch -> s.heap.get? b = some o -> H b = none -> h'.get? b = some o)
  (slot : ∀ b o, b ≠ X.env.locals -> b ∈ X.fs -> b ∉ ch -> s.heap.get? b = some o -> H b = none -> ∃ sl, h'.get? b = some { o with slots := sl }) (free : ∀ b o, b ∉ ch -> s.heap.get? b = some o -> H b = none -> H' b = none)
  (there : ∀ b o, b ∉ ch -> s.heap.get? b = some o -> ∃ o', h'.get? b = some o')
  (tups : ∀ b xs, H b = some (.tup xs) -> H' b = some (.tup xs)) (frzs : ∀ b o u, H b = some (.frz o u) -> H' b = some (.frz o u)) (tbls : ∀ b ps, H b = some (.tbl ps) -> ∃ more, H' b = some (.tbl (ps ++ more)))
  (ns : ∀ m, s.heap.Ns X.env.locals m -> h'.Ns X.env.locals m) (hok : HOk X.prog X.w H' h') (hg : AllBare g') :
  Inv X pins U H' { s with heap := h', gens := g', drawn := d', toks := t' } := by
 have neL : ∀ b o, X.s₀.heap.get? b = some o -> b ≠ X.env.locals := fun b o e => Uq (Ue (Uk e) I.ok.above)
 have neC : ∀ b o, X.s₀.heap.get? b = some o -> b ∉ X.ex -> b ∉ ch := fun b o e hx hb => by
  rcases (hch b hb).1 with z | z
  ·exact hx z
  ·exact absurd (Ue (Uk e) z) (Vr _)
 have cellK : ∀ x c, X.env.cells.lookup x = some c -> ∀ v, s.heap.IsCell c v -> h'.IsCell c v := fun x c e v ⟨o, ho, hd⟩ => by
  have nch : c ∉ ch := fun z => (hch c z).2.2.1 x c e rfl
  by_cases hc : c ∈ X.fs
  ·obtain ⟨sl, q⟩ := slot c o (I.cne x c e) hc nch ho (I.freeC x c e)
   exact ⟨_, q, hd⟩
  ·exact ⟨o, keep c o (I.cne x c e) hc nch ho (I.freeC x c e), hd⟩
 refine ⟨I.ok, I.os, hg, ⟨fun b o e n hb hx => ?_, fun b o e n hb hx => ?_, fun b o e n hx => ?_, fun b o e hx => ?_, fun b xs e => tups b xs (I.base.tups b xs e), fun b o xs e => frzs b o xs (I.base.frzs b o xs e), fun b ps e => ?_⟩, ?_, fun x c e => ?_, ?_, fun x c e => ?_, fun p hp => ?_, hok, I.len⟩
 ·exact keep b o (neL b o e) hb (neC b o e hx) (I.base.keep b o e n hb hx) (I.base.free b o e n hx)
 ·obtain ⟨sl, e1⟩ := I.base.slot b o e n hb hx
  obtain ⟨sl', e2⟩ := slot b _ (neL b o e) hb (neC b o e hx) e1 (I.base.free b o e n hx)
  exact ⟨sl', e2⟩
 ·obtain ⟨o', e1⟩ := I.base.there b o e hx
  exact free b o' (neC b o e hx) e1 (I.base.free b o e n hx)
 ·obtain ⟨o', e1⟩ := I.base.there b o e hx
  exact there b o' (neC b o e hx) e1
 ·obtain ⟨m1, e1⟩ := I.base.tbls b ps e
  obtain ⟨m2, e2⟩ := tbls b _ e1
  exact ⟨m1 ++ m2, by rw [e2, Array.append_assoc]⟩
 ·obtain ⟨m, hn, hl⟩ := I.loc
  refine ⟨m, ns m hn, fun i x v e1 e2 e3 => ?_⟩
  obtain ⟨u, r, l⟩ := hl i x v e1 e2 e3
  refine ⟨u, r, ?_⟩
  rcases l with l | ⟨k, c, e, z⟩
  ·exact .inl l
  ·exact .inr ⟨k, c, e, cellK x c e _ z⟩
 ·obtain ⟨v, z⟩ := I.cell x c e
  exact ⟨v, cellK x c e v z⟩
 ·obtain ⟨m, ⟨o, _, _, ho, _⟩, _⟩ := I.loc
  exact free _ o (fun z => (hch _ z).2.1 rfl) ho I.free
 ·obtain ⟨v, o, ho, hd⟩ := I.cell x c e
  exact free c o (fun z => (hch c z).2.2.1 x c e rfl) ho (I.freeC x c e)
 ·obtain ⟨e, n, ne, nf, d⟩ := I.pin p hp
  have nch : p.1 ∉ ch := fun z => (hch p.1 z).2.2.2 p hp rfl
  exact ⟨keep p.1 p.2 ne nf nch e n, free p.1 p.2 nch e n, ne, nf, d⟩
theorem Inv.un {t' : Nat} (I : Inv X pins U H s) (u : Un X.fs [] H H' s.heap h') (hok : HOk X.prog X.w H' h') : Inv X pins U H' { s with heap := h', toks := t' } := by
 obtain ⟨m, ⟨o, es, ep, ho, r⟩, _⟩ := id I.loc
 obtain ⟨sl, hL⟩ := u.any ho I.free (by simp)
 exact I.step (g' := s.gens) (d' := s.drawn) (ch := []) (fun _ z => nomatch z) (fun b o _ hb _ e n => u.keep b o e n hb (by simp)) (fun b o _ hb _ e n => u.slot b o e n hb (by simp)) (fun b o _ e n => u.free b o e n (by simp)) (fun b o _ e => u.there b o e (by simp)) u.tups u.frzs u.tbls (fun m' hm => by
  obtain ⟨o', es', ep', ho', r'⟩ := hm
  rw [ho] at ho'; cases ho'
  exact ⟨_, es', ep', hL, r'⟩) hok I.bare
theorem Inv.call {g' : Array GenState} {t' : Nat} {d' : Drawn} {ch : List Addr} (I : Inv X pins U H s) (u : Un (frs X.stack) ch H H' s.heap h') (hok : HOk X.prog X.w H' h') (hg : AllBare g')
  (hch : ∀ b ∈ ch, (b ∈ X.ex \/ X.s₀.heap.objs.size <= b) /\ b ≠ X.env.locals /\ (∀ x c, X.env.cells.lookup x = some c -> c ≠ b) /\ ∀ p ∈ X.pn ++ pins, p.1 ≠ b) :
  Inv X pins U H' { s with heap := h', gens := g', drawn := d', toks := t' } := by
 obtain ⟨m, ⟨o, es, ep, ho, r⟩, _⟩ := id I.loc
 obtain ⟨sl, hL⟩ := u.any ho I.free fun z => (hch _ z).2.1 rfl
 exact I.step (ch := ch) hch (fun b o hL hb hc e n => u.keep b o e n (fun z => (Ul.mp (I.stkSub b z)).elim hL hb) hc) (fun b o _ _ hc e n => u.any e n hc) (fun b o hc e n => u.free b o e n hc) (fun b o hc e => u.there b o e hc) u.tups u.frzs u.tbls (fun m' hm => by
  obtain ⟨o', es', ep', ho', r'⟩ := hm
  rw [ho] at ho'; cases ho'
  exact ⟨_, es', ep', hL, r'⟩) hok hg
theorem Inv.turned {t' : Nat} {it : Addr} (I : Inv X pins U H s) (k : ∀ b o, b ≠ it -> s.heap.get? b = some o -> h'.get? b = some o) (hn : H it = none) (hL : it ≠ X.env.locals)
  (h1 : it ∈ X.ex \/ X.s₀.heap.objs.size <= it) (h2 : ∀ x c, X.env.cells.lookup x = some c -> c ≠ it) (h3 : ∀ p ∈ X.pn ++ pins, p.1 ≠ it) : Inv X pins U H { s with heap := h', toks := t' } := by
 have nit : ∀ b u, H b = some u -> b ≠ it := fun b u e z => by rw [z, hn] at e; cases e
 refine I.step (g' := s.gens) (d' := s.drawn) (ch := [it]) (fun b hb => ?_) (fun b o _ _ hc e _ => k b o (fun z => hc (by simp [z])) e) (fun b o _ _ hc e _ => ⟨o.slots, k b o (fun z => hc (by simp [z])) e⟩) (fun _ _ _ _ n => n)
  (fun b o hc e => ⟨o, k b o (fun z => hc (by simp [z])) e⟩) (fun _ _ e => e) (fun _ _ _ e => e) (fun b ps e => ⟨#[], by rw [e]; simp⟩) (fun m hm => ?_) (fun b u e => ?_) I.bare
 ·have e : b = it := by simpa using hb
  subst e
  exact ⟨h1, hL, h2, h3⟩
 ·obtain ⟨o, es, ep, ho, r⟩ := hm
  exact ⟨o, es, ep, k _ o (Ne.symm hL) ho, r⟩
 ·refine (I.hok b u e).stay (fun c v hc q => k c v ?_ q) (fun _ q => q) fun _ _ q => q
  rcases hc with z | z
  ·rw [z]; exact nit b u e
  ·exact nit c _ z
theorem Inv.tok (I : Inv X pins U H s) (t : Nat) : Inv X pins U H { s with toks := t } := I.un (h' := s.heap) (t' := t) Un.refl I.hok
theorem Inv.kept {t' : Nat} (I : Inv X pins U H s) (k : ∀ b u, s.heap.get? b = some u -> h'.get? b = some u) : Inv X pins U H { s with heap := h', toks := t' } := I.un (Un.kept k) (I.hok.kept k)
theorem Inv.laid {a : Addr} {o : HO} {t' : Nat} (I : Inv X pins U H s) (k : ∀ b u, s.heap.get? b = some u -> h'.get? b = some u) (hp : s.heap.objs.size <= a) (new : ZEW X.prog X.w (upd H a o) h' a o) :
 Inv X pins U (upd H a o) { s with heap := h', toks := t' } := I.un (Un.laid k hp (I.hok.fresh hp)) (I.hok.laid k hp new)
theorem Inv.write {x e : Addr} {o : HO} {t' : Nat} (I : Inv X pins U H s) (mu : Mut (H x)) (he : e = x \/ H e = some (.own x)) (k : ∀ b u, b ≠ e -> s.heap.get? b = some u -> h'.get? b = some u) (heo : ∃ u, h'.get? e = some u)
 (new : ZEW X.prog X.w (upd H x o) h' x o) : Inv X pins U (upd H x o) { s with heap := h', toks := t' } := I.un (Un.write mu he k heo) (I.hok.write mu he k heo new)
theorem Inv.pins_of {pins' : List (Addr × Obj)} (I : Inv X pins U H s) (h : ∀ p ∈ pins', s.heap.get? p.1 = some p.2 /\ H p.1 = none /\ p.1 ≠ X.env.locals /\ p.1 ∉ X.fs /\ ∀ v, p.2.data ≠ .cell v) : Inv X pins' U H s :=
 ⟨I.ok, I.os, I.bare, I.base, I.loc, I.cell, I.free, I.freeC, fun p hp => (UI.mp hp).elim (fun z => I.pin p (List.mem_append_left _ z)) (h p), I.hok, I.len⟩
theorem ZM7 {N : List Str} (hN : N.Nodup) {i j : Nat} {x : Str} (a : N[i]? = some x) (b : N[j]? = some x) : i = j := by
 obtain ⟨h1, e1⟩ := Ui.mp a
 obtain ⟨h2, e2⟩ := Ui.mp b
 exact (List.getElem_inj hN).mp (e1.trans e2.symm)
theorem ZL8 {M : Model} {A : Around} {E : Value -> Shared -> Prop} {i : Nat} {x : Str} {v : V} {u : Value} {Q : Unit -> Shared -> Prop} (I : Inv X pins U H s) (hN : X.N.Nodup) (hi : X.N[i]? = some x) (hx : Loc X.env.scope x) (r : ZD0 v u)
  (h : ∀ s', Inv X pins (U.set i (some v)) H s' -> (∃ a, Heap.SameBut a s.heap s'.heap /\ (a = X.env.locals \/ X.env.cells.lookup x = some a)) -> Q () s') (hf : X.fn x = true \/ X.env.scope.names.lookup x = some .local := by first | exact .inl rfl | exact .inr rfl | assumption) : wpAny M A (storeName X.env x u) Q E s := by
 obtain ⟨m, hn, hl⟩ := id I.loc
 have hcls : (X.env.scope.kind == .class || (X.env.scope.kind == .module && X.env.locals != X.env.globals)) = false := by rw [I.ok.kind]; rfl
 have hiσ : i < U.length := by rw [I.len]; exact (Ui.mp hi).1
 have cne := I.cne
 have tracked : ∀ {a : Addr} {h' : Heap}, (∃ o, s.heap.get? a = some o /\ H a = none) -> Heap.SameBut a s.heap h' -> HOk X.prog X.w H h' := fun {a h'} ha hs b ob e => by
  obtain ⟨_, _, hfree⟩ := ha
  refine (I.hok b ob e).stay (fun c w' hc q => (hs.2 c ?_).trans q) (fun _ q => q) fun _ _ q => q
  rintro rfl
  rcases hc with rfl | hc
  ·rw [hfree] at e; cases e
  ·rw [hfree] at hc; cases hc
 rcases hx with hk | hk
 ·refine wpAny_storeName_local hk hn (fun h' hn' hs => ?_) hcls
  obtain ⟨oL, _, _, hoL, _⟩ := id hn
  refine h _ ⟨I.ok, I.os, I.bare, ⟨fun b o e n hb hx => ?_, fun b o e n hb hx => ?_, I.base.free, fun b o e hx => ?_, I.base.tups, I.base.frzs, I.base.tbls⟩, ⟨_, hn', fun j y v' e1 e2 e3 => ?_⟩, fun y c e => ?_, I.free, I.freeC, fun p hp => ?_, tracked ⟨oL, hoL, I.free⟩ hs, by simpa using I.len⟩ ⟨_, hs, .inl rfl⟩
  ·exact (hs.2 b (Uq (Ue (Uk e) I.ok.above))).trans (I.base.keep b o e n hb hx)
  ·obtain ⟨sl, e1⟩ := I.base.slot b o e n hb hx
   exact ⟨sl, (hs.2 b (Uq (Ue (Uk e) I.ok.above))).trans e1⟩
  ·obtain ⟨o', e1⟩ := I.base.there b o e hx
   exact ⟨o', (hs.2 b (Uq (Ue (Uk e) I.ok.above))).trans e1⟩
  ·by_cases hj : j = i
   ·subst hj
    rw [hi] at e1; cases e1
    rw [List.getElem?_set_self hiσ] at e2
    cases e2
    exact ⟨u, r, .inl ⟨hk, by simp⟩⟩
   ·rw [List.getElem?_set_ne (Ne.symm hj)] at e2
    obtain ⟨u', r', q⟩ := hl j y v' e1 e2 e3
    refine ⟨u', r', ?_⟩
    rcases q with ⟨k, e⟩ | ⟨k, c, e, z⟩
    ·refine .inl ⟨k, ?_⟩
     have : y ≠ x := fun e => hj (ZM7 hN e1 (e ▸ hi))
     simp [this, e]
    ·exact .inr ⟨k, c, e, z.sameBut hs (cne y c e)⟩
  ·obtain ⟨w', z⟩ := I.cell y c e
   exact ⟨w', z.sameBut hs (cne y c e)⟩
  ·obtain ⟨e, n, ne, nf, d⟩ := I.pin p hp
   exact ⟨(hs.2 p.1 ne).trans e, n, ne, nf, d⟩
 ·have hfn : X.fn x = true := by
   rcases hf with z | z
   ·exact z
   ·rw [z] at hk; cases hk
  obtain ⟨c, hc⟩ := I.ok.has x (.inl hk)
  obtain ⟨w', z⟩ := I.cell x c hc
  refine wpAny_storeName_cell I.ok.kind hk hc z (fun h' hc' hs => ?_)
  obtain ⟨oc, hoc, hocd⟩ := id z
  refine h { s with heap := h' } ⟨I.ok, I.os, I.bare, ⟨fun b o e n hb hx => ?_, fun b o e n hb hx => ?_, I.base.free, fun b o e hx => ?_, I.base.tups, I.base.frzs, I.base.tbls⟩, ⟨m, hn.sameBut hs (Ne.symm (cne x c hc)), fun j y v' e1 e2 e3 => ?_⟩, fun y c' e => ?_, I.free, I.freeC, fun p hp => ?_, tracked ⟨oc, hoc, I.freeC x c hc⟩ hs, by simpa using I.len⟩ ⟨c, hs, .inr hc⟩
  ·exact (hs.2 b (Uq (Ue (Uk e) (I.ok.cab x c hfn hc)))).trans (I.base.keep b o e n hb hx)
  ·obtain ⟨sl, e1⟩ := I.base.slot b o e n hb hx
   exact ⟨sl, (hs.2 b (Uq (Ue (Uk e) (I.ok.cab x c hfn hc)))).trans e1⟩
  ·obtain ⟨o', e1⟩ := I.base.there b o e hx
   exact ⟨o', (hs.2 b (Uq (Ue (Uk e) (I.ok.cab x c hfn hc)))).trans e1⟩
  ·by_cases hj : j = i
   ·subst hj
    rw [hi] at e1; cases e1
    rw [List.getElem?_set_self hiσ] at e2
    cases e2
    exact ⟨u, r, .inr ⟨.inl hk, c, hc, hc'⟩⟩
   ·rw [List.getElem?_set_ne (Ne.symm hj)] at e2
    obtain ⟨u', r', q⟩ := hl j y v' e1 e2 e3
    refine ⟨u', r', ?_⟩
    rcases q with q | ⟨k, c', e, z'⟩
    ·exact .inl q
    ·refine .inr ⟨k, c', e, z'.sameBut hs ?_⟩
     rintro rfl
     exact hj (ZM7 hN e1 (I.ok.inj _ _ _ e hc ▸ hi))
  ·by_cases hcc : c' = c
   ·subst hcc; exact ⟨_, hc'⟩
   ·obtain ⟨w2, z2⟩ := I.cell y c' e
    exact ⟨w2, z2.sameBut hs hcc⟩
  ·obtain ⟨e, n, ne, nf, d⟩ := I.pin p hp
   refine ⟨(hs.2 p.1 ?_).trans e, n, ne, nf, d⟩
   intro q
   rw [q, hoc] at e
   have q' : oc = p.2 := Option.some.inj e
   exact d w' (by rw [<- q']; exact hocd)
theorem ZKP {M : Model} {A : Around} {E : Value -> Shared -> Prop} {i : Nat} {x : Str} {v : V} {u : Value} {Q : Unit -> Shared -> Prop} (I : Inv X pins U H s) (hN : X.N.Nodup) (hi : X.N[i]? = some x) (hx : Loc X.env.scope x) (r : ZD0 v u)
  (h : ∀ s', Inv X pins (U.set i (some v)) H s' -> Q () s') (hf : X.fn x = true \/ X.env.scope.names.lookup x = some .local := by first | exact .inl rfl | exact .inr rfl | assumption) : wpAny M A (storeName X.env x u) Q E s :=
 ZL8 I hN hi hx r (fun s' I' _ => h s' I') hf
theorem Inv.call' {s' : Shared} {ch : List Addr} (I : Inv X pins U H s) (ho : s'.os = s.os) (u : Un (frs X.stack) ch H H' s.heap s'.heap) (hok : HOk X.prog X.w H' s'.heap) (hg : AllBare s'.gens)
  (hch : ∀ b ∈ ch, (b ∈ X.ex \/ X.s₀.heap.objs.size <= b) /\ b ≠ X.env.locals /\ (∀ x c, X.env.cells.lookup x = some c -> c ≠ b) /\ ∀ p ∈ X.pn ++ pins, p.1 ≠ b) : Inv X pins U H' s' := by
 obtain ⟨h', g', d', t', o'⟩ := s'
 have e : o' = s.os := ho
 subst e
 exact I.call (g' := g') (t' := t') (d' := d') u hok hg hch
end
abbrev XK := Value -> Option Addr -> Hp -> Prop
abbrev St := List (Option V)
abbrev VK := V -> Hp -> Prop
abbrev TE := St -> Hp -> VK -> Prop
abbrev TT := St -> Hp -> (Bool -> Hp -> Prop) -> Prop
abbrev TA := St -> Hp -> (List V -> Hp -> Prop) -> Prop
structure ZEx where
 nx : St -> Hp -> Prop
 rt : VK
 bk : St -> Hp -> Prop := fun _ _ => False
 ct : St -> Hp -> Prop := fun _ _ => False
abbrev TS := ZEx -> St -> Hp -> Prop
def EP (X : Cx) (pins : List (Addr × Obj)) (U : St) (Q : VK) (u : Value) (s' : Shared) : Prop := ∃ v H', Inv X pins U H' s' /\ ZD0 v u /\ Q v H'
def TP (X : Cx) (pins : List (Addr × Obj)) (U : St) (Q : Bool -> Hp -> Prop) (b : Bool) (s' : Shared) : Prop := ∃ H', Inv X pins U H' s' /\ Q b H'
def AP (X : Cx) (pins : List (Addr × Obj)) (U : St) (Q : List V -> Hp -> Prop) (us : List Value) (s' : Shared) : Prop := ∃ vs H', Inv X pins U H' s' /\ ZD3 vs us /\ Q vs H'
def SP (X : Cx) (pins : List (Addr × Obj)) (D : ZEx) (f : Flow) (s' : Shared) : Prop :=
 match f with
 | .next => ∃ U' H', Inv X pins U' H' s' /\ D.nx U' H'
 | .brk => ∃ U' H', Inv X pins U' H' s' /\ D.bk U' H'
 | .cont => ∃ U' H', Inv X pins U' H' s' /\ D.ct U' H'
 | .ret u => ∃ v U' H', Inv X pins U' H' s' /\ ZD0 v u /\ D.rt v H'
def PE (X : Cx) (e : Expr) (t : TE) : Prop :=
 ∀ (pins : List (Addr × Obj)) (s : Shared) (U : St) (H : Hp) (Q : VK), Inv X pins U H s -> t U H Q -> wpAny (model X.prog X.w) X.A (eval e X.env) (EP X pins U Q) X.xe s
def PT (X : Cx) (e : Expr) (t : TT) : Prop :=
 ∀ (pins : List (Addr × Obj)) (s : Shared) (U : St) (H : Hp) (Q : Bool -> Hp -> Prop), Inv X pins U H s -> t U H Q -> wpAny (model X.prog X.w) X.A (isTrue e X.env (eval e X.env)) (TP X pins U Q) X.xe s
def PW (X : Cx) (e : Expr) (t : TT) : Prop :=
 ∀ (whole : Sem Value) (pins : List (Addr × Obj)) (s : Shared) (U : St) (H : Hp) (Q : Bool -> Hp -> Prop), Inv X pins U H s -> t U H Q -> wpAny (model X.prog X.w) X.A (isTrue e X.env whole) (TP X pins U Q) X.xe s
theorem PW.pt {X : Cx} {e : Expr} {t : TT} (h : PW X e t) : PT X e t := h _
def PA (X : Cx) (es : List Expr) (t : TA) : Prop :=
 ∀ (pos : Pos) (pins : List (Addr × Obj)) (s : Shared) (U : St) (H : Hp) (Q : List V -> Hp -> Prop), Inv X pins U H s -> t U H Q -> wpAny (model X.prog X.w) X.A (spliced (backTo pos (starEach es X.env))) (AP X pins U Q) X.xe s
def PS (X : Cx) (st : Stmt) (t : TS) : Prop :=
 ∀ (pins : List (Addr × Obj)) (s : Shared) (U : St) (H : Hp) (D : ZEx), Inv X pins U H s -> t D U H -> wpAny (model X.prog X.w) X.A (exec st X.env) (SP X pins D) X.xe s
def PSs (X : Cx) (st : List Stmt) (t : TS) : Prop :=
 ∀ (pins : List (Addr × Obj)) (s : Shared) (U : St) (H : Hp) (D : ZEx), Inv X pins U H s -> t D U H -> wpAny (model X.prog X.w) X.A (execs st X.env) (SP X pins D) X.xe s
theorem thn {α : Type} {t : Sem α} {Q Q' : α -> Shared -> Prop} {M : Model} {A : Around} {E : Value -> Shared -> Prop} {s : Shared} (h : wpAny M A t Q E s) (hQ : ∀ a s, Q a s -> Q' a s) : wpAny M A t Q' E s := UG h hQ fun _ _ x => x
section
variable {X : Cx}
theorem bin {a b : Expr} {ta tb : TE} (ha : PE X a ta) (hb : PE X b tb) {pins : List (Addr × Obj)} {s : Shared} {U : St} {H : Hp} {R : V -> V -> Hp -> Prop} (I : Inv X pins U H s) (h : ta U H fun x H1 => tb U H1 fun y H2 => R x y H2)
  {α : Type} {Q : α -> Shared -> Prop} {f : Value -> Value -> Sem α}
  (hf : ∀ v u s2 x y H2, Inv X pins U H2 s2 -> ZD0 x v -> ZD0 y u -> R x y H2 -> wpAny (model X.prog X.w) X.A (f v u) Q X.xe s2) :
  wpAny (model X.prog X.w) X.A (eval a X.env) (fun v s₁ => wpAny (model X.prog X.w) X.A (eval b X.env) (fun u s₂ => wpAny (model X.prog X.w) X.A (f v u) Q X.xe s₂) X.xe s₁) X.xe s := by
 refine thn (ha pins s U H _ I h) fun v s1 ⟨x, H1, I1, r1, q1⟩ => ?_
 refine thn (hb pins s1 U H1 _ I1 q1) fun u s2 ⟨y, H2, I2, r2, q2⟩ => ?_
 exact hf v u s2 x y H2 I2 r1 r2 q2
def ZSK (i : Nat) : TE := fun U H Q => ∃ v, U[i]? = some (some v) /\ Q v H
def tC (v : V) : TE := fun _ H Q => Q v H
theorem ZWY {i : Nat} {x : Str} {pos : Pos} (hN : X.N[i]? = some x) (hv : Vis X.env.scope x) (hd : (x == ("__debug__" : Str)) = false := by decide) (hcd : (x == ("__classdict__" : Str)) = false := by decide) : PE X (.Name x pos) (ZSK i) := by
 intro pins s U H Q I h
 obtain ⟨v, e, h⟩ := h
 obtain ⟨m, hn, hl⟩ := I.loc
 obtain ⟨u, r, l⟩ := hl i x v hN e hv
 have fin : EP X pins U Q u s := ⟨v, H, I, r, h⟩
 rcases l with ⟨hk, hm⟩ | ⟨hk, c, hc, hcell⟩
 ·exact wpAny_Name (wpAny_loadName_local I.ok.kind hk hn hm fin) hd
 ·rcases hk with hk | hk
  ·exact wpAny_Name (wpAny_loadName_cell I.ok.kind hk hc hcell fin) hd
  ·exact wpAny_Name (wpAny_loadName_free I.ok.kind hk hc hcell fin hcd) hd
theorem ZWZ {i j pos} : PE X (.Constant (.int i) j pos) (tC (.int i)) := fun _ _ _ H _ I h => wpAny_Constant_int ⟨.int i, H, I.tok _, ⟨_, rfl⟩, h⟩
theorem ZYV {b j pos} : PE X (.Constant (.bool b) j pos) (tC (.bl b)) := fun _ _ _ H _ I h => Constant_bool ⟨.bl b, H, I, rfl, h⟩
theorem ZWa {j pos} : PE X (.Constant .none j pos) (tC .non) := fun _ _ _ H _ I h => Constant_none ⟨.non, H, I, rfl, h⟩
theorem ZWb {x j pos} : PE X (.Constant (.str x) j pos) (tC (.str x)) := fun _ _ _ H _ I h => Calls.Constant_str ⟨.str x, H, I.tok _, ⟨_, rfl⟩, h⟩
def Gl (X : Cx) (x : Str) : Prop := X.env.kindOf x = some .globalImplicit
theorem ZHT {E : Value -> Shared -> Prop} {pins : List (Addr × Obj)} {s : Shared} {U : St} {H : Hp} {x : Str} {u : Value} {pos : Pos} {Q : Value -> Shared -> Prop} (I : Inv X pins U H s) (hg : Gl X x) (hm : X.mg x = some u) (h : Q u s)
  (hd : (x == ("__debug__" : Str)) = false := by decide) : wpAny (model X.prog X.w) X.A (eval (.Name x pos) X.env) Q E s :=
 Calls.Name_function_global I.ok.kind hg (Calls.loadGlobal_global (by rw [I.ok.glob]; exact I.mod.glob.keeps I.bk) hm h) hd
theorem ZGY {E : Value -> Shared -> Prop} {pins : List (Addr × Obj)} {s : Shared} {U : St} {H : Hp} {x : Str} {u : Value} {pos : Pos} {Q : Value -> Shared -> Prop} (I : Inv X pins U H s) (hg : Gl X x) (hm : X.mg x = none) (hv : bootBuiltins x = some u) (h : Q u s)
  (hn : x ≠ "__name__" := by decide) (hd : (x == ("__debug__" : Str)) = false := by decide) : wpAny (model X.prog X.w) X.A (eval (.Name x pos) X.env) Q E s := by
 obtain ⟨mb, h1, h2⟩ := I.mod.blt
 exact Calls.Name_function_global I.ok.kind hg (Calls.loadGlobal_builtin (by rw [I.ok.glob]; exact I.mod.glob.keeps I.bk) hm (by rw [I.ok.blt]; exact h1.keeps I.bk) ((h2 x hn).trans hv) h) hd
theorem ZUg {x : Str} {v : V} {u : Value} {pos : Pos} (hg : Gl X x) (hm : X.mg x = some u) (r : ZD0 v u) (hd : (x == ("__debug__" : Str)) = false := by decide) : PE X (.Name x pos) (tC v) :=
 fun _ _ _ H _ I h => ZHT I hg hm ⟨v, H, I, r, h⟩ hd
theorem ZUh {x : Str} {v : V} {u : Value} {pos : Pos} (hg : Gl X x) (hm : X.mg x = none) (hv : bootBuiltins x = some u) (r : ZD0 v u) (hn : x ≠ "__name__" := by decide) (hd : (x == ("__debug__" : Str)) = false := by decide) : PE X (.Name x pos) (tC v) :=
 fun _ _ _ H _ I h => ZGY I hg hm hv ⟨v, H, I, r, h⟩ hn hd
variable {a b : Expr} {ta tb : TE} {pos : Pos}
def tB (t : TE) : TT := fun U H Q => t U H fun x H1 => ∃ c, x = .bl c /\ Q c H1
theorem ZWc {e : Expr} {t : TE} (h : PE X e t) (he : ∀ whole, isTrue e X.env whole = (do let v <- whole; standAt e.pos; holding [v] (truthy v)) := by intro _; rfl) : PT X e (tB t) := by
 intro pins s U H Q I hw
 refine isTrue_plain (thn (h pins s U H _ I hw) fun v s1 ⟨x, H1, I1, r1, q1⟩ => ?_) (he _)
 obtain ⟨d, rfl, q⟩ := q1
 cases r1
 exact wpAny_truthy_bool ⟨H1, I1, q⟩
variable {tA tB' : TT} {ZFP : List Expr}
def ZSL (t u : TT) : TT := fun U H Q => t U H fun c H1 => if c = true then u U H1 Q else Q false H1
def tOr (t u : TT) : TT := fun U H Q => t U H fun c H1 => if c = true then Q true H1 else u U H1 Q
def ZSM (t : TT) : TT := fun U H Q => t U H fun c H1 => Q (!c) H1
theorem ZUi (ha : PT X a tA) : PW X (.BoolOp .And [a] pos) tA := by
 intro wh pins s U H Q I h
 refine isTrue_and (thn (ha pins s U H Q I h) fun c s1 e => ?_)
 cases c with
 | true => exact isTrue_and_nil e
 | false => exact e
theorem ZWd (ha : PT X a tA) : PW X (.BoolOp .Or [a] pos) tA := by
 intro wh pins s U H Q I h
 refine isTrue_or (thn (ha pins s U H Q I h) fun c s1 e => ?_)
 cases c with
 | false => exact isTrue_or_nil e
 | true => exact e
theorem ZWe (ha : PT X a tA) (hb : PW X (.BoolOp .And (b :: ZFP) pos) tB') : PW X (.BoolOp .And (a :: b :: ZFP) pos) (ZSL tA tB') := by
 intro wh pins s U H Q I h
 refine isTrue_and (thn (ha pins s U H _ I h) fun c s1 ⟨H1, I1, q1⟩ => ?_)
 cases c with
 | true => exact hb wh pins s1 U H1 Q I1 q1
 | false => exact ⟨H1, I1, q1⟩
theorem ZYW (ha : PT X a tA) (hb : PW X (.BoolOp .Or (b :: ZFP) pos) tB') : PW X (.BoolOp .Or (a :: b :: ZFP) pos) (tOr tA tB') := by
 intro wh pins s U H Q I h
 refine isTrue_or (thn (ha pins s U H _ I h) fun c s1 ⟨H1, I1, q1⟩ => ?_)
 cases c with
 | true => exact ⟨H1, I1, q1⟩
 | false => exact hb wh pins s1 U H1 Q I1 q1
theorem ZWf (ha : PT X a tA) : PT X (.UnaryOp .Not a pos) (ZSM tA) := by
 intro pins s U H Q I h
 exact isTrue_not (ha pins s U H (fun c H1 => Q (!c) H1) I h)
def ZPQ (ta tb : TE) : TE := fun U H Q => ta U H fun x H1 => ∃ c, x = .bl c /\ if c = true then tb U H1 Q else Q (.bl false) H1
def ZPR (ta : TE) : TE := fun U H Q => ta U H fun x H1 => ∃ c, x = .bl c /\ Q (.bl (!c)) H1
theorem ZWg {op} {t : TE} (h : PE X a t) : PE X (.BoolOp op [a] pos) t := fun pins s U H Q I hw => BoolOp_one (h pins s U H Q I hw)
theorem ZWh (ha : PE X a ta) (hb : PE X (.BoolOp .And (b :: ZFP) pos) tb) : PE X (.BoolOp .And (a :: b :: ZFP) pos) (ZPQ ta tb) := by
 intro pins s U H Q I h
 refine BoolOp_and (thn (ha pins s U H _ I h) fun v s1 ⟨x, H1, I1, r1, q1⟩ => ?_)
 obtain ⟨c, rfl, q1⟩ := q1
 cases r1
 refine wpAny_truthy_bool ?_
 cases c with
 | true => exact hb pins s1 U H1 Q I1 q1
 | false => exact ⟨.bl false, H1, I1, rfl, q1⟩
theorem ZWi (ha : PE X a ta) : PE X (.UnaryOp .Not a pos) (ZPR ta) := by
 intro pins s U H Q I h
 refine UnaryOp_ (thn (ha pins s U H _ I h) fun v s1 ⟨x, H1, I1, r1, q1⟩ => ?_)
 obtain ⟨c, rfl, q1⟩ := q1
 cases r1
 exact not_of (wpAny_truthy_bool ⟨.bl (!c), H1, I1, rfl, q1⟩)
def tIf (t : TT) (ta tb : TE) : TE := fun U H Q => t U H fun c H1 => if c = true then ta U H1 Q else tb U H1 Q
theorem ZSN {c : Expr} (hc : PT X c tA) (ha : PE X a ta) (hb : PE X b tb) : PE X (.IfExp c a b pos) (tIf tA ta tb) := by
 intro pins s U H Q I h
 refine wpAny_IfExp (thn (hc pins s U H _ I h) fun d s1 ⟨H1, I1, q1⟩ => ?_)
 cases d with
 | true => exact ha pins s1 U H1 Q I1 q1
 | false => exact hb pins s1 U H1 Q I1 q1
end
def SqL (K : W.Frag) (H : Hp) (a : Addr) (xs : List V) : Prop :=
 Rd H a (.lst xs) \/
  ∃ (o : Obj) (its : Array Value) (n : Nat), K.lookup a = some o /\ o.cls = .type "list" /\ o.dict = none /\ o.data = .seq its n /\ its.size <= sizeLine /\ ZD3 xs its.toList
def SqT (K : W.Frag) (H : Hp) (a : Addr) (xs : List V) : Prop :=
 Rd H a (.tup xs) \/
  ∃ (o : Obj) (its : Array Value) (n : Nat), K.lookup a = some o /\ o.cls = .type "tuple" /\ o.data = .seq its n /\ its.size <= sizeLine /\ ZD3 xs its.toList
def ZYv : Value -> Option V
 | .none => some .non
 | .bool b => some (.bl b)
 | .int i _ => some (.int i)
 | .str x _ => some (.str x)
 | .bytes b _ => some (.byt b)
 | .float b _ => some (.flt b)
 | .ref a => some (.ref a)
 | .type n => some (.ty n)
 | _ => none
theorem ZD0.abs {x : V} {u : Value} (r : ZD0 x u) : ZYv u = some x := by
 cases x with
 | non => cases r; rfl
 | bl _ => cases r; rfl
 | int _ => obtain ⟨t, rfl⟩ := r; rfl
 | str _ => obtain ⟨t, rfl⟩ := r; rfl
 | byt _ => obtain ⟨t, rfl⟩ := r; rfl
 | flt _ => obtain ⟨t, rfl⟩ := r; rfl
 | ref _ => cases r; rfl
 | ty _ => cases r; rfl
theorem ZD0.inj {x y : V} {u : Value} (r : ZD0 x u) (q : ZD0 y u) : x = y := Option.some.inj (r.abs.symm.trans q.abs)
theorem ZD3.inj : ∀ {xs ys : List V} {us : List Value}, ZD3 xs us -> ZD3 ys us -> xs = ys
 | _, _, _, .nil, .nil => rfl
 | _, _, _, .cons r t, .cons r' t' => by rw [r.inj r', ZD3.inj t t']
section
variable {X : Cx} {pins : List (Addr × Obj)} {U : St} {H : Hp} {s : Shared} {a : Addr} {xs ys : List V}
theorem SqL.of {K : W.Frag} (h : H a = some (.lst xs)) : SqL K H a xs := .inl (.inl h)
theorem SqT.of {K : W.Frag} (h : H a = some (.tup xs)) : SqT K H a xs := .inl (.inl h)
theorem Inv.list (I : Inv X pins U H s) (h : SqL X.K H a xs) : ∃ its : List Value, ZD3 xs its /\ PlainL s.heap a its.toArray /\ xs.length <= sizeLine := by
 rcases h with h | ⟨o, its, n, hk, hc, hd, hs, hz, r⟩
 ·obtain ⟨z, its, n, r, e⟩ := h.ok I.hok
  exact ⟨its, r, ⟨_, n, e, rfl, rfl, rfl⟩, z⟩
 ·refine ⟨its.toList, r, ⟨o, n, I.kIn a o hk, hc, hd, by simpa using hs⟩, ?_⟩
  have e := r.length
  simp only [UF] at e
  omega
theorem Inv.tuple (I : Inv X pins U H s) (h : SqT X.K H a xs) : ∃ its : List Value, ZD3 xs its /\ IsTup s.heap a its.toArray /\ xs.length <= sizeLine := by
 rcases h with h | ⟨o, its, n, hk, hc, hs, hz, r⟩
 ·obtain ⟨z, its, r, p⟩ := h.ok I.hok
  exact ⟨its, r, p, z.1⟩
 ·refine ⟨its.toList, r, ⟨o, I.kIn a o hk, hc, n, by simpa using hs⟩, ?_⟩
  have e := r.length
  simp only [UF] at e
  omega
theorem Inv.list_inj (I : Inv X pins U H s) (h : SqL X.K H a xs) (h' : SqL X.K H a ys) : xs = ys := by
 obtain ⟨its, r, ⟨o, n, e, _, _, d⟩, _⟩ := I.list h
 obtain ⟨its', r', ⟨o', n', e', _, _, d'⟩, _⟩ := I.list h'
 rw [e] at e'; cases e'
 rw [d] at d'
 injection d' with d1 _
 have : its = its' := by simpa using congrArg Array.toList d1
 subst this
 exact r.inj r'
theorem Inv.tuple_inj (I : Inv X pins U H s) (h : SqT X.K H a xs) (h' : SqT X.K H a ys) : xs = ys := by
 obtain ⟨its, r, ⟨o, e, _, n, d⟩, _⟩ := I.tuple h
 obtain ⟨its', r', ⟨o', e', _, n', d'⟩, _⟩ := I.tuple h'
 rw [e] at e'; cases e'
 rw [d] at d'
 injection d' with d1 _
 have : its = its' := by simpa using congrArg Array.toList d1
 subst this
 exact r.inj r'
end
abbrev Cx.wish (X : Cx) (E : Value -> Shared -> Prop) : Cx := { X with xe := E }
abbrev Cx.nox (X : Cx) : Cx := X.wish fun _ _ => False
theorem Cx.Ok.wish {X : Cx} (ok : X.Ok) (E : Value -> Shared -> Prop) : (X.wish E).Ok :=
 ⟨ok.mod, ok.kind, ok.glob, ok.blt, ok.above, ok.inj, ok.has, ok.cab, ok.hd, ok.frames, ok.stk, ok.exf, ok.bs, ok.bsz, ok.noex, ok.exfs, ok.funs, ok.frf⟩
theorem Cx.Ok.unwish {X : Cx} {E : Value -> Shared -> Prop} (ok : (X.wish E).Ok) : X.Ok :=
 ⟨ok.mod, ok.kind, ok.glob, ok.blt, ok.above, ok.inj, ok.has, ok.cab, ok.hd, ok.frames, ok.stk, ok.exf, ok.bs, ok.bsz, ok.noex, ok.exfs, ok.funs, ok.frf⟩
section
variable {X : Cx} {pins : List (Addr × Obj)} {U : St} {H : Hp} {s : Shared} {E : Value -> Shared -> Prop}
theorem Inv.wish (I : Inv X pins U H s) (E : Value -> Shared -> Prop) : Inv (X.wish E) pins U H s := ⟨I.ok.wish E, I.os, I.bare, I.base, I.loc, I.cell, I.free, I.freeC, I.pin, I.hok, I.len⟩
theorem Inv.unwish (I : Inv (X.wish E) pins U H s) : Inv X pins U H s := ⟨I.ok.unwish, I.os, I.bare, I.base, I.loc, I.cell, I.free, I.freeC, I.pin, I.hok, I.len⟩
theorem SP.unwish {D : ZEx} {f : Flow} {s' : Shared} (h : SP (X.wish E) pins D f s') : SP X pins D f s' := by
 cases f with
 | next => obtain ⟨U', H', I, q⟩ := h; exact ⟨U', H', I.unwish, q⟩
 | brk => obtain ⟨U', H', I, q⟩ := h; exact ⟨U', H', I.unwish, q⟩
 | cont => obtain ⟨U', H', I, q⟩ := h; exact ⟨U', H', I.unwish, q⟩
 | ret u => obtain ⟨v, U', H', I, r, q⟩ := h; exact ⟨v, U', H', I.unwish, r, q⟩
theorem PSs.nox {st : List Stmt} {t : TS} (h : PSs X.nox st t) : PSs X st t := fun pins s U H D I hw =>
 UG (h pins s U H D (I.wish _) hw) (fun _ _ q => q.unwish) fun _ _ z => False.elim z
end
section
variable {X : Cx} {st : Stmt} {ZFP : List Stmt} {t u : TS} {e : Expr} {te : TE} {pos : Pos}
def ZPS : TS := fun D U H => D.nx U H
def ZSO (t u : TS) : TS := fun D U H => t { D with nx := u D } U H
theorem ZUj : PSs X [] ZPS := fun _ _ U H _ I h => wpAny_execs_nil ⟨U, H, I, h⟩
theorem ZSP (h1 : PS X st t) (h2 : PSs X ZFP u) : PSs X (st :: ZFP) (ZSO t u) := by
 intro pins s U H D I h
 refine wpAny_execs_cons (thn (h1 pins s U H { D with nx := u D } I h) fun f s1 q => ?_)
 cases f with
 | next =>
  obtain ⟨U', H', I', q⟩ := q
  exact h2 pins s1 U' H' D I' q
 | ret v => exact q
 | brk => exact q
 | cont => exact q
theorem ZUk (h1 : PS X st t) : PSs X [st] t := by
 intro pins s U H D I h
 refine wpAny_execs_cons (thn (h1 pins s U H D I h) fun f s1 q => ?_)
 cases f with
 | next => exact wpAny_execs_nil q
 | ret v => exact q
 | brk => exact q
 | cont => exact q
theorem Inv.quiet {pins : List (Addr × Obj)} {U : St} {H : Hp} {s : Shared} (I : Inv X pins U H s) : interactive X.env = false := by simp [interactive, I.ok.kind]
def ZMu (te : TE) : TS := fun D U H => te U H fun _ H1 => D.nx U H1
theorem ZUl (he : PE X e te) (hs : swapsWith e none pos.line X.env = pure false := by rfl) : PS X (.Expr e pos) (ZMu te) := by
 intro pins s U H D I h
 exact wpAny_Expr_any (thn (he pins s U H _ I h) fun v s1 ⟨x, H1, I1, r1, q1⟩ => ⟨U, H1, I1, q1⟩) I.quiet hs
def ZSQ (te : TE) : TS := fun D U H => te U H D.rt
theorem ZWj (he : PE X e te) : PS X (.Return (some e) pos) (ZSQ te) := by
 intro pins s U H D I h
 exact wpAny_Return_some (thn (he pins s U H _ I h) fun v s1 ⟨x, H1, I1, r1, q1⟩ => ⟨x, U, H1, I1, r1, q1⟩)
def ZM8 (c : TT) (t u : TS) : TS := fun D U H => c U H fun b H1 => if b = true then t D U H1 else u D U H1
theorem ZYX {c : Expr} {a b : List Stmt} {tc : TT} (hc : PT X c tc) (ha : PSs X a t) (hb : PSs X b u) : PS X (.If c a b pos) (ZM8 tc t u) := by
 intro pins s U H D I h
 refine wpAny_If (thn (hc pins s U H _ I h) fun d s1 ⟨H1, I1, q1⟩ => ?_)
 cases d with
 | true => exact ha pins s1 U H1 D I1 q1
 | false => exact hb pins s1 U H1 D I1 q1
def ZQh : TS := fun _ _ _ => False
theorem ZSR : PS X st ZQh := fun _ _ _ _ _ _ h => h.elim
end
abbrev TG := V -> St -> Hp -> (St -> Hp -> Prop) -> Prop
abbrev TGs := List V -> St -> Hp -> (St -> Hp -> Prop) -> Prop
def PG (X : Cx) (target : Expr) (t : TG) : Prop :=
 ∀ (pins : List (Addr × Obj)) (s : Shared) (U : St) (H : Hp) (v : V) (u : Value) (Q : St -> Hp -> Prop), Inv X pins U H s -> ZD0 v u -> t v U H Q ->
  wpAny (model X.prog X.w) X.A (assign target X.env u) (fun _ s' => ∃ U' H', Inv X pins U' H' s' /\ Q U' H') X.xe s
def PGs (X : Cx) (ts : List Expr) (t : TGs) : Prop :=
 ∀ (pins : List (Addr × Obj)) (s : Shared) (U : St) (H : Hp) (vs : List V) (us : List Value) (Q : St -> Hp -> Prop), Inv X pins U H s -> ZD3 vs us -> t vs U H Q ->
  wpAny (model X.prog X.w) X.A (assignInOrder ((assignEach ts X.env).map (·.2)) us) (fun _ s' => ∃ U' H', Inv X pins U' H' s' /\ Q U' H') X.xe s
abbrev ZM9 := V -> V -> V -> Hp -> (Hp -> Prop) -> Prop
def ZSS (X : Cx) (t : ZM9) : Prop :=
 ∀ (pins : List (Addr × Obj)) (s : Shared) (U : St) (H : Hp) (o i v : V) (ov iv u : Value) (Q : Hp -> Prop), Inv X pins U H s -> ZD0 o ov -> ZD0 i iv -> ZD0 v u -> t o i v H Q ->
  wpAny (model X.prog X.w) X.A (setItem ov iv u) (fun _ s' => ∃ H', Inv X pins U H' s' /\ Q H') X.xe s
abbrev TIp := V -> V -> Hp -> VK -> Prop
def PIp (X : Cx) (op : Operator) (t : TIp) : Prop :=
 ∀ (pins : List (Addr × Obj)) (s : Shared) (U : St) (H : Hp) (x y : V) (v u : Value) (Q : VK), Inv X pins U H s -> ZD0 x v -> ZD0 y u -> t x y H Q ->
  wpAny (model X.prog X.w) X.A (inplaceOp op v u) (EP X pins U Q) X.xe s
section
variable {X : Cx} {pos : Pos}
def ZGJ (i : Nat) : TG := fun v U H Q => Q (U.set i (some v)) H
theorem ZUm {i : Nat} {x : Str} (hN : X.N.Nodup) (hi : X.N[i]? = some x) (hx : Loc X.env.scope x) (hf : X.fn x = true \/ X.env.scope.names.lookup x = some .local := by first | exact .inl rfl | exact .inr rfl | assumption) : PG X (.Name x pos) (ZGJ i) := by
 intro pins s U H v u Q I r h
 exact wpAny_assign_Name (ZKP I hN hi hx r (fun s' I' => ⟨_, H, I', h⟩) hf)
def ZST : TGs := fun vs U H Q => vs = [] /\ Q U H
def ZPT (t : TG) (u : TGs) : TGs := fun vs U H Q => ∃ v r, vs = v :: r /\ t v U H fun U' H' => u r U' H' Q
theorem ZUn : PGs X [] ZST := by
 intro pins s U H vs us Q I r h
 obtain ⟨e, h⟩ := h
 subst e
 cases r
 exact assignInOrder_nil ⟨U, H, I, h⟩
theorem ZSU {e : Expr} {es : List Expr} {t : TG} {u : TGs} (h1 : PG X e t) (h2 : PGs X es u)
  (hs : (assignEach (e :: es) X.env).map (·.2) = assign e X.env :: (assignEach es X.env).map (·.2) := by rfl) : PGs X (e :: es) (ZPT t u) := by
 intro pins s U H vs us Q I r h
 obtain ⟨v, vr, e1, h⟩ := h
 subst e1
 cases r with
 | cons r rr =>
  rw [hs]
  refine assignInOrder_cons (thn (h1 pins s U H _ _ _ I r h) fun _ s1 ⟨U1, H1, I1, q1⟩ => ?_)
  exact h2 pins s1 U1 H1 _ _ Q I1 rr q1
def ZPU (K : W.Frag) (n : Nat) (t : TGs) : TG := fun v U H Q => ∃ a xs, v = .ref a /\ SqT K H a xs /\ xs.length = n /\ t xs U H Q
theorem ZWk {es : List Expr} {k : Nat} {t : TGs} {n : Nat} (hc : X.calm = true) (h : PGs X es t)
  (hn : (assignEach es X.env).length = n := by rfl) (hst : (assignEach es X.env).findIdx? (·.1) = none := by rfl) : PG X (.Tuple es k pos) (ZPU X.K n t) := by
 intro pins s U H v u Q I r hw
 obtain ⟨a, xs, e1, hq, hl, hw⟩ := hw
 subst e1
 cases r
 obtain ⟨its, rv, ht, hz⟩ := I.tuple hq
 refine assign_Tuple_tuple (I.ok.hd hc) ht (by simp [hn, <- hl, rv.length]) hst fun h' hx => ?_
 have I1 : Inv X pins U H { s with heap := h' } := I.kept (t' := s.toks) fun b o e => hx b o (Uq (Uk e)) e
 exact h pins _ U H xs _ Q I1 (by simpa using rv) hw
def ZSV (to ti : TE) (t : ZM9) : TG := fun v U H Q => to U H fun o H1 => ti U H1 fun i H2 => t o i v H2 fun H3 => Q U H3
theorem ZWl {o i : Expr} {to ti : TE} {t : ZM9} (ho : PE X o to) (hi : PE X i ti) (hs : ZSS X t)
  (ha : ∀ v, assign (.Subscript o i pos) X.env v = (do
   let ov <- holding [v] (eval o X.env)
   let iv <- holding [v, ov] (eval i X.env)
   standAt pos
   holding [v, ov, iv] (setItem ov iv v)
   release [v, ov, iv] []) := by intro _; rfl) : PG X (.Subscript o i pos) (ZSV to ti t) := by
 intro pins s U H v u Q I r h
 rw [ha]
 refine Ua (UT (thn (ho pins s U H _ I h) fun ov s1 ⟨x, H1, I1, r1, q1⟩ => ?_))
 refine Ua (UT (thn (hi pins s1 U H1 _ I1 q1) fun iv s2 ⟨y, H2, I2, r2, q2⟩ => ?_))
 refine Ua (wpAny_standAt (Ua (UT (thn (hs pins s2 U H2 x y v ov iv u _ I2 r1 r2 r q2) fun _ s3 ⟨H3, I3, q3⟩ => ?_))))
 exact wpAny_release ⟨U, H3, I3, q3⟩
def ZH9 (te : TE) (g : TG) : TS := fun D U H => te U H fun x H1 => g x U H1 D.nx
theorem ZWm {tg e : Expr} {te : TE} {g : TG} (he : PE X e te) (hg : PG X tg g) (hs : swapsWithSole [tg] e pos.line X.env = pure false := by rfl) (hw : swappedStores [tg] e X.env = pure none := by rfl)
  (h1 : (assignEach [tg] X.env).map (·.2) = [assign tg X.env] := by rfl) : PS X (.Assign [tg] e pos) (ZH9 te g) := by
 intro pins s U H D I h
 refine wpAny_Assign_stores (thn (he pins s U H _ I h) fun v s1 ⟨x, H1, I1, r1, q1⟩ => ?_) hs hw
 rw [h1]
 exact thn (hg pins s1 U H1 x v _ I1 r1 q1) fun _ s2 q => q
theorem ZQi {i : Nat} {x : Str} {e : Expr} {te : TE} {pos' : Pos} (hN : X.N.Nodup) (hi : X.N[i]? = some x) (hx : Loc X.env.scope x) (he : PE X e te) (hs : swapsWith e (some (.Name x pos')) pos.line X.env = pure false := by rfl) (hf : X.fn x = true \/ X.env.scope.names.lookup x = some .local := by first | exact .inl rfl | exact .inr rfl | assumption) :
  PS X (.Assign [.Name x pos'] e pos) (ZH9 te (ZGJ i)) := by
 intro pins s U H D I h
 refine wpAny_Assign_Name (thn (he pins s U H _ I h) fun v s1 ⟨y, H1, I1, r1, q1⟩ => ?_) hs
 exact ZKP I1 hN hi hx r1 (fun s2 I2 => ⟨_, H1, I2, q1⟩) hf
def ZSW (i : Nat) (te : TE) (ti : TIp) : TS := fun D U H => ∃ x, U[i]? = some (some x) /\ te U H fun y H1 => ti x y H1 fun z H2 => D.nx (U.set i (some z)) H2
theorem ZWn {i : Nat} {x : Str} {e : Expr} {te : TE} {op : Operator} {ti : TIp} {pos' : Pos} (hN : X.N.Nodup) (hi : X.N[i]? = some x) (hx : Loc X.env.scope x) (he : PE X e te) (ho : PIp X op ti) (hf : X.fn x = true \/ X.env.scope.names.lookup x = some .local := by first | exact .inl rfl | exact .inr rfl | assumption) :
  PS X (.AugAssign (.Name x pos') op e pos) (ZSW i te ti) := by
 intro pins s U H D I h
 obtain ⟨v, e1, h⟩ := h
 obtain ⟨m, hn, hl⟩ := I.loc
 have vis : Vis X.env.scope x := by rcases hx with k | k; exact .inl k; exact .inr (.inl k)
 obtain ⟨u, r, l⟩ := hl i x v hi e1 vis
 refine wpAny_AugAssign_Name ?_
 have go : wpAny (model X.prog X.w) X.A (eval e X.env) (fun w s₂ => wpAny (model X.prog X.w) X.A (inplaceOp op u w) (fun r s₃ => wpAny (model X.prog X.w) X.A (storeName X.env x r) (fun _ => SP X pins D .next) X.xe s₃) X.xe s₂) X.xe s := by
  refine thn (he pins s U H _ I h) fun w s1 ⟨y, H1, I1, r1, q1⟩ => ?_
  refine thn (ho pins s1 U H1 v y u w _ I1 r r1 q1) fun z s2 ⟨zv, H2, I2, r2, q2⟩ => ?_
  exact ZKP I2 hN hi hx r2 (fun s3 I3 => ⟨_, H2, I3, q2⟩) hf
 rcases l with ⟨hk, hm⟩ | ⟨hk, c, hc, hcell⟩
 ·exact wpAny_loadName_local I.ok.kind hk hn hm go
 ·rcases hk with hk | hk
  ·exact wpAny_loadName_cell I.ok.kind hk hc hcell go
  ·rcases hx with k | k
   ·have : X.env.scope.names.lookup x = some .free := hk
    rw [k] at this; cases this
   ·have : X.env.scope.names.lookup x = some .free := hk
    rw [k] at this; cases this
def ZNA (c : TT) (tb : TS) : TS := fun D U H => ∃ W : Nat -> St -> Hp -> Prop, (∃ m, W m U H) /\ ∀ m U H, W m U H ->
 c U H fun b H1 => if b = true then ∃ N : St -> Hp -> Prop, (∀ U' H', N U' H' -> ∃ m', m' < m /\ W m' U' H') /\ tb { D with nx := N, ct := N, bk := D.nx } U H1 else D.nx U H1
theorem ZSX {c : Expr} {body : List Stmt} {tc : TT} {tb : TS} (hp : PassesOwn (model X.prog X.w) X.A X.env X.xe) (hc : PT X c tc) (hb : PSs X body tb) : PS X (.While c body [] pos) (ZNA tc tb) := by
 intro pins s U H D I h
 obtain ⟨W, ⟨m0, w0⟩, turn⟩ := h
 refine wpAny_While (codeAny_whileLoop (fun n s' => ∃ U' H', Inv X pins U' H' s' /\ W n U' H') ?_ m0 ⟨U, H, I, w0⟩)
 rintro n s1 ⟨U1, H1, I1, w1⟩
 refine wpAny_passesOwn hp (thn (hc pins s1 U1 H1 _ I1 (turn n U1 H1 w1)) fun b s2 ⟨H2, I2, q2⟩ => ?_)
 cases b with
 | true =>
  obtain ⟨N, hN, q2⟩ := q2
  rw [if_pos rfl]
  refine wpAny_passesOwn hp (thn (hb pins s2 U1 H2 _ I2 q2) fun f s3 q3 => ?_)
  cases f with
  | next =>
   obtain ⟨U3, H3, I3, n3⟩ := q3
   obtain ⟨m', hm, w3⟩ := hN U3 H3 n3
   exact ⟨m', hm, U3, H3, I3, w3⟩
  | cont =>
   obtain ⟨U3, H3, I3, n3⟩ := q3
   obtain ⟨m', hm, w3⟩ := hN U3 H3 n3
   exact ⟨m', hm, U3, H3, I3, w3⟩
  | brk => exact q3
  | ret v => exact q3
 | false =>
  rw [if_neg Ut]
  exact wpAny_execs_nil ⟨U1, H2, I2, q2⟩
end
structure It where
 go : Nat -> Hp -> Prop
 yld : Nat -> Hp -> V -> Hp -> Prop
 stop : Nat -> Hp -> Prop
def ZFQ (X : Cx) (pins : List (Addr × Obj)) (H : Hp) (b : Addr) : Prop :=
 H b = none /\ b ≠ X.env.locals /\ b ∉ X.fs /\ (b ∈ X.ex \/ X.s₀.heap.objs.size <= b) /\ (∀ x c, X.env.cells.lookup x = some c -> c ≠ b) /\ ∀ p ∈ X.pn ++ pins, p.1 ≠ b
theorem Inv.fpOk {X : Cx} {pins : List (Addr × Obj)} {U : St} {H H' : Hp} {s : Shared} {b : Addr} (I : Inv X pins U H s) (hb : s.heap.objs.size <= b) (hn : H' b = none) : ZFQ X pins H' b := by
 refine ⟨hn, Nat.ne_of_gt (Ue I.lt hb), I.nofs hb, .inr (Uz I.sz hb), fun x c e z => ?_, fun p hp z => ?_⟩
 ·obtain ⟨v, q⟩ := I.cell x c e
  exact absurd (Ue q.lt (by rw [z]; exact hb)) (Vr _)
 ·exact absurd (Ue (Uk (I.pin p hp).1) (by rw [z]; exact hb)) (Vr _)
structure ZJK (P : Program) (w : World) (K : W.Frag) (tg : Expr) (J : It) (fp : List Addr) (it : Addr) (tn : Nat -> Heap -> Prop) : Prop where
 mem : it ∈ fp
 obj : ∀ i h, tn i h -> ∀ b ∈ fp, ∃ o, h.get? b = some o /\ ∀ v, o.data ≠ .cell v
 keep : ∀ i h h', tn i h -> (∀ b ∈ fp, ∀ o, h.get? b = some o -> h'.get? b = some o) -> tn i h'
 item : ∀ (X : Cx), X.prog = P -> X.w = w -> X.K = K -> X.calm = true -> ∀ (i : Nat) (pins : List (Addr × Obj)) (s : Shared) (U : St) (H : Hp) (E : Value -> Shared -> Prop), Inv X pins U H s -> (∀ b ∈ fp, ZFQ X pins H b) -> tn i s.heap -> J.go i H ->
  wpAny (model P w) X.A (pyNext (.ref it)) (fun r s1 => ∃ u, r = some u /\
   wpAny (model P w) X.A (letOwnedTupleGo tg (.ref it) u) (fun _ s2 => ∃ x H', Inv X pins U H' s2 /\ ZD0 x u /\ J.yld i H x H' /\ tn (i + 1) s2.heap /\ ∀ b ∈ fp, H' b = none) E s1) E s
 done : ∀ (X : Cx), X.prog = P -> X.w = w -> X.K = K -> X.calm = true -> ∀ (i : Nat) (pins : List (Addr × Obj)) (s : Shared) (U : St) (H : Hp) (E : Value -> Shared -> Prop), Inv X pins U H s -> (∀ b ∈ fp, ZFQ X pins H b) -> tn i s.heap -> J.stop i H ->
  wpAny (model P w) X.A (pyNext (.ref it)) (fun r s1 => r = none /\ Inv X pins U H s1) E s
 self : ∀ (A : Around) (i : Nat) (s : Shared) (Q : Value -> Shared -> Prop) (E : Value -> Shared -> Prop), tn i s.heap -> Q (.ref it) s -> wpAny (model P w) A (pyIter (.ref it)) Q E s
abbrev TI := St -> Hp -> (It -> Hp -> Prop) -> Prop
def PIE (X : Cx) (pins : List (Addr × Obj)) (U : St) (tg : Expr) (R : It -> Hp -> Prop) (itv : Value) (s2 : Shared) : Prop :=
 ∃ (it : Addr) (fp : List Addr) (tn : Nat -> Heap -> Prop) (J : It) (H' : Hp), itv = .ref it /\ Inv X pins U H' s2 /\ ZJK X.prog X.w X.K tg J fp it tn /\ tn 0 s2.heap /\ (∀ b ∈ fp, ZFQ X pins H' b) /\ R J H'
def PI (X : Cx) (tg iter : Expr) (wi : TI) : Prop :=
 ∀ (pins : List (Addr × Obj)) (s : Shared) (U : St) (H : Hp) (R : It -> Hp -> Prop), Inv X pins U H s -> wi U H R ->
  wpAny (model X.prog X.w) X.A (eval iter X.env) (fun v s1 => wpAny (model X.prog X.w) X.A (pyIter v) (PIE X pins U tg R) X.xe s1) X.xe s
theorem ZJx {M : Model} {A : Around} {E : Value -> Shared -> Prop} {s : Shared} {tg : Expr} {it : Addr} {u : Value} {o : Obj} {n : String} {vs : Array Value} {Q : Unit -> Shared -> Prop} (ho : s.heap.get? it = some o) (hc : o.cls = .type n) (hd : o.data = .fields vs)
    (hn : ["enumerate", "zip", "dict_itemiterator", "dict_reverseitemiterator", "odict_iterator", "itertools.zip_longest", "itertools.pairwise"].contains n = false) (hQ : Q () s) : wpAny M A (letOwnedTupleGo tg (.ref it) u) Q E s := by
  unfold letOwnedTupleGo
  cases tg <;> first
    | exact Uh hQ
    | (cases u <;> first
        | exact Uh hQ
        | (refine Ua (wpAny_load ho ?_)
           rw [hc, hd]
           show wpAny M A (if (["enumerate", "zip", "dict_itemiterator", "dict_reverseitemiterator", "odict_iterator", "itertools.zip_longest", "itertools.pairwise"].contains n && vs[0]? == some (rawInt _)) = true then _ else _) Q E s
           rw [if_neg (by intro h; rw [hn, Vu] at h; cases h)]
           exact Uh hQ))
def Itl (K : W.Frag) (a : Addr) : It :=
 ⟨fun i H => ∃ xs x, SqL K H a xs /\ xs[i]? = some x, fun i H x H' => H' = H /\ ∀ xs, SqL K H a xs -> xs[i]? = some x, fun i H => ∃ xs, SqL K H a xs /\ xs.length <= i⟩
def Itt (K : W.Frag) (a : Addr) : It :=
 ⟨fun i H => ∃ xs x, SqT K H a xs /\ xs[i]? = some x, fun i H x H' => H' = H /\ ∀ xs, SqT K H a xs -> xs[i]? = some x, fun i H => ∃ xs, SqT K H a xs /\ xs.length <= i⟩
def Itr (lo : Int) (n : Nat) : It := ⟨fun i _ => i < n, fun i H x H' => H' = H /\ x = .int (lo + i), fun i _ => n <= i⟩
theorem ZL9 {P : Program} {w : World} {K : W.Frag} {tg : Expr} (a it : Addr) : ZJK P w K tg (Itl K a) [it] it (fun i h => h.IsListIter it a i) where
 mem := by simp
 obj := fun i h st b hb => by
  have e : b = it := by simpa using hb
  subst e
  obtain ⟨o, e, c, d⟩ := st
  exact ⟨o, e, fun v z => by rw [d] at z; cases z⟩
 keep := fun i h h' st k => st.at fun o e => k it (by simp) o e
 item := by
  intro X hP hw hK hc i pins s U H E I hf st hg
  subst hP hw hK
  obtain ⟨xs, x, hq, hx⟩ := hg
  obtain ⟨its, rv, p, hz⟩ := I.list hq
  obtain ⟨u, hu, ru⟩ := rv.get hx
  obtain ⟨f0, f1, f2, f3, f4, f5⟩ := hf it (by simp)
  refine wpAny_pyNext_list_item st p.isList (x := u) (by simpa using hu) fun h' st' sb => ?_
  have I1 : Inv X pins U H { s with heap := h' } := I.turned (t' := s.toks) (fun b o hb e => (sb.2 b hb).trans e) f0 f1 f3 f4 f5
  obtain ⟨o, e, c, d⟩ := id st'
  exact ⟨u, rfl, ZJx (s := { s with heap := h' }) e c d (by decide) ⟨x, H, I1, ru, ⟨rfl, fun ys hy => by rw [I.list_inj hy hq]; exact hx⟩, st', fun b hb => (hf b hb).1⟩⟩
 done := by
  intro X hP hw hK hc i pins s U H E I hf st hg
  subst hP hw hK
  obtain ⟨xs, hq, hx⟩ := hg
  obtain ⟨its, rv, p, hz⟩ := I.list hq
  obtain ⟨f0, f1, f2, f3, f4, f5⟩ := hf it (by simp)
  have hl := rv.length
  exact wpAny_pyNext_list_end (I.ok.hd hc) st p.isList (by simp; omega) fun h' eb => ⟨rfl, I.turned (t' := s.toks) (fun b o hb e => eb b o hb e) f0 f1 f3 f4 f5⟩
 self := fun _ _ _ _ _ st h => wpAny_pyIter_listiter st h
theorem ZKv {P : Program} {w : World} {K : W.Frag} {tg : Expr} (a it : Addr) : ZJK P w K tg (Itt K a) [it] it (fun i h => h.IsTupleIter it a i) where
 mem := by simp
 obj := fun i h st b hb => by
  have e : b = it := by simpa using hb
  subst e
  obtain ⟨o, e, c, d⟩ := st
  exact ⟨o, e, fun v z => by rw [d] at z; cases z⟩
 keep := fun i h h' st k => st.at fun o e => k it (by simp) o e
 item := by
  intro X hP hw hK hc i pins s U H E I hf st hg
  subst hP hw hK
  obtain ⟨xs, x, hq, hx⟩ := hg
  obtain ⟨its, rv, p, hz⟩ := I.tuple hq
  obtain ⟨u, hu, ru⟩ := rv.get hx
  obtain ⟨f0, f1, f2, f3, f4, f5⟩ := hf it (by simp)
  refine wpAny_pyNext_tuple_item st (show s.heap.IsTuple a its.toArray from p) (x := u) (by simpa using hu) fun h' st' sb => ?_
  have I1 : Inv X pins U H { s with heap := h' } := I.turned (t' := s.toks) (fun b o hb e => (sb.2 b hb).trans e) f0 f1 f3 f4 f5
  obtain ⟨o, e, c, d⟩ := id st'
  exact ⟨u, rfl, ZJx (s := { s with heap := h' }) e c d (by decide) ⟨x, H, I1, ru, ⟨rfl, fun ys hy => by rw [I.tuple_inj hy hq]; exact hx⟩, st', fun b hb => (hf b hb).1⟩⟩
 done := by
  intro X hP hw hK hc i pins s U H E I hf st hg
  subst hP hw hK
  obtain ⟨xs, hq, hx⟩ := hg
  obtain ⟨its, rv, p, hz⟩ := I.tuple hq
  obtain ⟨f0, f1, f2, f3, f4, f5⟩ := hf it (by simp)
  have hl := rv.length
  exact wpAny_pyNext_tuple_end (I.ok.hd hc) st (show s.heap.IsTuple a its.toArray from p) (by simp; omega) fun h' eb => ⟨rfl, I.turned (t' := s.toks) (fun b o hb e => eb b o hb e) f0 f1 f3 f4 f5⟩
 self := fun _ _ _ _ _ st h => wpAny_pyIter_tupleiter st h
theorem ZPV {P : Program} {w : World} {K : W.Frag} {tg : Expr} (it : Addr) (lo : Int) (n : Nat) : ZJK P w K tg (Itr lo n) [it] it (fun i h => IsRangeIter h it (lo + (i : Nat) * 1) ((n : Int) - (i : Nat)) 1) where
 mem := by simp
 obj := fun i h st b hb => by
  have e : b = it := by simpa using hb
  subst e
  exact ⟨_, st, fun v z => by
   have z' : Data.fields _ = Data.cell v := z
   cases z'⟩
 keep := fun i h h' st k => k it (by simp) _ st
 item := by
  intro X hP hw hK hc i pins s U H E I hf st hg
  subst hP hw hK
  obtain ⟨f0, f1, f2, f3, f4, f5⟩ := hf it (by simp)
  have W := Walks.range (prog := X.prog) (w := X.w) (I.ok.hd hc) it lo 1 n
  refine W.item i s _ _ hg st fun v h' tk hv st' kk => ?_
  obtain ⟨t, rfl⟩ := hv
  have I1 : Inv X pins U H { s with heap := h', toks := tk } := I.turned (fun b o hb e => kk b o (by simpa using hb) e) f0 f1 f3 f4 f5
  refine ⟨_, rfl, ZJx (s := { s with heap := h', toks := tk }) (n := "range_iterator") st' rfl rfl (by decide) ⟨.int (lo + i), H, I1, ⟨t, ?_⟩, ⟨rfl, rfl⟩, st', fun b hb => (hf b hb).1⟩⟩
  rw [Int.mul_one]
 done := by
  intro X hP hw hK hc i pins s U H E I hf st hg
  subst hP hw hK
  obtain ⟨f0, f1, f2, f3, f4, f5⟩ := hf it (by simp)
  exact wpAny_pyNext_range_end (I.ok.hd hc) st (by have : n <= i := hg; omega) fun h' eb => ⟨rfl, I.turned (t' := s.toks) (fun b o hb e => eb b o hb e) f0 f1 f3 f4 f5⟩
 self := fun _ _ _ _ _ st h => wpAny_pyIter_rangeiter st h
section
variable {X : Cx} {tg : Expr}
def ZMv (K : W.Frag) (tl : TE) : TI := fun U H R => tl U H fun x H1 => ∃ a, x = .ref a /\ (∃ xs, SqL K H1 a xs) /\ R (Itl K a) H1
def ZPW (K : W.Frag) (tl : TE) : TI := fun U H R => tl U H fun x H1 => ∃ a, x = .ref a /\ (∃ xs, SqT K H1 a xs) /\ R (Itt K a) H1
theorem ZUo {l : Expr} {tl : TE} (hl : PE X l tl) : PI X tg l (ZMv X.K tl) := by
 intro pins s U H R I h
 refine thn (hl pins s U H _ I h) fun v s1 ⟨x, H1, I1, r1, q1⟩ => ?_
 obtain ⟨a, e, ⟨xs, hq⟩, q⟩ := q1
 subst e
 cases r1
 obtain ⟨its, rv, p, hz⟩ := I1.list hq
 refine wpAny_pyIter_list p.isList ?_
 refine ⟨s1.heap.objs.size, [s1.heap.objs.size], _, _, H1, rfl, I1.kept (t' := s1.toks) fun b o e => Ub _ e, ZL9 a _, ⟨_, Ug _ rfl, rfl, rfl⟩, fun b hb => ?_, q⟩
 have e : b = s1.heap.objs.size := by simpa using hb
 subst e
 exact I1.fpOk (Ud _) (I1.hok.fresh (Ud _))
theorem ZWo {l : Expr} {tl : TE} (hl : PE X l tl) : PI X tg l (ZPW X.K tl) := by
 intro pins s U H R I h
 refine thn (hl pins s U H _ I h) fun v s1 ⟨x, H1, I1, r1, q1⟩ => ?_
 obtain ⟨a, e, ⟨xs, hq⟩, q⟩ := q1
 subst e
 cases r1
 obtain ⟨its, rv, p, hz⟩ := I1.tuple hq
 refine wpAny_pyIter_tuple (show s1.heap.IsTuple a its.toArray from p) ?_
 refine ⟨s1.heap.objs.size, [s1.heap.objs.size], _, _, H1, rfl, I1.kept (t' := s1.toks) fun b o e => Ub _ e, ZKv a _, ⟨_, Ug _ rfl, rfl, rfl⟩, fun b hb => ?_, q⟩
 have e : b = s1.heap.objs.size := by simpa using hb
 subst e
 exact I1.fpOk (Ud _) (I1.hok.fresh (Ud _))
theorem ZSY {pins : List (Addr × Obj)} {U : St} {H : Hp} {s : Shared} {R : It -> Hp -> Prop} {E : Value -> Shared -> Prop} {lo hi : Int} {t u v : Tok} {tk : Nat} (I : Inv X pins U H s) (h1 : -(2 ^ 62) <= lo) (h2 : lo < 2 ^ 62) (h3 : -(2 ^ 62) <= hi) (h4 : hi < 2 ^ 62)
  (q : R (Itr lo (hi - lo).toNat) H) : wpAny (model X.prog X.w) X.A (pyIter (.ref s.heap.objs.size)) (PIE X pins U tg R) E { s with heap := s.heap.push { cls := .type "range", data := .fields #[.int lo t, .int hi u, .int 1 v] }, toks := tk } := by
 refine wpAny_pyIter_range (IsRange.new ..) (small_one h1 h2 h3 h4) ?_
 have I1 : Inv X pins U H { s with heap := s.heap.push { cls := .type "range", data := .fields #[.int lo t, .int hi u, .int 1 v] }, toks := tk } := I.kept fun b o e => Ub _ e
 refine ⟨(s.heap.push { cls := .type "range", data := .fields #[.int lo t, .int hi u, .int 1 v] }).objs.size, [(s.heap.push { cls := .type "range", data := .fields #[.int lo t, .int hi u, .int 1 v] }).objs.size], _, _, H, rfl,
  I1.kept (t' := tk) fun b o e => Ub _ e, ZPV _ lo (hi - lo).toNat, ?_, fun b hb => ?_, q⟩
 ·have e1 : lo + ((0 : Nat) : Int) * 1 = lo := by simp
  have e2 : (((hi - lo).toNat : Nat) : Int) - ((0 : Nat) : Int) = Builtin.Range.rangeSize lo hi 1 := by rw [rangeSize_one]; split <;> omega
  show IsRangeIter _ _ (lo + ((0 : Nat) : Int) * 1) ((((hi - lo).toNat : Nat) : Int) - ((0 : Nat) : Int)) 1
  rw [e1, e2]
  exact Ug _ rfl
 ·have e : b = (s.heap.push { cls := .type "range", data := .fields #[.int lo t, .int hi u, .int 1 v] }).objs.size := by simpa using hb
  subst e
  exact I1.fpOk (Ud _) (I1.hok.fresh (Ud _))
def ZPX (ta : TA) : TI := fun U H R => ta U H fun vs H1 => ∃ j : Int, vs = [.int j] /\ -(2 ^ 62) <= j /\ j < 2 ^ 62 /\ R (Itr 0 j.toNat) H1
theorem ZQj {a : Expr} {ta : TA} {p pos : Pos} (hg : Gl X "range") (hm : X.mg "range" = none) (ha : PA X [a] ta) (hs : starEach [a] X.env = [(false, eval a X.env)] := by rfl) : PI X tg (.Call (.Name "range" p) [a] [] pos) (ZPX ta) := by
 intro pins s U H R I h
 refine Call_ (ZGY I hg hm boot_range (PyProof.Rows.callWith_type1 (thn (ha pos pins s U H _ I h) fun us s1 ⟨vs, H1, I1, r1, q1⟩ => ?_) hs rfl))
 obtain ⟨j, e, q1, q2, q⟩ := q1
 subst e
 cases r1 with
 | cons r rr =>
  cases rr
  obtain ⟨t, rfl⟩ := r
  exact call_range_1 (ZSY I1 (by omega) (by omega) q1 q2 (by simpa using q))
def ZSZ (wi : TI) (g : TG) (tb : TS) : TS := fun D U H => wi U H fun J H1 => ∃ W : Nat -> Nat -> St -> Hp -> Prop, (∃ m, W 0 m U H1) /\ ∀ i m U H, W i m U H ->
 (J.stop i H /\ D.nx U H) \/ (J.go i H /\ ∃ N : St -> Hp -> Prop, (∀ U' H', N U' H' -> ∃ m', m' < m /\ W (i + 1) m' U' H') /\ ∀ x H', J.yld i H x H' -> g x U H' fun U2 H2 => tb { D with nx := N, ct := N, bk := D.nx } U2 H2)
def ZIP (fp : List Addr) (h : Heap) : List (Addr × Obj) := fp.filterMap fun b => (h.get? b).map fun o => (b, o)
theorem ZF3 {fp : List Addr} {h : Heap} {b : Addr} {o : Obj} (hb : b ∈ fp) (e : h.get? b = some o) : (b, o) ∈ ZIP fp h := List.mem_filterMap.mpr ⟨b, hb, by rw [e]; rfl⟩
theorem ZQk {fp : List Addr} {h : Heap} {p : Addr × Obj} (hp : p ∈ ZIP fp h) : p.1 ∈ fp /\ h.get? p.1 = some p.2 := by
 obtain ⟨b, hb, e⟩ := List.mem_filterMap.mp hp
 cases q : h.get? b with
 | none => rw [q] at e; cases e
 | some o =>
  rw [q] at e
  have e' : (b, o) = p := Option.some.inj e
  subst e'
  exact ⟨hb, q⟩
theorem Inv.pinned {pins : List (Addr × Obj)} {U : St} {H : Hp} {s : Shared} {fp : List Addr} (I : Inv X pins U H s) (hf : ∀ b ∈ fp, ZFQ X pins H b) (ho : ∀ b ∈ fp, ∃ o, s.heap.get? b = some o /\ ∀ v, o.data ≠ .cell v) : Inv X (pins ++ ZIP fp s.heap) U H s :=
 I.pins_of fun p hp => (UI.mp hp).elim (fun z => I.pin p (Uy _ z)) fun z => by
  obtain ⟨hb, e⟩ := ZQk z
  obtain ⟨f0, f1, f2, _⟩ := hf p.1 hb
  obtain ⟨o, e', d⟩ := ho p.1 hb
  rw [e] at e'; cases e'
  exact ⟨e, f0, f1, f2, d⟩
theorem Inv.unpinned {pins pl : List (Addr × Obj)} {U : St} {H : Hp} {s : Shared} (I : Inv X (pins ++ pl) U H s) : Inv X pins U H s := I.pins_of fun p hp => I.pin p (Uy _ (List.mem_append_left _ hp))
theorem ZWp {iter : Expr} {body : List Stmt} {wi : TI} {g : TG} {tb : TS} {pos : Pos} (hp : PassesOwn (model X.prog X.w) X.A X.env X.xe) (hc : X.calm = true) (hi : PI X tg iter wi) (hg : PG X tg g) (hb : PSs X body tb)
  (hs : ∀ x, foldedSetIterable iter X.env x = pure x := by intro _; rfl) : PS X (.For tg iter body [] pos) (ZSZ wi g tb) := by
 intro pins s U H D I h
 refine wpAny_For (thn (hi pins s U H _ I h) fun v s1 h1 => thn h1 fun itv s2 h2 => ?_) hs
 obtain ⟨it, fp, tn, J, H2, e, I2, T, st2, f2, W, ⟨m0, w0⟩, turn⟩ := h2
 subst e
 -- what stays true of the iterator's objects through the loop
 have stat : ∀ {H' : Hp}, (∀ b ∈ fp, H' b = none) -> ∀ b ∈ fp, ZFQ X pins H' b := fun hn b hb => ⟨hn b hb, (f2 b hb).2⟩
 refine codeAny_forLoop_any (fun n s' => ∃ i U' H', Inv X pins U' H' s' /\ tn i s'.heap /\ (∀ b ∈ fp, H' b = none) /\ W i n U' H') ?_ m0 ⟨0, U, H2, I2, st2, fun b hb => (f2 b hb).1, w0⟩
 rintro n s3 ⟨i, U3, H3, I3, st3, fr3, w3⟩
 rcases turn i n U3 H3 w3 with ⟨stop, qn⟩ | ⟨go, N, hN, step⟩
 ·refine wpAny_passesOwn hp (thn (T.done X rfl rfl rfl hc i pins s3 U3 H3 X.xe I3 (stat fr3) st3 stop) fun r s4 ⟨hr, I4⟩ => ?_)
  subst hr
  exact wpAny_execs_nil ⟨U3, H3, I4, qn⟩
 ·refine wpAny_passesOwn hp (thn (T.item X rfl rfl rfl hc i pins s3 U3 H3 X.xe I3 (stat fr3) st3 go) fun r s4 ⟨u, hr, h4⟩ => ?_)
  subst hr
  refine wpAny_passesOwn hp (thn h4 fun _ s5 ⟨x, H5, I5, r5, y5, st5, fr5⟩ => ?_)
  have I5' := I5.pinned (stat fr5) (T.obj _ _ st5)
  refine wpAny_passesOwn hp (thn (hg _ s5 U3 H5 x u _ I5' r5 (step x H5 y5)) fun _ s6 ⟨U6, H6, I6, q6⟩ => ?_)
  refine wpAny_passesOwn hp (thn (hb _ s6 U6 H6 _ I6 q6) fun f s7 q7 => ?_)
  have again : ∀ {U7 : St} {H7 : Hp}, Inv X (pins ++ ZIP fp s5.heap) U7 H7 s7 -> N U7 H7 -> ∃ m, m < n /\ ∃ i U' H', Inv X pins U' H' s7 /\ tn i s7.heap /\ (∀ b ∈ fp, H' b = none) /\ W i m U' H' := fun {U7 H7} I7 n7 => by
   obtain ⟨m', hm, w7⟩ := hN U7 H7 n7
   refine ⟨m', hm, i + 1, U7, H7, I7.unpinned, T.keep _ _ _ st5 fun b hb o e => (I7.pin (b, o) (Uy _ (Uy _ (ZF3 hb e)))).1, fun b hb => ?_, w7⟩
   obtain ⟨o, e, d⟩ := T.obj _ _ st5 b hb
   exact (I7.pin (b, o) (Uy _ (Uy _ (ZF3 hb e)))).2.1
  cases f with
  | next => obtain ⟨U7, H7, I7, n7⟩ := q7; exact again I7 n7
  | cont => obtain ⟨U7, H7, I7, n7⟩ := q7; exact again I7 n7
  | brk => obtain ⟨U7, H7, I7, q7⟩ := q7; exact ⟨U7, H7, I7.unpinned, q7⟩
  | ret v => obtain ⟨x7, U7, H7, I7, r7, q7⟩ := q7; exact ⟨x7, U7, H7, I7.unpinned, r7, q7⟩
end
theorem ZSa {K : W.Frag} {a : Addr} {xs : List V} {g : TG} {tb : TS} {D : ZEx} {U : St} {H : Hp} (Pv : Nat -> St -> Hp -> Prop) (h0 : Pv 0 U H) (hl : ∀ i U H, i <= xs.length -> Pv i U H -> SqL K H a xs)
  (hs : ∀ i x U H, xs[i]? = some x -> Pv i U H -> g x U H fun U2 H2 => tb { D with nx := Pv (i + 1), ct := Pv (i + 1), bk := D.nx } U2 H2) (hd : ∀ U H, Pv xs.length U H -> D.nx U H) :
  ∃ W : Nat -> Nat -> St -> Hp -> Prop, (∃ m, W 0 m U H) /\ ∀ i m U H, W i m U H ->
   ((Itl K a).stop i H /\ D.nx U H) \/ ((Itl K a).go i H /\ ∃ N : St -> Hp -> Prop, (∀ U' H', N U' H' -> ∃ m', m' < m /\ W (i + 1) m' U' H') /\ ∀ x H', (Itl K a).yld i H x H' -> g x U H' fun U2 H2 => tb { D with nx := N, ct := N, bk := D.nx } U2 H2) := by
 refine ⟨fun i m U H => m = xs.length - i /\ i <= xs.length /\ Pv i U H, ⟨xs.length, by simp, UO _, h0⟩, ?_⟩
 rintro i m U H ⟨rfl, hi, p⟩
 have q := hl i U H hi p
 by_cases hlt : i < xs.length
 ·refine .inr ⟨⟨xs, xs[i], q, by simp [hlt]⟩, Pv (i + 1), fun U' H' p' => ⟨xs.length - (i + 1), by omega, rfl, hlt, p'⟩, fun x H' y => ?_⟩
  obtain ⟨e, y⟩ := y
  subst e
  exact hs i x U _ (y xs q) p
 ·have e : i = xs.length := by omega
  subst e
  exact .inl ⟨⟨xs, q, Ud _⟩, hd U H p⟩
theorem ZUp {K : W.Frag} {a : Addr} {xs : List V} {g : TG} {tb : TS} {D : ZEx} {U : St} {H : Hp} (Pv : Nat -> St -> Hp -> Prop) (h0 : Pv 0 U H) (hl : ∀ i U H, i <= xs.length -> Pv i U H -> SqT K H a xs)
  (hs : ∀ i x U H, xs[i]? = some x -> Pv i U H -> g x U H fun U2 H2 => tb { D with nx := Pv (i + 1), ct := Pv (i + 1), bk := D.nx } U2 H2) (hd : ∀ U H, Pv xs.length U H -> D.nx U H) :
  ∃ W : Nat -> Nat -> St -> Hp -> Prop, (∃ m, W 0 m U H) /\ ∀ i m U H, W i m U H ->
   ((Itt K a).stop i H /\ D.nx U H) \/ ((Itt K a).go i H /\ ∃ N : St -> Hp -> Prop, (∀ U' H', N U' H' -> ∃ m', m' < m /\ W (i + 1) m' U' H') /\ ∀ x H', (Itt K a).yld i H x H' -> g x U H' fun U2 H2 => tb { D with nx := N, ct := N, bk := D.nx } U2 H2) := by
 refine ⟨fun i m U H => m = xs.length - i /\ i <= xs.length /\ Pv i U H, ⟨xs.length, by simp, UO _, h0⟩, ?_⟩
 rintro i m U H ⟨rfl, hi, p⟩
 have q := hl i U H hi p
 by_cases hlt : i < xs.length
 ·refine .inr ⟨⟨xs, xs[i], q, by simp [hlt]⟩, Pv (i + 1), fun U' H' p' => ⟨xs.length - (i + 1), by omega, rfl, hlt, p'⟩, fun x H' y => ?_⟩
  obtain ⟨e, y⟩ := y
  subst e
  exact hs i x U _ (y xs q) p
 ·have e : i = xs.length := by omega
  subst e
  exact .inl ⟨⟨xs, q, Ud _⟩, hd U H p⟩
theorem ZQl {lo : Int} {n : Nat} {g : TG} {tb : TS} {D : ZEx} {U : St} {H : Hp} (Pv : Nat -> St -> Hp -> Prop) (h0 : Pv 0 U H)
  (hs : ∀ i U H, i < n -> Pv i U H -> g (.int (lo + i)) U H fun U2 H2 => tb { D with nx := Pv (i + 1), ct := Pv (i + 1), bk := D.nx } U2 H2) (hd : ∀ U H, Pv n U H -> D.nx U H) :
  ∃ W : Nat -> Nat -> St -> Hp -> Prop, (∃ m, W 0 m U H) /\ ∀ i m U H, W i m U H ->
   ((Itr lo n).stop i H /\ D.nx U H) \/ ((Itr lo n).go i H /\ ∃ N : St -> Hp -> Prop, (∀ U' H', N U' H' -> ∃ m', m' < m /\ W (i + 1) m' U' H') /\ ∀ x H', (Itr lo n).yld i H x H' -> g x U H' fun U2 H2 => tb { D with nx := N, ct := N, bk := D.nx } U2 H2) := by
 refine ⟨fun i m U H => m = n - i /\ i <= n /\ Pv i U H, ⟨n, by simp, UO _, h0⟩, ?_⟩
 rintro i m U H ⟨rfl, hi, p⟩
 by_cases hlt : i < n
 ·refine .inr ⟨hlt, Pv (i + 1), fun U' H' p' => ⟨n - (i + 1), by omega, rfl, hlt, p'⟩, fun x H' y => ?_⟩
  obtain ⟨e, y⟩ := y
  subst e y
  exact hs i U _ hlt p
 ·have e : i = n := by omega
  subst e
  exact .inl ⟨Ud _, hd U H p⟩
abbrev R2 := V -> V -> Hp -> VK -> Prop
def OpR (X : Cx) (f : Value -> Value -> Sem Value) (r : R2) : Prop :=
 ∀ (pins : List (Addr × Obj)) (s : Shared) (U : St) (H : Hp) (x y : V) (v u : Value) (Q : VK), Inv X pins U H s -> ZD0 x v -> ZD0 y u -> r x y H Q ->
  wpAny (model X.prog X.w) X.A (f v u) (EP X pins U Q) X.xe s
def UnR (X : Cx) (f : Value -> Sem Value) (r : V -> Hp -> VK -> Prop) : Prop :=
 ∀ (pins : List (Addr × Obj)) (s : Shared) (U : St) (H : Hp) (x : V) (v : Value) (Q : VK), Inv X pins U H s -> ZD0 x v -> r x H Q ->
  wpAny (model X.prog X.w) X.A (f v) (EP X pins U Q) X.xe s
def ZEd (X : Cx) (f : Value) (r : List V -> Hp -> VK -> Prop) : Prop :=
 ∀ (pins : List (Addr × Obj)) (s : Shared) (U : St) (H : Hp) (xs : List V) (us : List Value) (Q : VK), Inv X pins U H s -> ZD3 xs us -> r xs H Q ->
  wpAny (model X.prog X.w) X.A (call f us) (EP X pins U Q) X.xe s
def tOp (r : R2) (ta tb : TE) : TE := fun U H Q => ta U H fun x H1 => tb U H1 fun y H2 => r x y H2 Q
def tUn (r : V -> Hp -> VK -> Prop) (ta : TE) : TE := fun U H Q => ta U H fun x H1 => r x H1 Q
def rI (C : Int -> Int -> Prop) (g : Int -> Int -> V) : R2 := fun x y H Q => ∃ i j, x = .int i /\ y = .int j /\ C i j /\ Q (g i j) H
def rI0 (g : Int -> Int -> V) : R2 := fun x y H Q => ∃ i j, x = .int i /\ y = .int j /\ Q (g i j) H
def rU (g : Int -> V) : V -> Hp -> VK -> Prop := fun x H Q => ∃ i, x = .int i /\ Q (g i) H
section
variable {X : Cx} {a b c : Expr} {ta tb tc : TE} {pos : Pos}
theorem ZSb (ha : PE X a ta) (hb : PE X b tb) {pins : List (Addr × Obj)} {s : Shared} {U : St} {H : Hp} {R : V -> V -> Hp -> Prop} (I : Inv X pins U H s)
  (h : ta U H fun x H1 => tb U H1 fun y H2 => R x y H2) {Q : Value -> Shared -> Prop} {f : Value -> Value -> Sem Value}
  (hf : ∀ v u s2 x y H2, Inv X pins U H2 s2 -> ZD0 x v -> ZD0 y u -> R x y H2 -> wpAny (model X.prog X.w) X.A (f v u) Q X.xe s2) :
  wpAny (model X.prog X.w) X.A (eval a X.env) (fun v s₁ => wpAny (model X.prog X.w) X.A (eval b X.env) (fun u s₂ => wpAny (model X.prog X.w) X.A (f v u) Q X.xe s₂) X.xe s₁) X.xe s := by
 refine thn (ha pins s U H _ I h) fun v s1 ⟨x, H1, I1, r1, q1⟩ => ?_
 refine thn (hb pins s1 U H1 _ I1 q1) fun u s2 ⟨y, H2, I2, r2, q2⟩ => ?_
 exact hf v u s2 x y H2 I2 r1 r2 q2
theorem ZYY {op : Operator} {r : R2} (ho : OpR X (binaryOp op) r) (ha : PE X a ta) (hb : PE X b tb) : PE X (.BinOp a op b pos) (tOp r ta tb) := by
 intro pins s U H Q I h
 exact wpAny_BinOp (ZSb ha hb I h fun v u s2 x y H2 I2 rx ry q => ho pins s2 U H2 x y v u Q I2 rx ry q)
theorem ZYZ {op : UnaryOp} {r : V -> Hp -> VK -> Prop} (ho : UnR X (unaryOp op) r) (ha : PE X a ta) : PE X (.UnaryOp op a pos) (tUn r ta) := by
 intro pins s U H Q I h
 exact UnaryOp_ (thn (ha pins s U H _ I h) fun v s1 ⟨x, H1, I1, r1, q1⟩ => ho pins s1 U H1 x v Q I1 r1 q1)
theorem opI {f : Value -> Value -> Sem Value} {C : Int -> Int -> Prop} {g : Int -> Int -> Int}
  (rule : ∀ (i j : Int) (t u : Tok) (s : Shared) (Q : Value -> Shared -> Prop) (E : Value -> Shared -> Prop), C i j -> Q (.int (g i j) s.toks) { s with toks := s.toks + 1 } -> wpAny (model X.prog X.w) X.A (f (.int i t) (.int j u)) Q E s) :
  OpR X f (rI C fun i j => .int (g i j)) := by
 intro pins s U H x y v u Q I rx ry h
 obtain ⟨i, j, rfl, rfl, hc, q⟩ := h
 obtain ⟨t, rfl⟩ := rx
 obtain ⟨t', rfl⟩ := ry
 exact rule i j t t' s _ _ hc ⟨.int (g i j), H, I.tok _, ⟨_, rfl⟩, q⟩
theorem ZSc {f : Value -> Value -> Sem Value} {g : Int -> Int -> Int}
  (rule : ∀ (i j : Int) (t u : Tok) (s : Shared) (Q : Value -> Shared -> Prop) (E : Value -> Shared -> Prop), Q (.int (g i j) s.toks) { s with toks := s.toks + 1 } -> wpAny (model X.prog X.w) X.A (f (.int i t) (.int j u)) Q E s) :
  OpR X f (rI0 fun i j => .int (g i j)) := by
 intro pins s U H x y v u Q I rx ry h
 obtain ⟨i, j, rfl, rfl, q⟩ := h
 obtain ⟨t, rfl⟩ := rx
 obtain ⟨t', rfl⟩ := ry
 exact rule i j t t' s _ _ ⟨.int (g i j), H, I.tok _, ⟨_, rfl⟩, q⟩
theorem ZPY {f : Value -> Value -> Sem Value} {g : Int -> Int -> Bool}
  (rule : ∀ (i j : Int) (t u : Tok) (s : Shared) (Q : Value -> Shared -> Prop) (E : Value -> Shared -> Prop), Q (.bool (g i j)) s -> wpAny (model X.prog X.w) X.A (f (.int i t) (.int j u)) Q E s) :
  OpR X f (rI0 fun i j => .bl (g i j)) := by
 intro pins s U H x y v u Q I rx ry h
 obtain ⟨i, j, rfl, rfl, q⟩ := h
 obtain ⟨t, rfl⟩ := rx
 obtain ⟨t', rfl⟩ := ry
 exact rule i j t t' s _ _ ⟨.bl (g i j), H, I, rfl, q⟩
def ZSd (i j : Int) : Prop := 0 <= j /\ j <= 1000000 /\ i.natAbs < 2 ^ 64
def ZSe (i j : Int) : Prop := (-(2 ^ 64) < i /\ i < 2 ^ 64) \/ (-(2 ^ 64) < j /\ j < 2 ^ 64)
theorem ZSe.ok {i j : Int} (h : ZSe i j) : IntMulOk i j := by
 rcases h with ⟨h1, h2⟩ | ⟨h1, h2⟩
 ·exact .of_left (intBits_le_64 h1 h2)
 ·exact .of_right (intBits_le_64 h1 h2)
theorem ZEU : OpR X (binaryOp .Add) (rI0 fun i j => .int (i + j)) := ZSc fun _ _ _ _ _ _ _ q => add_int q
theorem ZFG : OpR X (binaryOp .Sub) (rI0 fun i j => .int (i - j)) := ZSc fun _ _ _ _ _ _ _ q => sub_int q
theorem ZHZ : OpR X (binaryOp .Mod) (rI (fun _ j => 0 < j) fun i j => .int (i % j)) := opI fun i j _ _ _ _ _ hc q => by
 have h1 : (0 : Int) < j := hc
 exact mod_int' (by omega) (by rw [Int.fmod_eq_emod_of_nonneg i (by omega)]; exact q)
theorem ZNB : OpR X (binaryOp .Pow) (rI ZSd fun i j => .int (i ^ j.toNat)) := opI fun _ _ _ _ _ _ _ hc q => pow_int_small hc.1 hc.2.1 hc.2.2 q
theorem ZOs : OpR X (inplaceOp .Add) (rI0 fun i j => .int (i + j)) := ZSc fun _ _ _ _ _ _ _ q => iadd_int q
theorem ZUq : OpR X (inplaceOp .Mult) (rI ZSe fun i j => .int (i * j)) := opI fun _ _ _ _ _ _ _ hc q => imul_int q hc.ok
theorem unI {f : Value -> Sem Value} {g : Int -> Int}
  (rule : ∀ (i : Int) (t : Tok) (s : Shared) (Q : Value -> Shared -> Prop) (E : Value -> Shared -> Prop), Q (.int (g i) s.toks) { s with toks := s.toks + 1 } -> wpAny (model X.prog X.w) X.A (f (.int i t)) Q E s) :
  UnR X f (rU fun i => .int (g i)) := by
 intro pins s U H x v Q I rx h
 obtain ⟨i, rfl, q⟩ := h
 obtain ⟨t, rfl⟩ := rx
 exact rule i t s _ _ ⟨.int (g i), H, I.tok _, ⟨_, rfl⟩, q⟩
theorem ZKw : UnR X (unaryOp .USub) (rU fun i => .int (-i)) := unI fun _ _ _ _ _ q => neg_int q
end
def ZWq : V -> V -> Bool
 | .non, .non => true | .non, .int _ => true | .int _, .non => true | .non, .bl _ => true | .bl _, .non => true | .non, .str _ => true | .str _, .non => true
 | .int _, .int _ => true | .bl _, .bl _ => true | .str _, .str _ => true | .byt _, .byt _ => true
 | .int _, .str _ => true | .str _, .int _ => true | .bl _, .str _ => true | .str _, .bl _ => true
 | _, _ => false
def rEq : R2 := fun x y H Q => ZWq x y = true /\ Q (.bl (decide (x = y))) H
def rNe : R2 := fun x y H Q => ZWq x y = true /\ Q (.bl (!decide (x = y))) H
theorem ZOt {i j : Int} : decide (V.int i = V.int j) = (i == j) := by
 rw [Vm]
 simp
theorem ZQm {i j : Bool} : decide (V.bl i = V.bl j) = (i == j) := by
 rw [Vm]
 simp
theorem ZOu {i j : Str} : decide (V.str i = V.str j) = (i == j) := by
 rw [Vm]
 simp
theorem ZOv {i j : Array UInt8} : decide (V.byt i = V.byt j) = (i.toList == j.toList) := by
 rw [Vm]
 cases i
 cases j
 simp
section
variable {X : Cx} {a b c : Expr} {ta tb tc : TE} {pos : Pos}
theorem ZEK {pins : List (Addr × Obj)} {U : St} {H : Hp} {s : Shared} {Q : VK} {k k' : Bool} (I : Inv X pins U H s) (q : Q (.bl k) H) (e : k = k') : EP X pins U Q (.bool k') s := by
 subst e
 exact ⟨.bl k, H, I, rfl, q⟩
theorem ZJy : OpR X (compareOp .Eq) rEq := by
 intro pins s U H x y v u Q I rx ry h
 obtain ⟨hs, q⟩ := h
 cases x with
 | non =>
  cases rx
  cases y with
  | non => cases ry; exact PySem.EqNone.eq_none_none (ZEK I q (by simp))
  | bl j => cases ry; exact PySem.EqNone.eq_none_bool (ZEK I q (by simp))
  | int j => obtain ⟨t', rfl⟩ := ry; exact PySem.EqNone.eq_none_int (ZEK I q (by simp))
  | str j => obtain ⟨t', rfl⟩ := ry; exact PySem.EqNone.eq_none_str (ZEK I q (by simp))
  | _ => exact absurd (show false = true from hs) Ut
 | bl i =>
  cases rx
  cases y with
  | non => cases ry; exact PySem.EqNone.eq_bool_none (ZEK I q (by simp))
  | bl j => cases ry; exact eq_bool (ZEK I q ZQm)
  | str j => obtain ⟨t', rfl⟩ := ry; exact PySem.EqMixed.eq_bool_str (ZEK I q (by simp))
  | _ => exact absurd (show false = true from hs) Ut
 | int i =>
  obtain ⟨t, rfl⟩ := rx
  cases y with
  | non => cases ry; exact PySem.EqNone.eq_int_none (ZEK I q (by simp))
  | int j => obtain ⟨t', rfl⟩ := ry; exact eq_int (ZEK I q ZOt)
  | str j => obtain ⟨t', rfl⟩ := ry; exact PySem.EqMixed.eq_int_str (ZEK I q (by simp))
  | _ => exact absurd (show false = true from hs) Ut
 | str i =>
  obtain ⟨t, rfl⟩ := rx
  cases y with
  | non => cases ry; exact PySem.EqNone.eq_str_none (ZEK I q (by simp))
  | bl j => cases ry; exact PySem.EqMixed.eq_str_bool (ZEK I q (by simp))
  | int j => obtain ⟨t', rfl⟩ := ry; exact PySem.EqMixed.eq_str_int (ZEK I q (by simp))
  | str j => obtain ⟨t', rfl⟩ := ry; exact eq_str (ZEK I q ZOu)
  | _ => exact absurd (show false = true from hs) Ut
 | byt i =>
  obtain ⟨t, rfl⟩ := rx
  cases y with
  | byt j => obtain ⟨t', rfl⟩ := ry; exact PySem.W.eq_bytes (ZEK I q ZOv)
  | _ => exact absurd (show false = true from hs) Ut
 | _ => cases y <;> exact absurd (show false = true from hs) Ut
theorem ZPZ : OpR X (compareOp .NotEq) rNe := by
 intro pins s U H x y v u Q I rx ry h
 obtain ⟨hs, q⟩ := h
 cases x with
 | non =>
  cases rx
  cases y with
  | non => cases ry; exact PySem.EqNone.ne_none_none (ZEK I q (by simp))
  | bl j => cases ry; exact PySem.EqNone.ne_none_bool (ZEK I q (by simp))
  | int j => obtain ⟨t', rfl⟩ := ry; exact PySem.EqNone.ne_none_int (ZEK I q (by simp))
  | str j => obtain ⟨t', rfl⟩ := ry; exact PySem.EqNone.ne_none_str (ZEK I q (by simp))
  | _ => exact absurd (show false = true from hs) Ut
 | bl i =>
  cases rx
  cases y with
  | non => cases ry; exact PySem.EqNone.ne_bool_none (ZEK I q (by simp))
  | bl j => cases ry; exact ne_bool (ZEK I q (congrArg not ZQm))
  | str j => obtain ⟨t', rfl⟩ := ry; exact PySem.EqMixed.ne_bool_str (ZEK I q (by simp))
  | _ => exact absurd (show false = true from hs) Ut
 | int i =>
  obtain ⟨t, rfl⟩ := rx
  cases y with
  | non => cases ry; exact PySem.EqNone.ne_int_none (ZEK I q (by simp))
  | int j => obtain ⟨t', rfl⟩ := ry; exact ne_int (ZEK I q (congrArg not ZOt))
  | str j => obtain ⟨t', rfl⟩ := ry; exact PySem.EqMixed.ne_int_str (ZEK I q (by simp))
  | _ => exact absurd (show false = true from hs) Ut
 | str i =>
  obtain ⟨t, rfl⟩ := rx
  cases y with
  | non => cases ry; exact PySem.EqNone.ne_str_none (ZEK I q (by simp))
  | bl j => cases ry; exact PySem.EqMixed.ne_str_bool (ZEK I q (by simp))
  | int j => obtain ⟨t', rfl⟩ := ry; exact PySem.EqMixed.ne_str_int (ZEK I q (by simp))
  | str j => obtain ⟨t', rfl⟩ := ry; exact ne_str (ZEK I q (congrArg not ZOu))
  | _ => exact absurd (show false = true from hs) Ut
 | byt i =>
  obtain ⟨t, rfl⟩ := rx
  cases y with
  | byt j => obtain ⟨t', rfl⟩ := ry; exact PySem.W.ne_bytes (ZEK I q (congrArg not ZOv))
  | _ => exact absurd (show false = true from hs) Ut
 | _ => cases y <;> exact absurd (show false = true from hs) Ut
theorem ZGZ : OpR X (compareOp .Lt) (rI0 fun i j => .bl (decide (i < j))) := ZPY fun _ _ _ _ _ _ _ q => lt_int q
theorem ZF4 : OpR X (compareOp .LtE) (rI0 fun i j => .bl (decide (i <= j))) := ZPY fun _ _ _ _ _ _ _ q => le_int q
theorem ZYa : OpR X (compareOp .Gt) (rI0 fun i j => .bl (decide (j < i))) := ZPY fun _ _ _ _ _ _ _ q => gt_int q
theorem ZUI : OpR X (compareOp .GtE) (rI0 fun i j => .bl (decide (j <= i))) := ZPY fun _ _ _ _ _ _ _ q => ge_int q
theorem ZWr : OpR X (compareOp .Is) (fun x y H Q => y = .non /\ Q (.bl (decide (x = .non))) H) := by
 intro pins s U H x y v u Q I rx ry h
 obtain ⟨rfl, q⟩ := h
 cases ry
 refine is_none_gen (ZEK I q ?_)
 cases x <;> first
  | (cases rx; rfl)
  | (obtain ⟨t, rfl⟩ := rx; rfl)
theorem ZUr : OpR X (compareOp .IsNot) (fun x y H Q => y = .non /\ Q (.bl (!decide (x = .non))) H) := by
 intro pins s U H x y v u Q I rx ry h
 obtain ⟨rfl, q⟩ := h
 cases ry
 refine isnot_none_gen (ZEK I q ?_)
 cases x <;> first
  | (cases rx; rfl)
  | (obtain ⟨t, rfl⟩ := rx; rfl)
theorem ZEL (b : Expr) {op : CmpOp} (h : op ≠ .In := by decide) (h2 : op ≠ .NotIn := by decide) : behindInMarks op b = false := by
 have e1 : (op == CmpOp.In) = false := by cases op <;> first | rfl | exact absurd rfl h
 have e2 : (op == CmpOp.NotIn) = false := by cases op <;> first | rfl | exact absurd rfl h2
 cases b <;> simp [behindInMarks, e1, e2]
theorem ZUs {op : CmpOp} {r : R2} (ho : OpR X (compareOp op) r) (ha : PE X a ta) (hb : PE X b tb) (hm : behindInMarks op b = false) : PE X (.Compare a [op] [b] pos) (tOp r ta tb) := by
 intro pins s U H Q I h
 exact wpAny_Compare1 (ZSb ha hb I h fun v u s2 x y H2 I2 rx ry q => ho pins s2 U H2 x y v u Q I2 rx ry q) hm
def ZKx (t : TE) : TT := fun U H Q => t U H fun x H' => ∃ k, x = .bl k /\ Q k H'
theorem ZUt {op : CmpOp} {r : R2} (ho : OpR X (compareOp op) r) (ha : PE X a ta) (hb : PE X b tb) (hm : behindInMarks op b = false) : PT X (.Compare a [op] [b] pos) (ZKx (tOp r ta tb)) := by
 intro pins s U H Q I h
 refine wpAny_isTrue_Compare1 (thn (ha pins s U H _ I h) fun v s1 ⟨x, H1, I1, r1, q1⟩ => thn (hb pins s1 U H1 _ I1 q1) fun u s2 ⟨y, H2, I2, r2, q2⟩ =>
  thn (ho pins s2 U H2 x y v u _ I2 r1 r2 q2) fun c s3 ⟨z, H3, I3, r3, k, e, q3⟩ => ?_) hm
 subst e
 cases r3
 exact wpAny_truthy_bool ⟨H3, I3, q3⟩
def ZJL (r r' : R2) (ta tb tc : TE) : TE := fun U H Q => ta U H fun x H1 => tb U H1 fun y H2 => r x y H2 fun z H3 => ∃ k, z = .bl k /\
 (if k = true then tc U H3 fun w' H4 => r' y w' H4 Q else Q (.bl false) H3)
theorem ZSf {op op' : CmpOp} {r r' : R2} (ho : OpR X (compareOp op) r) (ho' : OpR X (compareOp op') r') (ha : PE X a ta) (hb : PE X b tb) (hc : PE X c tc)
  (hm : lastMarks [op, op'] [b, c] = false := by with_unfolding_all rfl) : PE X (.Compare a [op, op'] [b, c] pos) (ZJL r r' ta tb tc) := by
 intro pins s U H Q I h
 refine Compare_chain (thn (ha pins s U H _ I h) fun v s1 ⟨x, H1, I1, r1, q1⟩ => chain_link (thn (hb pins s1 U H1 _ I1 q1) fun u s2 ⟨y, H2, I2, r2, q2⟩ =>
  thn (ho pins s2 U H2 x y v u _ I2 r1 r2 q2) fun d s3 ⟨z, H3, I3, r3, k, e, q3⟩ => ?_)) hm
 subst e
 cases r3
 refine wpAny_truthy_bool ?_
 cases k with
 | false => exact ite_ff ⟨.bl false, H3, I3, rfl, q3⟩
 | true => exact ite_tt (chain_last (thn (hc pins s3 U H3 _ I3 q3) fun w' s4 ⟨z', H4, I4, r4, q4⟩ => ho' pins s4 U H4 y z' u w' Q I4 r2 r4 q4))
theorem ZSg {op op' : CmpOp} {r r' : R2} (ho : OpR X (compareOp op) r) (ho' : OpR X (compareOp op') r') (ha : PE X a ta) (hb : PE X b tb) (hc : PE X c tc)
  (hm : lastMarks [op, op'] [b, c] = false := by with_unfolding_all rfl) : PT X (.Compare a [op, op'] [b, c] pos) (ZKx (ZJL r r' ta tb tc)) := by
 intro pins s U H Q I h
 refine isTrue_chain (thn (ha pins s U H _ I h) fun v s1 ⟨x, H1, I1, r1, q1⟩ => test_link (thn (hb pins s1 U H1 _ I1 q1) fun u s2 ⟨y, H2, I2, r2, q2⟩ =>
  thn (ho pins s2 U H2 x y v u _ I2 r1 r2 q2) fun d s3 ⟨z, H3, I3, r3, k, e, q3⟩ => ?_)) hm
 subst e
 cases r3
 refine wpAny_truthy_bool ?_
 cases k with
 | false =>
  obtain ⟨k', e', q'⟩ := q3
  cases e'
  exact ite_ff ⟨H3, I3, q'⟩
 | true =>
  refine ite_tt (test_last (thn (hc pins s3 U H3 _ I3 q3) fun w' s4 ⟨z', H4, I4, r4, q4⟩ => thn (ho' pins s4 U H4 y z' u w' _ I4 r2 r4 q4) fun d' s5 ⟨z2, H5, I5, r5, k2, e2, q5⟩ => ?_))
  subst e2
  cases r5
  exact wpAny_truthy_bool ⟨H5, I5, q5⟩
theorem ZIQ : (sizeLine : Nat) < 2 ^ 63 := by rw [sizeLine_eq]; decide
theorem ZPa : OpR X (binaryOp .Add) (fun x y H Q => ∃ i j, x = .str i /\ y = .str j /\ i.length + j.length <= sizeLine /\ Q (.str (i ++ j)) H) := by
 intro pins s U H x y v u Q I rx ry h
 obtain ⟨i, j, rfl, rfl, hz, q⟩ := h
 obtain ⟨t, rfl⟩ := rx
 obtain ⟨t', rfl⟩ := ry
 exact add_str (fun t' tk => ⟨.str (i ++ j), H, I.tok _, ⟨_, rfl⟩, q⟩) hz
theorem ZMw {x : V} {us : List Value} (r : ZD3 [x] us) : ∃ u, us = [u] /\ ZD0 x u := by
 cases r with
 | cons r1 r2 => cases r2; exact ⟨_, rfl, r1⟩
theorem ZUJ {x y : V} {us : List Value} (r : ZD3 [x, y] us) : ∃ u w', us = [u, w'] /\ ZD0 x u /\ ZD0 y w' := by
 cases r with
 | cons r1 r2 =>
  cases r2 with
  | cons r3 r4 => cases r4; exact ⟨_, _, rfl, r1, r3⟩
theorem ZSh : ZEd X (.builtin "abs") (fun xs H Q => ∃ i, xs = [.int i] /\ Q (.int (if i < 0 then -i else i)) H) := by
 intro pins s U H xs us Q I r h
 obtain ⟨i, rfl, q⟩ := h
 obtain ⟨u, rfl, t, rfl⟩ := ZMw r
 exact call_abs_int fun u tk => ⟨.int (if i < 0 then -i else i), H, I.tok _, ⟨_, rfl⟩, q⟩
theorem ZQn (hc : X.calm = true) : ZEd X (.builtin "max") (fun xs H Q => ∃ i j, xs = [.int i, .int j] /\ Q (.int (if j > i then j else i)) H) := by
 intro pins s U H xs us Q I r h
 obtain ⟨i, j, rfl, q⟩ := h
 obtain ⟨u, w', rfl, ⟨t, rfl⟩, ⟨t', rfl⟩⟩ := ZUJ r
 refine max_two_ints (I.ok.hd hc) fun h' tk k => ⟨_, H, I.kept k, ?_, q⟩
 by_cases hj : j > i
 ·rw [if_pos hj, if_pos hj]; exact ⟨_, rfl⟩
 ·rw [if_neg hj, if_neg hj]; exact ⟨_, rfl⟩
theorem ZQo (hc : X.calm = true) : ZEd X (.builtin "min") (fun xs H Q => ∃ i j, xs = [.int i, .int j] /\ Q (.int (if j < i then j else i)) H) := by
 intro pins s U H xs us Q I r h
 obtain ⟨i, j, rfl, q⟩ := h
 obtain ⟨u, w', rfl, ⟨t, rfl⟩, ⟨t', rfl⟩⟩ := ZUJ r
 refine min_two_ints (I.ok.hd hc) fun h' tk k => ⟨_, H, I.kept k, ?_, q⟩
 by_cases hj : j < i
 ·rw [if_pos hj, if_pos hj]; exact ⟨_, rfl⟩
 ·rw [if_neg hj, if_neg hj]; exact ⟨_, rfl⟩
end
structure ZKQ (h : Heap) (x dx C : Addr) (mA : Str -> Option Value) : Prop where
 obj : h.get? x = some (PySem.W.instObj C dx)
 ns : h.Ns1 dx mA
 ne : dx ≠ x
theorem ZQp {h : Heap} {dx : Addr} {mA : Str -> Option Value} (n : h.Ns1 dx mA) : ∃ od, h.get? dx = some od /\ ∀ name, PySem.W.lookIn name od = some (mA name) := by
 obtain ⟨o, es, ep, ho, hd, hk, _, hm⟩ := n
 refine ⟨o, ho, fun name => ?_⟩
 have e := hm name
 unfold nsFind findBy at e
 rw [<- Array.find?_toList] at e
 unfold PySem.W.lookIn
 rw [hd]
 dsimp only
 split
 ·rename_i y q
  rw [q] at e
  exact congrArg some e
 ·rename_i q
  rw [q] at e
  have a : es.toList.any (·.refKey) = false := by
   rw [List.any_eq_false]
   intro y hy
   obtain ⟨z, t, hkey⟩ := hk y (Array.mem_toList_iff.mp hy)
   simp [DictEntry.refKey, hkey]
  have a' : ¬ es.toList.any (·.refKey) = true := by rw [a]; exact Ut
  rw [if_neg a']
  exact congrArg some e
theorem ZKQ.look {h : Heap} {x dx C : Addr} {mA : Str -> Option Value} (I : ZKQ h x dx C mA) : ∃ od, PySem.W.InstAt h x (PySem.W.instObj C dx) C (some od) /\ ∀ name, PySem.W.lookIn name od = some (mA name) :=
 let ⟨od, ho, hl⟩ := ZQp I.ns
 ⟨od, ⟨I.obj, rfl, rfl, ho⟩, hl⟩
section
variable {prog : Program} {w : World} {A : Around} {E : Value -> Shared -> Prop} {s : Shared} {K : W.Frag} {x dx C f : Addr} {mA : Str -> Option Value} {name : Str} {v : Value}
theorem ZUu {expr : Bool} {Q : Value -> Shared -> Prop} (X : K.In s.heap) (I : ZKQ s.heap x dx C mA) (hg : PySem.W.plainGet K C name = true) (hh : PySem.W.hasDictIn K C = true)
  (ha : W.findIn K (.ref C) name = some none) (hv : mA name = some v) (hv' : PySem.W.handedIn v = true) (h : Q v { s with toks := s.toks + 1 }) :
  wpAny (model prog w) A (getAttr (.ref x) name expr) Q E s := by
 obtain ⟨od, J, hl⟩ := I.look
 exact PySem.W.get_value X J (PySem.W.plainGet_of hg).1 (PySem.W.findObj_own hh ha rfl (by rw [hl, hv])) hv' h
theorem ZSi {pl : Sem Bool} {Q : Value × List Value -> Shared -> Prop} (X : K.In s.heap) (I : ZKQ s.heap x dx C mA) (hg : PySem.W.plainGet K C name = true)
  (hf : W.findIn K (.ref C) name = some (some (.ref f))) (ht : PySem.W.isFn K (.ref f) = true) (hv : mA name = none) (h : Q (.ref f, [.ref x]) s) :
  wpAny (model prog w) A (getMethod (.ref x) name pl) Q E s := by
 obtain ⟨od, J, hl⟩ := I.look
 exact PySem.W.method_fn X J (PySem.W.plainGet_of hg).1 (PySem.W.plainGet_of hg).2 hf (beq_iff_eq.mp ht) (by show (PySem.W.lookIn name od).map (·.isSome) = some false; rw [hl, hv]; rfl) h
theorem ZUv {ns : List Str} {Q : Unit -> Shared -> Prop} (X : K.In s.heap) (I : ZKQ s.heap x dx C mA)
  (hs : W.findIn K (.ref C) "__setattr__" = some (some (.builtin "object.__setattr__"))) (hp : PySem.W.plainOver K C = true) (ht : PySem.W.takerIn K C name = some none) (hh : PySem.W.hasDictIn K C = true)
  (hw : PySem.Within mA ns) (hsz : ns.length <= sizeLine)
  (h : ∀ h', ZKQ h' x dx C (fun y => if y = name then some v else mA y) -> Heap.SameBut dx s.heap h' -> Q () { s with heap := h', toks := s.toks + 2 }) :
  wpAny (model prog w) A (setAttr (.ref x) name v) Q E s := by
 obtain ⟨od, J, hl⟩ := I.look
 refine PySem.W.set_plain X J hs (PySem.W.osa_open (s := { s with toks := s.toks + 1 }) (r := none) X J hp ht fun b => ?_)
 obtain ⟨cd, hc, hd'⟩ := PySem.W.any_some hh
 have hx : s.heap.get? x = some ⟨.ref C, some dx, .plain, #[]⟩ := I.obj
 refine Ua (Uh (Ua (Ua (wpAny_loadPart hx (Ua (PySem.W.Looks.here (s := { s with toks := s.toks + 1 }) (PySem.W.looks_clsIn X hc) ?_))))))
 rw [hd']
 refine Uh (a := some dx) (Ua (Uh (Ua ?_)))
 refine wpAny_nsSet1 (s := { s with toks := s.toks + 1 }) I.ns fun h' hn2 hs2 => ?_
 obtain ⟨oD, esD, epD, hoD, hdD, hcD⟩ := hn2.count (PySem.Within.cons name v hw)
 refine Ua (wpAny_lookBehind hoD (by rw [hdD]; exact pastItsLine_dict (Uz hcD (by rw [UZ]; omega))) ?_)
 exact Uh (h _ ⟨(hs2.2 _ (Ne.symm I.ne)).trans I.obj, hn2, I.ne⟩ hs2)
theorem ZSj {R : Result -> Shared -> Prop} {vs : List Value} {kw : List (Str × Value)} (X : K.In s.heap) (hm : PySem.W.makesIn K C = true)
  (hi : W.findIn K (.ref C) "__init__" = some (some (.ref f))) (hf : PySem.W.typeIn K (.ref f) = some (.type "function"))
  (h : codeAny (model prog w) (A.under (.builtin "type.__call__" ⟨.ref C :: vs, kw⟩)) (.call (.ref f) ⟨.ref (s.heap.objs.size + 1) :: vs, kw⟩) (PySem.W.InitBack (s.heap.objs.size + 1) R)
   { s with heap := (s.heap.push PySem.W.emptyDict).push (PySem.W.instObj C s.heap.objs.size) }) :
  codeAny (model prog w) A (.call (.ref C) ⟨vs, kw⟩) R s := by
 obtain ⟨hh, g, d, t, os⟩ := s
 exact PySem.W.make_core (PySem.W.makes_of X hm) (PySem.W.looks_findIn X hi) (fun self => PySem.W.bind_fn X self hf) (.inl rfl) h
end
def ZEV (f : Str) (v : V) : List (Str × V) -> List (Str × V)
 | [] => [(f, v)]
 | (g, x) :: r => if g = f then (g, v) :: r else (g, x) :: ZEV f v r
theorem ZKE (f g : Str) (v : V) : ∀ fs : List (Str × V), (ZEV f v fs).lookup g = if g = f then some v else fs.lookup g
 | [] => by
  show Ve g [(f, v)] = _
  by_cases h : g = f
  ·have hb : (g == f) = true := beq_iff_eq.mpr h
   simp only [Ve, hb, if_pos h]
  ·have hb : (g == f) = false := beq_eq_false_iff_ne.mpr h
   simp only [Ve, hb, if_neg h]
 | (k, x) :: r => by
  have ih := ZKE f g v r
  rw [show ZEV f v ((k, x) :: r) = (if k = f then (k, v) :: r else (k, x) :: ZEV f v r) from rfl]
  by_cases hk : k = f
  ·rw [if_pos hk]
   by_cases h : g = k
   ·have hb : (g == k) = true := beq_iff_eq.mpr h
    simp only [Ve, hb, if_pos (h.trans hk)]
   ·have hb : (g == k) = false := beq_eq_false_iff_ne.mpr h
    simp only [Ve, hb, if_neg (fun e : g = f => h (e.trans hk.symm))]
  ·rw [if_neg hk]
   by_cases h : g = k
   ·have hb : (g == k) = true := beq_iff_eq.mpr h
    simp only [Ve, hb, if_neg (fun e : g = f => hk (h.symm.trans e))]
   ·have hb : (g == k) = false := beq_eq_false_iff_ne.mpr h
    simp only [Ve, hb]
    exact ih
theorem ZJM (f : Str) (v : V) : ∀ fs : List (Str × V), f ∈ (ZEV f v fs).map (·.1) /\ ∀ g, g ∈ fs.map (·.1) -> g ∈ (ZEV f v fs).map (·.1)
 | [] => ⟨by simp [ZEV], fun g h => by simp at h⟩
 | (k, x) :: r => by
  obtain ⟨i1, i2⟩ := ZJM f v r
  rw [show ZEV f v ((k, x) :: r) = (if k = f then (k, v) :: r else (k, x) :: ZEV f v r) from rfl]
  by_cases hk : k = f
  ·rw [if_pos hk]
   subst hk
   exact ⟨by simp, fun g h => by simpa using h⟩
  ·rw [if_neg hk]
   refine ⟨?_, fun g h => ?_⟩
   ·rw [UD]
    exact Ur _ i1
   ·rw [UD] at h ⊢
    rcases Ul.mp h with e | e
    ·exact Ul.mpr (.inl e)
    ·exact Ur _ (i2 g e)
theorem ZKF (f : Str) (v : V) : ∀ fs : List (Str × V), (ZEV f v fs).length <= fs.length + 1
 | [] => by simp [ZEV]
 | (k, x) :: r => by
  have ih := ZKF f v r
  rw [show ZEV f v ((k, x) :: r) = (if k = f then (k, v) :: r else (k, x) :: ZEV f v r) from rfl]
  by_cases hk : k = f
  ·rw [if_pos hk, UZ, UZ]; omega
  ·rw [if_neg hk, UZ, UZ]; omega
theorem ZFf.some_of {v : V} {o : Option Value} (r : ZFf (some v) o) : ∃ u, o = some u /\ ZD0 v u := by
 cases o with
 | none => exact (show False from r).elim
 | some u => exact ⟨u, rfl, r⟩
theorem ZFf.none_of {o : Option Value} (r : ZFf none o) : o = none := by
 cases o with
 | none => rfl
 | some u => exact (show False from r).elim
theorem ZQq {v : V} {u : Value} (r : ZD0 v u) : PySem.W.handedIn u = true := by
 cases v with
 | non => cases (show u = Value.none from r); rfl
 | bl b => cases (show u = Value.bool b from r); rfl
 | int i => obtain ⟨t, e⟩ := (show ∃ t, u = Value.int i t from r); cases e; rfl
 | str x => obtain ⟨t, e⟩ := (show ∃ t, u = Value.str x t from r); cases e; rfl
 | byt b => obtain ⟨t, e⟩ := (show ∃ t, u = Value.bytes b t from r); cases e; rfl
 | flt b => obtain ⟨t, e⟩ := (show ∃ t, u = Value.float b t from r); cases e; rfl
 | ref a => cases (show u = Value.ref a from r); rfl
 | ty n => cases (show u = Value.type n from r); rfl
section
variable {P : Program} {w : World} {H H' : Hp} {h h' : Heap} {a C dx : Addr} {fs fs' : List (Str × V)}
theorem ZJz (hok : HOk P w H h) (e : H a = some (.ins C dx fs)) : ∃ mA, ZKQ h a dx C mA /\ (∀ f, ZFf (fs.lookup f) (mA f)) /\ PySem.Within mA (fs.map (·.1)) /\ fs.length <= 1000 /\ H dx = some (.own a) := by
 obtain ⟨d, z, ne, ob, mA, n, r, q⟩ := (show ZEW P w H h a (.ins C dx fs) from hok a _ e)
 exact ⟨mA, ⟨ob, n, ne⟩, r, q, z, d⟩
end
structure Cls (K : W.Frag) (C : Addr) : Prop where
 pg : PySem.W.plainGet K C Str.empty = true
 hd : PySem.W.hasDictIn K C = true
 po : PySem.W.plainOver K C = true
 sa : W.findIn K (.ref C) "__setattr__" = some (some (.builtin "object.__setattr__"))
theorem Cls.get {K : W.Frag} {C : Addr} (c : Cls K C) (f : Str) : PySem.W.plainGet K C f = true := c.pg
def ZEp (K : W.Frag) (C : Addr) (f : Str) : Prop := W.findIn K (.ref C) f = some none
theorem ZEp.taker {K : W.Frag} {C : Addr} {f : Str} (n : ZEp K C f) : PySem.W.takerIn K C f = some none := by
 unfold PySem.W.takerIn
 rw [show W.findIn K (.ref C) f = some none from n]
 rfl
structure ZE2 (K : W.Frag) (C : Addr) (m : Str) (f : Addr) : Prop where
 at_ : W.findIn K (.ref C) m = some (some (.ref f))
 fn : PySem.W.isFn K (.ref f) = true
 kp : W.keepIn K (.ref f) = true
section
variable {X : Cx} {pins : List (Addr × Obj)} {U : St} {H : Hp} {s : Shared} {a C dx : Addr} {fs : List (Str × V)} {f : Str} {v : V} {A : Around} {E : Value -> Shared -> Prop}
theorem ZKy {b : Bool} {Q : Value -> Shared -> Prop} (I : Inv X pins U H s) (e : H a = some (.ins C dx fs)) (c : Cls X.K C) (n : ZEp X.K C f) (l : fs.lookup f = some v)
  (h : ∀ u s', Inv X pins U H s' -> ZD0 v u -> Q u s') : wpAny (model X.prog X.w) A (getAttr (.ref a) f b) Q E s := by
 obtain ⟨mA, O, r, _, _, _⟩ := ZJz I.hok e
 obtain ⟨u, hu, ru⟩ := ZFf.some_of (v := v) (o := mA f) (by rw [<- l]; exact r f)
 exact ZUu I.kIn O (c.get f) c.hd n hu (ZQq ru) (h u _ (I.tok _) ru)
theorem ZKz {m : Str} {g : Addr} {pl : Sem Bool} {Q : Value × List Value -> Shared -> Prop} (I : Inv X pins U H s) (e : H a = some (.ins C dx fs)) (c : Cls X.K C) (k : ZE2 X.K C m g) (l : fs.lookup m = none)
  (h : Q (.ref g, [.ref a]) s) : wpAny (model X.prog X.w) A (getMethod (.ref a) m pl) Q E s := by
 obtain ⟨mA, O, r, _, _, _⟩ := ZJz I.hok e
 have hn : mA m = none := ZFf.none_of (by rw [<- l]; exact r m)
 exact ZSi I.kIn O (c.get m) k.at_ k.fn hn h
theorem ZK0 {y : V} {u : Value} {Q : Unit -> Shared -> Prop} (I : Inv X pins U H s) (e : H a = some (.ins C dx fs)) (c : Cls X.K C) (n : ZEp X.K C f) (hl : fs.length < 1000) (ry : ZD0 y u)
  (h : ∀ s', Inv X pins U (upd H a (.ins C dx (ZEV f y fs))) s' -> Q () s') : wpAny (model X.prog X.w) A (setAttr (.ref a) f u) Q E s := by
 obtain ⟨mA, O, r, wi, _, ho⟩ := ZJz I.hok e
 have hz : (fs.map (·.1)).length <= sizeLine := by rw [Uf, sizeLine_eq]; omega
 refine ZUv I.kIn O c.sa c.po n.taker c.hd wi hz fun h' O' sb => h _ ?_
 have hd : ∃ o, h'.get? dx = some o := let ⟨o, _, _, e', _⟩ := O'.ns; ⟨o, e'⟩
 refine I.write (x := a) (e := dx) (by rw [e]; exact True.intro) (.inr ho) (fun b q hb z => (sb.2 b hb).trans z) hd ?_
 refine ⟨by rw [ZD4 O.ne]; exact ho, ?_, O.ne, O'.obj, _, O'.ns, fun g => ?_, fun g hg => ?_⟩
 ·have := ZKF f y fs; omega
 ·show ZFf ((ZEV f y fs).lookup g) (if g = f then some u else mA g)
  rw [ZKE]
  by_cases q : g = f
  ·rw [if_pos q, if_pos q]; exact ry
  ·rw [if_neg q, if_neg q]; exact r g
 ·by_cases q : g = f
  ·rw [q]; exact (ZJM f y fs).1
  ·refine (ZJM f y fs).2 g (wi g fun z => hg ?_)
   show (if g = f then some u else mA g) = none
   rw [if_neg q]; exact z
theorem Inv.made (I : Inv X pins U H s) : Inv X pins U (upd (upd H s.heap.objs.size (.own (s.heap.objs.size + 1))) (s.heap.objs.size + 1) (.ins C s.heap.objs.size []))
  { s with heap := (s.heap.push PySem.W.emptyDict).push (PySem.W.instObj C s.heap.objs.size) } := by
 have e1 : (s.heap.push PySem.W.emptyDict).get? s.heap.objs.size = some PySem.W.emptyDict := Ug s.heap rfl
 have e2 : ((s.heap.push PySem.W.emptyDict).push (PySem.W.instObj C s.heap.objs.size)).get? (s.heap.objs.size + 1) = some (PySem.W.instObj C s.heap.objs.size) := by
  have := Ug (s.heap.push PySem.W.emptyDict) (o := PySem.W.instObj C s.heap.objs.size) rfl
  rwa [UW] at this
 have e3 : (s.heap.push PySem.W.emptyDict).Ns s.heap.objs.size (fun _ => none) := ⟨PySem.W.emptyDict, #[], _, e1, rfl, (fun e he => absurd he (by simp)), fun _ => rfl⟩
 have I1 := I.laid (a := s.heap.objs.size) (o := .own (s.heap.objs.size + 1)) (h' := s.heap.push PySem.W.emptyDict) (t' := s.toks) (fun b u q => Ub _ q) (Ud _) ⟨_, e1⟩
 refine I1.laid (a := s.heap.objs.size + 1) (o := .ins C s.heap.objs.size []) (t' := s.toks) (fun b u q => Ub _ q) (Nat.le_of_eq (UW _ _)) ?_
 have ne : s.heap.objs.size ≠ s.heap.objs.size + 1 := Uq (Vq _)
 refine ⟨by rw [ZD4 ne, ZDr], UO _, ne, e2, fun _ => none, (Heap.Ns1.of_empty e3).at fun o q => Ub _ q, fun _ => True.intro, fun y hy => absurd rfl hy⟩
theorem ZUw {prog : Program} {w : World} {env : Env} {e : Expr} {f : Str} {pos : Pos} {s : Shared} {Q : Value -> Shared -> Prop} (hb : attributeBase e f env (eval e env) = eval e env)
  (h : wpAny (model prog w) A (eval e env) (fun o s₁ => wpAny (model prog w) A (getAttr o f true) Q E s₁) E s) : wpAny (model prog w) A (eval (.Attribute e f pos) env) Q E s :=
 Attribute_any_ h (by rw [arm_eval_Attribute, hb])
end
def ZSk (K : W.Frag) (ta : TE) (f : Str) : TE := fun U H Q => ta U H fun x H1 => ∃ a C dx fs v, x = .ref a /\ H1 a = some (.ins C dx fs) /\ Cls K C /\ ZEp K C f /\ fs.lookup f = some v /\ Q v H1
def ZSl (K : W.Frag) (ta tv : TE) (f : Str) : TS := fun D U H => tv U H fun y H1 => ta U H1 fun x H2 => ∃ a C dx fs, x = .ref a /\ H2 a = some (.ins C dx fs) /\ Cls K C /\ ZEp K C f /\ fs.length < 1000 /\
 D.nx U (upd H2 a (.ins C dx (ZEV f y fs)))
def ZWs (X : Cx) (op : Operator) (rd : V -> V -> Hp -> VK -> Prop) : Prop :=
 ∀ (pins : List (Addr × Obj)) (s : Shared) (U : St) (H : Hp) (x y : V) (u v : Value) (Q : VK), Inv X pins U H s -> ZD0 x u -> ZD0 y v -> rd x y H Q -> wpAny (model X.prog X.w) X.A (inplaceOp op u v) (EP X pins U Q) X.xe s
def ZLZ (K : W.Frag) (ta tv : TE) (rd : V -> V -> Hp -> VK -> Prop) (f : Str) : TS := fun D U H => ta U H fun x H1 => ∃ a C dx fs v, x = .ref a /\ H1 a = some (.ins C dx fs) /\ Cls K C /\ ZEp K C f /\ fs.lookup f = some v /\
 tv U H1 fun y H2 => rd v y H2 fun z H3 => ∃ dx' fs', H3 a = some (.ins C dx' fs') /\ fs'.length < 1000 /\ D.nx U (upd H3 a (.ins C dx' (ZEV f z fs')))
section
variable {X : Cx} {o e value : Expr} {f : Str} {pos pos' tpos : Pos} {ta tv : TE}
theorem ZWt (he : PE X e ta) (hb : attributeBase e f X.env (eval e X.env) = eval e X.env) : PE X (.Attribute e f pos) (ZSk X.K ta f) := by
 intro pins s U H Q I h
 refine ZUw hb (thn (he pins s U H _ I h) fun u s1 ⟨x, H1, I1, rx, a, C, dx, fs, v, ex, ea, c, n, l, q⟩ => ?_)
 subst ex
 obtain rfl : u = Value.ref a := rx
 exact ZKy I1 ea c n l fun u' s2 I2 ru => ⟨v, H1, I2, ru, q⟩
theorem ZWu (ha : PE X o ta) (hv : PE X value tv) (hs : swapsWith value (some (.Attribute o f pos')) pos.line X.env = pure false) : PS X (.Assign [.Attribute o f pos'] value pos) (ZSl X.K ta tv f) := by
 intro pins s U H D I h
 refine plainObj_wpAny_Assign_Attribute (thn (hv pins s U H _ I h) fun u s1 ⟨y, H1, I1, ry, q⟩ => thn (ha pins s1 U H1 _ I1 q) fun ov s2 ⟨x, H2, I2, rx, a, C, dx, fs, ex, ea, c, n, l, q2⟩ => ?_) hs
 subst ex
 obtain rfl : ov = Value.ref a := rx
 exact ZK0 I2 ea c n l ry fun s3 I3 => ⟨U, _, I3, q2⟩
theorem ZQr {op : Operator} {rd : V -> V -> Hp -> VK -> Prop} (ha : PE X o ta) (hv : PE X value tv) (hop : ZWs X op rd) : PS X (.AugAssign (.Attribute o f tpos) op value pos) (ZLZ X.K ta tv rd f) := by
 intro pins s U H D I h
 refine wpAny_AugAssign_AttributeAny (thn (ha pins s U H _ I h) fun ov s1 ⟨x, H1, I1, rx, a, C, dx, fs, v, ex, ea, c, n, l, q⟩ => ?_)
 subst ex
 obtain rfl : ov = Value.ref a := rx
 refine ZKy I1 ea c n l fun u s2 I2 ru => thn (hv pins s2 U H1 _ I2 q) fun w3 s3 ⟨y, H2, I3, ry, q3⟩ => thn (hop pins s3 U H2 v y u w3 _ I3 ru ry q3) fun w4 s4 ⟨z, H3, I4, rz, dx', fs', ea', l', q4⟩ => ?_
 exact ZK0 I4 ea' c n l' rz fun s5 I5 => ⟨U, _, I5, q4⟩
def ZNC : V -> V -> Hp -> VK -> Prop := fun x y H Q => ∃ i j, x = .int i /\ y = .int j /\ Q (.int (i + j)) H
theorem ZWv : ZWs X .Add ZNC := by
 rintro pins s U H x y u v Q I rx ry ⟨i, j, rfl, rfl, q⟩
 obtain ⟨t, rfl⟩ := (show ∃ t, u = Value.int i t from rx)
 obtain ⟨t', rfl⟩ := (show ∃ t', v = Value.int j t' from ry)
 exact PyProof.Rows.iadd_int ⟨.int (i + j), H, I.tok _, ⟨_, rfl⟩, q⟩
end
section
variable {X : Cx} {pins : List (Addr × Obj)} {U : St} {H : Hp} {s : Shared} {A : Around} {E : Value -> Shared -> Prop} {Q : Value -> Shared -> Prop} {c : Value} {b : Bool}
inductive ZGa (K : W.Frag) (H : Hp) : V -> Value -> Prop where
 | non : ZGa K H .non (.type "NoneType")
 | bl (x : Bool) : ZGa K H (.bl x) (.type "bool")
 | int (i : Int) : ZGa K H (.int i) (.type "int")
 | str (x : Str) : ZGa K H (.str x) (.type "str")
 | flt (x : UInt64) : ZGa K H (.flt x) (.type "float")
 | lst {a : Addr} {xs : List V} (e : H a = some (.lst xs)) : ZGa K H (.ref a) (.type "list")
 | frz {a : Addr} {o : Obj} {xs : List V} (e : H a = some (.frz o (.lst xs))) : ZGa K H (.ref a) (.type "list")
 | tup {a : Addr} {xs : List V} (e : H a = some (.tup xs)) : ZGa K H (.ref a) (.type "tuple")
 | dK {a : Addr} {kvs : List (Key × V)} (e : H a = some (.dK kvs)) : ZGa K H (.ref a) (.type "dict")
 | dT {a : Addr} {kvs : List (List Key × V)} (e : H a = some (.dT kvs)) : ZGa K H (.ref a) (.type "dict")
 | ins {a C dx : Addr} {fs : List (Str × V)} (e : H a = some (.ins C dx fs)) (cl : Cls K C) (ha : W.findIn K (.ref C) "__class__" = some (some (.builtin "object.__class__")))
  (hn : PySem.W.specialIn K (.builtin "object.__class__") "__get__" = some (some (.builtin "getset_descriptor.__get__"))) (htk : PySem.W.takesIn K (.builtin "object.__class__") = some true)
  (hm : PySem.W.mroIn K C (.type "object") = some true) : ZGa K H (.ref a) (.ref C)
theorem ZQs {x : V} {u t : Value} (I : Inv X pins U H s) (rx : ZD0 x u) (ty : ZGa X.K H x t) (e : W.kitOne X.K t c = some b) (h : ∀ tk, Q (.bool b) { s with toks := tk }) :
  wpAny (model X.prog X.w) A (call (.builtin "isinstance") [u, c]) Q E s := by
 cases ty with
 | non => cases (show u = Value.none from rx); exact PySem.W.kia_one PySem.W.kitx_none I.kIn True.intro e (fun z => nomatch z) h
 | bl y => cases (show u = Value.bool y from rx); exact PySem.W.kia_one PySem.W.kitx_bool I.kIn True.intro e (fun z => nomatch z) h
 | int i => obtain ⟨t, q⟩ := (show ∃ t, u = Value.int i t from rx); cases q; exact PySem.W.kia_one PySem.W.kitx_int I.kIn True.intro e (fun z => nomatch z) h
 | str y => obtain ⟨t, q⟩ := (show ∃ t, u = Value.str y t from rx); cases q; exact PySem.W.kia_one PySem.W.kitx_str I.kIn True.intro e (fun z => nomatch z) h
 | flt y => obtain ⟨t, q⟩ := (show ∃ t, u = Value.float y t from rx); cases q; exact PySem.W.kia_one PySem.W.kitx_float I.kIn True.intro e (fun z => nomatch z) h
 | @lst a xs ea =>
  cases (show u = Value.ref a from rx)
  obtain ⟨_, _, n, _, h1⟩ := (show ZEW X.prog X.w H s.heap a (.lst xs) from I.hok a _ ea)
  exact PySem.W.kia_one PySem.W.kitx_list I.kIn ⟨_, h1, rfl⟩ e (fun z => nomatch z) h
 | @frz a ob xs ea =>
  cases (show u = Value.ref a from rx)
  obtain ⟨_, _, _, n, _, h1⟩ := (show ZEW X.prog X.w H s.heap a (.frz ob (.lst xs)) from I.hok a _ ea)
  exact PySem.W.kia_one PySem.W.kitx_list I.kIn ⟨_, h1, rfl⟩ e (fun z => nomatch z) h
 | @tup a xs ea =>
  cases (show u = Value.ref a from rx)
  obtain ⟨_, _, _, p⟩ := (show ZEW X.prog X.w H s.heap a (.tup xs) from I.hok a _ ea)
  obtain ⟨o, h1, h2, _⟩ := p
  exact PySem.W.kia_one PySem.W.kitx_tuple I.kIn ⟨o, h1, h2⟩ e (fun z => nomatch z) h
 | @dK a kvs ea =>
  cases (show u = Value.ref a from rx)
  obtain ⟨_, _, vs, _, p⟩ := (show ZEW X.prog X.w H s.heap a (.dK kvs) from I.hok a _ ea)
  obtain ⟨o, es, ep, h1, h2, _⟩ := p
  exact PySem.W.kia_one PySem.W.kitx_dict I.kIn ⟨o, h1, h2.1⟩ e (fun z => nomatch z) h
 | @dT a kvs ea =>
  cases (show u = Value.ref a from rx)
  obtain ⟨_, _, xs, _, o, es, ep, h1, h2, _⟩ := (show ZEW X.prog X.w H s.heap a (.dT kvs) from I.hok a _ ea)
  exact PySem.W.kia_one PySem.W.kitx_dict I.kIn ⟨o, h1, h2.1⟩ e (fun z => nomatch z) h
 | @ins a C dx fs ea cl ha hn htk hm =>
  cases (show u = Value.ref a from rx)
  obtain ⟨mA, O, _⟩ := ZJz I.hok ea
  obtain ⟨od, J, _⟩ := O.look
  exact PySem.W.kia_one (PySem.W.kitx_own (cl.get _) cl.hd ha hn htk hm) I.kIn J e (fun z => nomatch z) h
end
structure Room (k : Nat) (A : Around) : Prop where
 hd : A.handled = none
 dp : A.depth + 3 * k + 5 < recursionLimit
 un : A.units + 16 * k + 200 < cLine
 gd : A.guards = some []
theorem Room.mono {j k : Nat} {A : Around} (r : Room k A) (h : j <= k) : Room j A := ⟨r.hd, by have := r.dp; omega, by have := r.un; omega, r.gd⟩
theorem Room.deeper {k : Nat} {A : Around} (r : Room (k + 1) A) (env : Env) : Room k (A.deeper env) :=
 ⟨r.hd, by have := r.dp; show A.depth + 1 + 3 * k + 5 < _; omega, by have := r.un; show A.units + 3 + 16 * k + 200 < _; omega, r.gd⟩
theorem Room.in1 {k : Nat} {A : Around} (r : Room (k + 1) A) : Room k A.in1 :=
 ⟨r.hd, by have := r.dp; show A.depth + 3 * k + 5 < _; omega, by have := r.un; show A.units + 1 + 16 * k + 200 < _; omega, r.gd⟩
theorem ZPb {A : Around} {C : Addr} {us : List Value} {kw : List (Str × Value)} : (A.under (.builtin "type.__call__" ⟨.ref C :: us, kw⟩)).depth = A.depth + 1 := by
 first | rfl | simp [Around.under, Code.weight, Code.isCreation, Code.isGuard, Code.isCaller, Code.frames, Code.isFrame, guardIds]
theorem ZPc {A : Around} {C : Addr} {us : List Value} {kw : List (Str × Value)} : (A.under (.builtin "type.__call__" ⟨.ref C :: us, kw⟩)).units = A.units + 1 := by
 first | rfl | simp [Around.under, Code.cUnits, Code.frames, Code.isFrame]
theorem ZOY {A : Around} {C : Addr} {us : List Value} {kw : List (Str × Value)} : (A.under (.builtin "type.__call__" ⟨.ref C :: us, kw⟩)).guards = A.guards := by
 have e : pushGuards [] A.guards = A.guards := by cases A.guards <;> rfl
 first | exact e | rfl | simp [Around.under, Code.guards, Code.isGuard, guardIds, pushGuards]
theorem Room.make {k : Nat} {A : Around} (r : Room (k + 1) A) (C : Addr) (us : List Value) (kw : List (Str × Value)) : Room k (A.under (.builtin "type.__call__" ⟨.ref C :: us, kw⟩)) :=
 ⟨r.hd, by have := r.dp; rw [ZPb]; omega, by have := r.un; rw [ZPc]; omega, (ZOY).trans r.gd⟩
theorem Room.depth {k : Nat} {A : Around} (r : Room k A) : A.depth < recursionLimit := by have := r.dp; omega
theorem Room.units {k : Nat} {A : Around} (r : Room k A) : A.units + 64 < cLine := by have := r.un; omega
def ZKR : TA := fun _ H Q => Q [] H
def ZMx (ta : TE) (tr : TA) : TA := fun U H Q => ta U H fun x H1 => tr U H1 fun xs H2 => Q (x :: xs) H2
section
variable {X : Cx} {e : Expr} {es : List Expr} {te : TE} {t : TA} {pos : Pos}
theorem ZWw : PA X [] ZKR := fun _ _ _ _ H Q I h => Calls.spliced_nil ⟨[], H, I, .nil, h⟩
theorem ZUx (ha : PE X e te) (hr : PA X es t) (hs : starEach (e :: es) X.env = (false, eval e X.env) :: starEach es X.env := by rfl) : PA X (e :: es) (ZMx te t) := by
 intro pos pins s U H Q I h
 rw [hs]
 show wpAny _ _ (spliced ((false, eval e X.env) :: backTo pos (starEach es X.env))) _ _ s
 refine Calls.spliced_cons (thn (ha pins s U H _ I h) fun u s1 ⟨x, H1, I1, r1, q1⟩ => ?_)
 exact thn (hr pos pins s1 U H1 _ I1 q1) fun us s2 ⟨xs, H2, I2, r2, q2⟩ => ⟨x :: xs, H2, I2, .cons r1 r2, q2⟩
def ZSm (t : TA) : TE := fun U H Q => t U H fun xs H1 => xs.length <= sizeLine /\ ∀ p, H1 p = none -> Q (.ref p) (upd H1 p (.tup xs))
def ZSn (t : TA) : TE := fun U H Q => t U H fun xs H1 => xs.length <= sizeLine /\ ∀ p, H1 p = none -> Q (.ref p) (upd H1 p (.lst xs))
theorem ZWx {x1} (h : PA X es t) : PE X (.Tuple es x1 pos) (ZSm t) := by
 intro pins s U H Q I hq
 refine wpAny_Tuple_spliced (thn (h pos pins s U H _ I hq) fun us s1 ⟨xs, H1, I1, r, z, q⟩ => ⟨by rw [<- r.length]; exact z, ?_⟩)
 have hf : H1 s1.heap.objs.size = none := I1.hok.fresh (Ud _)
 refine ⟨.ref s1.heap.objs.size, upd H1 s1.heap.objs.size (.tup xs), I1.laid (t' := s1.toks) (fun b u e => Ub _ e) (Ud _) ?_, rfl, q _ hf⟩
 exact ⟨⟨z, fun _ => ⟨_, Ug _ rfl, rfl, rfl⟩⟩, us, r, ⟨_, Ug _ rfl, rfl, _, rfl⟩⟩
theorem ZWy (h : PA X es t) : PE X (.List es pos) (ZSn t) := by
 intro pins s U H Q I hq
 refine wpAny_List_spliced (thn (h pos pins s U H _ I hq) fun us s1 ⟨xs, H1, I1, r, z, q⟩ => ⟨by rw [<- r.length]; exact z, ?_⟩)
 have hf : H1 s1.heap.objs.size = none := I1.hok.fresh (Ud _)
 refine ⟨.ref s1.heap.objs.size, upd H1 s1.heap.objs.size (.lst xs), I1.laid (t' := s1.toks) (fun b u e => Ub _ e) (Ud _) ?_, rfl, q _ hf⟩
 exact ⟨z, us, 0, r, Ug _ rfl⟩
end
abbrev Sp := List V -> Hp -> VK -> XK -> Prop
abbrev CXT := List Env -> Hp -> Shared -> XK -> Value -> Shared -> Prop
structure ZIA (P : Program) (w : World) (K : W.Frag) (mg : Str -> Option Value) (base : Heap) (A : Around) (outer : List Env) (s : Shared) (H : Hp) : Prop where
 frames : A.frames = some outer
 mod : Mod K mg base
 bs : ∀ b o, base.get? b = some o -> s.heap.get? b = some o /\ H b = none
 bsz : base.objs.size <= s.heap.objs.size
 funs : s.heap.FunFrames base outer
 frf : ∀ b ∈ frs outer, H b = none
 hok : HOk P w H s.heap
 bare : AllBare s.gens
def CE (outer : List Env) (P : Program) (w : World) (H : Hp) (s : Shared) (Q : VK) (u : Value) (s' : Shared) : Prop :=
 ∃ v H', s'.os = s.os /\ AllBare s'.gens /\ Un (frs outer) [] H H' s.heap s'.heap /\ HOk P w H' s'.heap /\ ZD0 v u /\ Q v H'
def CR (CX : CXT) (outer : List Env) (P : Program) (w : World) (H : Hp) (s : Shared) (Q : VK) (E : XK) (r : Result) (s' : Shared) : Prop :=
 match r with
 | .ok (.ret u) => CE outer P w H s Q u s'
 | .ok _ => False
 | .error e => CX outer H s E e s'
structure ZD2 (P : Program) (w : World) (K : W.Frag) (mg : Str -> Option Value) (base : Heap) (CX : CXT) (k : Nat) (f : Addr) (fd : FuncData) (ps : List Str) (sp : Sp) : Prop where
 len : ∀ vs H Q E, sp vs H Q E -> vs.length = ps.length
 run : ∀ (A : Around) (outer : List Env) (s : Shared) (H : Hp) (args : Args) (us : List Value) (vs : List V) (Q : VK) (E : XK), Room k A -> ZIA P w K mg base A outer s H -> BindsTo s fd args (ps.zip us) -> ZD3 vs us -> sp vs H Q E ->
  codeAny (model P w) A (.call (.ref f) args) (CR CX outer P w H s Q E) s
theorem ZIA.make {P : Program} {w : World} {K : W.Frag} {mg : Str -> Option Value} {base : Heap} {A : Around} {outer : List Env} {s : Shared} {H : Hp} (e : ZIA P w K mg base A outer s H) (C : Addr) (us : List Value) (kw : List (Str × Value)) :
 ZIA P w K mg base (A.under (.builtin "type.__call__" ⟨.ref C :: us, kw⟩)) outer s H := ⟨by first | exact e.frames | (simpa [Around.under, Code.envs, Code.isFrame, pushEnvs] using e.frames), e.mod, e.bs, e.bsz, e.funs, e.frf, e.hok, e.bare⟩
theorem ZIA.in1 {P : Program} {w : World} {K : W.Frag} {mg : Str -> Option Value} {base : Heap} {A : Around} {outer : List Env} {s : Shared} {H : Hp} (e : ZIA P w K mg base A outer s H) :
 ZIA P w K mg base A.in1 outer s H := ⟨e.frames, e.mod, e.bs, e.bsz, e.funs, e.frf, e.hok, e.bare⟩
section
variable {X : Cx} {pins : List (Addr × Obj)} {U : St} {H : Hp} {s s' : Shared}
theorem Inv.env0 (I : Inv X pins U H s) : ZIA X.prog X.w X.K X.mg X.base X.A X.stack s H :=
 ⟨I.ok.frames, I.ok.mod, I.bs, Uz I.ok.bsz I.sz, I.stack, I.stkFree, I.hok, I.bare⟩
theorem Inv.after {Q : VK} {u : Value} (I : Inv X pins U H s) (h : CE X.stack X.prog X.w H s Q u s') : EP X pins U Q u s' := by
 obtain ⟨v, H', os, bare, un, hok, r, q⟩ := h
 obtain ⟨hh, g, d, t, os'⟩ := s'
 obtain rfl : os' = s.os := os
 exact ⟨v, H', I.call (h' := hh) (g' := g) (d' := d) (t' := t) (ch := []) un hok bare (fun b z => absurd z (by simp)), r, q⟩
end
def ZK1 (sp : Sp) (dvs : List V) (E : XK) (t : TA) : TE := fun U H Q => t U H fun vs H1 => sp (vs ++ dvs) H1 Q E
def ZK2 (C : Addr) (m : Str) (sp : Sp) (dvs : List V) (E : XK) (ta : TE) (t : TA) : TE := fun U H Q => ta U H fun x H1 => ∃ a dx fs, x = .ref a /\ H1 a = some (.ins C dx fs) /\ fs.lookup m = none /\
 t U H1 fun vs H2 => sp (x :: (vs ++ dvs)) H2 Q E
def ZK3 (C : Addr) (sp : Sp) (dvs : List V) (E : XK) (t : TA) : TE := fun U H Q => t U H fun vs H1 => ∀ x dx, H1 x = none -> H1 dx = none -> dx ≠ x ->
 sp (.ref x :: (vs ++ dvs)) (upd (upd H1 dx (.own x)) x (.ins C dx [])) (fun v H2 => v = .non /\ Q (.ref x) H2) E
def ZDt (K : W.Frag) (fd : FuncData) (ps : List Str) (ds : List Value) : Prop :=
 ∀ (s : Shared) (us : List Value), K.In s.heap -> (us ++ ds).length = ps.length -> BindsTo s fd ⟨us, []⟩ (ps.zip (us ++ ds))
theorem ZDt.all {K : W.Frag} {fd : FuncData} {ps : List Str} (h : ∀ us : List Value, us.length = ps.length -> bindArgs fd ⟨us, []⟩ = pure (ps.zip us)) : ZDt K fd ps [] := fun s us _ hl => by
 rw [UJ] at hl ⊢
 exact .of_eq (h us hl)
def ZFS (CX : CXT) (X : Cx) (E : XK) : Prop := ∀ (pins : List (Addr × Obj)) (U : St) (H : Hp) (s : Shared) (e : Value) (s' : Shared), Inv X pins U H s -> CX X.stack H s E e s' -> X.xe e s'
section
variable {X : Cx} {CX : CXT} {k : Nat} {f C : Addr} {fd : FuncData} {ps : List Str} {sp : Sp} {dvs : List V} {ds : List Value} {E : XK} {x m : Str} {p pos apos : Pos} {e o : Expr} {es : List Expr} {ta : TE} {t : TA}
theorem ZND {pins : List (Addr × Obj)} {U : St} {H : Hp} {s : Shared} {Q : VK} {us : List Value} {vs : List V} (F : ZD2 X.prog X.w X.K X.mg X.base CX k f fd ps sp) (hr : Room k X.A) (hb : ZDt X.K fd ps ds) (hd : ZD3 dvs ds) (hx : ZFS CX X E)
  (I : Inv X pins U H s) (r : ZD3 vs us) (h : sp (vs ++ dvs) H Q E) : wpAny (model X.prog X.w) X.A (call (.ref f) us) (EP X pins U Q) X.xe s := by
 have r2 : ZD3 (vs ++ dvs) (us ++ ds) := r.append hd
 have hl : (us ++ ds).length = ps.length := by rw [<- r2.length]; exact F.len _ _ _ _ h
 refine wpAny_call (codeAny_mono (F.run X.A X.stack s H ⟨us, []⟩ (us ++ ds) (vs ++ dvs) Q E hr I.env0 (hb s us I.kIn hl) r2 h) fun r s' hq => ?_)
 cases r with
 | error e => exact hx pins U H s e s' I hq
 | ok fl =>
  cases fl with
  | ret u => exact I.after hq
  | next => exact False.elim hq
  | brk => exact False.elim hq
  | cont => exact False.elim hq
theorem ZUy (F : ZD2 X.prog X.w X.K X.mg X.base CX k f fd ps sp) (hr : Room k X.A) (hg : Gl X x) (hm : X.mg x = some (.ref f)) (hk : W.keepIn X.K (.ref f) = true) (hb : ZDt X.K fd ps ds) (hd : ZD3 dvs ds) (hx : ZFS CX X E)
  (ha : PA X (e :: es) t) (hdb : (x == ("__debug__" : Str)) = false := by decide) (he : starEach (e :: es) X.env = (false, eval e X.env) :: starEach es X.env := by rfl) (hpl : (backTo pos (starEach es X.env)).any (·.1) = false := by rfl) :
  PE X (.Call (.Name x p) (e :: es) [] pos) (ZK1 sp dvs E t) := by
 intro pins s U H Q I h
 refine wpAny_Call_Name_kw (ZHT I hg hm ?_ hdb)
 refine PySem.W.callWith_K (h₀ := X.base) I.ok.mod.kin hk (thn (ha pos pins s U H _ I h) fun us s1 ⟨vs, H1, I1, r, q⟩ => ⟨I1.kIn, ?_⟩) he hpl
 exact ZND F hr hb hd hx I1 r q
theorem ZUz {pl : Sem Bool} (he : PE X o ta) (c : Cls X.K C) (hm : ZE2 X.K C m f) (F : ZD2 X.prog X.w X.K X.mg X.base CX k f fd ps sp) (hr : Room k X.A) (hb : ZDt X.K fd ps ds) (hd : ZD3 dvs ds) (hx : ZFS CX X E) (ha : PA X (e :: es) t)
  (hst : starEach (e :: es) X.env = (false, eval e X.env) :: starEach es X.env := by rfl) (hpl : (backTo pos (starEach es X.env)).any (·.1) = false := by rfl)
  (ht : eval (.Call (.Attribute o m apos) (e :: es) [] pos) X.env = (do
   let ov <- eval o X.env
   standAt apos.atName
   let (f, first) <- holding [ov] (getMethod ov m pl)
   callWith pos f first (backTo pos (starEach (e :: es) X.env)) (backToKw pos (keywordEach [] X.env))) := by rfl) :
  PE X (.Call (.Attribute o m apos) (e :: es) [] pos) (ZK2 C m sp dvs E ta t) := by
 intro pins s U H Q I h
 refine PySem.W.methodCall_KW (pl := pl) (thn (he pins s U H _ I h) fun u s1 ⟨x, H1, I1, rx, a, dx, fs, ex, ea, l, q⟩ => ?_) ht
 subst ex
 obtain rfl : u = Value.ref a := rx
 refine ZKz I1 ea c hm l ?_
 refine PySem.W.callWith_K (first := [.ref a]) (h₀ := X.base) I.ok.mod.kin hm.kp (thn (ha pos pins s1 U H1 _ I1 q) fun us s2 ⟨vs, H2, I2, r, q2⟩ => ⟨I2.kIn, ?_⟩) hst hpl
 exact ZND (us := .ref a :: us) (vs := .ref a :: vs) F hr hb hd hx I2 (.cons rfl r) q2
theorem ZSo {pl : Sem Bool} (he : PE X o ta) (c : Cls X.K C) (hm : ZE2 X.K C m f) (F : ZD2 X.prog X.w X.K X.mg X.base CX k f fd ps sp) (hr : Room k X.A) (hb : ZDt X.K fd ps ds) (hd : ZD3 dvs ds) (hx : ZFS CX X E)
  (ht : eval (.Call (.Attribute o m apos) [] [] pos) X.env = (do
   let ov <- eval o X.env
   standAt apos.atName
   let (f, first) <- holding [ov] (getMethod ov m pl)
   callWith pos f first (backTo pos (starEach [] X.env)) (backToKw pos (keywordEach [] X.env))) := by rfl) :
  PE X (.Call (.Attribute o m apos) [] [] pos) (ZK2 C m sp dvs E ta ZKR) := by
 intro pins s U H Q I h
 refine PySem.W.methodCall_KW (pl := pl) (thn (he pins s U H _ I h) fun u s1 ⟨x, H1, I1, rx, a, dx, fs, ex, ea, l, q⟩ => ?_) ht
 subst ex
 obtain rfl : u = Value.ref a := rx
 refine ZKz I1 ea c hm l ?_
 exact PySem.W.callWith_K0 (first := [.ref a]) I1.kIn hm.kp (ZND (us := [.ref a]) (vs := [.ref a]) F hr hb hd hx I1 (.cons rfl .nil) q)
structure Mk (K : W.Frag) (C f : Addr) : Prop where
 makes : PySem.W.makesIn K C = true
 init : W.findIn K (.ref C) "__init__" = some (some (.ref f))
 fn : PySem.W.isFn K (.ref f) = true
 kp : W.keepIn K (.ref C) = true
theorem ZNE {pins : List (Addr × Obj)} {U : St} {H : Hp} {s : Shared} {Q : VK} {us : List Value} {vs : List V} (M : Mk X.K C f) (F : ZD2 X.prog X.w X.K X.mg X.base CX k f fd ps sp) (hr : Room (k + 1) X.A) (hb : ZDt X.K fd ps ds) (hd : ZD3 dvs ds)
  (hx : ZFS CX X E) (I : Inv X pins U H s) (r : ZD3 vs us)
  (h : ∀ x dx, H x = none -> H dx = none -> dx ≠ x -> sp (.ref x :: (vs ++ dvs)) (upd (upd H dx (.own x)) x (.ins C dx [])) (fun v H2 => v = .non /\ Q (.ref x) H2) E) :
  wpAny (model X.prog X.w) X.A (call (.ref C) us) (EP X pins U Q) X.xe s := by
 have hq := h (s.heap.objs.size + 1) s.heap.objs.size (I.hok.fresh (Nat.le_succ _)) (I.hok.fresh (Ud _)) (Uq (Vq _))
 have I2 := Inv.made (C := C) I
 have r2 : ZD3 (V.ref (s.heap.objs.size + 1) :: (vs ++ dvs)) (Value.ref (s.heap.objs.size + 1) :: (us ++ ds)) := .cons rfl (r.append hd)
 have hl : (Value.ref (s.heap.objs.size + 1) :: us ++ ds).length = ps.length := by
  have e := r2.length
  rw [F.len _ _ _ _ hq] at e
  exact e.symm
 refine wpAny_call (ZSj (f := f) I.kIn M.makes M.init (beq_iff_eq.mp M.fn) (codeAny_mono (F.run _ X.stack _ _ ⟨Value.ref (s.heap.objs.size + 1) :: us, []⟩ (Value.ref (s.heap.objs.size + 1) :: (us ++ ds)) _ _ E (hr.make C us [])
  (I2.env0.make C us []) (hb _ (Value.ref (s.heap.objs.size + 1) :: us) I2.kIn hl) r2 hq) fun r s' hq' => ?_))
 cases r with
 | error e => exact hx pins U _ _ e s' I2 hq'
 | ok fl =>
  cases fl with
  | ret u =>
   obtain ⟨v, H', I3, rv, ev, q3⟩ := I2.after hq'
   subst ev
   exact ⟨rv, ⟨V.ref (s.heap.objs.size + 1), H', I3, rfl, q3⟩⟩
  | next => exact False.elim hq'
  | brk => exact False.elim hq'
  | cont => exact False.elim hq'
theorem ZU0 (M : Mk X.K C f) (F : ZD2 X.prog X.w X.K X.mg X.base CX k f fd ps sp) (hr : Room (k + 1) X.A) (hg : Gl X x) (hm : X.mg x = some (.ref C)) (hb : ZDt X.K fd ps ds) (hd : ZD3 dvs ds) (hx : ZFS CX X E)
  (ha : PA X (e :: es) t) (hdb : (x == ("__debug__" : Str)) = false := by decide) (he : starEach (e :: es) X.env = (false, eval e X.env) :: starEach es X.env := by rfl) (hpl : (backTo pos (starEach es X.env)).any (·.1) = false := by rfl) :
  PE X (.Call (.Name x p) (e :: es) [] pos) (ZK3 C sp dvs E t) := by
 intro pins s U H Q I h
 refine wpAny_Call_Name_kw (ZHT I hg hm ?_ hdb)
 refine PySem.W.callWith_K (h₀ := X.base) I.ok.mod.kin M.kp (thn (ha pos pins s U H _ I h) fun us s1 ⟨vs, H1, I1, r, q⟩ => ⟨I1.kIn, ?_⟩) he hpl
 exact ZNE M F hr hb hd hx I1 r q
theorem ZSp (M : Mk X.K C f) (F : ZD2 X.prog X.w X.K X.mg X.base CX k f fd ps sp) (hr : Room (k + 1) X.A) (hg : Gl X x) (hm : X.mg x = some (.ref C)) (hb : ZDt X.K fd ps ds) (hd : ZD3 dvs ds) (hx : ZFS CX X E)
  (hdb : (x == ("__debug__" : Str)) = false := by decide) : PE X (.Call (.Name x p) [] [] pos) (ZK3 C sp dvs E ZKR) := by
 intro pins s U H Q I h
 refine wpAny_Call_Name_kw (ZHT I hg hm ?_ hdb)
 exact PySem.W.callWith_K0 I.kIn M.kp (ZNE (us := []) M F hr hb hd hx I .nil h)
end
structure ZDw (N P : List Str) (sc : Scope) : Prop where
 kind : sc.kind = .function
 co : sc.isCoroutine = false
 gen : sc.isGenerator = false
 nd : N.Nodup
 pre : N.take P.length = P
 par : ∀ x ∈ P, sc.names.lookup x = some .local \/ sc.names.lookup x = some .cell
 nofree : ∀ y ∈ sc.names, y.2 ≠ .free
theorem ZMA {kindOf : Str -> Option NameKind} {x : Str} : ∀ {binds : List (Str × Value)} {m : Str -> Option Value}, (∀ v, (x, v) ∉ binds) -> bindL kindOf binds m x = m x
 | [], _, _ => rfl
 | (n, v) :: r, m, h => by
  unfold bindL
  rw [ZMA fun w hw => h w (Ur _ hw)]
  split
  ·have : x ≠ n := by rintro rfl; exact h v UA
   simp [this]
  ·rfl
theorem ZMB {kindOf : Str -> Option NameKind} {x : Str} : ∀ {binds : List (Str × Value)} {m : Str -> Option Value}, (∀ v, (x, v) ∉ binds) -> bindC kindOf binds m x = m x
 | [], _, _ => rfl
 | (n, v) :: r, m, h => by
  unfold bindC
  rw [ZMB fun w hw => h w (Ur _ hw)]
  split
  ·rfl
  ·have : x ≠ n := by rintro rfl; exact h v UA
   simp [this]
theorem ZMC {kindOf : Str -> Option NameKind} {x : Str} {v : Value} : ∀ {P : List Str} {vs : List Value} {i : Nat} {m : Str -> Option Value}, P.Nodup -> P[i]? = some x -> vs[i]? = some v -> kindOf x = some .local ->
  bindL kindOf (P.zip vs) m x = some v
 | [], _, _, _, _, h, _, _ => by simp at h
 | _ :: _, [], _, _, _, _, h, _ => by simp at h
 | p :: P, w :: vs, 0, m, nd, h1, h2, hk => by
  simp at h1 h2; subst h1; subst h2
  show bindL kindOf ((p, w) :: P.zip vs) m p = _
  unfold bindL
  rw [ZMA fun v hv => (List.nodup_cons.mp nd).1 (List.of_mem_zip hv).1, if_pos hk]
  simp
 | p :: P, w :: vs, i + 1, m, nd, h1, h2, hk => by
  show bindL kindOf ((p, w) :: P.zip vs) m x = _
  unfold bindL
  exact ZMC (i := i) (List.nodup_cons.mp nd).2 (by simpa using h1) (by simpa using h2) hk
theorem ZMD {kindOf : Str -> Option NameKind} {x : Str} {v : Value} : ∀ {P : List Str} {vs : List Value} {i : Nat} {m : Str -> Option Value}, P.Nodup -> P[i]? = some x -> vs[i]? = some v -> kindOf x ≠ some .local ->
  bindC kindOf (P.zip vs) m x = some v
 | [], _, _, _, _, h, _, _ => by simp at h
 | _ :: _, [], _, _, _, _, h, _ => by simp at h
 | p :: P, w :: vs, 0, m, nd, h1, h2, hk => by
  simp at h1 h2; subst h1; subst h2
  show bindC kindOf ((p, w) :: P.zip vs) m p = _
  unfold bindC
  rw [ZMB fun v hv => (List.nodup_cons.mp nd).1 (List.of_mem_zip hv).1, if_neg hk]
  simp
 | p :: P, w :: vs, i + 1, m, nd, h1, h2, hk => by
  show bindC kindOf ((p, w) :: P.zip vs) m x = _
  unfold bindC
  exact ZMD (i := i) (List.nodup_cons.mp nd).2 (by simpa using h1) (by simpa using h2) hk
def start (N : List Str) (vs : List V) : St := vs.map some ++ List.replicate (N.length - vs.length) none
def ZKS (CX : CXT) (P : Program) (w : World) (K : W.Frag) (mg : Str -> Option Value) (base : Heap) (N : List Str) (qual : Str) (scope : Scope) (f : Addr) (cd : Value) (A : Around) (outer : List Env) (s : Shared) (H : Hp) (E : XK) : Cx where
 prog := P
 w := w
 K := K
 mg := mg
 base := base
 A := A.deeper (envOfC qual scope s.heap.objs.size f cd)
 N := N
 s₀ := s
 H₀ := H
 env := envOfC qual scope s.heap.objs.size f cd
 outer := outer
 stack := envOfC qual scope s.heap.objs.size f cd :: outer
 ex := []
 calm := true
 fn := fun _ => true
 pn := []
 xe := fun e s' => wpAny (model P w) (A.deeper (envOfC qual scope s.heap.objs.size f cd)) (leaving (envOfC qual scope s.heap.objs.size f cd) e) (fun _ s'' => CX outer H s E e s'') (fun e' s'' => CX outer H s E e' s'') s'
theorem ZNF {sc : Scope} {n : Nat} {x : Str} (h : sc.names.lookup x = some .cell) : ∃ c, (cellsFrom n sc.names []).lookup x = some c := by
 have q := PySem.W.cellsFrom_some sc.names n [] (.inl h)
 exact Option.isSome_iff_exists.mp q
theorem ZQt {CX : CXT} {P : Program} {w : World} {K : W.Frag} {mg : Str -> Option Value} {base : Heap} {N ps : List Str} {qual : Str} {scope : Scope} {f : Addr} {cd : Value} {A : Around} {outer : List Env} {s s1 : Shared} {H : Hp} {E : XK} {us : List Value} {vs : List V}
  (S : ZDw N ps scope) (hd : A.handled = none) (e0 : ZIA P w K mg base A outer s H) (hl : vs.length = ps.length) (r : ZD3 vs us)
  (x : InCallC s s.heap.objs.size (bindL (envOfC qual scope s.heap.objs.size f cd).kindOf (ps.zip us) fun _ => none) (cellsFrom (s.heap.objs.size + 1) scope.names []) (bindC (envOfC qual scope s.heap.objs.size f cd).kindOf (ps.zip us) fun _ => none) s1) :
  Inv (ZKS CX P w K mg base N qual scope f cd A outer s H E) [] (start N vs) H s1 := by
 have hpl : ps.length <= N.length := by have := congrArg Vl S.pre; rw [UR] at this; omega
 obtain ⟨h1, tk, rfl, hk⟩ := x.done
 have noA : ∀ b : Addr, b ∉ (ZKS CX P w K mg base N qual scope f cd A outer s H E).ex := fun b z => absurd (show b ∈ ([] : List Addr) from z) (by simp)
 refine ⟨⟨e0.mod, S.kind, rfl, rfl, Ud _, fun y z c h1 h2 => ?_, fun y hy => ?_, fun y c _ h => ?_, fun _ => hd, Around.frames_deeper e0.frames, .inr ⟨rfl, rfl⟩, fun b z => absurd z (noA b), e0.bs, e0.bsz, fun b _ _ => noA b, fun b z => absurd z (noA b), e0.funs, e0.frf⟩,
  rfl, e0.bare, Un.kept hk, ⟨_, x.toInCall.ns, fun i y v h1 h2 h3 => ?_⟩, fun y c h => ⟨_, x.cell y c h⟩, e0.hok.fresh (Ud _), fun y c h => ?_, fun p hp => absurd (show p ∈ ([] : List (Addr × Obj)) from hp) (by simp), e0.hok.kept hk, ?_⟩
 ·exact name_of_addr x.apart (PySem.mem_of_lookup h1) (PySem.mem_of_lookup h2)
 ·have hy : scope.names.lookup y = some .cell \/ scope.names.lookup y = some .free := hy
  rcases hy with hy | hy
  ·exact ZNF hy
  ·exact absurd rfl (S.nofree _ (PySem.mem_of_lookup hy))
 ·exact Nat.le_of_lt (x.above y c (PySem.mem_of_lookup h))
 ·have hi : i < vs.length := by
   unfold start at h2
   by_cases hi : i < vs.length
   ·exact hi
   ·rw [Vh (by simpa using hi)] at h2
    rw [List.getElem?_replicate] at h2
    split at h2 <;> cases h2
  have ha : vs[i]? = some v := by
   unfold start at h2
   rw [List.getElem?_append_left (by simpa using hi), UB] at h2
   cases e : vs[i]? with
   | none => rw [e] at h2; cases h2
   | some a => rw [e] at h2; cases h2; rfl
  obtain ⟨u, hu, rv⟩ := r.get ha
  have hp : ps[i]? = some y := by
   rw [<- S.pre, List.getElem?_take_of_lt (by omega)]; exact h1
  have ndP : ps.Nodup := by rw [<- S.pre]; exact S.nd.sublist (List.take_sublist _ _)
  refine ⟨u, rv, ?_⟩
  rcases S.par y (Uv hp) with k | k
  ·exact .inl ⟨k, ZMC ndP hp hu k⟩
  ·obtain ⟨c, e⟩ := ZNF (n := s.heap.objs.size + 1) k
   refine .inr ⟨.inl k, c, e, ?_⟩
   have q := x.cell y c e
   rw [ZMD ndP hp hu (by show scope.names.lookup y ≠ _; rw [k]; decide)] at q
   exact q
 ·exact e0.hok.fresh (Nat.le_of_lt (x.above y c (PySem.mem_of_lookup h)))
 ·unfold start
  show _ = N.length
  rw [UN, Uf, List.length_replicate]
  omega
theorem ZUK {CX : CXT} {P : Program} {w : World} {K : W.Frag} {mg : Str -> Option Value} {base : Heap} {k : Nat} {f : Addr} {name qual : Str} {params : Arguments} {body : List Stmt} {scope : Scope} {dV kV doc pm cdv ct oc : Value} {an od : Option Addr}
  {osl : Array (Option Value)} {N ps : List Str} {sp : Sp} (lk : K.lookup f = some ⟨oc, od, .func (W.fnOf name qual params body scope dV kV doc pm an cdv ct), osl⟩) (hcd : W.codeIn K cdv qual = true) (S : ZDw N ps scope)
  (len : ∀ vs H Q E, sp vs H Q E -> vs.length = ps.length)
  (hbody : ∀ (A : Around) (outer : List Env) (s : Shared) (H : Hp) (vs : List V) (Q : VK) (E : XK), Room k (A.deeper (envOfC qual scope s.heap.objs.size f cdv)) -> sp vs H Q E ->
   ∃ t, PSs (ZKS CX P w K mg base N qual scope f cdv A outer s H E) body t /\ t { nx := fun _ H' => Q .non H', rt := Q } (start N vs) H) :
  ZD2 P w K mg base CX (k + 1) f (W.fnOf name qual params body scope dV kV doc pm an cdv ct) ps sp := by
 refine ⟨len, fun A outer s H args us vs Q E hr e0 hb r hsp => ?_⟩
 have hl := len _ _ _ _ hsp
 have KX : K.In s.heap := e0.mod.kin.keeps fun b o e => (e0.bs b o e).1
 have lim : s.heap.NoLimit := e0.mod.nolimit.keeps fun b o e => (e0.bs b o e).1
 have hkind : ∀ y ∈ ps.zip us, scope.names.lookup y.1 = some .local \/ (scope.names.lookup y.1 = some .cell /\ ((cellsFrom (s.heap.objs.size + 1) scope.names []).lookup y.1).isSome = true) := fun ⟨n, v⟩ hy => by
  rcases S.par n (List.of_mem_zip hy).1 with q | q
  ·exact .inl q
  ·exact .inr ⟨q, PySem.W.cellsFrom_some _ _ _ (.inl q)⟩
 refine codeAny_call_function hr.depth (KX _ _ lk) rfl S.co S.gen rfl (PySem.W.codeRec_of KX hcd) (hb _ _ _ _ ?_)
 refine wpAny_newFunctionEnv_cells S.kind hkind fun env he s1 x => ?_
 subst he
 refine ⟨lim.keeps x.toInCall.keep, codeAny_func ?_⟩
 obtain ⟨t, ht, hq⟩ := hbody A outer s H vs Q E (hr.deeper _) hsp
 have I : Inv (ZKS CX P w K mg base N qual scope f cdv A outer s H E) [] (start N vs) H s1 := ZQt S hr.hd e0 hl r x
 refine UG (ht [] s1 (start N vs) H _ I hq) (fun fl s' hs => ?_) fun e s' hs => hs
 have fin : ∀ {U' : St} {H' : Hp} {v : V} {u : Value}, Inv (ZKS CX P w K mg base N qual scope f cdv A outer s H E) [] U' H' s' -> ZD0 v u -> Q v H' -> CE outer P w H s Q u s' :=
  fun {U' H' v u} J rv q => ⟨v, H', J.os, J.bare, J.base, J.hok, rv, q⟩
 cases fl with
 | ret u =>
  obtain ⟨v, U', H', J, rv, q⟩ := hs
  exact fin J rv q
 | next =>
  obtain ⟨U', H', J, q⟩ := hs
  exact fin (v := V.non) (u := Value.none) J rfl q
 | brk =>
  obtain ⟨_, _, _, q⟩ := hs
  exact False.elim q
 | cont =>
  obtain ⟨_, _, _, q⟩ := hs
  exact False.elim q
section
variable {X : Cx} {x : Str} {p pos : Pos} {e : Expr} {es : List Expr} {t : TA} {id T : String} {r : List V -> Hp -> VK -> Prop}
def tCB (r : List V -> Hp -> VK -> Prop) (t : TA) : TE := fun U H Q => t U H fun vs H1 => r vs H1 Q
theorem ZSq (hc : ZEd X (.builtin id) r) (hg : Gl X x) (hm : X.mg x = none) (hv : bootBuiltins x = some (.builtin id)) (ha : PA X (e :: es) t) (hn : x ≠ "__name__" := by decide) (hdb : (x == ("__debug__" : Str)) = false := by decide)
  (he : starEach (e :: es) X.env = (false, eval e X.env) :: starEach es X.env := by rfl) (hpl : (backTo pos (starEach es X.env)).any (·.1) = false := by rfl) : PE X (.Call (.Name x p) (e :: es) [] pos) (tCB r t) := by
 intro pins s U H Q I h
 refine wpAny_Call_Name_kw (ZGY I hg hm hv ?_ hn hdb)
 exact PyProof.Rows.callWith_builtin1 (thn (ha pos pins s U H _ I h) fun us s1 ⟨vs, H1, I1, r1, q1⟩ => hc pins s1 U H1 vs us Q I1 r1 q1) he hpl
theorem ZQu (hc : ZEd X (.type T) r) (hg : Gl X x) (hm : X.mg x = none) (hv : bootBuiltins x = some (.type T)) (ha : PA X (e :: es) t) (hn : x ≠ "__name__" := by decide) (hdb : (x == ("__debug__" : Str)) = false := by decide)
  (he : starEach (e :: es) X.env = (false, eval e X.env) :: starEach es X.env := by rfl) (hpl : (backTo pos (starEach es X.env)).any (·.1) = false := by rfl) : PE X (.Call (.Name x p) (e :: es) [] pos) (tCB r t) := by
 intro pins s U H Q I h
 refine wpAny_Call_Name_kw (ZGY I hg hm hv ?_ hn hdb)
 exact PyProof.Rows.callWith_type1 (thn (ha pos pins s U H _ I h) fun us s1 ⟨vs, H1, I1, r1, q1⟩ => hc pins s1 U H1 vs us Q I1 r1 q1) he hpl
end
end L2
namespace HT
open PySem PyProof.Rows
section
variable {prog : Program} {w : World} {A : Around} {E : Value -> Shared -> Prop} {s : Shared}
def sIx (n d : Nat) : Option Int -> Nat
 | none => d
 | some v => if v < 0 then (v + (n : Int)).toNat else min v.toNat n
theorem sIx_nat (n d k : Nat) : sIx n d (some (k : Int)) = min k n := by
 show (if (k : Int) < 0 then ((k : Int) + (n : Int)).toNat else min (k : Int).toNat n) = min k n
 rw [if_neg (by omega), Vx]
theorem ZWz (n d : Nat) (hd : d <= n) (o : Option Int) : sIx n d o <= n := by
 cases o with
 | none => exact hd
 | some v =>
  show (if v < 0 then (v + (n : Int)).toNat else min v.toNat n) <= n
  by_cases hv : v < 0
  ·rw [if_pos hv]; omega
  ·rw [if_neg hv]; exact Nat.min_le_right _ _
theorem ZOw (v : Int) (n d : Nat) : (if v < 0 then max (v + (n : Int)) 0 else min v (n : Int)) = ((sIx n d (some v) : Nat) : Int) := by
 show (if v < 0 then max (v + (n : Int)) 0 else min v (n : Int)) = (((if v < 0 then (v + (n : Int)).toNat else min v.toNat n) : Nat) : Int)
 by_cases hv : v < 0
 ·simp only [if_pos hv]; omega
 ·simp only [if_neg hv]; omega
theorem ZPd (lo hi : Option Int) (n : Nat) : Builtin.Slice.sliceAdjust lo hi 1 (n : Int) = (((sIx n 0 lo : Nat) : Int), ((sIx n n hi : Nat) : Int)) := by
 have h1 : ¬ ((1 : Int) < 0) := by omega
 unfold Builtin.Slice.sliceAdjust
 simp only [h1, if_false]
 refine Prod.ext ?_ ?_
 ·cases lo with
  | none => rfl
  | some v => exact ZOw v n 0
 ·cases hi with
  | none => rfl
  | some v => exact ZOw v n n
theorem ZPe (i j : Nat) : Builtin.Slice.slicePlaces (i : Int) (j : Int) 1 = j - i := by
 unfold Builtin.Slice.slicePlaces
 have h1 : (1 : Int) > 0 := by omega
 simp only [h1, if_true, Int.ediv_one]
 split <;> omega
theorem ZK4 {v : Value} {o : Option Int} {Q : Option Int -> Shared -> Prop} (p : IsPart v o) (h : Q o s) : wpAny (model prog w) A (Builtin.Slice.slicePartIndex v) Q E s := by
 cases p with
 | none => exact slicePart_none h
 | int i t => exact slicePart_int h
theorem sliceApplied_gen {sl : Addr} {vl vu : Value} {lo hi : Option Int} {n : Nat} {Q : Int × Int × Nat -> Shared -> Prop} (hs : s.heap.IsSliceOf sl vl vu .none) (pl : IsPart vl lo) (pu : IsPart vu hi)
  (h : Q (((sIx n 0 lo : Nat) : Int), 1, sIx n n hi - sIx n 0 lo) s) : wpAny (model prog w) A (Builtin.Slice.sliceApplied (.ref sl) (pure (n : Int))) Q E s := by
 obtain ⟨os, hos, hcs, hds⟩ := id hs
 unfold Builtin.Slice.sliceApplied Builtin.Slice.sliceFields
 refine Ua (Ua (Vc hos hds (x := vl) rfl (Ua (Vc hos hds (x := vu) rfl (Ua (Vc hos hds (x := .none) rfl (Uh ?_)))))))
 refine Ua (slicePart_none ?_)
 show wpAny _ _ (if ((1 : Int) == 0) = true then _ else _) _ _ s
 rw [if_neg (by decide)]
 refine Ua (ZK4 pl (Ua (ZK4 pu (Ua (Uh ?_)))))
 show wpAny _ _ (match Builtin.Slice.sliceAdjust lo hi 1 (n : Int) with | (lo, hi) => pure (lo, (1 : Int), Builtin.Slice.slicePlaces lo hi 1)) _ _ s
 rw [ZPd lo hi n]
 show wpAny _ _ (pure (((sIx n 0 lo : Nat) : Int), (1 : Int), Builtin.Slice.slicePlaces ((sIx n 0 lo : Nat) : Int) ((sIx n n hi : Nat) : Int) 1)) _ _ s
 rw [ZPe]
 exact Uh h
theorem ZSr (xs : Array Value) (i k : Nat) : ((UM k).filterMap fun (m : Nat) => xs[((i : Int) + (m : Int) * 1).toNat]?).toArray = ((xs.toList.drop i).take k).toArray := by
 have e : (fun (m : Nat) => xs[((i : Int) + (m : Int) * 1).toNat]?) = fun m => xs[i + m]? := by
  funext m
  have : ((i : Int) + (m : Int) * 1).toNat = i + m := by omega
  rw [this]
 rw [e]
 have := pick_run xs i k
 rw [List.filterMap_map] at this
 have e2 : ((fun x => xs[x]?) ∘ fun x => i + x) = fun m => xs[i + m]? := rfl
 rw [e2] at this
 rw [this]
theorem getItem_tuple_cut {t sl : Addr} {items : Array Value} {vl vu : Value} {lo hi : Option Int} {Q : Value -> Shared -> Prop} (ht : IsTup s.heap t items) (hs : s.heap.IsSliceOf sl vl vu .none) (pl : IsPart vl lo) (pu : IsPart vu hi)
  (hw : ¬ (sIx items.size 0 lo = 0 /\ sIx items.size items.size hi = items.size))
  (h : Q (.ref s.heap.objs.size) { s with heap := s.heap.push { cls := .type "tuple", data := .seq ((items.toList.drop (sIx items.size 0 lo)).take (sIx items.size items.size hi - sIx items.size 0 lo)).toArray } })
  (hsz : items.size <= sizeLine) : wpAny (model prog w) A (getItem (.ref t) (.ref sl)) Q E s := by
 have htake : sizeOk (.seq ((items.toList.drop (sIx items.size 0 lo)).take (sIx items.size items.size hi - sIx items.size 0 lo)).toArray) := by
  show ((items.toList.drop (sIx items.size 0 lo)).take (sIx items.size items.size hi - sIx items.size 0 lo)).toArray.size <= sizeLine
  rw [Uo, UR, List.length_drop, UF]
  omega
 have hj : sIx items.size items.size hi <= items.size := ZWz _ _ (Ud _) hi
 obtain ⟨os, hos, hcs, hds⟩ := id hs
 have hTs : s.TypeIs (.ref sl) "slice" := ⟨os, hos, hcs⟩
 unfold getItem
 try with_reducible refine UT ?_
 first | refine Ua (Uh ?_) | skip
 refine Ua (wpAny_sequenceKey ht.typeIs (by decide) ?_)
 refine Ua (wpAny_callSpecial?_slot (name := Str.ofString "__getitem__") ht.typeIs PyProof.Rows.slot_tuple_getitem
  (wpAny_call_entry PyProof.Rows.slot_tuple_getitem ht.typeIs entry_tuple_getitem ?_ (args_tuple_getitem _ _)))
 show wpAny _ _ (Builtin.Tuple.tupleItemsOf (.ref t) >>= _) _ _ s
 refine Ua (tupleItemsOf_ ht ?_)
 refine Ua (wpAny_typeOf hTs ?_)
 rw [if_pos (by decide)]
 refine Ua (sliceApplied_gen hs pl pu ?_)
 have hno : ¬ ((((sIx items.size 0 lo : Nat) : Int) == 0 && (1 : Int) == 1 && (sIx items.size items.size hi - sIx items.size 0 lo) == items.size) = true) := by
  intro q
  rw [UH, UH] at q
  have q1 : ((sIx items.size 0 lo : Nat) : Int) = 0 := eq_of_beq q.1.1
  have q2 : sIx items.size items.size hi - sIx items.size 0 lo = items.size := eq_of_beq q.2
  exact hw ⟨by omega, by omega⟩
 show wpAny _ _ (if (((sIx items.size 0 lo : Nat) : Int) == 0 && (1 : Int) == 1 && (sIx items.size items.size hi - sIx items.size 0 lo) == items.size) = true then _ else _) _ _ s
 rw [if_neg hno, ZSr]
 first
  | exact Ua (m := Builtin.Tuple.tupleExact _) (wpAny_newObj_type (Uh ⟨_, rfl, Uh h⟩) htake)
  | exact Ua (m := Builtin.Tuple.tupleExact _) (wpAny_newObj_type (Ua (Uh (Uh ⟨_, rfl, Uh h⟩))) htake)
  | exact Ua (Ua (m := Builtin.Tuple.tupleExact _) (wpAny_newObj_type (Uh (Uh ⟨_, rfl, Uh h⟩)) htake))
  | exact Ua (Ua (m := Builtin.Tuple.tupleExact _) (wpAny_newObj_type (Uh ⟨_, rfl, Uh h⟩) htake))
end
end HT
namespace L2
open PySem PySem.Spec PyProof.Rows
abbrev TO := St -> Hp -> (Option Int -> Hp -> Prop) -> Prop
def PO (X : Cx) (e : Option Expr) (t : TO) : Prop :=
 ∀ (pins : List (Addr × Obj)) (s : Shared) (U : St) (H : Hp) (Q : Option Int -> Hp -> Prop), Inv X pins U H s -> t U H Q ->
  wpAny (model X.prog X.w) X.A (evalPart e X.env) (fun u s' => ∃ o H', Inv X pins U H' s' /\ IsPart u o /\ Q o H') X.xe s
def ZLa : TO := fun _ H Q => Q none H
def ZPf (t : TE) : TO := fun U H Q => t U H fun x H1 => ∃ i, x = .int i /\ Q (some i) H1
section
variable {X : Cx} {e : Expr} {te : TE} {lo hi : Option Expr} {tl th : TO} {pos p2 : Pos}
theorem ZU1 : PO X none ZLa := by
 intro pins s U H Q I h
 rw [evalPart_none]
 exact Uh ⟨none, H, I, .none, h⟩
theorem ZU2 (h : PE X e te) : PO X (some e) (ZPf te) := by
 intro pins s U H Q I hw
 rw [evalPart_some]
 refine thn (h pins s U H _ I hw) fun u s1 ⟨x, H1, I1, r1, q1⟩ => ?_
 obtain ⟨i, rfl, q⟩ := q1
 obtain ⟨t, rfl⟩ := r1
 exact ⟨some i, H1, I1, .int i t, q⟩
def SlR (X : Cx) (r : V -> Option Int -> Option Int -> Hp -> VK -> Prop) : Prop :=
 ∀ (pins : List (Addr × Obj)) (s : Shared) (U : St) (H : Hp) (x : V) (v vl vu : Value) (lo hi : Option Int) (sl : Addr) (Q : VK), Inv X pins U H s -> ZD0 x v -> s.heap.IsSliceOf sl vl vu .none -> IsPart vl lo -> IsPart vu hi -> r x lo hi H Q ->
  ∃ T id, typeLookup (.type T) "__getitem__" = pure (some (.builtin id)) /\ s.TypeIs v T /\ wpAny (model X.prog X.w) X.A (getItem v (.ref sl)) (EP X pins U Q) X.xe s
def tSl (r : V -> Option Int -> Option Int -> Hp -> VK -> Prop) (te : TE) (tl th : TO) : TE := fun U H Q => te U H fun x H1 => tl U H1 fun l H2 => th U H2 fun u H3 => r x l u H3 Q
theorem ZSs {r : V -> Option Int -> Option Int -> Hp -> VK -> Prop} (hr : SlR X r) (he : PE X e te) (hl : PO X lo tl) (hu : PO X hi th) : PE X (.Subscript e (.Slice lo hi none p2) pos) (tSl r te tl th) := by
 intro pins s U H Q I h
 refine Subscript_ (thn (he pins s U H _ I h) fun v s1 ⟨x, H1, I1, r1, q1⟩ => ?_)
 refine wpAny_Slice (thn (hl pins s1 U H1 _ I1 q1) fun vl s2 ⟨l, H2, I2, pl, q2⟩ => thn (hu pins s2 U H2 _ I2 q2) fun vu s3 ⟨u, H3, I3, pu, q3⟩ => ?_)
 rw [evalPart_none]
 refine Uh ?_
 have I4 : Inv X pins U H3 { s3 with heap := s3.heap.push { cls := .type "slice", data := .fields #[vl, vu, .none] } } := I3.kept (t' := s3.toks) fun b ob q => Ub _ q
 obtain ⟨T, id, hT, ht, hg⟩ := hr pins { s3 with heap := s3.heap.push { cls := .type "slice", data := .fields #[vl, vu, .none] } } U H3 x v vl vu l u s3.heap.objs.size Q I4 r1 (Heap.IsSliceOf.new ..) pl pu q3
 show wpAny (model X.prog X.w) X.A (subscriptTail e (.Slice lo hi none p2) v (.ref s3.heap.objs.size)) (EP X pins U Q) X.xe { s3 with heap := s3.heap.push { cls := .type "slice", data := .fields #[vl, vu, .none] } }
 exact tail_any (ops := [.ref s3.heap.objs.size, v]) ht hT hg (by with_unfolding_all rfl)
def ZGo (xs : List V) (lo hi : Option Int) : List V := (xs.drop (HT.sIx xs.length 0 lo)).take (HT.sIx xs.length xs.length hi - HT.sIx xs.length 0 lo)
theorem ZKG (xs : List V) (lo hi : Option Int) : (ZGo xs lo hi).length <= xs.length := by
 unfold ZGo
 rw [UR, List.length_drop]
 omega
def ZYw (K : W.Frag) : V -> Option Int -> Option Int -> Hp -> VK -> Prop := fun x lo hi H Q => ∃ a xs, x = .ref a /\ SqT K H a xs /\
 ¬ (HT.sIx xs.length 0 lo = 0 /\ HT.sIx xs.length xs.length hi = xs.length) /\ ∀ p, H p = none -> Q (.ref p) (upd H p (.tup (ZGo xs lo hi)))
theorem ZW0 : SlR X (ZYw X.K) := by
 intro pins s U H x v vl vu lo hi sl Q I rx hs pl pu h
 obtain ⟨a, xs, rfl, hx, hw, q⟩ := h
 cases rx
 obtain ⟨its, r, ht, hz⟩ := I.tuple hx
 have hlen : its.toArray.size = xs.length := by rw [Uo]; exact r.length.symm
 refine ⟨"tuple", _, PyProof.Rows.slot_tuple_getitem.lookup, ht.typeIs, ?_⟩
 refine HT.getItem_tuple_cut ht hs pl pu (by rw [hlen]; exact hw) ?_ (by rw [hlen]; exact hz)
 rw [hlen]
 refine ⟨.ref s.heap.objs.size, _, I.laid (t' := s.toks) (o := .tup (ZGo xs lo hi)) (fun b ob q => Ub _ q) (Ud _) ?_, rfl, q _ (I.hok.fresh (Ud _))⟩
 exact ⟨⟨Uz (ZKG xs lo hi) hz, fun _ => ⟨_, Ug _ rfl, rfl, rfl⟩⟩, _, (r.drop (HT.sIx xs.length 0 lo)).take (HT.sIx xs.length xs.length hi - HT.sIx xs.length 0 lo), IsTup.new _ _⟩
end
def ixN (n : Nat) (i : Int) : Option Nat := if 0 <= i then (if i < n then some i.toNat else none) else if -(n : Int) <= i then some (i + n).toNat else none
def atI {α : Type} (xs : List α) (i : Int) : Option α := (ixN xs.length i).bind fun j => xs[j]?
theorem ZOx {n : Nat} {i : Int} {j : Nat} (h : ixN n i = some j) : seqIndex? i n = some j /\ j < n /\ -(n : Int) <= i /\ i < n := by
 unfold ixN at h
 by_cases h0 : 0 <= i
 ·rw [if_pos h0] at h
  by_cases h1 : i < n
  ·rw [if_pos h1] at h
   have e : i.toNat = j := Option.some.inj h
   exact ⟨by rw [seqIndex_of h0 h1, e], by omega, by omega, h1⟩
  ·rw [if_neg h1] at h; cases h
 ·rw [if_neg h0] at h
  by_cases h1 : -(n : Int) <= i
  ·rw [if_pos h1] at h
   have e : (i + n).toNat = j := Option.some.inj h
   exact ⟨by rw [seqIndex_neg (by omega) h1, e], by omega, h1, by omega⟩
  ·rw [if_neg h1] at h; cases h
theorem ZLb {α : Type} {xs : List α} {i : Int} {v : α} (h : atI xs i = some v) : ∃ j, seqIndex? i xs.length = some j /\ xs[j]? = some v /\ j < xs.length /\ -(xs.length : Int) <= i /\ i < xs.length := by
 unfold atI at h
 cases e : ixN xs.length i with
 | none => rw [e] at h; cases h
 | some j =>
  rw [e] at h
  obtain ⟨h1, h2, h3, h4⟩ := ZOx e
  exact ⟨j, h1, h, h2, h3, h4⟩
theorem ZF5 {α : Type} {xs : List α} {j : Nat} {v : α} (h : xs[j]? = some v) : atI xs (j : Int) = some v := by
 have hj : j < xs.length := (Ui.mp h).1
 have e : ixN xs.length (j : Int) = some j := by
  unfold ixN
  rw [if_pos (by omega), if_pos (by omega)]; simp
 unfold atI; rw [e]; exact h
def ZOy (b : Expr) : Prop := ∀ o i, subscripted b false o i = operate [o, i] (getItem o i)
def IxR (X : Cx) (r : R2) : Prop :=
 ∀ (value slice : Expr) (pins : List (Addr × Obj)) (s : Shared) (U : St) (H : Hp) (x y : V) (v u : Value) (Q : VK), Inv X pins U H s -> ZD0 x v -> ZD0 y u -> r x y H Q ->
  subscripted slice false v u = operate [v, u] (getItem v u) -> wpAny (model X.prog X.w) X.A (subscriptTail value slice v u) (EP X pins U Q) X.xe s
def MtR (X : Cx) (id : String) (r : V -> List V -> Hp -> VK -> Prop) : Prop :=
 ∀ (pins : List (Addr × Obj)) (s : Shared) (U : St) (H : Hp) (x : V) (xs : List V) (v : Value) (us : List Value) (Q : VK), Inv X pins U H s -> ZD0 x v -> ZD3 xs us -> r x xs H Q ->
  wpAny (model X.prog X.w) X.A (call (.builtin id) (v :: us)) (EP X pins U Q) X.xe s
section
variable {X : Cx} {a b : Expr} {ta tb : TE} {pos : Pos}
theorem ZYb {r : R2} (hr : IxR X r) (ha : PE X a ta) (hb : PE X b tb) (hs : ZOy b) : PE X (.Subscript a b pos) (tOp r ta tb) := by
 intro pins s U H Q I h
 exact Subscript_ (ZSb ha hb I h fun v u s2 x y H2 I2 rx ry q => hr a b pins s2 U H2 x y v u Q I2 rx ry q (hs _ _))
def ZPg (K : W.Frag) : R2 := fun x y H Q => ∃ p xs i v, x = .ref p /\ y = .int i /\ SqL K H p xs /\ atI xs i = some v /\ Q v H
def ZSt (K : W.Frag) : R2 := fun x y H Q => ∃ p xs i v, x = .ref p /\ y = .int i /\ SqT K H p xs /\ atI xs i = some v /\ Q v H
def ZW1 : R2 := fun x y H Q => ∃ z i c, x = .str z /\ y = .int i /\ z.length <= sizeLine /\ atI z.cps.toList i = some c /\ Q (.str ⟨#[c]⟩) H
theorem ZU3 : IxR X (ZPg X.K) := by
 intro value slice pins s U H x y v u Q I rx ry h hs
 obtain ⟨p, xs, i, z, rfl, rfl, hq, he, q⟩ := h
 cases rx
 obtain ⟨t, rfl⟩ := ry
 obtain ⟨its, r, pl, hz⟩ := I.list hq
 obtain ⟨j, h1, h2, h3, h4, h5⟩ := ZLb he
 obtain ⟨w, ew, rw'⟩ := r.get h2
 have hl := r.length
 have hn := ZIQ
 have fin : EP X pins U Q w s := ⟨z, H, I, rw', q⟩
 by_cases h0 : 0 <= i
 ·have hj : i.toNat = j := by
   rw [seqIndex_of h0 h5] at h1
   exact Option.some.inj h1
  exact item_listR pl.isList h0 (by omega) (by rw [hj]; simpa using ew) fin hs
 ·have hj : (i + (its.toArray.size : Int)).toNat = j := by
   rw [seqIndex_neg (by omega) h4] at h1
   rw [Uo, <- hl]
   exact Option.some.inj h1
  exact subscriptTail_builtinR (x := w) pl.isList.typeIs slot_list_getitem.lookup
   (wpAny_getItem_list_neg (Q := fun r s' => r = w /\ EP X pins U Q r s') pl.isList (by omega) (by rw [Uo] <;> omega) (by omega) (by rw [hj]; simpa using ew) ⟨rfl, fin⟩) hs
theorem ZW2 : IxR X (ZSt X.K) := by
 intro value slice pins s U H x y v u Q I rx ry h hs
 obtain ⟨p, xs, i, z, rfl, rfl, hq, he, q⟩ := h
 cases rx
 obtain ⟨t, rfl⟩ := ry
 obtain ⟨its, r, pl, hz⟩ := I.tuple hq
 obtain ⟨j, h1, h2, h3, h4, h5⟩ := ZLb he
 obtain ⟨w, ew, rw'⟩ := r.get h2
 have hl := r.length
 have hn := ZIQ
 have fin : EP X pins U Q w s := ⟨z, H, I, rw', q⟩
 exact subscriptTail_builtinR (x := w) pl.typeIs slot_tuple_getitem.lookup
  (getItem_tuple (j := j) (Q := fun r s' => r = w /\ EP X pins U Q r s') pl (by omega) (by omega) (by rw [Uo, <- hl]; exact h1) (by simpa using ew) ⟨rfl, fin⟩) hs
theorem ZQv : IxR X ZW1 := by
 intro value slice pins s U H x y v u Q I rx ry h hs
 obtain ⟨z, i, c, rfl, rfl, hz, he, q⟩ := h
 obtain ⟨t, rfl⟩ := rx
 obtain ⟨t', rfl⟩ := ry
 obtain ⟨j, h1, h2, h3, h4, h5⟩ := ZLb he
 have hl : z.cps.toList.length = z.length := by simp [Str.length]
 rw [hl] at h1 h4 h5
 have hn := ZIQ
 exact tail_any (typeIs_str s z t) slot_str_getitem.lookup (getItem_str (c := c) (by
  have e1 : decide (i < -(2 ^ 63 : Int)) = false := decide_eq_false (by omega)
  have e2 : decide (i >= 2 ^ 63) = false := decide_eq_false (by omega)
  rw [e1, e2, Bool.or_false]) (by rw [h1]; simpa using h2) ⟨.str ⟨#[c]⟩, H, I.tok _, ⟨_, rfl⟩, q⟩) hs
theorem ZPh (its : List Value) (n j : Nat) (u : Value) : Obj.mapSeq (·.setIfInBounds j u) { cls := .type "list", data := .seq its.toArray n } = { cls := .type "list", data := .seq (its.set j u).toArray n } := by
 simp [Obj.mapSeq]
theorem Inv.lst {pins : List (Addr × Obj)} {U : St} {H : Hp} {s : Shared} {p : Addr} {xs : List V} (I : Inv X pins U H s) (h : H p = some (.lst xs)) :
  ∃ (its : List Value) (n : Nat), ZD3 xs its /\ s.heap.get? p = some { cls := .type "list", data := .seq its.toArray n } /\ xs.length <= sizeLine := by
 obtain ⟨z, its, n, r, e⟩ := I.hok p _ h
 exact ⟨its, n, r, e, z⟩
theorem Inv.lstUpd {pins : List (Addr × Obj)} {U : St} {H : Hp} {s : Shared} {p : Addr} {xs ys : List V} {its its' : List Value} {n n' : Nat} {f : Obj -> Obj} (I : Inv X pins U H s) (h : H p = some (.lst xs))
  (ho : s.heap.get? p = some { cls := .type "list", data := .seq its.toArray n }) (hf : f { cls := .type "list", data := .seq its.toArray n } = { cls := .type "list", data := .seq its'.toArray n' }) (r : ZD3 ys its') (hz : ys.length <= sizeLine) (t : Nat) :
  Inv X pins U (upd H p (.lst ys)) { s with heap := s.heap.update p f, toks := t } := by
 have e : (s.heap.update p f).get? p = some { cls := .type "list", data := .seq its'.toArray n' } := by
  rw [Heap.get?_update_self f ho (by rw [hf] <;> rfl), hf]
 refine I.write (x := p) (e := p) (by rw [h]; trivial) (.inl rfl) (fun b u hb q => (UE _ _ (Ne.symm hb)).trans q) ⟨_, e⟩ ?_
 exact ⟨hz, its', n', r, e⟩
def ZPi : V -> V -> V -> Hp -> (Hp -> Prop) -> Prop := fun o i v H Q => ∃ p xs k j, o = .ref p /\ i = .int k /\ H p = some (.lst xs) /\ ixN xs.length k = some j /\ Q (upd H p (.lst (xs.set j v)))
theorem ZKT : ZSS X ZPi := by
 intro pins s U H o i v ov iv u Q I ro ri rv h
 obtain ⟨p, xs, k, j, rfl, rfl, hp, hj, q⟩ := h
 cases ro
 obtain ⟨t, rfl⟩ := ri
 obtain ⟨its, n, r, ho, hz⟩ := I.lst hp
 obtain ⟨h1, h2, h3, h4⟩ := ZOx hj
 have hl := r.length
 have hn := ZIQ
 have I' : Inv X pins U (upd H p (.lst (xs.set j v))) { s with heap := s.heap.update p (Obj.mapSeq (·.setIfInBounds j u)) } :=
  I.lstUpd hp ho (ZPh its n j u) (r.set rv j) (by rw [List.length_set]; exact hz) s.toks
 by_cases h0 : 0 <= k
 ·have hk : k.toNat = j := by
   rw [seqIndex_of h0 h4] at h1
   exact Option.some.inj h1
  exact PySem.W.ki_setAt ho h0 (by omega) (by rw [Uo, <- hl]; exact h4) (by rw [hk]; exact ⟨_, I', q⟩)
 ·have hk : (k + (its.toArray.size : Int)).toNat = j := by
   rw [seqIndex_neg (by omega) h3] at h1
   rw [Uo, <- hl]
   exact Option.some.inj h1
  exact PySem.W.ki_setBack ho (by omega) (by rw [Uo, <- hl]; exact h3) (by omega) (by rw [hk]; exact ⟨_, I', q⟩)
theorem ZNG (lo hi : Option Int) (n : Nat) : (sliceBounds lo hi none n).1 = ((HT.sIx n 0 lo : Nat) : Int) /\ (sliceBounds lo hi none n).2.1 = ((HT.sIx n n hi : Nat) : Int) /\ (sliceBounds lo hi none n).2.2 = 1 := by
 refine ⟨?_, ?_, rfl⟩
 ·cases lo with
  | none => simp [sliceBounds, HT.sIx]
  | some i =>
   simp only [sliceBounds, HT.sIx, Option.getD_none, show (1 : Int) > 0 by decide, if_true]
   by_cases h : i < 0
   ·simp only [h, if_true] <;> omega
   ·simp only [h, if_false] <;> omega
 ·cases hi with
  | none => simp [sliceBounds, HT.sIx]
  | some i =>
   simp only [sliceBounds, HT.sIx, Option.getD_none, show (1 : Int) > 0 by decide, if_true]
   by_cases h : i < 0
   ·simp only [h, if_true] <;> omega
   ·simp only [h, if_false] <;> omega
theorem ZMh (its : List Value) (lo hi : Option Int) : slicePick its.toArray lo hi none = ((its.drop (HT.sIx its.length 0 lo)).take (HT.sIx its.length its.length hi - HT.sIx its.length 0 lo)).toArray := by
 obtain ⟨h1, h2, h3⟩ := ZNG lo hi its.toArray.size
 unfold slicePick
 rw [h1, h2, h3]
 simp only [sliceRange_one, pick_run, Uo] <;> rfl
def ZPj (K : W.Frag) : V -> Option Int -> Option Int -> Hp -> VK -> Prop := fun x lo hi H Q => ∃ a xs, x = .ref a /\ SqL K H a xs /\ ∀ p, H p = none -> Q (.ref p) (upd H p (.lst (ZGo xs lo hi)))
theorem ZU4 : SlR X (ZPj X.K) := by
 intro pins s U H x v vl vu lo hi sl Q I rx hs pl pu h
 obtain ⟨a, xs, rfl, hx, q⟩ := h
 cases rx
 obtain ⟨its, r, ht, hz⟩ := I.list hx
 have hlen := r.length
 refine ⟨"list", _, slot_list_getitem.lookup, ht.isList.typeIs, ?_⟩
 refine wpAny_getItem_list_slice ht.isList hs pl pu .none (by simp) ?_ (by rw [Uo] <;> omega)
 rw [ZMh, <- hlen]
 refine ⟨.ref s.heap.objs.size, _, I.laid (t' := s.toks) (o := .lst (ZGo xs lo hi)) (fun b ob q => Ub _ q) (Ud _) ?_, rfl, q _ (I.hok.fresh (Ud _))⟩
 exact ⟨Uz (ZKG xs lo hi) hz, _, 0, (r.drop (HT.sIx xs.length 0 lo)).take (HT.sIx xs.length xs.length hi - HT.sIx xs.length 0 lo), Ug _ rfl⟩
def ZG2 : V -> Bool
 | .non => true
 | .bl _ => true
 | .int _ => true
 | .str _ => true
 | _ => false
def eqV : V -> V -> Bool
 | .non, .non => true
 | .bl a, .bl b => a == b
 | .bl a, .int b => (if a then 1 else 0) == b
 | .int a, .bl b => a == (if b then 1 else 0)
 | .int a, .int b => a == b
 | .str a, .str b => a == b
 | _, _ => false
theorem ZW3 {A : Around} {s : Shared} {y x : V} {u v : Value} (ry : ZD0 y u) (rx : ZD0 x v) (fy : ZG2 y = true) (fx : ZG2 x = true) : SeqAt.EqAt A s u v (eqV y x) := by
 cases y with
 | non =>
  cases ry
  cases x with
  | non => cases rx; exact SeqAt.EqAt.same _
  | bl b => cases rx; exact SeqAt.EqAt.none_bool b
  | int b => obtain ⟨t, rfl⟩ := rx; exact SeqAt.EqAt.none_int b t
  | str b => obtain ⟨t, rfl⟩ := rx; exact SeqAt.EqAt.none_str b t
  | _ => exact absurd (show false = true from fx) Ut
 | bl a =>
  cases ry
  cases x with
  | non => cases rx; exact SeqAt.EqAt.bool_none a
  | bl b => cases rx; exact SeqAt.EqAt.bool_bool a b
  | int b => obtain ⟨t, rfl⟩ := rx; exact SeqAt.EqAt.bool_int a b t
  | str b => obtain ⟨t, rfl⟩ := rx; exact SeqAt.EqAt.bool_str a b t
  | _ => exact absurd (show false = true from fx) Ut
 | int a =>
  obtain ⟨t', rfl⟩ := ry
  cases x with
  | non => cases rx; exact SeqAt.EqAt.int_none a t'
  | bl b => cases rx; exact SeqAt.EqAt.int_bool a t' b
  | int b => obtain ⟨t, rfl⟩ := rx; exact SeqAt.EqAt.int_int a t' b t
  | str b => obtain ⟨t, rfl⟩ := rx; exact SeqAt.EqAt.int_str a t' b t
  | _ => exact absurd (show false = true from fx) Ut
 | str a =>
  obtain ⟨t', rfl⟩ := ry
  cases x with
  | non => cases rx; exact SeqAt.EqAt.str_none a t'
  | bl b => cases rx; exact SeqAt.EqAt.str_bool a t' b
  | int b => obtain ⟨t, rfl⟩ := rx; exact SeqAt.EqAt.str_int a t' b t
  | str b => obtain ⟨t, rfl⟩ := rx; exact SeqAt.EqAt.str_str a t' b t
  | _ => exact absurd (show false = true from fx) Ut
 | _ => exact absurd (show false = true from fy) Ut
def eqU (x : V) (u : Value) : Bool := match u with
 | .none => eqV .non x
 | .bool b => eqV (.bl b) x
 | .int i _ => eqV (.int i) x
 | .str z _ => eqV (.str z) x
 | _ => false
theorem ZQw {x y : V} {u : Value} (r : ZD0 y u) (f : ZG2 y = true) : eqU x u = eqV y x := by
 cases y with
 | non => cases r; rfl
 | bl b => cases r; rfl
 | int i => obtain ⟨t, rfl⟩ := r; rfl
 | str z => obtain ⟨t, rfl⟩ := r; rfl
 | _ => exact absurd (show false = true from f) Ut
theorem ZLc {x : V} : ∀ {xs : List V} {us : List Value}, ZD3 xs us -> xs.all ZG2 = true -> us.any (eqU x) = xs.any fun y => eqV y x
 | _, _, .nil, _ => rfl
 | y :: xs, u :: us, .cons r t, f => by
  rw [List.all_cons, UH] at f
  rw [Vt, Vt, ZQw r f.1, ZLc t f.2]
theorem ZKU {A : Around} {s : Shared} {x : V} {v : Value} (rx : ZD0 x v) (fx : ZG2 x = true) : ∀ {xs : List V} {us : List Value}, ZD3 xs us -> xs.all ZG2 = true -> ∀ u ∈ us, SeqAt.EqAt A s u v (eqU x u)
 | _, _, .nil, _ => fun u hu => by cases hu
 | y :: xs, u :: us, .cons r t, f => fun u' hu => by
  rw [List.all_cons, UH] at f
  rcases Ul.mp hu with rfl | hu
  ·rw [ZQw r f.1]; exact ZW3 r rx f.1 fx
  ·exact ZKU rx fx t f.2 u' hu
def inV (x : V) (xs : List V) : Bool := xs.any fun y => eqV y x
def rIn (K : W.Frag) (neg : Bool) : R2 := fun x y H Q => ∃ p xs, y = .ref p /\ (SqL K H p xs \/ SqT K H p xs) /\ ZG2 x = true /\ xs.all ZG2 = true /\ Q (.bl (if neg then !inV x xs else inV x xs)) H
theorem ZQx : OpR X (compareOp .In) (rIn X.K false) := by
 intro pins s U H x y v u Q I rx ry h
 obtain ⟨p, xs, rfl, hq, fx, fs, q⟩ := h
 cases ry
 rcases hq with hq | hq
 ·obtain ⟨its, r, pl, hz⟩ := I.list hq
  refine SeqAt.in_listAt (eqU x) pl.isList (fun w hw => ZKU rx fx r fs w (by simpa using hw)) ⟨.bl _, H, I, rfl, ?_⟩
  rw [show its.toArray.any (eqU x) = its.any (eqU x) by simp, ZLc r fs]
  exact q
 ·obtain ⟨its, r, pl, hz⟩ := I.tuple hq
  refine SeqAt.in_tupleAt (eqU x) pl (fun w hw => ZKU rx fx r fs w (by simpa using hw)) ⟨.bl _, H, I, rfl, ?_⟩
  rw [show its.toArray.any (eqU x) = its.any (eqU x) by simp, ZLc r fs]
  exact q
theorem ZNH : ZEd X (.builtin "len") (fun xs H Q => ∃ p ys, xs = [.ref p] /\ (SqL X.K H p ys \/ SqT X.K H p ys) /\ Q (.int ys.length) H) := by
 intro pins s U H xs us Q I r h
 obtain ⟨p, ys, rfl, hq, q⟩ := h
 obtain ⟨u, rfl, rx⟩ := ZMw r
 cases rx
 have hn := ZIQ
 rcases hq with hq | hq
 ·obtain ⟨its, r', pl, hz⟩ := I.list hq
  have hlen := r'.length
  exact Calls.call_len_list pl.isList (by simp only [Uo] <;> omega) ⟨.int ys.length, H, I.tok _, ⟨s.toks + 1, by rw [Uo, hlen]⟩, q⟩
 ·obtain ⟨its, r', pl, hz⟩ := I.tuple hq
  have hlen := r'.length
  exact len_tuple pl (by simp only [Uo] <;> omega) ⟨.int ys.length, H, I.tok _, ⟨s.toks + 1, by rw [Uo, hlen]⟩, q⟩
theorem ZNI : ZEd X (.builtin "len") (fun xs H Q => ∃ z, xs = [.str z] /\ z.length <= sizeLine /\ Q (.int z.length) H) := by
 intro pins s U H xs us Q I r h
 obtain ⟨z, rfl, hz, q⟩ := h
 obtain ⟨u, rfl, t, rfl⟩ := ZMw r
 have hn := ZIQ
 exact len_str (by omega) ⟨.int z.length, H, I.tok _, ⟨_, rfl⟩, q⟩
theorem ZMi : ZEd X (.type "tuple") (fun xs H Q => ∃ p ys, xs = [.ref p] /\ ((SqL X.K H p ys /\ ∀ l, H l = none -> Q (.ref l) (upd H l (.tup ys))) \/ (SqT X.K H p ys /\ Q (.ref p) H))) := by
 intro pins s U H xs us Q I r h
 obtain ⟨p, ys, rfl, h⟩ := h
 obtain ⟨u, rfl, rx⟩ := ZMw r
 cases rx
 rcases h with ⟨hq, q⟩ | ⟨hq, q⟩
 ·obtain ⟨its, r', pl, hz⟩ := I.list hq
  have hlen := r'.length
  refine call_tuple_list pl.isList (fun h' kp => ?_) (by simp only [Uo] <;> omega)
  have I1 : Inv X pins U H { s with heap := h' } := I.kept (t' := s.toks) kp
  have I2 : Inv X pins U (upd H h'.objs.size (.tup ys)) { s with heap := h'.push { cls := .type "tuple", data := .seq its.toArray } } :=
   I1.laid (t' := s.toks) (fun b o e => Ub _ e) (Ud _) (show ZEW X.prog X.w _ _ _ (.tup ys) from ⟨⟨hz, fun _ => ⟨_, Ug _ rfl, rfl, rfl⟩⟩, its, r', IsTup.new _ _⟩)
  exact ⟨.ref h'.objs.size, _, I2, rfl, q _ (I1.hok.fresh (Ud _))⟩
 ·obtain ⟨its, r', pl, hz⟩ := I.tuple hq
  exact call_tuple_same pl ⟨.ref p, H, I, rfl, q⟩
def tyV (K : W.Frag) (T : String) (x : V) (H : Hp) : Prop := match x with
 | .str _ => T = "str"
 | .int _ => T = "int"
 | .ref p => (T = "list" /\ ∃ xs, SqL K H p xs) \/ (T = "tuple" /\ ∃ o, K.lookup p = some o /\ o.cls = .type "tuple" /\ o.dict = none) \/
  (T = "dict" /\ ((∃ kvs, H p = some (.dK kvs)) \/ ∃ kvs, H p = some (.dT kvs))) \/ (T = "set" /\ ∃ S n, H p = some (.set S n))
 | _ => False
theorem ZQy {pins : List (Addr × Obj)} {U : St} {H : Hp} {s : Shared} {T : String} {x : V} {v : Value} (I : Inv X pins U H s) (r : ZD0 x v) (ty : tyV X.K T x H) :
  s.TypeIs v T /\ ∀ a, v = .ref a -> ∃ ob, s.heap.get? a = some ob /\ ob.dict = none := by
 cases x with
 | str z =>
  obtain ⟨t, rfl⟩ := r
  cases (show T = "str" from ty)
  exact ⟨typeIs_str s z t, fun _ e => nomatch e⟩
 | int i =>
  obtain ⟨t, rfl⟩ := r
  cases (show T = "int" from ty)
  exact ⟨typeIs_int s i t, fun _ e => nomatch e⟩
 | ref p =>
  cases r
  rcases ty with ⟨rfl, xs, hq⟩ | ⟨rfl, o, hk, hc, hd⟩ | ⟨rfl, hk⟩ | ⟨rfl, S, n, hk⟩
  ·obtain ⟨its, _, pl, _⟩ := I.list hq
   refine ⟨pl.isList.typeIs, fun a e => ?_⟩
   cases e
   obtain ⟨o, n, e, c, hd, _⟩ := pl
   exact ⟨o, e, hd⟩
  ·refine ⟨⟨o, I.kIn p o hk, hc⟩, fun a e => ?_⟩
   cases e
   exact ⟨o, I.kIn _ o hk, hd⟩
  ·have z : ∃ o, s.heap.get? p = some o /\ o.ExactDict := by
    rcases hk with ⟨kvs, hk⟩ | ⟨kvs, hk⟩
    ·obtain ⟨_, _, _, _, o, _, _, e, ex, _⟩ := I.hok p _ hk
     exact ⟨o, e, ex⟩
    ·obtain ⟨_, _, _, _, o, _, _, e, ex, _⟩ := I.hok p _ hk
     exact ⟨o, e, ex⟩
   obtain ⟨o, e, ex⟩ := z
   refine ⟨⟨o, e, ex.1⟩, fun a e2 => ?_⟩
   cases e2
   exact ⟨o, e, ex.2.1⟩
  ·obtain ⟨o, _, _, _, e, ex, _⟩ := I.hok p _ hk
   refine ⟨⟨o, e, ex.1⟩, fun a e2 => ?_⟩
   cases e2
   exact ⟨o, e, ex.2.1⟩
 | _ => exact False.elim ty
def ZSu (K : W.Frag) (T : String) (r : V -> List V -> Hp -> VK -> Prop) (to : TE) : TE := fun U H Q => to U H fun x H1 => tyV K T x H1 /\ r x [] H1 Q
def tBM (K : W.Frag) (T : String) (r : V -> List V -> Hp -> VK -> Prop) (to : TE) (t : TA) : TE := fun U H Q => to U H fun x H1 => tyV K T x H1 /\ t U H1 fun xs H2 => r x xs H2 Q
variable {o e : Expr} {es : List Expr} {to : TE} {t : TA} {name : Str} {apos cpos : Pos} {T id : String} {r : V -> List V -> Hp -> VK -> Prop}
theorem ZW4 (pa : PlainAttrs T) (slot : Slot T name id) (hty : typeOf (.builtin id) = pure (.type "method_descriptor")) (hm : MtR X id r) (ho : PE X o to)
  (hbase : attributeBase o name X.env (eval o X.env) = eval o X.env := by rfl) (hline : (apos.endLine == cpos.line) = true := by rfl) : PE X (.Call (.Attribute o name apos) [] [] cpos) (ZSu X.K T r to) := by
 intro pins s U H Q I h
 refine wpAny_Call_method0_late hbase hline (thn (ho pins s U H _ I h) fun v s1 ⟨x, H1, I1, r1, ty, q1⟩ => ?_)
 obtain ⟨h1, h2⟩ := ZQy I1 r1 ty
 exact ⟨T, id, pa, slot, hty, h1, h2, Calls.callWith_builtin rfl (PySem.evalArgs_none (hm pins s1 U H1 x [] v [] Q I1 r1 .nil q1))⟩
theorem ZYc (pa : PlainAttrs T) (slot : Slot T name id) (hty : typeOf (.builtin id) = pure (.type "method_descriptor")) (hm : MtR X id r) (ho : PE X o to) (ha : PA X (e :: es) t)
  (hbase : attributeBase o name X.env (eval o X.env) = eval o X.env := by rfl)
  (hfew : ((backTo cpos (starEach (e :: es) X.env)).all (fun x => !x.1) && (backToKw cpos (keywordEach [] X.env)).all (fun x => x.1.isSome)
   && decide ((e :: es).length + ([] : List Keyword).length + (if ([] : List Keyword).isEmpty then 0 else 1) < 30)) = true := by rfl)
  (hline : (apos.endLine == cpos.line) = true := by rfl) (hs : starEach (e :: es) X.env = (false, eval e X.env) :: starEach es X.env := by rfl) (hplain : (backTo cpos (starEach es X.env)).any (·.1) = false := by rfl) :
  PE X (.Call (.Attribute o name apos) (e :: es) [] cpos) (tBM X.K T r to t) := by
 intro pins s U H Q I h
 refine wpAny_Call_method_late hbase hfew hline rfl (thn (ho pins s U H _ I h) fun v s1 ⟨x, H1, I1, r1, ty, q1⟩ => ?_)
 obtain ⟨h1, h2⟩ := ZQy I1 r1 ty
 refine ⟨T, id, pa, slot, hty, h1, h2, ?_⟩
 have hA := ha cpos pins s1 U H1 _ I1 q1
 rw [hs] at hA ⊢
 refine Calls.callWith_builtin (by show (false || (backTo cpos (starEach es X.env)).any (·.1)) = false; rw [hplain] <;> rfl) (Calls.evalArgs_plain ?_)
 exact thn hA fun us s2 ⟨vs, H2, I2, r2, q2⟩ => hm pins s2 U H2 x vs v us Q I2 r1 r2 q2
end
def MtM (X : Cx) (id : String) (r : V -> List V -> Hp -> VK -> Prop) : Prop :=
 ∀ (pins : List (Addr × Obj)) (s : Shared) (U : St) (H : Hp) (x : V) (xs : List V) (v : Value) (us : List Value) (Q : VK), Inv X pins U H s -> ZD0 x v -> ZD3 xs us -> r x xs H Q ->
  wpAny (model X.prog X.w) X.A (call (.builtin id) (v :: us)) (EP X pins U Q) X.xe s
theorem ZD3.one : ∀ {x : V} {us : List Value}, ZD3 [x] us -> ∃ u, us = [u] /\ ZD0 x u
 | _, _, .cons r .nil => ⟨_, rfl, r⟩
theorem ZD3.two : ∀ {x y : V} {us : List Value}, ZD3 [x, y] us -> ∃ u v, us = [u, v] /\ ZD0 x u /\ ZD0 y v
 | _, _, _, .cons r (.cons q .nil) => ⟨_, _, rfl, r, q⟩
theorem ZD3.zero : ∀ {us : List Value}, ZD3 [] us -> us = []
 | _, .nil => rfl
theorem ZD3.dropLast {xs : List V} {us : List Value} (h : ZD3 xs us) : ZD3 xs.dropLast us.dropLast := by
 induction h with
 | nil => exact .nil
 | cons r t ih =>
  cases t with
  | nil => exact .nil
  | cons q t' => exact .cons r ih
theorem ZPk {α : Type} (l : List α) : l.eraseIdx (l.length - 1) = l.dropLast := by
 induction l with
 | nil => rfl
 | cons a r ih =>
  cases r with
  | nil => rfl
  | cons b r =>
   have e : (a :: b :: r).length - 1 = ((b :: r).length - 1) + 1 := by
    have h1 : (a :: b :: r).length = r.length + 2 := rfl
    have h2 : (b :: r).length = r.length + 1 := rfl
    omega
   rw [e, List.eraseIdx_cons_succ, ih]
   all_goals rfl
section
variable {X : Cx} {pins : List (Addr × Obj)} {U : St} {H : Hp} {s : Shared} {l b : Addr} {xs ys zs : List V}
theorem Inv.lset {its its' : List Value} {n : Nat} {f : Array Value -> Array Value} {t' : Nat} (I : Inv X pins U H s) (hH : H l = some (.lst xs))
  (e : s.heap.get? l = some { cls := .type "list", data := .seq its.toArray n }) (hf : f its.toArray = its'.toArray) (hv : ZD3 ys its') (hz : ys.length <= sizeLine) :
  Inv X pins U (upd H l (.lst ys)) { s with heap := s.heap.update l (Obj.mapSeq f), toks := t' } := by
 have q := PySem.IsL.update e f
 rw [hf] at q
 refine I.write (x := l) (e := l) (by rw [hH]; exact trivial) (.inl rfl) (fun b' u hb hu => (UE s.heap (Obj.mapSeq f) (Ne.symm hb)).trans hu) ⟨_, q⟩ ?_
 exact ⟨hz, its', _, hv, q⟩
theorem Inv.lstM (I : Inv X pins U H s) (hH : H l = some (.lst xs)) : xs.length <= sizeLine /\ ∃ (its : List Value) (n : Nat), ZD3 xs its /\ xs.length = its.length /\ s.heap.get? l = some { cls := .type "list", data := .seq its.toArray n } := by
 obtain ⟨z, its, n, r, e⟩ := I.hok l _ hH
 exact ⟨z, its, n, r, r.length, e⟩
theorem ZSv {n : Nat} (h : n <= sizeLine) : Builtin.List.listTooLong n = false := by
 unfold Builtin.List.listTooLong
 exact decide_eq_false (by omega)
end
section
variable {X : Cx}
def ZOz : V -> List V -> Hp -> VK -> Prop := fun x vs H Q => ∃ l xs y, x = .ref l /\ vs = [y] /\ H l = some (.lst xs) /\ xs.length < sizeLine /\ Q .non (upd H l (.lst (xs ++ [y])))
theorem ZFK : MtM X "list.append" ZOz := by
 intro pins s U H x vs v us Q I rx rv h
 obtain ⟨l, xs, y, rfl, rfl, hH, hz, q⟩ := h
 cases rx
 obtain ⟨u, rfl, ru⟩ := rv.one
 obtain ⟨z, its, n, r, hl, e⟩ := I.lstM hH
 refine call_meets F.slot_list_append ⟨_, e, rfl⟩ F.entry_list_append (F.args_list_append_2 _ _) (PySem.list_append l its.toArray n u (by rw [Uo]; omega)) ⟨e, ?_⟩
 refine ⟨.non, _, I.lset (its' := its ++ [u]) hH e (by simp) (r.append (.cons ru .nil)) ?_, rfl, q⟩
 rw [UN, List.length_singleton]
 omega
def ZW5 : V -> List V -> Hp -> VK -> Prop := fun x vs H Q => ∃ l xs y, x = .ref l /\ vs = [] /\ H l = some (.lst xs) /\ xs[xs.length - 1]? = some y /\ Q y (upd H l (.lst xs.dropLast))
theorem ZW6 : MtM X "list.pop" ZW5 := by
 intro pins s U H x vs v us Q I rx rv h
 obtain ⟨l, xs, y, rfl, rfl, hH, hy, q⟩ := h
 cases rx
 have hus := rv.zero
 subst hus
 obtain ⟨z, its, n, r, hl, e⟩ := I.lstM hH
 obtain ⟨u, hu, ru⟩ := r.get hy
 have hy' : its.toArray[its.toArray.size - 1]? = some u := by
  show its.toArray[its.length - 1]? = some u
  rw [<- Vp, <- hl]
  exact hu
 refine call_meets F.slot_list_pop ⟨_, e, rfl⟩ F.entry_list_pop (F.args_list_pop_1 _) (MeetsSeq.list_pop_last l its.toArray n u hy' (by rw [Uo]; omega)) ⟨e, ?_⟩
 refine ⟨y, _, I.lset (its' := its.dropLast) hH e ?_ r.dropLast ?_, ru, q⟩
 ·show its.toArray.eraseIdxIfInBounds (its.toArray.size - 1) = its.dropLast.toArray
  rw [Uo, List.eraseIdxIfInBounds_toArray, ZPk]
 ·rw [List.length_dropLast]
  omega
end
end L2
namespace Att
open PySem PySem.W PySem.Calls PyProof.Rows
theorem ZK5 {P : Params} {h : Heap} : ∀ (ns : List Int) (vs : List Value), WellAll P h vs (ns.map WData.int) -> IntsAre vs ns := by
 intro ns
 induction ns with
 | nil =>
  intro vs w
  rw [Vs] at w
  cases w
  exact .nil
 | cons n ns ih =>
  intro vs w
  rw [UD] at w
  cases w with
  | cons a b =>
   cases a
   exact .cons _ _ (ih _ b)
theorem ZQz {l : OpenLaw} {n : Nat} (hn : l.most = some n) {P : Params} {h : Heap} {args : List WData} {vals : List Value}
  (hpre : l.row.toRowW.claim.pre args = true) (hwl : WellAll P h vals args) :
  ∃ a vs ns, vals = [Value.ref a] /\ args = [WData.list (ns.map WData.int)] /\ h.get? a = some { cls := .type "list", data := .seq vs.toArray } /\ IntsAre vs ns /\ ns.length <= n := by
 have hsh : WShape.hasAll [] args [.list .int] = true := (pre_splitW hpre).1
 have hc : l.pre.holds [] { args := args } = true := (pre_splitW hpre).2
 obtain ⟨d, r, rfl, h1, h2⟩ := hasAllW_cons hsh
 obtain rfl := hasAllW_nil h2
 obtain ⟨xs, rfl, h3⟩ := hasW_list h1
 obtain ⟨ns, rfl⟩ := items_int h3
 have hlen : ns.length <= n := by
  unfold OpenLaw.pre at hc
  have h4 : (WTm.not (.lt (.lit (.int (n : Int))) (.len (.arg 0)))).holds [] { args := [.list (ns.map .int)] } = true := by
   have h4 := (holds_andW hc).1
   rw [hn] at h4
   exact h4
  have h5 := condW_of h4 (w_not (w_lt w_lit (w_len_list (w_arg rfl))))
  rw [Uf] at h5
  refine Nat.le_of_not_lt fun q => ?_
  have q' : (n : Int) < ((ns.length : Nat) : Int) := by omega
  first
   | (rw [decide_eq_true q'] at h5; exact absurd h5 (by decide))
   | (simp at h5; omega)
 cases hwl with
 | cons w1 w2 =>
  cases w2
  cases w1 with
  | list ho hall => exact ⟨_, _, ns, rfl, rfl, ho, ZK5 ns _ hall, hlen⟩
theorem ZQ0 (l : OpenLaw) (args : List WData) : l.row.toRowW.claim.post args (.bool true) args = true :=
 postW_of (r := l.row.toRowW) (X := (true == true))
  (show WShape.has [] (.bool true) .bool = true by first | rfl | decide | simp [WShape.has, WShape.arms, WShape.armsAll])
  (show (WTm.eq .res (.lit (.bool true))).value [] { args := args, res := some (.bool true), after := args } = some (.bool (true == true)) from w_eq_bool (w_res rfl) w_lit) rfl
theorem attach_call {l : OpenLaw} {n : Nat} {q : Program} {loose : List Str} {XP : (Str -> Option Value) -> Heap -> Prop} {YP : World -> Heap -> Prop} {d : DefRec}
  (hn : l.most = some n) (hdf : d.params.defaults = [])
  (call : ∀ (w : World) (s₀ s₁ : Shared) (mg mb : Str -> Option Value) (fa : Addr) (o : Obj) (pm cd doc : Value) (a : Addr) (vs : List Value) (ns : List Int),
   Ground q loose [] XP w s₀ mg mb s₁.heap -> YP w s₁.heap ->
   s₁.heap.get? fa = some o -> o.data = .func (docDef d.name d.params d.body d.scope pm cd doc) -> s₁.heap.CodeRec cd d.name -> mg d.name = some (.ref fa) ->
   s₁.heap.get? a = some { cls := .type "list", data := .seq vs.toArray } -> IntsAre vs ns -> ns.length <= n -> s₁.gens = #[] ->
   codeAny (model l.prog w) callerA (.call (.ref fa) ⟨[.ref a], []⟩) (fun r s' => r = .ok (.ret (.bool true)) /\ OldK s₁.heap s'.heap /\ s'.os = s₁.os /\ AllBare s'.gens) s₁) :
  WalkO q loose XP YP l.row.toRowW d [] (fun f vs => PySem.call f vs) := by
 intro w s₀ s₁ mg mb G Y fa o pm cd doc dV kV ho hd hcd hD hmg hg args vals as hpre hlay hrd hwl hlo
 obtain rfl : dV = .none := Dflts.none hD hdf
 obtain rfl : kV = .none := Dflts.noKw hD
 obtain ⟨a, vs, ns, rfl, rfl, hobj, hints, hlen⟩ := ZQz hn hpre hwl
 refine enter_call (codeAny_mono (call w s₀ s₁ mg mb fa o pm cd doc a vs ns G Y ho (fd_plain hd) hcd hmg hobj hints hlen hg) fun r s' hq => ?_)
 obtain ⟨rfl, h2, h3, h4⟩ := hq
 exact ⟨.inl ⟨.bool true, .bool true, [], rfl, fun _ => rfl, .bool true, ZQ0 l _, fun _ => ⟨List.Pairwise.nil, fun _ hm => (nomatch hm)⟩⟩, h2, h3, h4⟩
section
variable {prog : Program} {w : World} {A : Around} {E : Value -> Shared -> Prop} {s : Shared} {K : Frag}
def ZY7 (h : Heap) (L d : Addr) : List (Addr × Obj) := (UM h.objs.size).filterMap fun a => if a = L \/ a = d then none else (h.get? a).map fun o => (a, o)
end
end Att
namespace L2
open PySem PySem.Spec PyProof.Rows
theorem ZME : ∀ {vs : List Value} {ns : List Int}, IntsAre vs ns -> ZD3 (ns.map V.int) vs
 | _, _, .nil => .nil
 | _, _, .cons n t h => .cons ⟨t, rfl⟩ (ZME h)
def ZSw (H : Hp) : Prop := ∀ b, H b = none \/ ∃ o xs, H b = some (.frz o (.lst xs))
theorem ZSx {P : Program} {w : World} {K : W.Frag} {mg mb : Str -> Option Value} {CX : CXT} {k : Nat} {fa a : Addr} {fd : FuncData} {x : Str} {sp : Sp} {s₁ : Shared} {vs : List Value} {ns : List Int}
  (KX : K.In s₁.heap) (hns : s₁.heap.Ns mainGlobals mg) (hb : s₁.heap.Ns builtinsNs mb) (hbb : ∀ x : Str, x ≠ "__name__" -> mb x = bootBuiltins x) (hlim : s₁.heap.NoLimit) (hg : s₁.gens = #[])
  (ha : s₁.heap.get? a = some { cls := .type "list", data := .seq vs.toArray }) (hi : IntsAre vs ns) (hl : ns.length <= sizeLine) (hr : Room k callerA)
  (F : ∀ base : Heap, K.In base -> base.Ns mainGlobals mg -> ZD2 P w K mg base CX k fa fd [x] sp) (hbind : ∀ (s : Shared) (u : Value), BindsTo s fd ⟨[u], []⟩ [(x, u)])
  (hsp : ∀ H : Hp, ZSw H -> SqL K H a (ns.map V.int) -> sp [.ref a] H (fun v _ => v = .bl true) fun _ _ _ => False)
  (hCX : ∀ H e s', CX [] H s₁ (fun _ _ _ => False) e s' -> False) :
  codeAny (model P w) callerA (.call (.ref fa) ⟨[.ref a], []⟩) (fun r s' => r = .ok (.ret (.bool true)) /\ OldK s₁.heap s'.heap /\ s'.os = s₁.os /\ AllBare s'.gens) s₁ := by
 have rv := ZME hi
 have lenV := hi.length
 -- from an abstract heap in which nothing but the script may be tracked
 have core : ∀ H : Hp, ZSw H -> SqL K H a (ns.map V.int) -> HOk P w H s₁.heap -> (∀ b, H b ≠ none -> b = a) -> (H a ≠ none -> K.lookup a = none) ->
   codeAny (model P w) callerA (.call (.ref fa) ⟨[.ref a], []⟩) (fun r s' => r = .ok (.ret (.bool true)) /\ OldK s₁.heap s'.heap /\ s'.os = s₁.os /\ AllBare s'.gens) s₁ := by
  intro H hO hS hok hA hK
  have base_of : ∀ {b : Addr} {o : Obj}, s₁.heap.get? b = some o -> H b = none -> (ZIe s₁.heap H).get? b = some o := fun e n => ZSJ e n
  have noA : ∀ {b : Addr} {o : Obj} {es : Array DictEntry} {ep : Nat}, s₁.heap.get? b = some o -> o.data = .dict es ep -> H b = none := fun {b o es ep} e d => by
   cases q : H b with
   | none => rfl
   | some u =>
    have e' : b = a := hA b (by rw [q]; simp)
    subst e'
    rw [ha] at e; cases e
    have d' : Data.seq vs.toArray _ = Data.dict es ep := d
    cases d'
  have nsK : ∀ {b : Addr} {m : Str -> Option Value}, s₁.heap.Ns b m -> (ZIe s₁.heap H).Ns b m := fun {b m} ⟨o, es, ep, e, d, r⟩ => ⟨o, es, ep, base_of e (noA e d), d, r⟩
  have hKb : K.In (ZIe s₁.heap H) := fun b o e => base_of (KX b o e) (by
   cases q : H b with
   | none => rfl
   | some u =>
    have e' : b = a := hA b (by rw [q]; simp)
    subst e'
    rw [hK (by rw [q]; simp)] at e; cases e)
  have hM : Mod K mg (ZIe s₁.heap H) := ⟨hKb, nsK hns, ⟨mb, nsK hb, hbb⟩, let ⟨mc, h1, h2⟩ := hlim; ⟨mc, nsK h1, h2⟩⟩
  have e0 : ZIA P w K mg (ZIe s₁.heap H) callerA [] s₁ H := ⟨rfl, hM, fun b o e => ZUe e, Nat.le_of_eq (ZQg _ _), trivial, fun b hb => absurd (show b ∈ ([] : List Addr) from hb) (by simp), hok, .of_eq hg⟩
  refine codeAny_mono ((F _ hKb (nsK hns)).run callerA [] s₁ H ⟨[.ref a], []⟩ [.ref a] [.ref a] _ _ hr e0 (hbind s₁ (.ref a)) (.cons rfl .nil) (hsp H hO hS)) fun r s' h => ?_
  cases r with
  | error e => exact (hCX H e s' h).elim
  | ok fl =>
   cases fl with
   | next => exact False.elim h
   | brk => exact False.elim h
   | cont => exact False.elim h
   | ret u =>
    obtain ⟨v, H', os, bare, un, hok', r', q⟩ := h
    have q' : v = .bl true := q
    subst q'
    obtain rfl : u = Value.bool true := r'
    refine ⟨rfl, OldK.of_keep fun b o e => ?_, os, bare⟩
    cases q : H b with
    | none => exact un.keep b o e q (by intro z; exact absurd (show b ∈ ([] : List Addr) from z) (by simp)) (by simp)
    | some u =>
     rcases hO b with z | ⟨ob, xs, z⟩
     ·rw [q] at z; cases z
     ·have z2 := un.frzs b ob _ z
      obtain ⟨e1, _⟩ := hok b _ z
      obtain ⟨e2, _⟩ := hok' b _ z2
      rw [e] at e1; cases e1
      exact e2
 cases hk : K.lookup a with
 | some o =>
  -- the script is one of the module's own objects
  have e := KX a o hk
  rw [ha] at e
  cases e
  refine core (fun _ => none) (fun _ => .inl rfl) (.inr ⟨_, vs.toArray, _, hk, rfl, rfl, rfl, by rw [Uo, lenV]; exact hl, by simpa using rv⟩) (fun b u z => by have z' : (none : Option HO) = some u := z; cases z') (fun b z => absurd rfl z) fun z => absurd rfl z
 | none =>
  refine core (fun b => if b = a then some (.frz { cls := .type "list", data := .seq vs.toArray } (.lst (ns.map V.int))) else none) (fun b => ?_) (.inl (.inr ⟨{ cls := .type "list", data := .seq vs.toArray }, if_pos rfl⟩)) (fun b u z => ?_) (fun b z => ?_) fun _ => hk
  ·by_cases hb : b = a
   ·exact .inr ⟨_, _, if_pos hb⟩
   ·exact .inl (if_neg hb)
  ·by_cases hb : b = a
   ·have z' := (if_pos hb).symm.trans z
    cases z'
    subst hb
    exact ⟨ha, by rw [Uf]; exact hl, vs, _, rv, ha⟩
   ·have z' := (if_neg hb).symm.trans z
    cases z'
  ·by_cases hb : b = a
   ·exact hb
   ·exact absurd (if_neg hb) z
theorem walk_of {l : PySem.W.OpenLaw} {n k : Nat} {q : Program} {loose : List Str} {XP : (Str -> Option Value) -> Heap -> Prop} {YP : World -> Heap -> Prop} {d : DefRec} {K : Params -> W.Frag} {CX : World -> CXT} {sp : World -> Sp} {x : Str}
  (hn : l.most = some n) (hn2 : n <= sizeLine) (hdf : d.params.defaults = []) (hr : Room k callerA)
  (hY : ∀ (w : World) (h : Heap), YP w h -> (K w.params).In h)
  (F : ∀ (w : World) (mg : Str -> Option Value) (fa : Addr) (h : Heap), (K w.params).In h -> h.Ns mainGlobals mg -> mg d.name = some (.ref fa) ->
   ∃ fd : FuncData, (∀ (s : Shared) (u : Value), BindsTo s fd ⟨[u], []⟩ [(x, u)]) /\
    ∀ base : Heap, (K w.params).In base -> base.Ns mainGlobals mg -> ZD2 l.prog w (K w.params) mg base (CX w) k fa fd [x] (sp w))
  (hsp : ∀ (w : World) (H : Hp) (a : Addr) (ns : List Int), ns.length <= n -> ZSw H -> SqL (K w.params) H a (ns.map V.int) -> sp w [.ref a] H (fun v _ => v = .bl true) fun _ _ _ => False)
  (hCX : ∀ (w : World) (H : Hp) (s : Shared) (e : Value) (s' : Shared), CX w [] H s (fun _ _ _ => False) e s' -> False) :
  PySem.W.WalkO q loose XP YP l.row.toRowW d [] (fun f vs => PySem.call f vs) := by
 refine Att.attach_call hn hdf fun w s₀ s₁ mg mb fa o pm cd doc a vs ns G Y ho hd hcd hmg hobj hints hlen hg => ?_
 have KX := hY w _ Y
 obtain ⟨fd, hb, hF⟩ := F w mg fa _ KX G.T.g hmg
 exact ZSx KX G.T.g G.T.b G.T.builtins G.T.nolimit hg hobj hints (Uz hlen hn2) hr hF hb (fun H hO hS => hsp w H a ns hlen hO hS) fun H e s' => hCX w H s₁ e s'
end L2
namespace L2
open PySem PySem.Spec PyProof.Rows
def ZEQ (s : Stmt) (j : Nat) : Stmt := match s with
 | .ClassDef _ _ _ body _ _ _ _ _ _ _ => body.getD j (.Pass ⟨0, 0, 0, 0⟩)
 | _ => .Pass ⟨0, 0, 0, 0⟩
def ZEm (s : Stmt) : Arguments := match s with
 | .FunctionDef _ a _ _ _ _ _ _ _ _ => a
 | _ => { posonlyargs := [], args := [], vararg := none, kwonlyargs := [], kw_defaults := [], kwarg := none, defaults := [] }
def ZEg (s : Stmt) : List Stmt := match s with
 | .FunctionDef _ _ b _ _ _ _ _ _ _ => b
 | _ => []
def ZDo (s : Stmt) : Scope := match s with
 | .FunctionDef _ _ _ _ _ _ sc _ _ _ => sc
 | _ => { kind := .function, names := [], isGenerator := false, isCoroutine := false }
abbrev CX0 : CXT := fun _ _ _ _ _ _ => False
abbrev E0 : XK := fun _ _ _ => False
theorem ZEk {X : Cx} : ZFS CX0 X E0 := fun _ _ _ _ _ _ _ h => h.elim
structure Fun (K : W.Frag) (x qual : Str) (st : Stmt) (f : Addr) (fd : FuncData) : Prop where
 ex : ∃ (oc : Value) (od : Option Addr) (kV doc pm : Value) (an : Option Addr) (cdv ct : Value) (osl : Array (Option Value)),
  fd = W.fnOf x qual (ZEm st) (ZEg st) (ZDo st) .none kV doc pm an cdv ct /\ K.lookup f = some ⟨oc, od, .func fd, osl⟩ /\ W.codeIn K cdv qual = true
 kp : W.keepIn K (.ref f) = true
section
variable {P : Program} {w : World} {K : W.Frag} {mg : Str -> Option Value} {base : Heap}
theorem Fun.ok {x qual : Str} {st : Stmt} {f : Addr} {fd : FuncData} {N ps : List Str} {k : Nat} {sp : Sp} (F : Fun K x qual st f fd) (S : ZDw N ps (ZDo st)) (len : ∀ vs H Q E, sp vs H Q E -> vs.length = ps.length)
  (hbody : ∀ (cdv : Value) (A : Around) (outer : List Env) (s : Shared) (H : Hp) (vs : List V) (Q : VK) (E : XK), Room k (A.deeper (envOfC qual (ZDo st) s.heap.objs.size f cdv)) -> sp vs H Q E ->
   ∃ t, PSs (ZKS CX0 P w K mg base N qual (ZDo st) f cdv A outer s H E).nox (ZEg st) t /\ t { nx := fun _ H' => Q .non H', rt := Q } (start N vs) H) : ZD2 P w K mg base CX0 (k + 1) f fd ps sp := by
 obtain ⟨oc, od, kV, doc, pm, an, cdv, ct, osl, rfl, lk, hcd⟩ := F.ex
 refine ZUK lk hcd S len fun A outer s H vs Q E hr hsp => ?_
 obtain ⟨t, h, q⟩ := hbody cdv A outer s H vs Q E hr hsp
 exact ⟨t, h.nox, q⟩
theorem Fun.binds {x qual : Str} {st : Stmt} {f : Addr} {fd : FuncData} {ps : List Str} (F : Fun K x qual st f fd)
  (h : ∀ (kV doc pm : Value) (an : Option Addr) (cdv ct : Value) (us : List Value), us.length = ps.length -> bindArgs (W.fnOf x qual (ZEm st) (ZEg st) (ZDo st) .none kV doc pm an cdv ct) ⟨us, []⟩ = pure (ps.zip us)) : ZDt K fd ps [] := by
 obtain ⟨oc, od, kV, doc, pm, an, cdv, ct, osl, rfl, lk, hcd⟩ := F.ex
 exact .all (h kV doc pm an cdv ct)
theorem fun_mk {x qual : Str} {st : Stmt} {f : Addr} {oc : Value} {od an : Option Addr} {osl : Array (Option Value)} {kV doc pm cdv ct : Value} (l : K.lookup f = some ⟨oc, od, .func (W.fnOf x qual (ZEm st) (ZEg st) (ZDo st) .none kV doc pm an cdv ct), osl⟩)
 (c : W.codeIn K cdv qual = true) (k : W.keepIn K (.ref f) = true) : Fun K x qual st f (W.fnOf x qual (ZEm st) (ZEg st) (ZDo st) .none kV doc pm an cdv ct) := ⟨⟨oc, od, kV, doc, pm, an, cdv, ct, osl, rfl, l, c⟩, k⟩
end
theorem ZF6 {A : Around} {k : Nat} (hr : Room k A) : A.units + 1 < cLine := Um (Nat.add_le_add_left (by decide : 1 <= 64) _) hr.units
theorem ZEs {A B : Prop} (h : B) : if false = true then A else B := by
 rw [if_neg Ut]
 exact h
theorem ZFR {A B : Prop} (h : A) : if true = true then A else B := by
 rw [if_pos rfl]
 exact h
def ZDq (H H' : Hp) : Prop := ∀ b o, H b = some o -> H' b = some o
theorem ZDq.refl (H : Hp) : ZDq H H := fun _ _ h => h
theorem ZDq.trans {H H1 H2 : Hp} (a : ZDq H H1) (b : ZDq H1 H2) : ZDq H H2 := fun c o h => b c o (a c o h)
theorem ZDq.free {H H' : Hp} (e : ZDq H H') {l : Addr} (h : H' l = Option.none) : H l = Option.none := by
 cases q : H l with
 | none => rfl
 | some o =>
  rw [e l o q] at h
  cases h
theorem ZDq.seq {K : W.Frag} {H H' : Hp} {a : Addr} {xs : List V} (e : ZDq H H') (h : SqL K H a xs) : SqL K H' a xs := by
 rcases h with (h | ⟨o, h⟩) | h
 ·exact .inl (.inl (e _ _ h))
 ·exact .inl (.inr ⟨o, e _ _ h⟩)
 ·exact .inr h
end L2
namespace L2
open PySem PySem.Spec PyProof.Rows PySem.W
def evT (c : Nat -> Nat -> Bool) {α : Type} : KasT α -> α
 | .ret a => a
 | .ask i j k => evT c (k (c i j))
theorem ZGp (c : Nat -> Nat -> Bool) {α β : Type} (f : α -> KasT β) : ∀ t : KasT α, evT c (t.bind f) = evT c (f (evT c t))
 | .ret _ => rfl
 | .ask i j k => ZGp c f (k (c i j))
abbrev gt0 (p : Array Nat) (i : Nat) : Nat := p.getD i 0
section
variable {c : Nat -> Nat -> Bool} {n : Nat}
structure Ord (c : Nat -> Nat -> Bool) (n : Nat) : Prop where
 tr : ∀ i j k, c i j = true -> c j k = true -> c i k = true
 asy : ∀ i j, c i j = true -> c j i = false
 tot : ∀ i j, i < n -> j < n -> i ≠ j -> c i j = false -> c j i = true
structure Ixs (p : Array Nat) (n : Nat) : Prop where
 size : p.size = n
 lt : ∀ i, i < n -> gt0 p i < n
 inj : ∀ i j, i < n -> j < n -> gt0 p i = gt0 p j -> i = j
theorem ZK6 {p : Array Nat} {i v : Nat} (h : p[i]? = some v) : gt0 p i = v := by
 simp [gt0, h]
theorem ZGT {p : Array Nat} {i : Nat} (h : i < p.size) : p[i]? = some (gt0 p i) := by
 simp [gt0, h]
theorem Ixs.of_perm {p : Array Nat} (h : p.toList.Perm (UM n)) : Ixs p n := by
 have hs : p.size = n := by have := h.length_eq; simpa using this
 refine ⟨hs, fun i hi => ?_, fun i j hi hj e => ?_⟩
 ·have hm : gt0 p i ∈ p.toList := by
   have := ZGT (p := p) (i := i) (by omega)
   exact Array.mem_toList_iff.mpr (Array.mem_of_getElem? this)
  exact List.mem_range.mp (h.mem_iff.mp hm)
 ·have hn : p.toList.Nodup := h.nodup_iff.mpr List.nodup_range
  have h1 : p.toList[i]? = some (gt0 p i) := by rw [Vp]; exact ZGT (by omega)
  have h2 : p.toList[j]? = some (gt0 p i) := by rw [Vp, e]; exact ZGT (by omega)
  have hi' : i < p.toList.length := by simp; omega
  have hj' : j < p.toList.length := by simp; omega
  rw [Uc hi'] at h1
  rw [Uc hj'] at h2
  have hpw := Vn.mp (UU.mp hn)
  have ee : p.toList[i] = p.toList[j] := by rw [Option.some.inj h1, Option.some.inj h2]
  rcases Nat.lt_trichotomy i j with z | z | z
  ·exact absurd ee (hpw i j hi' hj' z)
  ·exact z
  ·exact absurd ee.symm (hpw j i hj' hi' z)
def Up (c : Nat -> Nat -> Bool) (p : Array Nat) (m : Nat) : Prop := ∀ a b, a < b -> b < m -> c (gt0 p a) (gt0 p b) = true
theorem ZKH (O : Ord c n) {p : Array Nat} {m : Nat} (h : ∀ i, 1 <= i -> i < m -> c (gt0 p (i - 1)) (gt0 p i) = true) : Up c p m := by
 intro a b hab hb
 obtain ⟨d, rfl⟩ := Nat.exists_eq_add_of_lt hab
 induction d with
 | zero => have := h (a + 1) (by omega) hb; simpa using this
 | succ d ih =>
  have h1 := ih (by omega) (by omega)
  have h2 := h (a + (d + 1) + 1) (by omega) hb
  have e : a + (d + 1) + 1 - 1 = a + d + 1 := by omega
  rw [e] at h2
  exact O.tr _ _ _ h1 h2
theorem ZK7 (p : Array Nat) : ∀ (f a : Nat), a <= evT c (kas_asc p f a) /\ evT c (kas_asc p f a) <= a + f /\ (∀ i, a <= i -> i < evT c (kas_asc p f a) -> c (gt0 p i) (gt0 p (i - 1)) = false) /\
  (evT c (kas_asc p f a) = a + f \/ c (gt0 p (evT c (kas_asc p f a))) (gt0 p (evT c (kas_asc p f a) - 1)) = true)
 | 0, a => ⟨Ud _, Ud _, fun i h1 h2 => absurd h2 (by show ¬ i < a; omega), .inl rfl⟩
 | f + 1, a => by
  have e : evT c (kas_asc p (f + 1) a) = evT c (if c (gt0 p a) (gt0 p (a - 1)) = true then KasT.ret a else kas_asc p f (a + 1)) := rfl
  rw [e]
  cases hc : c (gt0 p a) (gt0 p (a - 1)) with
  | true =>
   rw [if_pos rfl]
   exact ⟨Ud _, Nat.le_add_right _ _, fun i h1 h2 => absurd h2 (by show ¬ i < a; omega), .inr hc⟩
  | false =>
   rw [if_neg (by decide)]
   obtain ⟨h1, h2, h3, h4⟩ := ZK7 p f (a + 1)
   refine ⟨by omega, by omega, fun i g1 g2 => ?_, ?_⟩
   ·by_cases z : i = a
    ·rw [z]; exact hc
    ·exact h3 i (by omega) g2
   ·rcases h4 with h4 | h4
    ·left; omega
    ·right; exact h4
theorem ZO0 (O : Ord c n) {p : Array Nat} (P : Ixs p n) : ∀ (f a : Nat), 1 <= a -> a + f <= n -> ∃ m, evT c (kas_desc f p a 0) = (p, m, 0) /\ a <= m /\ m <= a + f /\ ∀ i, a <= i -> i < m -> c (gt0 p i) (gt0 p (i - 1)) = true
 | 0, a, _, _ => ⟨a, rfl, Ud _, Ud _, fun i h1 h2 => absurd h2 (by omega)⟩
 | f + 1, a, h1, h2 => by
  have e : evT c (kas_desc (f + 1) p a 0) = evT c (if c (gt0 p a) (gt0 p (a - 1)) = true then (if 0 > 0 then kas_desc f (kas_rev p (a - (0 + 1)) a) (a + 1) 0 else kas_desc f p (a + 1) 0)
   else .ask (p.getD (a - 1) 0) (p.getD a 0) fun d => if d = true then .ret (p, a, 0) else kas_desc f p (a + 1) (0 + 1)) := rfl
  rw [e]
  cases hc : c (gt0 p a) (gt0 p (a - 1)) with
  | true =>
   rw [if_pos rfl, if_neg (by decide)]
   obtain ⟨m, g1, g2, g3, g4⟩ := ZO0 O P f (a + 1) (by omega) (by omega)
   refine ⟨m, g1, by omega, by omega, fun i k1 k2 => ?_⟩
   by_cases z : i = a
   ·rw [z]; exact hc
   ·exact g4 i (by omega) k2
  | false =>
   rw [if_neg (by decide)]
   have hd : c (gt0 p (a - 1)) (gt0 p a) = true := O.tot _ _ (P.lt _ (by omega)) (P.lt _ (by omega)) (fun z => by have := P.inj _ _ (by omega) (by omega) z; omega) hc
   have e2 : evT c (KasT.ask (p.getD (a - 1) 0) (p.getD a 0) fun d => if d = true then KasT.ret (p, a, 0) else kas_desc f p (a + 1) (0 + 1)) = evT c (if c (gt0 p (a - 1)) (gt0 p a) = true then KasT.ret (p, a, 0) else kas_desc f p (a + 1) (0 + 1)) := rfl
   rw [e2, hd, if_pos rfl]
   exact ⟨a, rfl, Ud _, by omega, fun i k1 k2 => absurd k2 (by omega)⟩
theorem ZNJ (p : Array Nat) (i j : Nat) : (kas_rev p i j).toList.Perm p.toList := Array.perm_iff_toList_perm.mp (mirror_perm p i j _)
theorem ZO1 {p : Array Nat} {m : Nat} (hm : m <= p.size) (k : Nat) (hk : k < m) : gt0 (kas_rev p 0 m) k = gt0 p (m - 1 - k) := by
 refine ZK6 ?_
 have e : (kas_rev p 0 m)[k]? = if 0 <= k /\ k < m then p[0 + m - 1 - k]? else p[k]? := getElem?_mirror_all (i := 0) hm k
 rw [e, if_pos ⟨by omega, hk⟩]
 have e2 : 0 + m - 1 - k = m - 1 - k := by omega
 rw [e2]
 exact ZGT (by omega)
theorem ZO2 (O : Ord c n) {p : Array Nat} (P : Ixs p n) {m f : Nat} (h1 : 1 <= m) (h : Up c p m) (hf : m + f <= n) : Up c p (evT c (kas_asc p f m)) := by
 obtain ⟨g1, g2, g3, _⟩ := ZK7 (c := c) p f m
 refine ZKH O fun i hi1 hi2 => ?_
 by_cases z : i < m
 ·exact h (i - 1) i (by omega) z
 ·have := g3 i (by omega) hi2
  exact O.tot _ _ (P.lt _ (by omega)) (P.lt _ (by omega)) (fun e => by have := P.inj _ _ (by omega) (by omega) e; omega) this
theorem ZSy (O : Ord c n) {p : Array Nat} (hp : p.toList.Perm (UM n)) (hn : 1 <= n) : (evT c (kas_count n p)).2.toList.Perm (UM n) /\ 1 <= (evT c (kas_count n p)).1 /\ (evT c (kas_count n p)).1 <= n /\ Up c (evT c (kas_count n p)).2 (evT c (kas_count n p)).1 := by
 have P := Ixs.of_perm hp
 unfold kas_count
 rw [ZGp]
 obtain ⟨g1, g2, g3, g4⟩ := ZK7 (c := c) p (n - 1) 1
 have hup := ZO2 O P (m := 1) (f := n - 1) (Ud _) (fun a b h1 h2 => by omega) (by omega)
 generalize hm : evT c (kas_asc p (n - 1) 1) = m at *
 by_cases h1 : (m == n) = true
 ·rw [if_pos h1]
  exact ⟨hp, g1, by show m <= n; omega, hup⟩
 ·rw [if_neg h1]
  have hmn : m < n := by
   have : m ≠ n := fun z => h1 (by simp [z])
   omega
  by_cases h2 : m > 1
  ·rw [if_pos h2]
   have hc : c (gt0 p 0) (gt0 p (m - 1)) = true := hup 0 (m - 1) (by omega) (by omega)
   have e : evT c (KasT.ask (p.getD 0 0) (p.getD (m - 1) 0) fun c => if c = true then KasT.ret (m, p) else kas_descPart m n (kas_rev p 0 m)) = evT c (if c (gt0 p 0) (gt0 p (m - 1)) = true then KasT.ret (m, p) else kas_descPart m n (kas_rev p 0 m)) := rfl
   rw [e, hc, if_pos rfl]
   exact ⟨hp, by show 1 <= m; omega, by show m <= n; omega, hup⟩
  ·rw [if_neg h2]
   have hm1 : m = 1 := by omega
   subst hm1
   have h10 : c (gt0 p 1) (gt0 p 0) = true := by
    rcases g4 with g4 | g4
    ·omega
    ·exact g4
   unfold kas_descPart
   rw [ZGp]
   obtain ⟨m, k1, k2, k3, k4⟩ := ZO0 O P (n - (1 + 1)) (1 + 1) (by omega) (by omega)
   rw [k1]
   rw [if_neg (show ¬ ((p, m, 0) : Array Nat × Nat × Nat).2.2 > 0 by show ¬ 0 > 0; omega)]
   show (evT c (kas_tail3 m n p)).2.toList.Perm (UM n) /\ _
   unfold kas_tail3
   rw [ZGp]
   have hrp : (kas_rev p 0 m).toList.Perm (UM n) := (ZNJ p 0 m).trans hp
   have R := Ixs.of_perm hrp
   have hupr : Up c (kas_rev p 0 m) m := by
    refine ZKH O fun i hi1 hi2 => ?_
    rw [ZO1 (by rw [P.size]; omega) _ (by omega), ZO1 (by rw [P.size]; omega) _ hi2]
    have e : m - 1 - (i - 1) = m - i := by omega
    have e2 : m - 1 - i = m - i - 1 := by omega
    rw [e, e2]
    by_cases z : m - i = 1
    ·rw [z]; exact h10
    ·exact k4 (m - i) (by omega) (by omega)
   have hfin := ZO2 O R (m := m) (f := n - m) (by omega) hupr (by omega)
   obtain ⟨q1, q2, _, _⟩ := ZK7 (c := c) (kas_rev p 0 m) (n - m) m
   exact ⟨hrp, by show 1 <= evT c _; omega, by show evT c _ <= n; omega, hfin⟩
theorem ZKV (O : Ord c n) {p : Array Nat} (P : Ixs p n) {k : Nat} (hk : k < n) (h : Up c p k) : ∀ (f l r : Nat), l <= r -> r <= k -> r - l <= f -> (∀ i, i < l -> c (gt0 p i) (gt0 p k) = true) -> (∀ i, r <= i -> i < k -> c (gt0 p k) (gt0 p i) = true) ->
  ∃ m, evT c (kas_place p k f l r) = m /\ m <= k /\ (∀ i, i < m -> c (gt0 p i) (gt0 p k) = true) /\ (∀ i, m <= i -> i < k -> c (gt0 p k) (gt0 p i) = true)
 | 0, l, r, h1, h2, h3, h4, h5 => ⟨l, rfl, by omega, h4, fun i g1 g2 => h5 i (by omega) g2⟩
 | f + 1, l, r, h1, h2, h3, h4, h5 => by
  by_cases hlr : l >= r
  ·have e : evT c (kas_place p k (f + 1) l r) = l := by
    show evT c (if l >= r then KasT.ret l else _) = l
    rw [if_pos hlr]
    rfl
   exact ⟨l, e, by omega, h4, fun i g1 g2 => h5 i (by omega) g2⟩
  ·have e : evT c (kas_place p k (f + 1) l r) = evT c (if c (gt0 p k) (gt0 p ((l + r) / 2)) = true then kas_place p k f l ((l + r) / 2) else kas_place p k f ((l + r) / 2 + 1) r) := by
    show evT c (if l >= r then KasT.ret l else _) = _
    rw [if_neg hlr]
    rfl
   rw [e]
   cases hc : c (gt0 p k) (gt0 p ((l + r) / 2)) with
   | true =>
    rw [if_pos rfl]
    refine ZKV O P hk h f l ((l + r) / 2) (by omega) (by omega) (by omega) h4 fun i g1 g2 => ?_
    by_cases z : i = (l + r) / 2
    ·rw [z]; exact hc
    ·exact O.tr _ _ _ hc (h ((l + r) / 2) i (by omega) g2)
   | false =>
    rw [if_neg (by decide)]
    have hd : c (gt0 p ((l + r) / 2)) (gt0 p k) = true := O.tot _ _ (P.lt _ hk) (P.lt _ (by omega)) (fun z => by have := P.inj _ _ hk (by omega) z; omega) hc
    refine ZKV O P hk h f ((l + r) / 2 + 1) r (by omega) h2 (by omega) (fun i g1 => ?_) h5
    by_cases z : i = (l + r) / 2
    ·rw [z]; exact hd
    ·exact O.tr _ _ _ (h i ((l + r) / 2) (by omega) (by omega)) hd
theorem ZO3 {p : Array Nat} {k l : Nat} (hk : k < p.size) (hl : l <= k) (i : Nat) (hi : i < p.size) : gt0 (bubble p k (k - l)) i = if i = l then gt0 p k else if l < i /\ i <= k then gt0 p (i - 1) else gt0 p i := by
 refine ZK6 ?_
 rw [getElem?_bubble hk (k - l) (by omega)]
 have e : k - (k - l) = l := by omega
 rw [e]
 by_cases h1 : i = l
 ·rw [if_pos h1, if_pos h1]; exact ZGT hk
 ·rw [if_neg h1, if_neg h1]
  by_cases h2 : l < i /\ i <= k
  ·rw [if_pos h2, if_pos h2]; exact ZGT (by omega)
  ·rw [if_neg h2, if_neg h2]; exact ZGT hi
theorem ZQ1 (O : Ord c n) : ∀ (f : Nat) (p : Array Nat) (k : Nat), p.toList.Perm (UM n) -> k + f = n -> Up c p k -> (evT c (kas_bin f p k)).toList.Perm (UM n) /\ Up c (evT c (kas_bin f p k)) n
 | 0, p, k, hp, hk, h => by
  have e : k = n := by omega
  refine ⟨hp, ?_⟩
  show Up c p n
  rw [<- e]
  exact h
 | f + 1, p, k, hp, hk, h => by
  have P := Ixs.of_perm hp
  show (evT c ((kas_place p k k 0 k).bind fun l => kas_bin f (bubble p k (k - l)) (k + 1))).toList.Perm (UM n) /\ Up c (evT c ((kas_place p k k 0 k).bind fun l => kas_bin f (bubble p k (k - l)) (k + 1))) n
  rw [ZGp]
  obtain ⟨m, e, g1, g2, g3⟩ := ZKV O P (k := k) (by omega) h k 0 k (by omega) (Ud _) (by omega) (fun i hi => by omega) (fun i h1 h2 => by omega)
  rw [e]
  refine ZQ1 O f (bubble p k (k - m)) (k + 1) ((Array.perm_iff_toList_perm.mp (bubble_perm p k _)).trans hp) (by omega) fun a b hab hb => ?_
  rw [ZO3 (by rw [P.size]; omega) g1 a (by rw [P.size]; omega), ZO3 (by rw [P.size]; omega) g1 b (by rw [P.size]; omega)]
  by_cases ha : a = m
  ·rw [if_pos ha, if_neg (by omega), if_pos ⟨by omega, by omega⟩]
   exact g3 (b - 1) (by omega) (by omega)
  ·rw [if_neg ha]
   by_cases hb2 : b = m
   ·rw [if_pos hb2, if_neg (by omega)]
    exact g2 a (by omega)
   ·rw [if_neg hb2]
    by_cases ha3 : m < a /\ a <= k
    ·rw [if_pos ha3, if_pos ⟨by omega, by omega⟩]
     exact h (a - 1) (b - 1) (by omega) (by omega)
    ·rw [if_neg ha3]
     by_cases hb3 : m < b /\ b <= k
     ·rw [if_pos hb3]
      by_cases z : a = b - 1
      ·omega
      ·exact h a (b - 1) (by omega) (by omega)
     ·rw [if_neg hb3]
      exact h a b hab (by omega)
theorem ZU5 (O : Ord c n) (hn : 1 <= n) : (evT c (kas_sort n)).toList.Perm (UM n) /\ Up c (evT c (kas_sort n)) n := by
 unfold kas_sort
 rw [ZGp]
 obtain ⟨h1, h2, h3, h4⟩ := ZSy O (p := List.toArray (UM n)) (List.Perm.refl _) hn
 generalize evT c (kas_count n (List.toArray (UM n))) = r at *
 by_cases h : r.1 < n
 ·rw [if_pos h]
  have e : max r.1 1 = r.1 := by omega
  rw [e]
  exact ZQ1 O (n - r.1) r.2 r.1 h1 (by omega) h4
 ·rw [if_neg h]
  refine ⟨h1, ?_⟩
  have e : r.1 = n := by omega
  rw [e] at h4
  exact h4
end
section
variable {X : Cx}
theorem ZED : OpR X (binaryOp .Mult) (rI IntMulOk fun i j => .int (i * j)) := opI fun _ _ _ _ _ _ _ hc q => mul_int q hc
def ZHw (_ j : Int) : Prop := 0 < j /\ j.natAbs.log2 < 9000
theorem ZHa : OpR X (binaryOp .FloorDiv) (rI ZHw fun i j => .int (i / j)) := opI fun i j _ _ _ _ _ hc q => by
 have h1 : (0 : Int) < j := hc.1
 exact floordiv_int (by omega) (by rw [Int.fdiv_eq_ediv_of_nonneg i (by omega)]; exact q) (.inl (PyProof.noPylong_of_log2 hc.2))
theorem ZHw.of {i j : Int} (h : 0 < j) {k : Nat} (h2 : j < 2 ^ k) (hk : k <= 9000) : ZHw i j := by
 refine ⟨h, ?_⟩
 have h3 : j.natAbs < 2 ^ k := by
  have e : ((j.natAbs : Nat) : Int) = j := by omega
  have e2 : ((2 ^ k : Nat) : Int) = (2 : Int) ^ k := by simp
  have : ((j.natAbs : Nat) : Int) < ((2 ^ k : Nat) : Int) := by rw [e, e2]; exact h2
  exact Int.ofNat_lt.mp this
 have h4 : j.natAbs.log2 < k := (Nat.log2_lt (by omega)).mpr h3
 omega
theorem ZYx {i j : Int} (h1 : -(2 ^ 64) < i) (h2 : i < 2 ^ 64) : IntMulOk i j := .of_left (intBits_le_64 h1 h2)
theorem ZYy {i j : Int} (h1 : -(2 ^ 64) < j) (h2 : j < 2 ^ 64) : IntMulOk i j := .of_right (intBits_le_64 h1 h2)
theorem ZK8 : ∀ {bs : List Bool} {us : List Value}, ZD3 (bs.map V.bl) us -> ∀ (i : Nat) (v : Value), us[i]? = some v -> ∃ b, bs[i]? = some b /\ v = .bool b
 | [], _, .nil, i, v, h => by simp at h
 | b :: bs, _, .cons r t, 0, v, h => by
  simp at h; subst h
  exact ⟨b, rfl, r⟩
 | b :: bs, _, .cons r t, i + 1, v, h => by
  simpa using ZK8 t i v (by simpa using h)
theorem ZSz (hc : X.calm = true) : ZEd X (.builtin "all") (fun xs H Q => ∃ (p : Addr) (bs : List Bool), xs = [.ref p] /\ SqL X.K H p (bs.map V.bl) /\ Q (.bl (bs.all id)) H) := by
 intro pins s U H xs us Q I r h
 obtain ⟨p, bs, rfl, hq, q⟩ := h
 cases r with
 | cons r1 r2 =>
 cases r2
 cases r1
 obtain ⟨its, rv, pl, hz⟩ := I.list hq
 have hl : s.heap.IsList p its.toArray := pl.isList
 have hlt : p < s.heap.objs.size := by obtain ⟨_, e, _⟩ := hl; exact Uk e
 refine call_all_walk (wpAny_pyIter_list hl ?_)
 refine ⟨s.heap.objs.size, [s.heap.objs.size, p], [s.heap.objs.size], its.toArray.size, _, _, fun i => (bs[i]?).getD true, rfl, Walks.list (A := X.A.in1) (I.ok.hd hc) _ p (Uq hlt) its.toArray,
  ⟨⟨_, Ug _ rfl, rfl, rfl⟩, hl.push _⟩, fun i v s' Q' E' hP hQ => ?_, fun h' tk hk => ?_⟩
 ·obtain ⟨b, e, rfl⟩ := ZK8 rv i v (by simpa using hP)
  simp only [e, Option.getD_some] at hQ
  exact wpAny_truthy_bool hQ
 ·have e : ((UM its.toArray.size).all fun i => (bs[i]?).getD true) = bs.all id := by
   have hl2 := rv.length
   rw [Uf] at hl2
   rw [Uo, <- hl2]; exact PyProof.Rows.LSm.range_all bs
  rw [e]
  refine ⟨.bl _, H, I.kept fun b x e => hk b x (fun hm => by rw [Uj.mp hm] at e; exact Vr _ (Uk e)) (Ub _ e), rfl, q⟩
def ZS0 (K : W.Frag) : List V -> Hp -> VK -> Prop := fun xs H Q => ∃ x n t b, xs = [x, .ty n] /\ ZGa K H x t /\ W.kitOne K t (.type n) = some b /\ Q (.bl b) H
theorem ZS1 : ZEd X (.builtin "isinstance") (ZS0 X.K) := by
 intro pins s U H xs us Q I r h
 obtain ⟨x, n, t, b, rfl, ty, e, q⟩ := h
 obtain ⟨u, v, rfl, ru, rv⟩ := r.two
 obtain rfl : v = Value.type n := rv
 exact ZQs I ru ty e fun tk => ⟨.bl b, H, I.tok _, rfl, q⟩
end
theorem ZMj {l : List (Str × Addr)} {x : Str} {c : Addr} (h : (x, c) ∈ l) : ∃ d, l.lookup x = some d := by
 induction l with
 | nil => cases h
 | cons p r ih =>
  obtain ⟨y, d⟩ := p
  cases hx : x == y with
  | true => exact ⟨d, by simp [Uu, hx]⟩
  | false =>
   have hr : (x, c) ∈ r := by
    rcases Ul.mp h with e | e
    ·cases e
     simp at hx
    ·exact e
   obtain ⟨d', e⟩ := ih hr
   exact ⟨d', by simp only [Uu, hx]; exact e⟩
theorem ZHb {env : Env} : ∀ (names : List (Str × NameKind)) (acc : List (Str × Addr)), (∀ y ∈ names, y.2 = NameKind.free -> ∃ c, env.cells.lookup y.1 = some c) -> (∀ p ∈ acc, env.cells.lookup p.1 = some p.2) ->
  ∃ cl : List (Str × Addr), (forIn names acc fun (x : Str × NameKind) (r : List (Str × Addr)) => (match x with | (name, kind) => if (kind == NameKind.free) = true then (do let a <- cellOf env name; pure (ForInStep.yield ((name, a) :: r))) else pure (ForInStep.yield r) : Sem (ForInStep (List (Str × Addr))))) = pure cl
   /\ (∀ p ∈ cl, env.cells.lookup p.1 = some p.2) /\ (∀ p ∈ acc, p ∈ cl) /\ ∀ y ∈ names, y.2 = NameKind.free -> ∃ c, (y.1, c) ∈ cl
 | [], acc, _, ha => ⟨acc, by simp, ha, fun _ h => h, fun y h => by cases h⟩
 | (n, k) :: r, acc, h, ha => by
  by_cases hk : k = NameKind.free
  ·subst hk
   obtain ⟨c, hc⟩ := h (n, .free) UA rfl
   obtain ⟨cl, e, h1, h2, h3⟩ := ZHb r ((n, c) :: acc) (fun y hy => h y (Ur _ hy)) (fun p hp => by
    rcases Ul.mp hp with rfl | hp
    ·exact hc
    ·exact ha p hp)
   refine ⟨cl, ?_, h1, fun p hp => h2 p (Ur _ hp), fun y hy hf => ?_⟩
   ·rw [List.forIn_cons]
    simp only [beq_self_eq_true, if_true, cellOf, hc, pure_bind]
    exact e
   ·rcases Ul.mp hy with rfl | hy
    ·exact ⟨c, h2 _ UA⟩
    ·exact h3 y hy hf
  ·obtain ⟨cl, e, h1, h2, h3⟩ := ZHb r acc (fun y hy => h y (Ur _ hy)) ha
   have hb : (k == NameKind.free) = false := by simpa using hk
   refine ⟨cl, ?_, h1, h2, fun y hy hf => ?_⟩
   ·rw [List.forIn_cons]
    simp only [hb, Vd, if_false, pure_bind]
    exact e
   ·rcases Ul.mp hy with rfl | hy
    ·exact absurd hf hk
    ·exact h3 y hy hf
theorem ZK9 {scope : Scope} {env : Env} (h : ∀ y ∈ scope.names, y.2 = NameKind.free -> ∃ c, env.cells.lookup y.1 = some c) :
  ∃ cl, closureFor scope env = pure cl /\ (∀ x c, cl.lookup x = some c -> env.cells.lookup x = some c) /\ ∀ y ∈ scope.names, y.2 = .free -> ∃ c, cl.lookup y.1 = some c := by
 obtain ⟨cl, e, h1, _, h3⟩ := ZHb scope.names [] h (fun p hp => by cases hp)
 refine ⟨cl, ?_, fun x c hx => h1 (x, c) (PySem.mem_of_lookup hx), fun y hy hf => ?_⟩
 ·simp only [closureFor]
  rw [e]
  rfl
 ·obtain ⟨c, hc⟩ := h3 y hy hf
  exact ZMj hc
theorem ZGq {env : Env} : ∀ (names : List (Str × NameKind)) (x : Str),
  (names.map fun (n, k) => if (k == NameKind.free && env.scope.kind == .function && env.kindOf n == some .cell) then (n, NameKind.cell) else (n, k)).lookup x =
   (names.lookup x).map fun k => if (k == NameKind.free && env.scope.kind == .function && env.kindOf x == some .cell) then NameKind.cell else k
 | [], _ => rfl
 | (n, k) :: r, x => by
  have ih := ZGq (env := env) r x
  show Ve x ((if (k == NameKind.free && env.scope.kind == .function && env.kindOf n == some .cell) = true then (n, NameKind.cell) else (n, k)) :: _) = _
  cases hx : x == n with
  | true =>
   have e : x = n := eq_of_beq hx
   subst e
   by_cases hc : (k == NameKind.free && env.scope.kind == .function && env.kindOf x == some .cell) = true
   ·rw [if_pos hc]
    simp only [Uu, beq_self_eq_true, UY]
    rw [if_pos hc]
   ·rw [if_neg hc]
    simp only [Uu, beq_self_eq_true, UY]
    rw [if_neg hc]
  | false =>
   by_cases hc : (k == NameKind.free && env.scope.kind == .function && env.kindOf n == some .cell) = true
   ·rw [if_pos hc]; simp only [Uu, hx]; exact ih
   ·rw [if_neg hc]; simp only [Uu, hx]; exact ih
structure ZJN (N : List Str) (sc : Scope) (own caps : List Str) (ks : List Nat) (scope : Scope) : Prop where
 kind : scope.kind = .function
 nocell : ∀ y ∈ scope.names, y.2 ≠ .cell
 names : ∀ y ∈ scope.names, y.2 = .local -> scope.names.lookup y.1 = some .local
 free : ∀ y ∈ scope.names, y.2 = .free -> sc.names.lookup y.1 = some .cell
 nd : (own ++ caps).Nodup
 cap : ks.map (fun k => N[k]?) = caps.map some
 fr : ∀ x ∈ caps, scope.names.lookup x = some .free
def ZEG (X : Cx) (N' : List Str) (scope : Scope) (cl : List (Str × Addr)) (C : Addr) (s₂ : Shared) (H₂ : Hp) (fp : List Addr) : Cx :=
 { X with N := N', s₀ := s₂, H₀ := H₂, env := compEnvC scope cl C X.env, outer := X.stack, stack := X.stack, ex := fp, fn := fun _ => false, pn := [], xe := fun _ _ => False }
def ZGK (own : Nat) (ks : List Nat) (U : St) : St := List.replicate own none ++ ks.map fun k => (U[k]?).join
section
variable {prog : Program} {w : World} {A : Around} {R : Result -> Shared -> Prop} {s : Shared}
theorem ZGb {elt target iter : Expr} {ifs : List Expr} {scope : Scope} {pos : Pos} {it acc : Value} {env : Env} (I : Nat -> Shared -> Prop)
  (turn : ∀ n s, I n s -> wpAny (model prog w) A (pyNext it) (fun r s₁ => match r with
   | none => R (.ok .next) s₁
   | some v => wpAny (model prog w) A (letOwnedTupleGo target it v) (fun _ s₁' => wpAny (model prog w) A (assign target env v) (fun _ s₂ =>
    wpAny (model prog w) A (forIn ifs true fun c r => if r = true then do let ok <- isTrue c env (eval c env); pure (ForInStep.yield ok) else pure (ForInStep.yield r)) (fun ok s₃ =>
     if ok = true then wpAny (model prog w) A (eval elt env) (fun x s₄ =>
      wpAny (model prog w) A (call (.builtin "list.append") [acc, x]) (fun _ s₅ => ∃ m, m < n /\ I m s₅) (notedBy (model prog w) A env fun e s' => R (.error e) s') s₄) (notedBy (model prog w) A env fun e s' => R (.error e) s') s₃
     else ∃ m, m < n /\ I m s₃) (notedBy (model prog w) A env fun e s' => R (.error e) s') s₂) (notedBy (model prog w) A env fun e s' => R (.error e) s') s₁') (notedBy (model prog w) A env fun e s' => R (.error e) s') s₁) (notedBy (model prog w) A env fun e s' => R (.error e) s') s)
  (n : Nat) (h : I n s) :
  codeAny (model prog w) A (.compLoop (.ListComp elt [⟨target, iter, ifs, 0⟩] scope pos) 0 it acc env) R s := by
 refine codeAny_loop rfl I (fun n s hI => ?_) n h
 show wpAny _ A ((compTurn (.ListComp elt [⟨target, iter, ifs, 0⟩] scope pos) 0 it acc env).onRaise (fun x => do noteFrame x env; theTreesLotGoes x)) _ _ s
 refine wpAny_noted ?_
 rw [compTurn_list]
 refine Ua (wpAny_standAt (Ua (UG (turn n s hI) (fun r s₁ h₁ => ?_) fun _ _ h' => h')))
 cases r with
 | none => exact Uh h₁
 | some v =>
  refine Ua (UG h₁ (fun _ s₁' h₁' => ?_) fun _ _ h' => h')
  refine Ua (UG h₁' (fun _ s₂ h₂ => Ua (UG h₂ (fun ok s₃ h₃ => ?_) fun _ _ h' => h')) fun _ _ h' => h')
  cases ok with
  | false => exact Uh ⟨rfl, h₃⟩
  | true =>
   exact Ua (Ua (UG h₃ (fun x s₄ h₄ => Ua (UG h₄ (fun _ s₅ h₅ => Uh (Uh ⟨rfl, h₅⟩)) fun _ _ h' => h')) fun _ _ h' => h'))
end
def ZLd (X : Cx) (ifs : List Expr) (t : TT) : Prop :=
 ∀ (pins : List (Addr × Obj)) (s : Shared) (U : St) (H : Hp) (Q : Bool -> Hp -> Prop), Inv X pins U H s -> t U H Q ->
  wpAny (model X.prog X.w) X.A (forIn ifs true fun c r => if r = true then do let ok <- isTrue c X.env (eval c X.env); pure (ForInStep.yield ok) else pure (ForInStep.yield r)) (TP X pins U Q) X.xe s
def ZPl : TT := fun _ H Q => Q true H
section
variable {X : Cx}
theorem ZS2 : ZLd X [] ZPl := fun _ _ _ H _ I h => wpAny_tests_nil ⟨H, I, h⟩
theorem ZS3 {c : Expr} {t : TT} (hc : PT X c t) : ZLd X [c] t := fun pins s U H Q I h => wpAny_tests_one (hc pins s U H Q I h)
def ZJ0 (own : Nat) (ks : List Nat) (wi : TI) (g : TG) (tt : TT) (te : TE) : TE := fun U H Q => wi U H fun J H1 => ∀ l, H1 l = none ->
 ∃ W : Nat -> Nat -> St -> Hp -> Prop, (∃ m, W 0 m (ZGK own ks U) (upd H1 l (.lst []))) /\ ∀ i m U' H', W i m U' H' ->
  (J.stop i H' /\ Q (.ref l) H') \/ (J.go i H' /\ ∃ N : St -> Hp -> Prop, (∀ U2 H2, N U2 H2 -> ∃ m', m' < m /\ W (i + 1) m' U2 H2) /\
   ∀ x H'', J.yld i H' x H'' -> g x U' H'' fun U2 H2 => tt U2 H2 fun b H3 =>
    if b = true then te U2 H3 fun v H4 => ∃ xs, H4 l = some (.lst xs) /\ xs.length < sizeLine /\ N U2 (upd H4 l (.lst (xs ++ [v]))) else N U2 H3)
theorem ZMF {α : Type} {o : Option (Option α)} {v : α} (h : o.join = some v) : o = some (some v) := by
 cases o with
 | none => cases h
 | some x => exact congrArg some h
theorem ZU6 {N : List Str} {sc : Scope} {own caps : List Str} {ks : List Nat} {elt tg iter : Expr} {ifs : List Expr} {scope : Scope} {pos : Pos} {wi : TI} {g : TG} {tt : TT} {te : TE}
  (hN : X.N = N) (hsc : X.env.scope = sc) (hc : X.calm = true) (S : ZJN N sc own caps ks scope) (hi : PI X tg iter wi)
  (hg : ∀ cl C s₂ H₂ fp, PG (ZEG X (own ++ caps) scope cl C s₂ H₂ fp) tg g)
  (ht : ∀ cl C s₂ H₂ fp, ZLd (ZEG X (own ++ caps) scope cl C s₂ H₂ fp) ifs tt)
  (he : ∀ cl C s₂ H₂ fp, PE (ZEG X (own ++ caps) scope cl C s₂ H₂ fp) elt te)
  (hs : ∀ x, foldedSetIterable iter X.env x = pure x := by intro _; rfl) :
  PE X (.ListComp elt [⟨tg, iter, ifs, 0⟩] scope pos) (ZJ0 own.length ks wi g tt te) := by
 intro pins s U H Q I h
 subst hN hsc
 rw [eval_ListComp]
 obtain ⟨cl, hclos, hcl, hclf⟩ := ZK9 (scope := scope) (env := X.env) fun y hy hf => I.ok.has y.1 (.inl (S.free y hy hf))
 refine wpAny_comprehension_free (use := none) rfl hs hclos S.kind S.names (UG (hi pins s U H _ I h) (fun xv s₁ h₁ => UG h₁ (fun it s₂ h₂ => ?_) fun _ _ e => e) fun _ _ e => e)
 obtain ⟨it, fp, tn, J, H2, e, I2, T, st2, f2, q⟩ := h₂
 subst e
 refine wpAny_newObj_type (wpAny_newFunctionEnv S.nocell (by intro y hy; simp at hy) (fun h₁ hns₁ hsb₁ => ?_) S.kind)
 dsimp only at hns₁ hsb₁ ⊢
 generalize hH2 : s₂.heap.push { cls := .type "list", dict := none, data := .seq ([] : List Value).toArray } = HP at hns₁ hsb₁ ⊢
 have hC : HP.objs.size = s₂.heap.objs.size + 1 := by rw [<- hH2, UW]
 have hDC : s₂.heap.objs.size ≠ HP.objs.size := by rw [hC]; exact Uq (Vq _)
 have hCle : s₂.heap.objs.size <= HP.objs.size := by rw [hC]; exact Nat.le_succ _
 have old : ∀ b o, s₂.heap.get? b = some o -> h₁.get? b = some o := fun b o e => by
  have hb : b < s₂.heap.objs.size := Uk e
  exact hsb₁.extBut b o (by rw [hC]; exact Uq (Vf hb)) (Ub _ (hH2 ▸ Ub _ e))
 have hacc : h₁.get? s₂.heap.objs.size = some { cls := .type "list", dict := none, data := .seq ([] : List Value).toArray } := hsb₁.extBut _ _ hDC (Ub _ (hH2 ▸ Ug _ rfl))
 have fpl : ∀ b ∈ fp, b < s₂.heap.objs.size := fun b hb => by
  obtain ⟨o, e, _⟩ := T.obj _ _ st2 b hb
  exact Uk e
 have hfD : H2 s₂.heap.objs.size = none := I2.hok.fresh (Ud _)
 obtain ⟨W, ⟨m0, w0⟩, turn⟩ := q s₂.heap.objs.size hfD
 have hkr : ∀ x, (compEnvC scope cl HP.objs.size X.env).kindOf x = (scope.names.lookup x).map fun k => if (k == NameKind.free && X.env.scope.kind == .function && X.env.kindOf x == some .cell) then NameKind.cell else k := fun x => ZGq (env := X.env) scope.names x
 have cellOfN : ∀ x, scope.names.lookup x = some .free -> X.env.kindOf x = some .cell := fun x e => S.free (x, .free) (PySem.mem_of_lookup e) rfl
 -- the context within
 have ok : (ZEG X (own ++ caps) scope cl HP.objs.size s₂ H2 fp).Ok := by
  refine ⟨I2.ok.mod, S.kind, I2.ok.glob, I2.ok.blt, hCle, fun x y c e1 e2 => I2.ok.inj x y c (hcl x c e1) (hcl y c e2), fun x hx => ?_, fun x c z => (by cases z), I2.ok.hd, I2.ok.frames, .inl rfl, fun b hb => ⟨?_, fun x c e => (f2 b hb).2.2.2.2.1 x c (hcl x c e)⟩,
   I2.bs, Uz I2.ok.bsz I2.sz, fun b o e hb => ?_, fun b hb z => ?_, I2.stack, I2.stkFree⟩
  ·have hx' : (scope.names.lookup x).map (fun k => if (k == NameKind.free && X.env.scope.kind == .function && X.env.kindOf x == some .cell) then NameKind.cell else k) = some .cell \/
     (scope.names.lookup x).map (fun k => if (k == NameKind.free && X.env.scope.kind == .function && X.env.kindOf x == some .cell) then NameKind.cell else k) = some .free := by rw [<- hkr x]; exact hx
   cases e : scope.names.lookup x with
   | none => rw [e] at hx'; rcases hx' with z | z <;> cases z
   | some k =>
    have hm := PySem.mem_of_lookup e
    have hk : k = .free := by
     by_cases hkf : k = .free
     ·exact hkf
     ·have hb : (k == NameKind.free) = false := by simpa using hkf
      rw [e] at hx'
      simp only [UY, hb, Vu, Vd, if_false, Option.some.injEq] at hx'
      rcases hx' with z | z
      ·exact absurd z (S.nocell _ hm)
      ·exact z
    exact hclf _ hm hk
  ·exact Uq (Ue (fpl b hb) hCle)
  ·rcases (f2 b hb).2.2.2.1 with z | z
   ·exact I2.ok.noex b o e z
   ·exact absurd (Ue (Uk e) (Uz I2.ok.bsz z)) (Vr _)
  ·rcases Ul.mp (I2.stkSub b z) with r | r
   ·exact (f2 b hb).2.1 r
   ·exact (f2 b hb).2.2.1 r
 have hlen : (ZGK own.length ks U).length = (own ++ caps).length := by
  have := congrArg Vl S.cap
  simp only [Uf] at this
  simp [ZGK, this]
 have I4 : Inv (ZEG X (own ++ caps) scope cl HP.objs.size s₂ H2 fp) [] (ZGK own.length ks U) (upd H2 s₂.heap.objs.size (.lst [])) { s₂ with heap := h₁, toks := s₂.toks + ([] : List (Str × Value)).length } := by
  obtain ⟨mX, hnX, hlX⟩ := I2.loc
  refine ⟨ok, rfl, I2.bare, Un.laid old (Ud _) hfD, ⟨_, hns₁, fun i x v e1 e2 e3 => ?_⟩, fun x c e => ?_, ?_, fun x c e => ?_, fun p hp => (by cases hp), I2.hok.laid old (Ud _) ⟨UO _, [], 0, .nil, hacc⟩, hlen⟩
  ·have e1 : (own ++ caps)[i]? = some x := e1
   by_cases hio : i < own.length
   ·unfold ZGK at e2
    rw [List.getElem?_append_left (by simpa using hio), List.getElem?_replicate] at e2
    rw [if_pos hio] at e2
    cases e2
   ·unfold ZGK at e2
    rw [Vh (by simpa using hio), List.length_replicate, UB] at e2
    rw [Vh (by simpa using hio)] at e1
    cases ek : ks[i - own.length]? with
    | none => rw [ek] at e2; cases e2
    | some k =>
     rw [ek] at e2
     have e2' := ZMF (Option.some.inj e2)
     have hcap := congrArg (fun l => l[i - own.length]?) S.cap
     simp only [UB, ek, e1, UY] at hcap
     have hNk : X.N[k]? = some x := Option.some.inj hcap
     have hfx := S.fr x (Uv e1)
     have hkX := cellOfN x hfx
     obtain ⟨u, ru, lk⟩ := hlX k x v hNk e2' (.inr (.inl hkX))
     refine ⟨u, ru, .inr ⟨.inl ?_, ?_⟩⟩
     ·show (compEnvC scope cl HP.objs.size X.env).kindOf x = some .cell
      rw [hkr x, hfx]
      simp [I2.ok.kind, hkX]
     ·rcases lk with ⟨z, _⟩ | ⟨_, c, ec, o, ho, hd⟩
      ·rw [hkX] at z; cases z
      ·obtain ⟨c', ec'⟩ := hclf (x, .free) (PySem.mem_of_lookup hfx) rfl
       have := hcl _ _ ec'
       rw [ec] at this
       cases this
       exact ⟨c, ec', o, old _ _ ho, hd⟩
  ·obtain ⟨v, o, ho, hd⟩ := I2.cell x c (hcl x c e)
   exact ⟨v, o, old _ _ ho, hd⟩
  ·show upd H2 s₂.heap.objs.size (.lst []) HP.objs.size = none
   rw [ZD4 (Ne.symm hDC)]
   exact I2.hok.fresh hCle
  ·obtain ⟨v, o, ho, hd⟩ := I2.cell x c (hcl x c e)
   show upd H2 s₂.heap.objs.size (.lst []) c = none
   rw [ZD4 (Uq (Uk ho))]
   exact I2.freeC x c (hcl x c e)
 -- the way out
 have out : ∀ {U' : St} {H' : Hp} {s' : Shared}, Inv (ZEG X (own ++ caps) scope cl HP.objs.size s₂ H2 fp) [] U' H' s' -> Q (.ref s₂.heap.objs.size) H' ->
   ∃ m, s'.heap.Ns HP.objs.size m /\ ∀ h', Heap.SameBut HP.objs.size s'.heap h' -> EP X pins U Q (.ref s₂.heap.objs.size) { s' with heap := h' } := fun {U' H' s'} I' q' => by
  obtain ⟨m, hn, _⟩ := I'.loc
  refine ⟨m, hn, fun h' hs' => ⟨.ref s₂.heap.objs.size, H', ?_, rfl, q'⟩⟩
  have hfree : H' HP.objs.size = none := I'.free
  have neC : ∀ {b : Addr} {o : Obj}, s₂.heap.get? b = some o -> b ≠ HP.objs.size := fun e => Uq (Ue (Uk e) hCle)
  refine I2.call' (ch := fp) (s' := { s' with heap := h' }) I'.os ⟨fun b o e n hb hx => ?_, fun b o e n hb hx => ?_, I'.base.free, fun b o e hx => ?_, I'.base.tups, I'.base.frzs, I'.base.tbls⟩ (fun b ob e => ?_) I'.bare fun b hb => ⟨(f2 b hb).2.2.2.1, (f2 b hb).2.1, (f2 b hb).2.2.2.2.1, (f2 b hb).2.2.2.2.2⟩
  ·exact (hs'.2 b (neC e)).trans (I'.base.keep b o e n hb hx)
  ·obtain ⟨sl, e1⟩ := I'.base.slot b o e n hb hx
   exact ⟨sl, (hs'.2 b (neC e)).trans e1⟩
  ·obtain ⟨o', e1⟩ := I'.base.there b o e hx
   exact ⟨o', (hs'.2 b (neC e)).trans e1⟩
  ·refine (I'.hok b ob e).stay (fun c w' hc q => (hs'.2 c ?_).trans q) (fun _ q => q) fun _ _ q => q
   rintro rfl
   rcases hc with rfl | hc
   ·rw [hfree] at e; cases e
   ·rw [hfree] at hc; cases hc
 have stat : ∀ {H' : Hp}, (∀ b ∈ fp, H' b = none) -> ∀ b ∈ fp, ZFQ (ZEG X (own ++ caps) scope cl HP.objs.size s₂ H2 fp) [] H' b := fun hn b hb =>
  ⟨hn b hb, Uq (Ue (fpl b hb) hCle), ok.exfs b hb, .inl hb, (ok.exf b hb).2, fun p hp => by cases hp⟩
 have fr4 : ∀ b ∈ fp, upd H2 s₂.heap.objs.size (.lst []) b = none := fun b hb => by
  rw [ZD4 (Uq (fpl b hb))]
  exact (f2 b hb).1
 have tn4 : tn 0 h₁ := T.keep _ _ _ st2 fun b _ o e => old b o e
 have loop : ∀ s4 : Shared, s4 = { s₂ with heap := h₁, toks := s₂.toks + ([] : List (Str × Value)).length } ->
   codeAny (model X.prog X.w) X.A (.compLoop (.ListComp elt [⟨tg, iter, ifs, 0⟩] scope pos) 0 (.ref it) (.ref s₂.heap.objs.size) (compEnvC scope cl HP.objs.size X.env))
    (compPost (model X.prog X.w) X.A X.xe none (EP X pins U Q) (.ref s₂.heap.objs.size) HP.objs.size) s4 := by
  rintro s4 rfl
  refine ZGb (fun n s' => ∃ i U' H', Inv (ZEG X (own ++ caps) scope cl HP.objs.size s₂ H2 fp) [] U' H' s' /\ tn i s'.heap /\ (∀ b ∈ fp, H' b = none) /\ W i n U' H') ?_ m0 ⟨0, _, _, I4, tn4, fr4, w0⟩
  rintro n s3 ⟨i, U3, H3, I3, st3, fr3, w3⟩
  rcases turn i n U3 H3 w3 with ⟨stop, qn⟩ | ⟨go, N, hN, step⟩
  ·refine UG (T.done (ZEG X (own ++ caps) scope cl HP.objs.size s₂ H2 fp) rfl rfl rfl hc i [] s3 U3 H3 (fun _ _ => False) I3 (stat fr3) st3 stop) (fun r s4 ⟨hr, I4'⟩ => ?_) fun _ _ z => False.elim z
   subst hr
   exact out I4' qn
  ·refine UG (T.item (ZEG X (own ++ caps) scope cl HP.objs.size s₂ H2 fp) rfl rfl rfl hc i [] s3 U3 H3 (fun _ _ => False) I3 (stat fr3) st3 go) (fun r s4 ⟨u, hr, h4⟩ => ?_) fun _ _ z => False.elim z
   subst hr
   refine UG h4 (fun _ s5 ⟨x, H5, I5, r5, y5, st5, fr5⟩ => ?_) fun _ _ z => False.elim z
   have I5' := I5.pinned (stat fr5) (T.obj _ _ st5)
   have back : ∀ {s7 : Shared} {U7 : St} {H7 : Hp}, Inv (ZEG X (own ++ caps) scope cl HP.objs.size s₂ H2 fp) ([] ++ ZIP fp s5.heap) U7 H7 s7 -> N U7 H7 ->
     ∃ m, m < n /\ ∃ i U' H', Inv (ZEG X (own ++ caps) scope cl HP.objs.size s₂ H2 fp) [] U' H' s7 /\ tn i s7.heap /\ (∀ b ∈ fp, H' b = none) /\ W i m U' H' := fun {s7 U7 H7} I7 n7 => by
    obtain ⟨m', hm, w7⟩ := hN U7 H7 n7
    refine ⟨m', hm, i + 1, U7, H7, I7.unpinned, T.keep _ _ _ st5 fun b hb o e => (I7.pin (b, o) (Uy _ (Uy _ (ZF3 hb e)))).1, fun b hb => ?_, w7⟩
    obtain ⟨o, e, d⟩ := T.obj _ _ st5 b hb
    exact (I7.pin (b, o) (Uy _ (Uy _ (ZF3 hb e)))).2.1
   refine UG (hg _ _ _ _ _ _ s5 U3 H5 x u _ I5' r5 (step x H5 y5)) (fun _ s6 ⟨U6, H6, I6, q6⟩ => ?_) fun _ _ z => False.elim z
   refine UG (ht _ _ _ _ _ _ s6 U6 H6 _ I6 q6) (fun b s7 ⟨H7, I7, q7⟩ => ?_) fun _ _ z => False.elim z
   cases b with
   | false =>
    rw [if_neg Ut]
    rw [if_neg Ut] at q7
    exact back I7 q7
   | true =>
    rw [if_pos rfl]
    rw [if_pos rfl] at q7
    refine UG (he _ _ _ _ _ _ s7 U6 H7 _ I7 q7) (fun y s8 ⟨v, H8, I8, r8, xs, hx8, hz8, n8⟩ => ?_) fun _ _ z => False.elim z
    refine UG (ZFK (X := ZEG X (own ++ caps) scope cl HP.objs.size s₂ H2 fp) _ s8 U6 H8 (.ref s₂.heap.objs.size) [v] (.ref s₂.heap.objs.size) [y] (fun _ H' => N U6 H') I8 rfl (.cons r8 .nil) ⟨_, xs, v, rfl, rfl, hx8, hz8, n8⟩) (fun _ s9 ⟨_, H9, I9, _, n9⟩ => ?_) fun _ _ z => False.elim z
    exact back I9 n9
 exact codeAny_compStart_list (loop _ rfl) (T.self _ 0 _ _ _ tn4 (loop _ rfl))
end
theorem ZW7 : bootBuiltins "int" = some (.type "int") := by decide +kernel
theorem ZU7 : bootBuiltins "bool" = some (.type "bool") := by decide +kernel
theorem ZW8 : bootBuiltins "str" = some (.type "str") := by decide +kernel
theorem ZGr : bootBuiltins "tuple" = some (.type "tuple") := by decide +kernel
theorem ZHc : bootBuiltins "len" = some (.builtin "len") := by decide +kernel
theorem ZW9 : bootBuiltins "abs" = some (.builtin "abs") := by decide +kernel
theorem ZIR : bootBuiltins "max" = some (.builtin "max") := by decide +kernel
theorem ZIS : bootBuiltins "min" = some (.builtin "min") := by decide +kernel
theorem ZXA : bootBuiltins "all" = some (.builtin "all") := by decide +kernel
theorem ZGU : bootBuiltins "sorted" = some (.builtin "sorted") := by decide +kernel
theorem ZHF : bootBuiltins "isinstance" = some (.builtin "isinstance") := by decide +kernel
def ZFT : Expr -> Bool
 | .Starred _ _ => true
 | _ => false
def ZEn (es : List Expr) : Bool := es.all fun e => !ZFT e
theorem ZE1 {e : Expr} {es : List Expr} {env : Env} (h : ZFT e = false) : starEach (e :: es) env = (false, eval e env) :: starEach es env := by
 cases e <;> first | rfl | cases h
theorem ZGs {e : Expr} {es : List Expr} {env : Env} (h : ZEn (e :: es) = true) : starEach (e :: es) env = (false, eval e env) :: starEach es env := by
 refine ZE1 ?_
 unfold ZEn at h
 rw [List.all_cons, UH] at h
 simpa using h.1
theorem ZGO {pos : Pos} {env : Env} : ∀ {es : List Expr}, ZEn es = true -> (backTo pos (starEach es env)).any (·.1) = false
 | [], _ => rfl
 | e :: es, h => by
  rw [ZGs h]
  have h2 : ZEn es = true := by
   unfold ZEn at h ⊢
   rw [List.all_cons, UH] at h
   exact h.2
  exact ZGO h2
theorem ZGV {e : Expr} {es : List Expr} (h : ZEn (e :: es) = true) : ZEn es = true := by
 unfold ZEn at h ⊢
 rw [List.all_cons, UH] at h
 exact h.2
section
variable {X : Cx} {CX : CXT} {k : Nat} {f : Addr} {fd : FuncData} {ps : List Str} {sp : Sp} {dvs : List V} {ds : List Value} {E : XK} {x : Str} {p pos : Pos} {e : Expr} {es : List Expr} {te : TE} {t : TA} {id T : String} {r : List V -> Hp -> VK -> Prop}
theorem ZYz (ha : PE X e te) (hr : PA X es t) (hs : ZFT e = false := by rfl) : PA X (e :: es) (ZMx te t) := ZUx ha hr (ZE1 hs)
theorem ZS4 (F : ZD2 X.prog X.w X.K X.mg X.base CX k f fd ps sp) (hr : Room k X.A) (hg : Gl X x) (hm : X.mg x = some (.ref f)) (hk : W.keepIn X.K (.ref f) = true) (hb : ZDt X.K fd ps ds) (hd : ZD3 dvs ds) (hx : ZFS CX X E)
  (ha : PA X (e :: es) t) (hns : ZEn (e :: es) = true := by rfl) (hdb : (x == ("__debug__" : Str)) = false := by decide) : PE X (.Call (.Name x p) (e :: es) [] pos) (ZK1 sp dvs E t) :=
 ZUy F hr hg hm hk hb hd hx ha hdb (ZGs hns) (ZGO (ZGV hns))
theorem ZQ2 (hc : ZEd X (.builtin id) r) (hg : Gl X x) (hm : X.mg x = none) (hv : bootBuiltins x = some (.builtin id)) (ha : PA X (e :: es) t) (hns : ZEn (e :: es) = true := by rfl) (hn : x ≠ "__name__" := by decide) (hdb : (x == ("__debug__" : Str)) = false := by decide) :
 PE X (.Call (.Name x p) (e :: es) [] pos) (tCB r t) := ZSq hc hg hm hv ha hn hdb (ZGs hns) (ZGO (ZGV hns))
theorem ZPm (hc : ZEd X (.type T) r) (hg : Gl X x) (hm : X.mg x = none) (hv : bootBuiltins x = some (.type T)) (ha : PA X (e :: es) t) (hns : ZEn (e :: es) = true := by rfl) (hn : x ≠ "__name__" := by decide) (hdb : (x == ("__debug__" : Str)) = false := by decide) :
 PE X (.Call (.Name x p) (e :: es) [] pos) (tCB r t) := ZQu hc hg hm hv ha hn hdb (ZGs hns) (ZGO (ZGV hns))
end
def ZF7 : Expr -> Bool
 | .ListComp _ _ _ _ => true
 | .SetComp _ _ _ _ => true
 | .DictComp _ _ _ _ _ => true
 | _ => false
theorem ZHd {e : Expr} {tg : Option Expr} {n : Nat} {env : Env} (h : ZF7 e = false) : swapsWith e tg n env = pure false := by
 cases e <;> first | rfl | cases h
section
variable {X : Cx} {e : Expr} {te : TE} {pos : Pos}
theorem ZS5 (he : PE X e te) (hs : ZF7 e = false := by rfl) : PS X (.Expr e pos) (ZMu te) := ZUl he (ZHd hs)
theorem ZU8 {i : Nat} {x : Str} {pos' : Pos} (hN : X.N.Nodup) (hi : X.N[i]? = some x) (hx : Loc X.env.scope x) (he : PE X e te) (hs : ZF7 e = false := by rfl) (hf : X.fn x = true \/ X.env.scope.names.lookup x = some .local := by first | exact .inl rfl | exact .inr rfl | assumption) :
 PS X (.Assign [.Name x pos'] e pos) (ZH9 te (ZGJ i)) := ZQi hN hi hx he (ZHd hs) hf
end
def ZPn (K : W.Frag) : List V -> Hp -> VK -> Prop := fun xs H Q => ∃ p ys, xs = [.ref p] /\ (SqL K H p ys \/ SqT K H p ys) /\ Q (.int ys.length) H
def ZXB : List V -> Hp -> VK -> Prop := fun xs H Q => ∃ i, xs = [.int i] /\ Q (.int (if i < 0 then -i else i)) H
def ZXC : List V -> Hp -> VK -> Prop := fun xs H Q => ∃ i j, xs = [.int i, .int j] /\ Q (.int (if j > i then j else i)) H
def ZXD : List V -> Hp -> VK -> Prop := fun xs H Q => ∃ i j, xs = [.int i, .int j] /\ Q (.int (if j < i then j else i)) H
def ZS6 (K : W.Frag) : List V -> Hp -> VK -> Prop := fun xs H Q => ∃ (p : Addr) (bs : List Bool), xs = [.ref p] /\ SqL K H p (bs.map V.bl) /\ Q (.bl (bs.all id)) H
def ZNK (K : W.Frag) : List V -> Hp -> VK -> Prop := fun xs H Q => ∃ p ys, xs = [.ref p] /\ ((SqL K H p ys /\ ∀ l, H l = none -> Q (.ref l) (upd H l (.tup ys))) \/ (SqT K H p ys /\ Q (.ref p) H))
def ZXE : R2 := fun x y H Q => y = .non /\ Q (.bl (decide (x = .non))) H
def ZUL : R2 := fun x y H Q => y = .non /\ Q (.bl (!decide (x = .non))) H
section
variable {X : Cx}
theorem ZXF : ZEd X (.builtin "len") (ZPn X.K) := ZNH
theorem ZXG : ZEd X (.builtin "abs") ZXB := ZSh
theorem ZLA (hc : X.calm = true) : ZEd X (.builtin "max") ZXC := ZQn hc
theorem ZLB (hc : X.calm = true) : ZEd X (.builtin "min") ZXD := ZQo hc
theorem ZXH (hc : X.calm = true) : ZEd X (.builtin "all") (ZS6 X.K) := ZSz hc
theorem ZS7 : ZEd X (.type "tuple") (ZNK X.K) := ZMi
theorem ZNL : OpR X (compareOp .Is) ZXE := ZWr
theorem ZLe : OpR X (compareOp .IsNot) ZUL := ZUr
end
section
variable {K : W.Frag} {U : St} {H : Hp} {Q : VK} {D : ZEx}
theorem ZXI {t u : TS} (h : t { D with nx := u D } U H) : ZSO t u D U H := h
theorem ZXJ {te : TE} (h : te U H D.rt) : ZSQ te D U H := h
theorem ZU9 {te : TE} (h : te U H fun _ H1 => D.nx U H1) : ZMu te D U H := h
theorem ZVA (h : D.nx U H) : ZPS D U H := h
theorem ZXK {te : TE} {g : TG} (h : te U H fun x H1 => g x U H1 D.nx) : ZH9 te g D U H := h
theorem ZS8 {i : Nat} {v : V} {R : St -> Hp -> Prop} (h : R (U.set i (some v)) H) : ZGJ i v U H R := h
theorem ZVB {R : St -> Hp -> Prop} (h : R U H) : ZST [] U H R := ⟨rfl, h⟩
theorem ZS9 {t : TG} {u : TGs} {v : V} {r : List V} {R : St -> Hp -> Prop} (h : t v U H fun U' H' => u r U' H' R) : ZPT t u (v :: r) U H R := ⟨v, r, rfl, h⟩
theorem ZVC {to ti : TE} {t : ZM9} {v : V} {R : St -> Hp -> Prop} (h : to U H fun o H1 => ti U H1 fun i H2 => t o i v H2 fun H3 => R U H3) : ZSV to ti t v U H R := h
theorem ZXL {c : TT} {t u : TS} (h : c U H fun b H1 => if b = true then t D U H1 else u D U H1) : ZM8 c t u D U H := h
theorem ZVD {t : TE} {R : Bool -> Hp -> Prop} (h : t U H fun x H' => ∃ k, x = .bl k /\ R k H') : ZKx t U H R := h
theorem ZY0 {t : TE} {R : Bool -> Hp -> Prop} (h : t U H fun x H' => ∃ k, x = .bl k /\ R k H') : tB t U H R := h
theorem ZKW {b : Bool} {R : Bool -> Prop} (h : R b) : ∃ k, V.bl b = .bl k /\ R k := ⟨b, rfl, h⟩
theorem ZXM {t u : TT} {R : Bool -> Hp -> Prop} (h : t U H fun c H1 => if c = true then u U H1 R else R false H1) : ZSL t u U H R := h
theorem ZYd {t u : TT} {R : Bool -> Hp -> Prop} (h : t U H fun c H1 => if c = true then R true H1 else u U H1 R) : tOr t u U H R := h
theorem ZXN {t : TT} {R : Bool -> Hp -> Prop} (h : t U H fun c H1 => R (!c) H1) : ZSM t U H R := h
theorem ZVE {t u : TE} (h : t U H fun x H1 => ∃ c, x = .bl c /\ if c = true then u U H1 Q else Q (.bl false) H1) : ZPQ t u U H Q := h
theorem ZVF {t : TE} (h : t U H fun x H1 => ∃ c, x = .bl c /\ Q (.bl (!c)) H1) : ZPR t U H Q := h
theorem ZYe {t : TT} {ta tb : TE} (h : t U H fun c H1 => if c = true then ta U H1 Q else tb U H1 Q) : tIf t ta tb U H Q := h
theorem ZXO {i : Nat} {v : V} (e : U[i]? = some (some v)) (h : Q v H) : ZSK i U H Q := ⟨v, e, h⟩
theorem ZNM {i j : Int} (h1 : 0 <= j) (h2 : j <= 1000000) (h3 : i.natAbs < 2 ^ 64) : ZSd i j := ⟨h1, h2, h3⟩
theorem ZY1 {v : V} (h : Q v H) : tC v U H Q := h
theorem ZYf {r : R2} {ta tb : TE} (h : ta U H fun x H1 => tb U H1 fun y H2 => r x y H2 Q) : tOp r ta tb U H Q := h
theorem ZYg {r : V -> Hp -> VK -> Prop} {ta : TE} (h : ta U H fun x H1 => r x H1 Q) : tUn r ta U H Q := h
theorem ZYh {g : Int -> Int -> V} {i j : Int} (h : Q (g i j) H) : rI0 g (.int i) (.int j) H Q := ⟨i, j, rfl, rfl, h⟩
theorem ZHe {C : Int -> Int -> Prop} {g : Int -> Int -> V} {i j : Int} (c : C i j) (h : Q (g i j) H) : rI C g (.int i) (.int j) H Q := ⟨i, j, rfl, rfl, c, h⟩
theorem ZY2 {g : Int -> V} {i : Int} (h : Q (g i) H) : rU g (.int i) H Q := ⟨i, rfl, h⟩
theorem ZXP {i j : Int} (h : Q (.bl (decide (V.int i = V.int j))) H) : rEq (.int i) (.int j) H Q := ⟨rfl, h⟩
theorem ZYi {r : List V -> Hp -> VK -> Prop} {t : TA} (h : t U H fun vs H1 => r vs H1 Q) : tCB r t U H Q := h
theorem ZVG {sp : Sp} {dvs : List V} {E : XK} {t : TA} (h : t U H fun vs H1 => sp (vs ++ dvs) H1 Q E) : ZK1 sp dvs E t U H Q := h
theorem ZVH {ta : TE} {tr : TA} {R : List V -> Hp -> Prop} (h : ta U H fun x H1 => tr U H1 fun xs H2 => R (x :: xs) H2) : ZMx ta tr U H R := h
theorem ZXQ {R : List V -> Hp -> Prop} (h : R [] H) : ZKR U H R := h
def ZTA (n : Nat) (o : HO) (H : Hp) (Q : VK) : Prop := n <= sizeLine /\ ∀ p, H p = none -> Q (.ref p) (upd H p o)
theorem ZXR {t : TA} (h : t U H fun xs H1 => ZTA xs.length (.tup xs) H1 Q) : ZSm t U H Q := h
theorem ZXS {t : TA} (h : t U H fun xs H1 => ZTA xs.length (.lst xs) H1 Q) : ZSn t U H Q := h
theorem ZD9 {n : Nat} {o : HO} (hz : n <= sizeLine) (h : ∀ p H2, H p = none -> H2 p = some o -> ZDq H H2 -> Q (.ref p) H2) : ZTA n o H Q :=
 ⟨hz, fun p hp => h p _ hp ZDr (fun b u e => by rw [ZD4 (ZET e hp)]; exact e)⟩
theorem ZTB {r r' : R2} {ta tb tc : TE} (h : ta U H fun x H1 => tb U H1 fun y H2 => r x y H2 fun z H3 => ∃ k, z = .bl k /\ (if k = true then tc U H3 fun w' H4 => r' y w' H4 Q else Q (.bl false) H3)) : ZJL r r' ta tb tc U H Q := h
theorem ZIT {p : Addr} {xs : List V} {i : Int} {v : V} (h1 : SqL K H p xs) (h2 : atI xs i = some v) (h : Q v H) : ZPg K (.ref p) (.int i) H Q := ⟨p, xs, i, v, rfl, rfl, h1, h2, h⟩
theorem ZLC {p : Addr} {xs : List V} {i : Int} {v : V} (h1 : SqT K H p xs) (h2 : atI xs i = some v) (h : Q v H) : ZSt K (.ref p) (.int i) H Q := ⟨p, xs, i, v, rfl, rfl, h1, h2, h⟩
theorem ZO4 {p : Addr} {xs : List V} {k : Int} {j : Nat} {v : V} {R : Hp -> Prop} (h1 : H p = some (.lst xs)) (h2 : ixN xs.length k = some j)
  (h : ∀ H2, H2 p = some (.lst (xs.set j v)) -> (∀ q o, H q = some o -> q ≠ p -> H2 q = some o) -> R H2) : ZPi (.ref p) (.int k) v H R :=
 ⟨p, xs, k, j, rfl, rfl, h1, h2, h _ ZDr fun q o e n => by rw [ZD4 n]; exact e⟩
theorem ZVI {p : Addr} {xs : List V} {k : Int} {j : Nat} {v : V} {R : Hp -> Prop} (h1 : H p = some (.lst xs)) (h2 : ixN xs.length k = some j) (h : R (upd H p (.lst (xs.set j v)))) : ZPi (.ref p) (.int k) v H R := ⟨p, xs, k, j, rfl, rfl, h1, h2, h⟩
def rFor (J : It) (g : TG) (tb : TS) (D : ZEx) (U : St) (H : Hp) : Prop := ∃ W : Nat -> Nat -> St -> Hp -> Prop, (∃ m, W 0 m U H) /\ ∀ i m U H, W i m U H ->
 (J.stop i H /\ D.nx U H) \/ (J.go i H /\ ∃ N : St -> Hp -> Prop, (∀ U' H', N U' H' -> ∃ m', m' < m /\ W (i + 1) m' U' H') /\ ∀ x H', J.yld i H x H' -> g x U H' fun U2 H2 => tb { D with nx := N, ct := N, bk := D.nx } U2 H2)
theorem ZXT {wi : TI} {g : TG} {tb : TS} (h : wi U H fun J H1 => rFor J g tb D U H1) : ZSZ wi g tb D U H := h
def ZUM (vs : List V) (H : Hp) (R : It -> Hp -> Prop) : Prop := ∃ j : Int, vs = [.int j] /\ -(2 ^ 62) <= j /\ j < 2 ^ 62 /\ R (Itr 0 j.toNat) H
theorem ZVJ {ta : TA} {R : It -> Hp -> Prop} (h : ta U H fun vs H1 => ZUM vs H1 R) : ZPX ta U H R := h
theorem ZGF {j : Int} {R : It -> Hp -> Prop} (h1 : -(2 ^ 62) <= j) (h2 : j < 2 ^ 62) (h : R (Itr 0 j.toNat) H) : ZUM [.int j] H R := ⟨j, rfl, h1, h2, h⟩
theorem ZXU {i : Int} (h : Q (.int (if i < 0 then -i else i)) H) : ZXB [.int i] H Q := ⟨i, rfl, h⟩
theorem ZXV {i j : Int} (h : Q (.int (if j > i then j else i)) H) : ZXC [.int i, .int j] H Q := ⟨i, j, rfl, h⟩
theorem ZXW {i j : Int} (h : Q (.int (if j < i then j else i)) H) : ZXD [.int i, .int j] H Q := ⟨i, j, rfl, h⟩
theorem ZVK {p : Addr} {ys : List V} (h1 : SqL K H p ys) (h : Q (.int ys.length) H) : ZPn K [.ref p] H Q := ⟨p, ys, rfl, .inl h1, h⟩
theorem ZVL {p : Addr} {ys : List V} (h1 : SqT K H p ys) (h : Q (.int ys.length) H) : ZPn K [.ref p] H Q := ⟨p, ys, rfl, .inr h1, h⟩
theorem ZXX {p : Addr} {bs : List Bool} (h1 : SqL K H p (bs.map V.bl)) (h : Q (.bl (bs.all id)) H) : ZS6 K [.ref p] H Q := ⟨p, bs, rfl, h1, h⟩
theorem ZG8 {x : V} {n : String} {t : Value} {b : Bool} (ty : ZGa K H x t) (e : W.kitOne K t (.type n) = some b) (h : Q (.bl b) H) : ZS0 K [x, .ty n] H Q := ⟨x, n, t, b, rfl, ty, e, h⟩
theorem ZXY {x : V} (h : Q (.bl (decide (x = .non))) H) : ZXE x .non H Q := ⟨rfl, h⟩
theorem ZVM {x : V} (h : Q (.bl (!decide (x = .non))) H) : ZUL x .non H Q := ⟨rfl, h⟩
theorem ZVN {n : Nat} {t : TGs} {p : Addr} {xs : List V} {R : St -> Hp -> Prop} (h1 : SqT K H p xs) (h2 : xs.length = n) (h : t xs U H R) : ZPU K n t (.ref p) U H R := ⟨p, xs, rfl, h1, h2, h⟩
theorem ZHU {p : Addr} {ys : List V} (h1 : SqL K H p ys) (h : ∀ l H2, H l = none -> H2 l = some (.tup ys) -> ZDq H H2 -> Q (.ref l) H2) :
  ZNK K [.ref p] H Q :=
 ⟨p, ys, rfl, .inl ⟨h1, fun l hl => h l _ hl ZDr (fun b u e => by rw [ZD4 (ZET e hl)]; exact e)⟩⟩
theorem ZXZ {p : Addr} {xs : List V} {lo hi : Option Int} (h1 : SqL K H p xs) (h : ∀ l H2, H l = none -> H2 l = some (.lst (ZGo xs lo hi)) -> ZDq H H2 -> Q (.ref l) H2) : ZPj K (.ref p) lo hi H Q :=
 ⟨p, xs, rfl, h1, fun l hl => h l _ hl ZDr (fun b u e => by rw [ZD4 (ZET e hl)]; exact e)⟩
theorem ZYj {r : V -> Option Int -> Option Int -> Hp -> VK -> Prop} {te : TE} {tl th : TO} (h : te U H fun x H1 => tl U H1 fun l H2 => th U H2 fun u H3 => r x l u H3 Q) : tSl r te tl th U H Q := h
theorem ZQ3 {R : Option Int -> Hp -> Prop} (h : R none H) : ZLa U H R := h
theorem ZVO {t : TE} {R : Option Int -> Hp -> Prop} (h : t U H fun x H1 => ∃ i, x = .int i /\ R (some i) H1) : ZPf t U H R := h
theorem ZY3 {i : Int} {R : Int -> Prop} (h : R i) : ∃ j, V.int i = .int j /\ R j := ⟨i, rfl, h⟩
theorem ZEc {c A B : Prop} [Decidable c] (h1 : c -> A) (h2 : ¬ c -> B) : if decide c = true then A else B := by
 by_cases h : c
 ·rw [decide_eq_true h]; exact ZFR (h1 h)
 ·rw [decide_eq_false h]; exact ZEs (h2 h)
theorem ZIf {c A B : Prop} [Decidable c] (h1 : ¬ c -> A) (h2 : c -> B) : if (!decide c) = true then A else B := by
 by_cases h : c
 ·rw [decide_eq_true h]; exact ZEs (h2 h)
 ·rw [decide_eq_false h]; exact ZFR (h1 h)
theorem ZMy {i j : Int} : decide (V.int i = V.int j) = decide (i = j) := by
 by_cases h : i = j
 ·subst h; simp
 ·rw [decide_eq_false h, decide_eq_false (fun z => h (V.int.inj z))]
theorem ZHV {lo : Int} {n : Nat} {g : TG} {tb : TS} (Pv : Nat -> St -> Hp -> Prop) (h0 : Pv 0 U H)
 (hs : ∀ i U H, i < n -> Pv i U H -> g (.int (lo + i)) U H fun U2 H2 => tb { D with nx := Pv (i + 1), ct := Pv (i + 1), bk := D.nx } U2 H2) (hd : ∀ U H, Pv n U H -> D.nx U H) :
 rFor (Itr lo n) g tb D U H := ZQl Pv h0 hs hd
theorem ZLf {a : Addr} {xs : List V} {g : TG} {tb : TS} (Pv : Nat -> St -> Hp -> Prop) (h0 : Pv 0 U H) (hl : ∀ i U H, i <= xs.length -> Pv i U H -> SqL K H a xs)
 (hs : ∀ i x U H, xs[i]? = some x -> Pv i U H -> g x U H fun U2 H2 => tb { D with nx := Pv (i + 1), ct := Pv (i + 1), bk := D.nx } U2 H2) (hd : ∀ U H, Pv xs.length U H -> D.nx U H) :
 rFor (Itl K a) g tb D U H := ZSa Pv h0 hl hs hd
theorem ZJ1 {a : Addr} {xs : List V} {g : TG} {tb : TS} (Pv : Nat -> St -> Hp -> Prop) (h0 : Pv 0 U H) (hl : ∀ i U H, i <= xs.length -> Pv i U H -> SqT K H a xs)
 (hs : ∀ i x U H, xs[i]? = some x -> Pv i U H -> g x U H fun U2 H2 => tb { D with nx := Pv (i + 1), ct := Pv (i + 1), bk := D.nx } U2 H2) (hd : ∀ U H, Pv xs.length U H -> D.nx U H) :
 rFor (Itt K a) g tb D U H := ZUp Pv h0 hl hs hd
def ZUN (J : It) (g : TG) (tt : TT) (te : TE) (l : Addr) (U0 : St) (H : Hp) (Q : VK) : Prop :=
 ∃ W : Nat -> Nat -> St -> Hp -> Prop, (∃ m, W 0 m U0 (upd H l (.lst []))) /\ ∀ i m U' H', W i m U' H' ->
  (J.stop i H' /\ Q (.ref l) H') \/ (J.go i H' /\ ∃ N : St -> Hp -> Prop, (∀ U2 H2, N U2 H2 -> ∃ m', m' < m /\ W (i + 1) m' U2 H2) /\
   ∀ x H'', J.yld i H' x H'' -> g x U' H'' fun U2 H2 => tt U2 H2 fun b H3 =>
    if b = true then te U2 H3 fun v H4 => ∃ xs, H4 l = some (.lst xs) /\ xs.length < sizeLine /\ N U2 (upd H4 l (.lst (xs ++ [v]))) else N U2 H3)
theorem ZEu {J : It} {g : TG} {tt : TT} {te : TE} {U0 : St} {l : Addr} (n : Nat) (Pv : Nat -> St -> Hp -> Prop) (h0 : Pv 0 U0 (upd H l (.lst [])))
  (stop : ∀ U H, Pv n U H -> J.stop n H /\ Q (.ref l) H)
  (go : ∀ i U H, i < n -> Pv i U H -> J.go i H /\ ∀ x H', J.yld i H x H' -> g x U H' fun U2 H2 => tt U2 H2 fun b H3 =>
   if b = true then te U2 H3 fun v H4 => ∃ xs, H4 l = some (.lst xs) /\ xs.length < sizeLine /\ Pv (i + 1) U2 (upd H4 l (.lst (xs ++ [v]))) else Pv (i + 1) U2 H3) :
  ZUN J g tt te l U0 H Q := by
 refine ⟨fun i m U H => m = n - i /\ i <= n /\ Pv i U H, ⟨n, by simp, UO _, h0⟩, ?_⟩
 rintro i m U H ⟨rfl, hi, p⟩
 by_cases hlt : i < n
 ·obtain ⟨hgo, h⟩ := go i U H hlt p
  exact .inr ⟨hgo, Pv (i + 1), fun U' H' p' => ⟨n - (i + 1), by omega, rfl, hlt, p'⟩, h⟩
 ·have e : i = n := by omega
  subst e
  exact .inl (stop U H p)
theorem ZVP {own : Nat} {ks : List Nat} {wi : TI} {g : TG} {tt : TT} {te : TE} (h : wi U H fun J H1 => ∀ l, H1 l = none -> ZUN J g tt te l (ZGK own ks U) H1 Q) : ZJ0 own ks wi g tt te U H Q := h
def ZXa (K : W.Frag) (x : V) (H : Hp) (R : It -> Hp -> Prop) : Prop := ∃ a, x = .ref a /\ (∃ xs, SqT K H a xs) /\ R (Itt K a) H
def ZXb (K : W.Frag) (x : V) (H : Hp) (R : It -> Hp -> Prop) : Prop := ∃ a, x = .ref a /\ (∃ xs, SqL K H a xs) /\ R (Itl K a) H
theorem ZVQ {tl : TE} {R : It -> Hp -> Prop} (h : tl U H fun x H1 => ZXa K x H1 R) : ZPW K tl U H R := h
theorem ZTC {tl : TE} {R : It -> Hp -> Prop} (h : tl U H fun x H1 => ZXb K x H1 R) : ZMv K tl U H R := h
theorem ZXc {p : Addr} {xs : List V} {R : It -> Hp -> Prop} (h1 : SqT K H p xs) (h : R (Itt K p) H) : ZXa K (.ref p) H R := ⟨p, rfl, ⟨xs, h1⟩, h⟩
theorem ZXd {p : Addr} {xs : List V} {R : It -> Hp -> Prop} (h1 : SqL K H p xs) (h : R (Itl K p) H) : ZXb K (.ref p) H R := ⟨p, rfl, ⟨xs, h1⟩, h⟩
theorem ZVR {R : Bool -> Hp -> Prop} (h : R true H) : ZPl U H R := h
end
theorem ZDq.seqT {K : W.Frag} {H H' : Hp} {a : Addr} {xs : List V} (e : ZDq H H') (h : SqT K H a xs) : SqT K H' a xs := by
 rcases h with (h | ⟨o, h⟩) | h
 ·exact .inl (.inl (e _ _ h))
 ·exact .inl (.inr ⟨o, e _ _ h⟩)
 ·exact .inr h
def Kp (p : Addr) (H H' : Hp) : Prop := ∀ q o, H q = some o -> q ≠ p -> H' q = some o
theorem Kp.refl (p : Addr) (H : Hp) : Kp p H H := fun _ _ h _ => h
theorem Kp.trans {p : Addr} {H H1 H2 : Hp} (a : Kp p H H1) (b : Kp p H1 H2) : Kp p H H2 := fun q o h n => b q o (a q o h n) n
theorem Kp.upd {p : Addr} {H : Hp} {o : HO} : Kp p H (upd H p o) := fun q u h n => by rw [ZD4 n]; exact h
theorem Kp.same {p : Addr} {H H' : Hp} (a : ZDq H H') : Kp p H H' := fun q o h _ => a q o h
theorem ZDq.new {H : Hp} {l : Addr} {o : HO} (h : H l = none) : ZDq H (upd H l o) := fun b u e => by rw [ZD4 (ZET e h)]; exact e
theorem Kp.then {H H1 H2 : Hp} {p : Addr} (h : Kp p H H1) (s : ZDq H1 H2) : Kp p H H2 := h.trans (Kp.same s)
structure QE (X : Cx) (e : Expr) (t : TE) : Prop where
 h : PE X e t
structure QT (X : Cx) (e : Expr) (t : TT) : Prop where
 h : PT X e t
structure QW (X : Cx) (e : Expr) (t : TT) : Prop where
 h : PW X e t
structure QA (X : Cx) (es : List Expr) (t : TA) : Prop where
 h : PA X es t
structure QS (X : Cx) (st : Stmt) (t : TS) : Prop where
 h : PS X st t
structure QB (X : Cx) (st : List Stmt) (t : TS) : Prop where
 h : PSs X st t
structure QG (X : Cx) (e : Expr) (t : TG) : Prop where
 h : PG X e t
structure QGs (X : Cx) (es : List Expr) (t : TGs) : Prop where
 h : PGs X es t
structure QI (X : Cx) (tg e : Expr) (t : TI) : Prop where
 h : PI X tg e t
structure QF (X : Cx) (es : List Expr) (t : TT) : Prop where
 h : ZLd X es t
structure QO (X : Cx) (e : Option Expr) (t : TO) : Prop where
 h : PO X e t
def ZMz : Expr -> Bool
 | .Slice _ _ _ _ => true
 | _ => false
theorem ZVS {b : Expr} (h : ZMz b = false) : ZOy b := by
 intro o i
 cases b <;> first | rfl | cases h
def ZNN : Expr -> Bool
 | .UnaryOp _ _ _ => false
 | .BoolOp _ _ _ => false
 | .IfExp _ _ _ _ => false
 | .Compare _ _ _ _ => false
 | _ => true
theorem ZXe {e : Expr} {env : Env} (h : ZNN e = true) : ∀ whole, isTrue e env whole = (do let v <- whole; standAt e.pos; holding [v] (truthy v)) := by
 intro whole
 cases e <;> first | rfl | cases h
section
variable {X : Cx} {a b c e o : Expr} {es ZFP : List Expr} {ta tb tc te to ti : TE} {tA tB' : TT} {t tr : TA} {pos p p2 pos' : Pos} {x : Str}
theorem qv (i : Nat) {x : Str} {pos : Pos} (hN : X.N[i]? = some x := by rfl) (hv : Vis X.env.scope x := by first | exact Or.inl rfl | exact Or.inr (Or.inl rfl) | exact Or.inr (Or.inr rfl)) (hd : (x == ("__debug__" : Str)) = false := by decide)
 (hcd : (x == ("__classdict__" : Str)) = false := by decide) : QE X (.Name x pos) (ZSK i) := ⟨ZWY hN hv hd hcd⟩
theorem ZDn {i j pos} : QE X (.Constant (.int i) j pos) (tC (.int i)) := ⟨ZWZ⟩
theorem ZJ2 {b j pos} : QE X (.Constant (.bool b) j pos) (tC (.bl b)) := ⟨ZYV⟩
theorem ZFw {j pos} : QE X (.Constant .none j pos) (tC .non) := ⟨ZWa⟩
theorem ZEy {x j pos} : QE X (.Constant (.str x) j pos) (tC (.str x)) := ⟨ZWb⟩
theorem ZHW {v : V} {u : Value} (hg : Gl X x) (hm : X.mg x = some u) (r : ZD0 v u) (hd : (x == ("__debug__" : Str)) = false := by decide) : QE X (.Name x pos) (tC v) := ⟨ZUg hg hm r hd⟩
theorem ZLg {v : V} {u : Value} (hg : Gl X x) (hm : X.mg x = none) (hv : bootBuiltins x = some u) (r : ZD0 v u) (hn : x ≠ "__name__" := by decide) (hd : (x == ("__debug__" : Str)) = false := by decide) : QE X (.Name x pos) (tC v) := ⟨ZUh hg hm hv r hn hd⟩
theorem ZDu {op : Operator} {r : R2} (ho : OpR X (binaryOp op) r) (ha : QE X a ta) (hb : QE X b tb) : QE X (.BinOp a op b pos) (tOp r ta tb) := ⟨ZYY ho ha.h hb.h⟩
theorem ZM0 {op : UnaryOp} {r : V -> Hp -> VK -> Prop} (ho : UnR X (unaryOp op) r) (ha : QE X a ta) : QE X (.UnaryOp op a pos) (tUn r ta) := ⟨ZYZ ho ha.h⟩
theorem ZXf (ha : QE X a ta) : QE X (.UnaryOp .Not a pos) (ZPR ta) := ⟨ZWi ha.h⟩
theorem ZLD {op} (h : QE X a ta) : QE X (.BoolOp op [a] pos) ta := ⟨ZWg h.h⟩
theorem ZJO (ha : QE X a ta) (hb : QE X (.BoolOp .And (b :: ZFP) pos) tb) : QE X (.BoolOp .And (a :: b :: ZFP) pos) (ZPQ ta tb) := ⟨ZWh ha.h hb.h⟩
theorem ZIg (hc : QT X c tA) (ha : QE X a ta) (hb : QE X b tb) : QE X (.IfExp c a b pos) (tIf tA ta tb) := ⟨ZSN hc.h ha.h hb.h⟩
theorem ZLh {op : CmpOp} {r : R2} (ho : OpR X (compareOp op) r) (ha : QE X a ta) (hb : QE X b tb) (hm : behindInMarks op b = false) : QE X (.Compare a [op] [b] pos) (tOp r ta tb) := ⟨ZUs ho ha.h hb.h hm⟩
theorem ZEC {op : CmpOp} {r : R2} (ho : OpR X (compareOp op) r) (ha : QE X a ta) (hb : QE X b tb) (hm : behindInMarks op b = false) : QT X (.Compare a [op] [b] pos) (ZKx (tOp r ta tb)) := ⟨ZUt ho ha.h hb.h hm⟩
theorem ZKX {op op' : CmpOp} {r r' : R2} (ho : OpR X (compareOp op) r) (ho' : OpR X (compareOp op') r') (ha : QE X a ta) (hb : QE X b tb) (hc : QE X c tc)
 (hm : lastMarks [op, op'] [b, c] = false := by with_unfolding_all rfl) : QE X (.Compare a [op, op'] [b, c] pos) (ZJL r r' ta tb tc) := ⟨ZSf ho ho' ha.h hb.h hc.h hm⟩
theorem ZIh {op op' : CmpOp} {r r' : R2} (ho : OpR X (compareOp op) r) (ho' : OpR X (compareOp op') r') (ha : QE X a ta) (hb : QE X b tb) (hc : QE X c tc)
 (hm : lastMarks [op, op'] [b, c] = false := by with_unfolding_all rfl) : QT X (.Compare a [op, op'] [b, c] pos) (ZKx (ZJL r r' ta tb tc)) := ⟨ZSg ho ho' ha.h hb.h hc.h hm⟩
theorem ZG9 (h : QE X e te) (he : ZNN e = true := by rfl) : QT X e (tB te) := ⟨ZWc h.h (ZXe he)⟩
theorem QW.pt (h : QW X e tA) : QT X e tA := ⟨h.h.pt⟩
theorem ZJ3 (ha : QT X a tA) : QW X (.BoolOp .And [a] pos) tA := ⟨ZUi ha.h⟩
theorem ZJP (ha : QT X a tA) : QW X (.BoolOp .Or [a] pos) tA := ⟨ZWd ha.h⟩
theorem ZLE (ha : QT X a tA) (hb : QW X (.BoolOp .And (b :: ZFP) pos) tB') : QW X (.BoolOp .And (a :: b :: ZFP) pos) (ZSL tA tB') := ⟨ZWe ha.h hb.h⟩
theorem ZLF (ha : QT X a tA) (hb : QW X (.BoolOp .Or (b :: ZFP) pos) tB') : QW X (.BoolOp .Or (a :: b :: ZFP) pos) (tOr tA tB') := ⟨ZYW ha.h hb.h⟩
theorem ZHf (ha : QT X a tA) : QT X (.UnaryOp .Not a pos) (ZSM tA) := ⟨ZWf ha.h⟩
theorem ZDl : QA X [] ZKR := ⟨ZWw⟩
theorem ZDk (ha : QE X e te) (hr : QA X es t) (hs : ZFT e = false := by rfl) : QA X (e :: es) (ZMx te t) := ⟨ZYz ha.h hr.h hs⟩
theorem ZEh {x1} (h : QA X es t) : QE X (.Tuple es x1 pos) (ZSm t) := ⟨ZWx h.h⟩
theorem ZFN (h : QA X es t) : QE X (.List es pos) (ZSn t) := ⟨ZWy h.h⟩
theorem ZD1 {r : R2} (hr : IxR X r) (ha : QE X a ta) (hb : QE X b tb) (hs : ZMz b = false := by rfl) : QE X (.Subscript a b pos) (tOp r ta tb) := ⟨ZYb hr ha.h hb.h (ZVS hs)⟩
theorem ZO5 : QO X none ZLa := ⟨ZU1⟩
theorem ZO6 (h : QE X e te) : QO X (some e) (ZPf te) := ⟨ZU2 h.h⟩
theorem ZNO {lo hi : Option Expr} {tl th : TO} {r : V -> Option Int -> Option Int -> Hp -> VK -> Prop} (hr : SlR X r) (he : QE X e te) (hl : QO X lo tl) (hu : QO X hi th) : QE X (.Subscript e (.Slice lo hi none p2) pos) (tSl r te tl th) := ⟨ZSs hr he.h hl.h hu.h⟩
theorem ZTD {CX : CXT} {k : Nat} {f : Addr} {fd : FuncData} {ps : List Str} {sp : Sp} {dvs : List V} {ds : List Value} {E : XK} (F : ZD2 X.prog X.w X.K X.mg X.base CX k f fd ps sp) (hr : Room k X.A) (hg : Gl X x) (hm : X.mg x = some (.ref f)) (hk : W.keepIn X.K (.ref f) = true) (hb : ZDt X.K fd ps ds) (hd : ZD3 dvs ds) (hx : ZFS CX X E)
 (ha : QA X (e :: es) t) (hns : ZEn (e :: es) = true := by rfl) (hdb : (x == ("__debug__" : Str)) = false := by decide) : QE X (.Call (.Name x p) (e :: es) [] pos) (ZK1 sp dvs E t) := ⟨ZS4 F hr hg hm hk hb hd hx ha.h hns hdb⟩
theorem ZEA {id : String} {r : List V -> Hp -> VK -> Prop} (hc : ZEd X (.builtin id) r) (hg : Gl X x) (hm : X.mg x = none) (hv : bootBuiltins x = some (.builtin id)) (ha : QA X (e :: es) t) (hns : ZEn (e :: es) = true := by rfl) (hn : x ≠ "__name__" := by decide) (hdb : (x == ("__debug__" : Str)) = false := by decide) :
 QE X (.Call (.Name x p) (e :: es) [] pos) (tCB r t) := ⟨ZQ2 hc hg hm hv ha.h hns hn hdb⟩
theorem ZFU {T : String} {r : List V -> Hp -> VK -> Prop} (hc : ZEd X (.type T) r) (hg : Gl X x) (hm : X.mg x = none) (hv : bootBuiltins x = some (.type T)) (ha : QA X (e :: es) t) (hns : ZEn (e :: es) = true := by rfl) (hn : x ≠ "__name__" := by decide) (hdb : (x == ("__debug__" : Str)) = false := by decide) :
 QE X (.Call (.Name x p) (e :: es) [] pos) (tCB r t) := ⟨ZPm hc hg hm hv ha.h hns hn hdb⟩
theorem ZFD : QF X [] ZPl := ⟨ZS2⟩
theorem ZHg (hc : QT X c tA) : QF X [c] tA := ⟨ZS3 hc.h⟩
theorem ZVT {tg : Expr} (hl : QE X e te) : QI X tg e (ZMv X.K te) := ⟨ZUo hl.h⟩
theorem ZXg {tg : Expr} (hl : QE X e te) : QI X tg e (ZPW X.K te) := ⟨ZWo hl.h⟩
theorem ZFL {tg : Expr} (hg : Gl X "range") (hm : X.mg "range" = none) (ha : QA X [a] t) (hs : ZFT a = false := by rfl) : QI X tg (.Call (.Name "range" p) [a] [] pos) (ZPX t) := ⟨ZQj hg hm ha.h (ZE1 hs)⟩
theorem ZEa {i : Nat} (hN : X.N.Nodup) (hi : X.N[i]? = some x) (hx : Loc X.env.scope x) (hf : X.fn x = true \/ X.env.scope.names.lookup x = some .local := by first | exact .inl rfl | exact .inr rfl | assumption) : QG X (.Name x pos) (ZGJ i) := ⟨ZUm hN hi hx hf⟩
theorem ZEi : QGs X [] ZST := ⟨ZUn⟩
theorem ZQ4 {e : Expr} {es : List Expr} {env : Env} (h : ZFT e = false) : (assignEach (e :: es) env).map (·.2) = assign e env :: (assignEach es env).map (·.2) := by
 cases e <;> first | rfl | cases h
theorem ZDy {g : TG} {u : TGs} (h1 : QG X e g) (h2 : QGs X es u) (hs : ZFT e = false := by rfl) : QGs X (e :: es) (ZPT g u) := ⟨ZSU h1.h h2.h (ZQ4 hs)⟩
theorem ZXh {k : Nat} {u : TGs} {n : Nat} (hc : X.calm = true) (h : QGs X es u) (hn : (assignEach es X.env).length = n := by rfl) (hst : (assignEach es X.env).findIdx? (·.1) = none := by rfl) : QG X (.Tuple es k pos) (ZPU X.K n u) := ⟨ZWk hc h.h hn hst⟩
theorem ZNP {s : ZM9} (ho : QE X o to) (hi : QE X e ti) (hs : ZSS X s)
 (ha : ∀ v, assign (.Subscript o e pos) X.env v = (do
  let ov <- holding [v] (eval o X.env)
  let iv <- holding [v, ov] (eval e X.env)
  standAt pos
  holding [v, ov, iv] (setItem ov iv v)
  release [v, ov, iv] []) := by intro _; rfl) : QG X (.Subscript o e pos) (ZSV to ti s) := ⟨ZWl ho.h hi.h hs ha⟩
theorem ZFY {N : List Str} {sc : Scope} {own caps : List Str} {ks : List Nat} {elt tg iter : Expr} {ifs : List Expr} {scope : Scope} {wi : TI} {g : TG} {tt : TT}
  (hN : X.N = N) (hsc : X.env.scope = sc) (hc : X.calm = true) (S : ZJN N sc own caps ks scope) (hi : QI X tg iter wi)
  (hg : ∀ cl C s₂ H₂ fp, QG (ZEG X (own ++ caps) scope cl C s₂ H₂ fp) tg g)
  (ht : ∀ cl C s₂ H₂ fp, QF (ZEG X (own ++ caps) scope cl C s₂ H₂ fp) ifs tt)
  (he : ∀ cl C s₂ H₂ fp, QE (ZEG X (own ++ caps) scope cl C s₂ H₂ fp) elt te)
  (hs : ∀ x, foldedSetIterable iter X.env x = pure x := by intro _; rfl) :
  QE X (.ListComp elt [⟨tg, iter, ifs, 0⟩] scope pos) (ZJ0 own.length ks wi g tt te) :=
 ⟨ZU6 hN hsc hc S hi.h (fun cl C s₂ H₂ fp => (hg cl C s₂ H₂ fp).h) (fun cl C s₂ H₂ fp => (ht cl C s₂ H₂ fp).h) (fun cl C s₂ H₂ fp => (he cl C s₂ H₂ fp).h) hs⟩
theorem ZGL {T : String} {name : Str} {id : String} {r : V -> List V -> Hp -> VK -> Prop} {apos cpos : Pos} (pa : PlainAttrs T) (slot : Slot T name id) (hty : typeOf (.builtin id) = pure (.type "method_descriptor")) (hm : MtR X id r) (ho : QE X o to) (ha : QA X (e :: es) t)
  (hst : ZEn (e :: es) = true := by rfl) (hbase : attributeBase o name X.env (eval o X.env) = eval o X.env := by rfl)
  (hfew : ((backTo cpos (starEach (e :: es) X.env)).all (fun x => !x.1) && (backToKw cpos (keywordEach [] X.env)).all (fun x => x.1.isSome)
   && decide ((e :: es).length + ([] : List Keyword).length + (if ([] : List Keyword).isEmpty then 0 else 1) < 30)) = true := by rfl)
  (hline : (apos.endLine == cpos.line) = true := by rfl) : QE X (.Call (.Attribute o name apos) (e :: es) [] cpos) (tBM X.K T r to t) :=
 ⟨ZYc pa slot hty hm ho.h ha.h hbase hfew hline (ZGs hst) (ZGO (ZGV hst))⟩
end
section
variable {X : Cx} {st : Stmt} {ZFP sa sb : List Stmt} {t u : TS} {e c : Expr} {te : TE} {tA : TT} {pos pos' : Pos} {x : Str}
theorem ZEX : QB X [] ZPS := ⟨ZUj⟩
theorem ZDm (h1 : QS X st t) (h2 : QB X ZFP u) : QB X (st :: ZFP) (ZSO t u) := ⟨ZSP h1.h h2.h⟩
theorem ZDp (h1 : QS X st t) : QB X [st] t := ⟨ZUk h1.h⟩
theorem ZEH (he : QE X e te) (hs : ZF7 e = false := by rfl) : QS X (.Expr e pos) (ZMu te) := ⟨ZS5 he.h hs⟩
theorem ZDz (he : QE X e te) : QS X (.Return (some e) pos) (ZSQ te) := ⟨ZWj he.h⟩
theorem ZEw (hc : QT X c tA) (ha : QB X sa t) (hb : QB X sb u) : QS X (.If c sa sb pos) (ZM8 tA t u) := ⟨ZYX hc.h ha.h hb.h⟩
theorem ZIi : QS X st ZQh := ⟨ZSR⟩
theorem ZVU {i : Nat} (hN : X.N.Nodup) (hi : X.N[i]? = some x) (hx : Loc X.env.scope x) (he : QE X e te) (hs : ZF7 e = false := by rfl) (hf : X.fn x = true \/ X.env.scope.names.lookup x = some .local := by first | exact .inl rfl | exact .inr rfl | assumption) :
 QS X (.Assign [.Name x pos'] e pos) (ZH9 te (ZGJ i)) := ⟨ZU8 hN hi hx he.h hs hf⟩
theorem ZFZ {tg : Expr} {g : TG} (he : QE X e te) (hg : QG X tg g) (hs : ZF7 e = false := by rfl) (hw : swappedStores [tg] e X.env = pure none := by rfl)
 (h1 : (assignEach [tg] X.env).map (·.2) = [assign tg X.env] := by rfl) : QS X (.Assign [tg] e pos) (ZH9 te g) := ⟨ZWm he.h hg.h (ZHd hs) hw h1⟩
theorem ZFB {tg iter : Expr} {wi : TI} {g : TG} (hp : PassesOwn (model X.prog X.w) X.A X.env X.xe) (hc : X.calm = true) (hi : QI X tg iter wi) (hg : QG X tg g) (hb : QB X sa t)
 (hs : ∀ x, foldedSetIterable iter X.env x = pure x := by intro _; rfl) : QS X (.For tg iter sa [] pos) (ZSZ wi g t) := ⟨ZWp hp hc hi.h hg.h hb.h hs⟩
theorem ZNQ (hp : PassesOwn (model X.prog X.w) X.A X.env X.xe) (hc : QT X c tA) (hb : QB X sa t) : QS X (.While c sa [] pos) (ZNA tA t) := ⟨ZSX hp hc.h hb.h⟩
end
section
variable {X : Cx} {e : Expr} {es : List Expr} {te : TE} {pos : Pos} (K : W.Frag) (h : X.K = K)
include h
theorem ZIU : ZEd X (.builtin "len") (ZPn K) := h ▸ ZXF
theorem ZXi (hc : X.calm = true) : ZEd X (.builtin "all") (ZS6 K) := h ▸ ZXH hc
theorem ZGt : ZEd X (.type "tuple") (ZNK K) := h ▸ ZS7
theorem ZNR : ZEd X (.builtin "isinstance") (ZS0 K) := h ▸ ZS1
theorem ZE4 : IxR X (ZPg K) := h ▸ ZU3
theorem ZD6 : IxR X (ZSt K) := h ▸ ZW2
theorem ZVV : SlR X (ZPj K) := h ▸ ZU4
theorem ZFp {tg : Expr} (hl : QE X e te) : QI X tg e (ZMv K te) := h ▸ ZVT hl
theorem ZIV {tg : Expr} (hl : QE X e te) : QI X tg e (ZPW K te) := h ▸ ZXg hl
theorem ZEz {k : Nat} {u : TGs} {n : Nat} (hc : X.calm = true) (hg : QGs X es u) (hn : (assignEach es X.env).length = n := by rfl) (hst : (assignEach es X.env).findIdx? (·.1) = none := by rfl) : QG X (.Tuple es k pos) (ZPU K n u) := h ▸ ZXh hc hg hn hst
end
mutual
inductive Dat (K : W.Frag) (H : Hp) : V -> PyData -> Prop
 | non : Dat K H .non .none
 | bl (b : Bool) : Dat K H (.bl b) (.bool b)
 | int (i : Int) : Dat K H (.int i) (.int i)
 | str (x : Str) : Dat K H (.str x) (.str x)
 | tup {a : Addr} {xs : List V} {ds : List PyData} (h : SqT K H a xs) (r : ZFg K H xs ds) : Dat K H (.ref a) (.tuple ds)
 | lst {a : Addr} {xs : List V} {ds : List PyData} (h : SqL K H a xs) (r : ZFg K H xs ds) : Dat K H (.ref a) (.list ds)
inductive ZFg (K : W.Frag) (H : Hp) : List V -> List PyData -> Prop
 | nil : ZFg K H [] []
 | cons {x : V} {d : PyData} {xs : List V} {ds : List PyData} (h : Dat K H x d) (r : ZFg K H xs ds) : ZFg K H (x :: xs) (d :: ds)
end
section
variable {X : Cx} {pins : List (Addr × Obj)} {U : St} {H : Hp} {s : Shared}
mutual
theorem Dat.reads (I : Inv X pins U H s) : ∀ {x : V} {d : PyData} {u : Value}, Dat X.K H x d -> ZD0 x u -> ∃ as, Reads s.heap u d as
 | _, _, u, .non, r => by cases (show u = Value.none from r); exact ⟨_, .none⟩
 | _, _, u, .bl b, r => by cases (show u = Value.bool b from r); exact ⟨_, .bool b⟩
 | _, _, u, .int i, r => by obtain ⟨t, rfl⟩ := (show ∃ t, u = Value.int i t from r); exact ⟨_, .int i t⟩
 | _, _, u, .str x, r => by obtain ⟨t, rfl⟩ := (show ∃ t, u = Value.str x t from r); exact ⟨_, .str x t⟩
 | _, _, u, @Dat.tup _ _ a xs ds h rs, r => by
  cases (show u = Value.ref a from r)
  obtain ⟨its, rv, ⟨o, ho, hc, n, hd⟩, _⟩ := I.tuple h
  obtain ⟨as, ra⟩ := ZFg.reads I rs rv
  exact ⟨_, .tuple ho hc hd (by simpa using ra)⟩
 | _, _, u, @Dat.lst _ _ a xs ds h rs, r => by
  cases (show u = Value.ref a from r)
  obtain ⟨its, rv, ⟨o, n, ho, hc, _, hd⟩, _⟩ := I.list h
  obtain ⟨as, ra⟩ := ZFg.reads I rs rv
  exact ⟨_, .list ho hc hd (by simpa using ra)⟩
theorem ZFg.reads (I : Inv X pins U H s) : ∀ {xs : List V} {ds : List PyData} {us : List Value}, ZFg X.K H xs ds -> ZD3 xs us -> ∃ as, ReadsAll s.heap us ds as
 | _, _, _, .nil, .nil => ⟨_, .nil⟩
 | _, _, _, .cons h r, .cons r1 r2 => by
  obtain ⟨as, ra⟩ := Dat.reads I h r1
  obtain ⟨bs, rb⟩ := ZFg.reads I r r2
  exact ⟨_, .cons ra rb⟩
end
end
section
variable {X : Cx}
def ZTE (K : W.Frag) : R2 := fun x y H Q => ∃ d e, Dat K H x d /\ Dat K H y e /\ d.canLay0 = true /\ e.canLay0 = true /\ d.depth <= 60 /\ Q (.bl (!PyData.eqv d e)) H
theorem ZQ5 (K : W.Frag) (hK : X.K = K) (hu : X.A.units + 64 < cLine) : OpR X (compareOp .NotEq) (ZTE K) := by
 subst hK
 intro pins s U H x y v u Q I rx ry h
 obtain ⟨d, e, h1, h2, c1, c2, hd, q⟩ := h
 obtain ⟨as, ra⟩ := h1.reads I rx
 obtain ⟨bs, rb⟩ := h2.reads I ry
 exact SeqAt.compareNe_reads ra rb c1 c2 (by have := Nat.min_le_left d.depth e.depth; omega) ⟨.bl _, H, I, rfl, q⟩
theorem ZXj {K : W.Frag} {H : Hp} {Q : VK} {x y : V} {d e : PyData} (h1 : Dat K H x d) (h2 : Dat K H y e) (c1 : d.canLay0 = true) (c2 : e.canLay0 = true) (hd : d.depth <= 60) (h : Q (.bl (!PyData.eqv d e)) H) : ZTE K x y H Q := ⟨d, e, h1, h2, c1, c2, hd, h⟩
theorem ZYk {K : W.Frag} {T : String} {r : V -> List V -> Hp -> VK -> Prop} {to : TE} {t : TA} {U : St} {H : Hp} {Q : VK} (h : to U H fun x H1 => tyV K T x H1 /\ t U H1 fun xs H2 => r x xs H2 Q) : tBM K T r to t U H Q := h
theorem tyL {K : W.Frag} {H : Hp} {p : Addr} {xs : List V} (h : H p = some (.lst xs)) : tyV K "list" (.ref p) H := .inl ⟨rfl, xs, SqL.of h⟩
theorem ZFV {H : Hp} {Q : VK} {p : Addr} {xs : List V} {y : V} (h1 : H p = some (.lst xs)) (hz : xs.length < sizeLine) (h : ∀ H2, H2 p = some (.lst (xs ++ [y])) -> Kp p H H2 -> Q .non H2) : ZOz (.ref p) [y] H Q :=
 ⟨p, xs, y, rfl, rfl, h1, hz, h _ ZDr Kp.upd⟩
end
def ZDv (H : Hp) (vs : List V) (l : PL) : Prop := Paired (fun v (p : Int × Int) => ∃ a, v = V.ref a /\ H a = some (.tup [.int p.1, .int p.2])) vs l
theorem ZDv.same {H H' : Hp} {vs : List V} {l : PL} (h : ZDv H vs l) (s : ZDq H H') : ZDv H' vs l := Paired.mapP h fun _ _ ⟨a, e, z⟩ => ⟨a, e, s _ _ z⟩
section
variable {κ : Type} [DecidableEq κ]
def ZEY (kvs : List (κ × V)) (k : κ) : Option V := (kvs.find? fun kv => decide (kv.1 = k)).map (·.2)
def ZFE (kvs : List (κ × V)) (k : κ) (v : V) : List (κ × V) :=
 if (kvs.any fun kv => decide (kv.1 = k)) = true then kvs.map (fun kv => if kv.1 = k then (kv.1, v) else kv) else kvs ++ [(k, v)]
def ZHx (kvs : List (κ × V)) (k : κ) : List (κ × V) := kvs.filter fun kv => decide (kv.1 ≠ k)
theorem ZE5 {p : κ × V} {r : List (κ × V)} {k : κ} (e : p.1 = k) : ZEY (p :: r) k = some p.2 := by simp [ZEY, Uw, e]
theorem ZE6 {p : κ × V} {r : List (κ × V)} {k : κ} (e : ¬ p.1 = k) : ZEY (p :: r) k = ZEY r k := by simp [ZEY, Uw, e]
theorem ZIj (k : κ) : ∀ kvs : List (κ × V), (kvs.any fun kv => decide (kv.1 = k)) = (ZEY kvs k).isSome
 | [] => rfl
 | p :: r => by
  rw [Vt]
  by_cases e : p.1 = k
  ·simp only [ZE5 e, decide_eq_true e, Bool.true_or, Option.isSome_some]
  ·rw [ZE6 e, decide_eq_false e, Bool.false_or]; exact ZIj k r
theorem ZNS (k j : κ) (y : V) : ∀ kvs : List (κ × V), ZEY (kvs.map fun kv => if kv.1 = k then (kv.1, y) else kv) j = (ZEY kvs j).map fun x => if j = k then y else x
 | [] => rfl
 | p :: r => by
  have ih := ZNS k j y r
  rw [UD]
  by_cases h : p.1 = k
  ·rw [if_pos h]
   by_cases e : p.1 = j
   ·rw [ZE5 (p := (p.1, y)) e, ZE5 e, UY, if_pos (e.symm.trans h)]
   ·rw [ZE6 (p := (p.1, y)) e, ZE6 e, ih]
  ·rw [if_neg h]
   by_cases e : p.1 = j
   ·rw [ZE5 (p := p) e, ZE5 e, UY, if_neg (fun z => h (e.trans z))]
   ·rw [ZE6 (p := p) e, ZE6 e, ih]
theorem ZMG (k j : κ) (y : V) : ∀ kvs : List (κ × V), ZEY kvs k = none -> ZEY (kvs ++ [(k, y)]) j = if j = k then some y else ZEY kvs j
 | [], _ => by
  by_cases e : k = j
  ·rw [if_pos e.symm]; exact ZE5 (p := (k, y)) e
  ·rw [if_neg (fun z => e z.symm)]; exact ZE6 (p := (k, y)) e
 | p :: r, hn => by
  rw [List.cons_append]
  have hk : ¬ p.1 = k := fun z => by rw [ZE5 z] at hn; cases hn
  rw [ZE6 hk] at hn
  have ih := ZMG k j y r hn
  by_cases e : p.1 = j
  ·rw [ZE5 e, ZE5 e, if_neg (fun z => hk (e.trans z))]
  ·rw [ZE6 e, ZE6 e, ih]
theorem ZKY (kvs : List (κ × V)) (k j : κ) (y : V) : ZEY (ZFE kvs k y) j = if j = k then some y else ZEY kvs j := by
 unfold ZFE
 by_cases a : (kvs.any fun kv => decide (kv.1 = k)) = true
 ·rw [if_pos a, ZNS]
  rw [ZIj] at a
  by_cases e : j = k
  ·obtain ⟨x, hx⟩ := Option.isSome_iff_exists.mp a
   rw [if_pos e, e, hx, UY, if_pos rfl]
  ·rw [if_neg e]
   cases ZEY kvs j with
   | none => rfl
   | some x => rw [UY, if_neg e]
 ·rw [if_neg a]
  refine ZMG k j y kvs ?_
  rw [ZIj] at a
  cases q : ZEY kvs k with
  | none => rfl
  | some x => rw [q] at a; exact (a rfl).elim
theorem ZGG (kvs : List (κ × V)) (k : κ) (v : V) : (ZFE kvs k v).length <= kvs.length + 1 := by
 unfold ZFE
 split
 ·rw [Uf]; omega
 ·rw [UN, UZ, List.length_nil]; omega
theorem ZFf.isSome_eq {o : Option V} {u : Option Value} (r : ZFf o u) : o.isSome = u.isSome := by
 cases o with
 | none => cases u with
  | none => rfl
  | some _ => exact (show False from r).elim
 | some _ => cases u with
  | none => exact (show False from r).elim
  | some _ => rfl
theorem ZFf.getD {o : Option V} {u : Option Value} {d : V} {d' : Value} (r : ZFf o u) (rd : ZD0 d d') : ZD0 (o.getD d) (u.getD d') := by
 cases o with
 | none => cases u with
  | none => exact rd
  | some _ => exact (show False from r).elim
 | some _ => cases u with
  | none => exact (show False from r).elim
  | some _ => exact r
theorem KV.val {kvs : List (κ × V)} {vs : List (κ × Value)} (r : KV kvs vs) (k : κ) : ZFf (ZEY kvs k) (valueAt vs k) := by
 unfold KV at r
 induction r with
 | nil => exact True.intro
 | @cons p q ps qs h t ih =>
  obtain ⟨h1, h2⟩ := h
  by_cases e : p.1 = k
  ·have e' : q.1 = k := h1.symm.trans e
   have b : valueAt (q :: qs) k = some q.2 := by simp [valueAt, Uw, e']
   rw [ZE5 e, b]; exact h2
  ·have e' : ¬ q.1 = k := fun z => e (h1.trans z)
   have b : valueAt (q :: qs) k = valueAt qs k := by simp [valueAt, Uw, e']
   rw [ZE6 e, b]; exact ih
theorem KV.any {kvs : List (κ × V)} {vs : List (κ × Value)} (r : KV kvs vs) (k : κ) : (kvs.any fun kv => decide (kv.1 = k)) = vs.any fun kv => decide (kv.1 = k) := by
 unfold KV at r
 induction r with
 | nil => rfl
 | cons h t ih => rw [Vt, Vt, ih, h.1]
theorem KV.repl {kvs : List (κ × V)} {vs : List (κ × Value)} (r : KV kvs vs) (k : κ) {y : V} {u : Value} (ry : ZD0 y u) :
  KV (kvs.map fun kv => if kv.1 = k then (kv.1, y) else kv) (vs.map fun kv => if kv.1 = k then (kv.1, u) else kv) := by
 unfold KV at r ⊢
 induction r with
 | nil => exact .nil
 | @cons p q ps qs h t ih =>
  rw [UD, UD]
  refine .cons ?_ ih
  obtain ⟨h1, h2⟩ := h
  by_cases e : p.1 = k
  ·rw [if_pos e, if_pos (h1.symm.trans e)]; exact ⟨h1, ry⟩
  ·rw [if_neg e, if_neg (fun z => e (h1.trans z))]; exact ⟨h1, h2⟩
theorem KV.put {kvs : List (κ × V)} {vs : List (κ × Value)} (r : KV kvs vs) (k : κ) {y : V} {u : Value} (ry : ZD0 y u) : KV (ZFE kvs k y) (stored vs k u) := by
 unfold ZFE stored
 rw [r.any k]
 by_cases e : (vs.any fun kv => decide (kv.1 = k)) = true
 ·rw [if_pos e, if_pos e]; exact r.repl k ry
 ·rw [if_neg e, if_neg e]; exact Paired.snoc r ⟨rfl, ry⟩
theorem KV.drop {kvs : List (κ × V)} {vs : List (κ × Value)} (r : KV kvs vs) (k : κ) : KV (ZHx kvs k) (without vs k) := by
 unfold KV at r ⊢
 unfold ZHx without
 induction r with
 | nil => exact .nil
 | @cons p q ps qs h t ih =>
  obtain ⟨h1, h2⟩ := h
  rw [List.filter_cons, List.filter_cons]
  by_cases e : p.1 = k
  ·have a : ¬ decide (p.1 ≠ k) = true := by simp [e]
   have b : ¬ decide (q.1 ≠ k) = true := by simp [h1.symm.trans e]
   rw [if_neg a, if_neg b]; exact ih
  ·have e' : ¬ q.1 = k := fun z => e (h1.trans z)
   have a : decide (p.1 ≠ k) = true := by simp [e]
   have b : decide (q.1 ≠ k) = true := by simp [e']
   rw [if_pos a, if_pos b]; exact .cons ⟨h1, h2⟩ ih
theorem KV.length {kvs : List (κ × V)} {vs : List (κ × Value)} (r : KV kvs vs) : kvs.length = vs.length := Paired.length r
theorem ZTF (kvs : List (κ × V)) (k : κ) : (ZHx kvs k).length <= kvs.length := UX _ _
end
theorem ZHy {P : Program} {w : World} {k : Key} {u : Value} (r : ZD0 (kV k) u) : (ZEP P w).is k u = true := by
 cases k with
 | inl i => obtain ⟨t, e⟩ := (show ∃ t, u = Value.int i t from r); subst e; exact ZOW P w i t
 | inr x => obtain ⟨t, e⟩ := (show ∃ t, u = Value.str x t from r); subst e; exact ZOX P w x t
theorem ZMH {P : Program} {w : World} : ∀ {ks : List Key} {us : List Value}, ZD3 (ks.map kV) us -> ItemsAre (ZEP P w) ks us
 | [], _, r => by rw [Vs] at r; cases r; exact .nil
 | k :: ks, _, r => by
  rw [UD] at r
  cases r with
  | cons h t => exact .cons (ZHy h) (ZMH t)
abbrev KT (H : Hp) : List (List Key × V) -> List (List Key × Addr × Value) -> Prop := Paired fun p q => p.1 = q.1 /\ H q.2.1 = some (.tup (p.1.map kV)) /\ ZD0 p.2 q.2.2
theorem KT.val {H : Hp} {kvs : List (List Key × V)} {xs : List (List Key × Addr × Value)} (r : KT H kvs xs) (k : List Key) : ZFf (ZEY kvs k) ((atKey xs k).map (·.2)) := by
 induction r with
 | nil => exact True.intro
 | @cons p q ps qs h t ih =>
  obtain ⟨h1, _, h2⟩ := h
  by_cases e : p.1 = k
  ·have e' : q.1 = k := h1.symm.trans e
   have b : atKey (q :: qs) k = some q.2 := by simp [atKey, Uw, e']
   rw [ZE5 e, b]; exact h2
  ·have e' : ¬ q.1 = k := fun z => e (h1.trans z)
   have b : atKey (q :: qs) k = atKey qs k := by simp [atKey, Uw, e']
   rw [ZE6 e, b]; exact ih
theorem KT.repl {H : Hp} {kvs : List (List Key × V)} {xs : List (List Key × Addr × Value)} (r : KT H kvs xs) (k : List Key) {y : V} {u : Value} (ry : ZD0 y u) :
  KT H (kvs.map fun kv => if kv.1 = k then (kv.1, y) else kv) (xs.map (putAt k u)) := by
 induction r with
 | nil => exact .nil
 | @cons p q ps qs h t ih =>
  rw [UD, UD]
  refine .cons ?_ ih
  obtain ⟨h1, h2, h3⟩ := h
  unfold putAt
  by_cases e : p.1 = k
  ·rw [if_pos e, if_pos (h1.symm.trans e)]; exact ⟨h1, h2, ry⟩
  ·rw [if_neg e, if_neg (fun z => e (h1.trans z))]; exact ⟨h1, h2, h3⟩
theorem KT.put {H : Hp} {kvs : List (List Key × V)} {xs : List (List Key × Addr × Value)} (r : KT H kvs xs) (k : List Key) {b : Addr} {y : V} {u : Value} (hb : H b = some (.tup (k.map kV))) (ry : ZD0 y u) :
  KT H (ZFE kvs k y) (storedH xs k b u) := by
 have e : (kvs.any fun kv => decide (kv.1 = k)) = (atKey xs k).isSome := by
  rw [ZIj, (r.val k).isSome_eq, Option.isSome_map]
 unfold ZFE storedH
 rw [e]
 by_cases q : (atKey xs k).isSome = true
 ·rw [if_pos q, if_pos q]; exact r.repl k ry
 ·rw [if_neg q, if_neg q]; exact Paired.snoc r ⟨rfl, hb, ry⟩
theorem KT.keeps {H H' : Hp} {kvs : List (List Key × V)} {xs : List (List Key × Addr × Value)} (r : KT H kvs xs) (ht : ∀ b ys, H b = some (.tup ys) -> H' b = some (.tup ys)) : KT H' kvs xs :=
 Paired.mapP r fun _ _ z => ⟨z.1, ht _ _ z.2.1, z.2.2⟩
section
variable {P : Program} {w : World} {H : Hp} {h : Heap} {a : Addr}
theorem ZUO {u : HO} (ok : HOk P w H h) (e : Rd H a u) : ZEW P w H h a u := e.ok ok
theorem ZGc {kvs : List (Key × V)} (ok : HOk P w H h) (e : Rd H a (.dK kvs)) : kvs.length <= sizeLine /\ (a == sysModules) = false /\ ∃ vs, KV kvs vs /\ h.DictOf (ZEP P w) a vs :=
 show ZEW P w H h a (.dK kvs) from ZUO ok e
theorem ZJ4 {kvs : List (Key × V)} (ok : HOk P w H h) (e : H a = some (.dK kvs)) : kvs.length <= sizeLine /\ (a == sysModules) = false /\ ∃ vs, KV kvs vs /\ h.DictOf (ZEP P w) a vs := ZGc ok (.inl e)
theorem ZIW {ks : List Key} (ok : HOk P w H h) (e : H a = some (.tup (ks.map kV))) : (tupleKind (ZEP P w)).is h ks a := by
 obtain ⟨_, its, r, o, h1, h2, n, h3⟩ := (show ZEW P w H h a (.tup (ks.map kV)) from ok a _ e)
 exact ⟨o, its.toArray, n, h1, h2, h3, by simpa using ZMH r⟩
theorem ZHz {kvs : List (List Key × V)} (ok : HOk P w H h) (e : Rd H a (.dT kvs)) : kvs.length <= sizeLine /\ (a == sysModules) = false /\
  ∃ xs, KT H kvs xs /\ h.DictOfH (tupleKind (ZEP P w)) a xs := by
 obtain ⟨z, y, xs, r, o, es, ep, h1, h2, h3, h4, h5⟩ := (show ZEW P w H h a (.dT kvs) from ZUO ok e)
 refine ⟨z, y, xs, r, o, es, ep, h1, h2, h3, h4, fun x hx => ?_, h5⟩
 have all : ∀ {l : List (List Key × V)} {m : List (List Key × Addr × Value)}, KT H l m -> ∀ x ∈ m, (tupleKind (ZEP P w)).is h x.1 x.2.1 := by
  intro l m q
  induction q with
  | nil => intro x hx; exact nomatch hx
  | @cons p q ps qs hq t ih =>
   intro x hx
   rcases Ul.mp hx with e | hx
   ·subst e
    exact ZIW ok (by rw [<- hq.1]; exact hq.2.1)
   ·exact ih x hx
 exact all r x hx
theorem ZYl {kvs : List (List Key × V)} (ok : HOk P w H h) (e : H a = some (.dT kvs)) : kvs.length <= sizeLine /\ (a == sysModules) = false /\
 ∃ xs, KT H kvs xs /\ h.DictOfH (tupleKind (ZEP P w)) a xs := ZHz ok (.inl e)
end
def ZFI (H : Hp) (a : Addr) (y : V) (r : Option V) : Prop :=
 (∃ kvs k, Rd H a (.dK kvs) /\ y = kV k /\ r = ZEY kvs k) \/ ∃ kvs k b, Rd H a (.dT kvs) /\ y = .ref b /\ H b = some (.tup (k.map kV)) /\ r = ZEY kvs k
def ZIB (H : Hp) (a : Addr) (y v : V) (H' : Hp) : Prop :=
 (∃ kvs k, H a = some (.dK kvs) /\ y = kV k /\ kvs.length < sizeLine /\ H' = upd H a (.dK (ZFE kvs k v))) \/
 ∃ kvs k b, H a = some (.dT kvs) /\ y = .ref b /\ H b = some (.tup (k.map kV)) /\ kvs.length < sizeLine /\ H' = upd H a (.dT (ZFE kvs k v))
theorem ZFI.k {H : Hp} {a : Addr} {kvs : List (Key × V)} {k : Key} (e : H a = some (.dK kvs)) : ZFI H a (kV k) (ZEY kvs k) := .inl ⟨kvs, k, .inl e, rfl, rfl⟩
theorem ZFI.t {H : Hp} {a b : Addr} {kvs : List (List Key × V)} {k : List Key} (e : H a = some (.dT kvs)) (eb : H b = some (.tup (k.map kV))) : ZFI H a (.ref b) (ZEY kvs k) := .inr ⟨kvs, k, b, .inl e, rfl, eb, rfl⟩
theorem ZIB.k {H : Hp} {a : Addr} {kvs : List (Key × V)} {k : Key} {v : V} (e : H a = some (.dK kvs)) (hl : kvs.length < sizeLine) : ZIB H a (kV k) v (upd H a (.dK (ZFE kvs k v))) := .inl ⟨kvs, k, e, rfl, hl, rfl⟩
theorem ZIB.t {H : Hp} {a b : Addr} {kvs : List (List Key × V)} {k : List Key} {v : V} (e : H a = some (.dT kvs)) (eb : H b = some (.tup (k.map kV))) (hl : kvs.length < sizeLine) :
 ZIB H a (.ref b) v (upd H a (.dT (ZFE kvs k v))) := .inr ⟨kvs, k, b, e, rfl, eb, hl, rfl⟩
section
variable {X : Cx} {pins : List (Addr × Obj)} {U : St} {H : Hp} {s : Shared} {a : Addr} {y v : V} {u r : Value} {o : Option V} {A : Around} {E : Value -> Shared -> Prop}
theorem Inv.big (I : Inv X pins U H s) : sysModules < s.heap.objs.size := by
 have h : mainGlobals < s.heap.objs.size := (I.mod.glob.keeps I.bk).lt
 exact Nat.lt_trans (by decide) h
theorem ZQ6 {Q : Value -> Shared -> Prop} (hu : A.units + 1 < cLine) (I : Inv X pins U H s) (g : ZFI H a y (some v)) (ry : ZD0 y u) (h : ∀ w' s', Inv X pins U H s' -> ZD0 v w' -> Q w' s') :
  wpAny (model X.prog X.w) A (getItem (.ref a) u) Q E s := by
 rcases g with ⟨kvs, k, e, ey, l⟩ | ⟨kvs, k, b, e, ey, eb, l⟩
 ·subst ey
  obtain ⟨z, hd, vs, rel, dd⟩ := ZGc I.hok e
  obtain ⟨w', hw, rw'⟩ := ZFf.some_of (v := v) (o := valueAt vs k) (by rw [l]; exact rel.val k)
  exact wpAny_getItem_of (ZHy ry) dd.mapOf hw (h w' _ (I.tok _) rw')
 ·subst ey
  cases (show u = Value.ref b from ry)
  obtain ⟨z, hd, xs, rel, dd⟩ := ZHz I.hok e
  obtain ⟨w', hw, rw'⟩ := ZFf.some_of (v := v) (o := (atKey xs k).map (·.2)) (by rw [l]; exact rel.val k)
  obtain ⟨p, hp, hp2⟩ := Option.map_eq_some_iff.mp hw
  refine wpAny_getItem_heap (tupleKind_room_in1 hu) (ZIW I.hok eb) dd hp ?_
  rw [hp2]
  exact h w' _ (I.tok _) rw'
theorem ZVW {Q : Value -> Shared -> Prop} (hu : A.units + 1 < cLine) (I : Inv X pins U H s) (g : ZFI H a y o) (ry : ZD0 y u) (h : ∀ s', Inv X pins U H s' -> Q (.bool (!o.isSome)) s') :
  wpAny (model X.prog X.w) A (compareOp .NotIn u (.ref a)) Q E s := by
 rcases g with ⟨kvs, k, e, ey, l⟩ | ⟨kvs, k, b, e, ey, eb, l⟩
 ·subst ey
  obtain ⟨z, hd, vs, rel, dd⟩ := ZGc I.hok e
  refine wpAny_notIn_of (ZHy ry) hd dd.mapOf ?_
  rw [<- (rel.val k).isSome_eq, <- l]
  exact h _ (I.tok _)
 ·subst ey
  cases (show u = Value.ref b from ry)
  obtain ⟨z, hd, xs, rel, dd⟩ := ZHz I.hok e
  refine wpAny_notIn_heap (tupleKind_room_in1 hu) (ZIW I.hok eb) hd dd ?_
  have q := (rel.val k).isSome_eq
  rw [Option.isSome_map] at q
  rw [<- q, <- l]
  exact h _ (I.tok _)
theorem ZIX {h' : Heap} {t' : Nat} {ob : HO} (I : Inv X pins U H s) (mu : Mut (H a)) (hs : Heap.SameBut a s.heap h') (he : ∃ q, h'.get? a = some q) (new : ZEW X.prog X.w (upd H a ob) h' a ob) :
  Inv X pins U (upd H a ob) { s with heap := h', toks := t' } :=
 I.write (x := a) (e := a) mu (.inl rfl) (fun b q hb z => (hs.2 b hb).trans z) he new
theorem ZJQ {P : Program} {w : World} {H' : Hp} {h' : Heap} {kvs : List (Key × V)} {vs : List (Key × Value)} (z : kvs.length <= sizeLine) (hd : (a == sysModules) = false) (rel : KV kvs vs) (dd : h'.DictOf (ZEP P w) a vs) :
 ZEW P w H' h' a (.dK kvs) := ⟨z, hd, vs, rel, dd⟩
theorem ZQ7 {H' : Hp} {Q : Unit -> Shared -> Prop} (hu : A.units + 1 < cLine) (I : Inv X pins U H s) (g : ZIB H a y v H') (ry : ZD0 y u) (rv : ZD0 v r) (h : ∀ s', Inv X pins U H' s' -> Q () s') :
  wpAny (model X.prog X.w) A (setItem (.ref a) u r) Q E s := by
 rcases g with ⟨kvs, k, e, ey, l, eH⟩ | ⟨kvs, k, b, e, ey, eb, l, eH⟩
 ·subst ey eH
  obtain ⟨z, hd, vs, rel, dd⟩ := ZJ4 I.hok e
  have hz : vs.length <= sizeLine := by rw [<- rel.length]; exact z
  have hl : (ZFE kvs k v).length <= sizeLine := by have := ZGG kvs k v; omega
  refine wpAny_setItem_pairs (hsz := hz) (ZHy ry) dd fun h' dd' hs => h _ ?_
  have he : ∃ q, h'.get? a = some q := let ⟨q, _, _, hq, _⟩ := dd'; ⟨q, hq⟩
  exact ZIX I (by rw [e]; exact True.intro) hs he (ZJQ hl hd (rel.put k rv) dd')
 ·subst ey eH
  cases (show u = Value.ref b from ry)
  obtain ⟨z, hd, xs, rel, dd⟩ := ZYl I.hok e
  have hz : xs.length <= sizeLine := by rw [<- Paired.length rel]; exact z
  have hl : (ZFE kvs k v).length <= sizeLine := by have := ZGG kvs k v; omega
  refine wpAny_setItem_heap (hsz := hz) (tupleKind_room_in1 hu) (ZIW I.hok eb) dd fun h' dd' hs => h _ ?_
  obtain ⟨q, es, ep, hq, h2, h3, h4, _, h5⟩ := dd'
  refine ZIX I (by rw [e]; exact True.intro) hs ⟨q, hq⟩ ⟨hl, hd, _, (rel.put k eb rv).keeps fun c ys ec => ?_, q, es, ep, hq, h2, h3, h4, h5⟩
  rw [ZD4 (ZYU ec e (fun z => nomatch z))]
  exact ec
end
section
variable {X : Cx} {pins : List (Addr × Obj)} {U : St} {H : Hp} {s : Shared} {a : Addr} {kvs : List (Key × V)} {k : Key} {u : Value} {A : Around} {E : Value -> Shared -> Prop}
theorem ZYm {v : V} {more : List Value} {Q : Value -> Shared -> Prop} (I : Inv X pins U H s) (e : H a = some (.dK kvs)) (ry : ZD0 (kV k) u) (l : ZEY kvs k = some v) (hm : more = [] \/ ∃ x, more = [x])
  (h : ∀ w' s', Inv X pins U (upd H a (.dK (ZHx kvs k))) s' -> ZD0 v w' -> Q w' s') : wpAny (model X.prog X.w) A (call (.builtin "dict.pop") (.ref a :: u :: more)) Q E s := by
 obtain ⟨z, hd, vs, rel, dd⟩ := ZJ4 I.hok e
 obtain ⟨w', hw, rw'⟩ := ZFf.some_of (v := v) (o := valueAt vs k) (by rw [<- l]; exact rel.val k)
 have hp : (keyPart u).isSome = true := by
  cases k with
  | inl i => obtain ⟨t, q⟩ := (show ∃ t, u = Value.int i t from ry); subst q; rfl
  | inr x => obtain ⟨t, q⟩ := (show ∃ t, u = Value.str x t from ry); subst q; rfl
 have ha : argsOk "dict.pop" ⟨.ref a :: u :: more, []⟩ := by
  rcases hm with q | ⟨x, q⟩
  ·subst q; exact PySem.F.args_dict_pop_2 _ _
  ·subst q; exact PySem.F.args_dict_pop_3 _ _ _
 refine call_meetsIn PySem.F.slot_dict_pop dd.typeIs PySem.F.entry_dict_pop ha (meets_dict_pop_there (ZEP X.prog X.w) a (ZHy ry) more hm hp)
  ⟨vs, w', dd, by rw [<- rel.length]; exact z, hw, fun h' dd' hs => h w' _ ?_ rw'⟩
 have he : ∃ q, h'.get? a = some q := let ⟨q, _, _, hq, _⟩ := dd'; ⟨q, hq⟩
 exact ZIX I (by rw [e]; exact True.intro) hs he (ZJQ (Uz (ZTF kvs k) z) hd (rel.drop k) dd')
end
def ZTG (i : Expr) : Prop := ∀ ov iv, subscripted i false ov iv = operate [ov, iv] (getItem ov iv)
theorem ZVX {prog : Program} {w : World} {A : Around} {E : Value -> Shared -> Prop} {s : Shared} {env : Env} {value slice : Expr} {pos : Pos} {T id : String} {Q : Value -> Shared -> Prop}
  (hl : typeLookup (.type T) "__getitem__" = pure (some (.builtin id))) (hs : ZTG slice)
  (h : wpAny (model prog w) A (eval value env) (fun o s₁ => wpAny (model prog w) A (eval slice env) (fun i s₂ => s₂.TypeIs o T /\ wpAny (model prog w) A (getItem o i) Q E s₂) E s₁) E s) :
  wpAny (model prog w) A (eval (.Subscript value slice pos) env) Q E s := by
 refine Subscript_ (UG h (fun o s₁ h₁ => UG h₁ (fun i s₂ h₂ => ?_) fun _ _ x => x) fun _ _ x => x)
 obtain ⟨hT, h₂⟩ := h₂
 unfold subscriptTail
 refine Ua ?_
 rw [getitemInPython_of_ne hT.not_modules]
 refine Ua (wpAny_specialOf hT hl ?_)
 have fin : wpAny (model prog w) A (subscripted slice false o i) (fun r s₃ => wpAny (model prog w) A (letTemporaryGo value o r >>= fun _ => pure r) Q E s₃) E s₂ := by
  rw [hs o i]
  exact wpAny_operating (UG h₂ (fun r s₃ h₃ => Ua (wpAny_letTemporaryGo (Uh h₃))) fun _ _ x => x)
 first
  | exact Uh (Ua fin)
  | exact Ua (Uh (Ua fin))
  | exact Ua fin
theorem ZOZ {X : Cx} {pins : List (Addr × Obj)} {U : St} {H : Hp} {s : Shared} {a : Addr} {y : V} {o : Option V} (I : Inv X pins U H s) (g : ZFI H a y o) : s.TypeIs (.ref a) "dict" := by
 rcases g with ⟨kvs, k, e, _, _⟩ | ⟨kvs, k, b, e, _, _, _⟩
 ·obtain ⟨_, _, vs, _, dd⟩ := ZGc I.hok e
  exact dd.typeIs
 ·obtain ⟨_, _, xs, _, dd⟩ := ZHz I.hok e
  exact dd.typeIs
theorem ZOa {X : Cx} {pins : List (Addr × Obj)} {U : St} {H : Hp} {s : Shared} {a : Addr} {y : V} {o : Option V} (I : Inv X pins U H s) (g : ZFI H a y o) :
  ∀ b, Value.ref a = .ref b -> ∃ ob, s.heap.get? b = some ob /\ ob.dict = none := fun b q => by
 cases q
 rcases g with ⟨kvs, k, e, _, _⟩ | ⟨kvs, k, b, e, _, _, _⟩
 ·obtain ⟨_, _, vs, _, ob, _, _, h1, h2, _⟩ := ZGc I.hok e
  exact ⟨ob, h1, h2.2.1⟩
 ·obtain ⟨_, _, xs, _, ob, _, _, h1, h2, _⟩ := ZHz I.hok e
  exact ⟨ob, h1, h2.2.1⟩
def ZPo (td ty : TE) : TE := fun U H Q => td U H fun x H1 => ty U H1 fun y H2 => ∃ a v, x = .ref a /\ ZFI H2 a y (some v) /\ Q v H2
def ZPp (td ty tv : TE) : TS := fun D U H => tv U H fun v H1 => td U H1 fun x H2 => ty U H2 fun y H3 => ∃ a H4, x = .ref a /\ ZIB H3 a y v H4 /\ D.nx U H4
section
variable {X : Cx} {o i e value : Expr} {pos pos' tpos : Pos} {td ty tv : TE}
theorem ZVY (hu : X.A.units + 1 < cLine) (ho : PE X o td) (hi : PE X i ty) (hs : ZTG i) : PE X (.Subscript o i pos) (ZPo td ty) := by
 intro pins s U H Q I h
 refine ZVX PySem.F.slot_dict_getitem.lookup hs (thn (ho pins s U H _ I h) fun u s1 ⟨x, H1, I1, rx, q1⟩ => thn (hi pins s1 U H1 _ I1 q1) fun iv s2 ⟨y, H2, I2, ry, a, v, ex, g, q2⟩ => ?_)
 subst ex
 obtain rfl : u = Value.ref a := rx
 exact ⟨ZOZ I2 g, ZQ6 hu I2 g ry fun w' s3 I3 rw' => ⟨v, H2, I3, rw', q2⟩⟩
theorem ZVZ (hu : X.A.units + 1 < cLine) (ho : PE X o td) (hi : PE X i ty) (hv : PE X value tv) (hs : swapsWith value (some (.Subscript o i pos')) pos.line X.env = pure false) :
  PS X (.Assign [.Subscript o i pos'] value pos) (ZPp td ty tv) := by
 intro pins s U H D I h
 refine wpAny_Assign_Subscript (thn (hv pins s U H _ I h) fun r s1 ⟨v, H1, I1, rv, q1⟩ => thn (ho pins s1 U H1 _ I1 q1) fun u s2 ⟨x, H2, I2, rx, q2⟩ => thn (hi pins s2 U H2 _ I2 q2) fun iv s3 ⟨y, H3, I3, ry, a, H4, ex, g, q3⟩ => ?_) hs
 subst ex
 obtain rfl : u = Value.ref a := rx
 exact ZQ7 hu I3 g ry rv fun s4 I4 => ⟨U, H4, I4, q3⟩
end
theorem ZTH {P : Program} {w : World} {H : Hp} (h : Heap) (hb : sysModules < h.objs.size) : ZEW P w H (h.push { cls := .type "dict", data := .dict #[] }) h.objs.size (.dK []) :=
 ⟨UO _, beq_eq_false_iff_ne.mpr (Ne.symm (Uq hb)), [], .nil, Heap.DictOf.new h⟩
theorem ZTI {P : Program} {w : World} {H : Hp} (h : Heap) (hb : sysModules < h.objs.size) : ZEW P w H (h.push { cls := .type "dict", data := .dict #[] }) h.objs.size (.dT []) :=
 ⟨UO _, beq_eq_false_iff_ne.mpr (Ne.symm (Uq hb)), [], .nil, _, #[], 0, Ug _ rfl, ⟨rfl, rfl, rfl⟩, rfl, rfl, List.nodup_nil⟩
def ZNT : TE := fun _ H Q => ∀ p, H p = none -> Q (.ref p) (upd H p (.dK []))
def ZNU : TE := fun _ H Q => ∀ p, H p = none -> Q (.ref p) (upd H p (.dT []))
section
variable {X : Cx} {pos : Pos}
theorem ZTJ : PE X (.Dict [] [] pos) ZNT := fun pins s U H Q I h =>
 wpAny_Dict_empty ⟨.ref s.heap.objs.size, _, I.laid (a := s.heap.objs.size) (o := .dK []) (t' := s.toks) (fun _ _ q => Ub _ q) (Ud _) (ZTH s.heap I.big), rfl, h _ (I.hok.fresh (Ud _))⟩
theorem ZTK : PE X (.Dict [] [] pos) ZNU := fun pins s U H Q I h =>
 wpAny_Dict_empty ⟨.ref s.heap.objs.size, _, I.laid (a := s.heap.objs.size) (o := .dT []) (t' := s.toks) (fun _ _ q => Ub _ q) (Ud _) (ZTI s.heap I.big), rfl, h _ (I.hok.fresh (Ud _))⟩
end
structure M1 (X : Cx) (o : Expr) (m : Str) (apos : Pos) (e : Expr) (cpos : Pos) : Prop where
 base : attributeBase o m X.env (eval o X.env) = eval o X.env
 few : ((backTo cpos (starEach [e] X.env)).all (fun x => !x.1) && (backToKw cpos (keywordEach [] X.env)).all (fun x => x.1.isSome)
  && decide (([e] : List Expr).length + ([] : List Keyword).length + (if ([] : List Keyword).isEmpty then 0 else 1) < 30)) = true
 line : (apos.endLine == cpos.line) = true
 trees : backTo cpos (starEach [e] X.env) = [(false, eval e X.env)]
structure M2 (X : Cx) (o : Expr) (m : Str) (apos : Pos) (e f : Expr) (cpos : Pos) : Prop where
 base : attributeBase o m X.env (eval o X.env) = eval o X.env
 few : ((backTo cpos (starEach [e, f] X.env)).all (fun x => !x.1) && (backToKw cpos (keywordEach [] X.env)).all (fun x => x.1.isSome)
  && decide (([e, f] : List Expr).length + ([] : List Keyword).length + (if ([] : List Keyword).isEmpty then 0 else 1) < 30)) = true
 line : (apos.endLine == cpos.line) = true
 trees : backTo cpos (starEach [e, f] X.env) = [(false, eval e X.env), (false, eval f X.env)]
def IsD (H : Hp) (a : Addr) : Prop := (∃ kvs, Rd H a (.dK kvs)) \/ ∃ kvs, Rd H a (.dT kvs)
theorem ZLG {X : Cx} {pins : List (Addr × Obj)} {U : St} {H : Hp} {s : Shared} {a : Addr} (I : Inv X pins U H s) (d : IsD H a) :
  s.TypeIs (.ref a) "dict" /\ (∀ b, Value.ref a = .ref b -> ∃ ob, s.heap.get? b = some ob /\ ob.dict = none) /\ (a == sysModules) = false := by
 rcases d with ⟨kvs, e⟩ | ⟨kvs, e⟩
 ·obtain ⟨_, hd, vs, _, dd⟩ := ZGc I.hok e
  refine ⟨dd.typeIs, fun b q => ?_, hd⟩
  cases q
  obtain ⟨ob, _, _, h1, h2, _⟩ := dd
  exact ⟨ob, h1, h2.2.1⟩
 ·obtain ⟨_, hd, xs, _, dd⟩ := ZHz I.hok e
  refine ⟨dd.typeIs, fun b q => ?_, hd⟩
  cases q
  obtain ⟨ob, _, _, h1, h2, _⟩ := dd
  exact ⟨ob, h1, h2.2.1⟩
section
variable {X : Cx} {pins : List (Addr × Obj)} {U : St} {H : Hp} {s : Shared} {a : Addr} {y d : V} {u r : Value} {o : Option V} {A : Around} {E : Value -> Shared -> Prop}
theorem ZXk {Q : Value -> Shared -> Prop} (hu : A.units + 1 < cLine) (I : Inv X pins U H s) (g : ZFI H a y o) (ry : ZD0 y u) (h : ∀ w' s', Inv X pins U H s' -> ZD0 (o.getD .non) w' -> Q w' s') :
  wpAny (model X.prog X.w) A (call (.builtin "dict.get") [.ref a, u]) Q E s := by
 rcases g with ⟨kvs, k, e, ey, l⟩ | ⟨kvs, k, b, e, ey, eb, l⟩
 ·subst ey
  obtain ⟨z, hd, vs, rel, dd⟩ := ZGc I.hok e
  refine call_meetsIn PySem.F.slot_dict_get dd.typeIs PySem.F.entry_dict_get (PySem.F.args_dict_get_2 _ _) (meets_dict_get (ZEP X.prog X.w) a (ZHy ry) hd) ⟨_, dd.mapOf, h _ _ (I.tok _) ?_⟩
  rw [l]
  exact (rel.val k).getD rfl
 ·subst ey
  cases (show u = Value.ref b from ry)
  obtain ⟨z, hd, xs, rel, dd⟩ := ZHz I.hok e
  refine call_meetsIn PySem.F.slot_dict_get dd.typeIs PySem.F.entry_dict_get (PySem.F.args_dict_get_2 _ _) (meetsH_dict_get (tupleKind (ZEP X.prog X.w)) a b hd) ⟨tupleKind_room_in1 hu, k, xs, ZIW I.hok eb, dd, h _ _ (I.tok _) ?_⟩
  rw [l]
  exact (rel.val k).getD rfl
theorem ZXl {Q : Value -> Shared -> Prop} (hu : A.units + 1 < cLine) (I : Inv X pins U H s) (g : ZFI H a y o) (ry : ZD0 y u) (rd : ZD0 d r) (h : ∀ w' s', Inv X pins U H s' -> ZD0 (o.getD d) w' -> Q w' s') :
  wpAny (model X.prog X.w) A (call (.builtin "dict.get") [.ref a, u, r]) Q E s := by
 rcases g with ⟨kvs, k, e, ey, l⟩ | ⟨kvs, k, b, e, ey, eb, l⟩
 ·subst ey
  obtain ⟨z, hd, vs, rel, dd⟩ := ZGc I.hok e
  refine call_meetsIn PySem.F.slot_dict_get dd.typeIs PySem.F.entry_dict_get (PySem.F.args_dict_get_3 _ _ _) (meets_dict_get_default (ZEP X.prog X.w) a (ZHy ry) hd r) ⟨_, dd.mapOf, h _ _ (I.tok _) ?_⟩
  rw [l]
  exact (rel.val k).getD rd
 ·subst ey
  cases (show u = Value.ref b from ry)
  obtain ⟨z, hd, xs, rel, dd⟩ := ZHz I.hok e
  refine call_meetsIn PySem.F.slot_dict_get dd.typeIs PySem.F.entry_dict_get (PySem.F.args_dict_get_3 _ _ _) (meetsH_dict_get_default (tupleKind (ZEP X.prog X.w)) a b hd r) ⟨tupleKind_room_in1 hu, k, xs, ZIW I.hok eb, dd, h _ _ (I.tok _) ?_⟩
  rw [l]
  exact (rel.val k).getD rd
end
def ZNV (td ty : TE) : TE := fun U H Q => td U H fun x H1 => ∃ a, x = .ref a /\ IsD H1 a /\ ty U H1 fun y H2 => ∃ o, ZFI H2 a y o /\ Q (o.getD .non) H2
def ZNW (td ty tx : TE) : TE := fun U H Q => td U H fun x H1 => ∃ a, x = .ref a /\ IsD H1 a /\ ty U H1 fun y H2 => tx U H2 fun z H3 => ∃ o, ZFI H3 a y o /\ Q (o.getD z) H3
def ZNX (td ty : TE) : TE := fun U H Q => td U H fun x H1 => ∃ a, x = .ref a /\ IsD H1 a /\ ty U H1 fun y H2 => ∃ kvs k v, H2 a = some (.dK kvs) /\ y = kV k /\ ZEY kvs k = some v /\ Q v (upd H2 a (.dK (ZHx kvs k)))
section
variable {X : Cx} {o e f : Expr} {apos cpos : Pos} {td ty tx : TE}
theorem ZTL (hu : X.A.units + 1 < cLine) (ho : PE X o td) (he : PE X e ty) (m : M1 X o "get" apos e cpos) : PE X (.Call (.Attribute o "get" apos) [e] [] cpos) (ZNV td ty) := by
 intro pins s U H Q I h
 refine wpAny_Call_method m.base m.few m.line PySem.F.plainAttrs_dict PySem.F.slot_dict_get PySem.F.type_dict_get (thn (ho pins s U H _ I h) fun u s1 ⟨x, H1, I1, rx, a, ex, d, q1⟩ => ?_)
 subst ex
 obtain rfl : u = Value.ref a := rx
 obtain ⟨t1, t2, _⟩ := ZLG I1 d
 refine ⟨t1, t2, ?_⟩
 rw [m.trees]
 refine Calls.callWith_builtin rfl (Calls.evalArgs_plain (Calls.spliced_cons (thn (he pins s1 U H1 _ I1 q1) fun iv s2 ⟨y, H2, I2, ry, ov, g, q2⟩ => Calls.spliced_nil ?_)))
 exact ZXk hu I2 g ry fun w' s3 I3 rw' => ⟨_, H2, I3, rw', q2⟩
theorem ZTM (hu : X.A.units + 1 < cLine) (ho : PE X o td) (he : PE X e ty) (hf : PE X f tx) (m : M2 X o "get" apos e f cpos) : PE X (.Call (.Attribute o "get" apos) [e, f] [] cpos) (ZNW td ty tx) := by
 intro pins s U H Q I h
 refine wpAny_Call_method m.base m.few m.line PySem.F.plainAttrs_dict PySem.F.slot_dict_get PySem.F.type_dict_get (thn (ho pins s U H _ I h) fun u s1 ⟨x, H1, I1, rx, a, ex, d, q1⟩ => ?_)
 subst ex
 obtain rfl : u = Value.ref a := rx
 obtain ⟨t1, t2, _⟩ := ZLG I1 d
 refine ⟨t1, t2, ?_⟩
 rw [m.trees]
 refine Calls.callWith_builtin rfl (Calls.evalArgs_plain (Calls.spliced_cons (thn (he pins s1 U H1 _ I1 q1) fun iv s2 ⟨y, H2, I2, ry, q2⟩ =>
  Calls.spliced_cons (thn (hf pins s2 U H2 _ I2 q2) fun fv s3 ⟨z, H3, I3, rz, ov, g, q3⟩ => Calls.spliced_nil ?_))))
 exact ZXl hu I3 g ry rz fun w' s4 I4 rw' => ⟨_, H3, I4, rw', q3⟩
theorem ZTN (ho : PE X o td) (he : PE X e ty) (m : M1 X o "pop" apos e cpos) : PE X (.Call (.Attribute o "pop" apos) [e] [] cpos) (ZNX td ty) := by
 intro pins s U H Q I h
 refine wpAny_Call_method m.base m.few m.line PySem.F.plainAttrs_dict PySem.F.slot_dict_pop PySem.F.type_dict_pop (thn (ho pins s U H _ I h) fun u s1 ⟨x, H1, I1, rx, a, ex, d, q1⟩ => ?_)
 subst ex
 obtain rfl : u = Value.ref a := rx
 obtain ⟨t1, t2, _⟩ := ZLG I1 d
 refine ⟨t1, t2, ?_⟩
 rw [m.trees]
 refine Calls.callWith_builtin rfl (Calls.evalArgs_plain (Calls.spliced_cons (thn (he pins s1 U H1 _ I1 q1) fun iv s2 ⟨y, H2, I2, ry, kvs, k, v, ea, ey, l, q2⟩ => Calls.spliced_nil ?_)))
 subst ey
 exact ZYm I2 ea ry l (.inl rfl) fun w' s3 I3 rw' => ⟨v, _, I3, rw', q2⟩
end
section
variable {X : Cx} {pins : List (Addr × Obj)} {U : St} {H : Hp} {s : Shared} {a : Addr} {kvs : List (Key × V)} {A : Around} {E : Value -> Shared -> Prop}
theorem ZTO {Q : Value -> Shared -> Prop} (I : Inv X pins U H s) (e : Rd H a (.dK kvs)) (h : ∀ p s', H p = none -> Inv X pins U (upd H p (.dK kvs)) s' -> Q (.ref p) s') : wpAny (model X.prog X.w) A (call (.type "dict") [.ref a]) Q E s := by
 obtain ⟨z, hd, vs, rel, dd⟩ := ZGc I.hok e
 refine kt_call_dict hd dd (by rw [<- rel.length]; exact z) fun h' dd' hs => ?_
 refine h _ _ (I.hok.fresh (Ud _)) (I.laid (a := s.heap.objs.size) (o := .dK kvs) (t' := s.toks) (fun b q hq => ?_) (Ud _) (ZJQ z (beq_eq_false_iff_ne.mpr (Ne.symm (Uq I.big))) rel dd'))
 exact (hs.2 b (Uq (Uk hq))).trans (Ub _ hq)
end
def foldS {κ : Type} [DecidableEq κ] (key : Nat -> κ) (val : Nat -> Value) : Nat -> Nat -> List (κ × Value) -> List (κ × Value)
 | _, 0, kvs => kvs
 | i, k + 1, kvs => foldS key val (i + 1) k (stored kvs (key i) (val i))
def ZY4 (H : Hp) (vs : List V) (prs : List (Key × V)) : Prop := Paired (fun v (p : Key × V) => ∃ a, v = V.ref a /\ H a = some (.tup [kV p.1, p.2])) vs prs
section
variable {prog : Program} {w : World} {A : Around} {E : Value -> Shared -> Prop} {s : Shared} {κ : Type} [DecidableEq κ] {knd : KeyKind prog w κ}
theorem ZJR {d : Addr} {kvs : List (κ × Value)} {ep : Nat} {Q : List Value -> Shared -> Prop} (hh : A.handled = none) (hd : (d == sysModules) = false) (hm : s.heap.DictAt knd d kvs ep) (hn : kvs.length <= sizeLine)
  (hQ : ∀ s' acc, (∀ b o, s.heap.get? b = some o -> s'.heap.get? b = some o) -> s'.gens = s.gens -> s'.drawn = s.drawn -> s'.os = s.os -> s.heap.objs.size < s'.heap.objs.size -> ItemsOf (fun i v => ∃ k x, kvs[i]? = some (k, x) /\ knd.is k v = true) acc kvs.length -> Q acc.toList s') :
  wpAny (model prog w) A (collect (.ref d)) Q E s := by
 have hdl : d < s.heap.objs.size := let ⟨_, _, ho, _⟩ := hm; Uk ho
 unfold collect
 refine Ua (wpAny_runValue (codeAny_builtin F.entry_proto_collect ?_))
 rw [Around.under_plainId F.plain_proto_collect _]
 show wpAny _ A.in1 (newList [] >>= fun l => again (.builtin "list.__iadd__" ⟨[l, .ref d], []⟩)) _ _ s
 refine Ua (wpAny_newObj_type ?_)
 refine Uh ⟨plainId_quiet F.plain_list_iadd _, codeAny_builtin F.entry_list_iadd ?_⟩
 rw [Around.under_plainId F.plain_list_iadd _]
 generalize hH : s.heap.push { cls := .type "list", data := .seq ([] : List Value).toArray } = H
 have hHs : H.objs.size = s.heap.objs.size + 1 := by rw [<- hH, UW]
 have hm1 : H.DictAt knd d kvs ep := hm.at' fun o e => hH ▸ Ub _ e
 have hT1 : (⟨H, s.gens, s.drawn, s.toks, s.os⟩ : Shared).TypeIs (.ref d) "dict" := hm1.dictOf.typeIs
 show wpAny _ A.in1 (Builtin.List.listExtendWith (.ref s.heap.objs.size) (.ref d) (.ref s.heap.objs.size)) _ _ (⟨H, s.gens, s.drawn, s.toks, s.os⟩ : Shared)
 unfold Builtin.List.listExtendWith
 refine Ua (wpAny_typeOf hT1 ?_)
 have h1 : Builtin.List.listSameRef (.ref s.heap.objs.size) (.ref d) = false := by
  simp only [Builtin.List.listSameRef]
  exact beq_eq_false_iff_ne.mpr (Nat.ne_of_gt hdl)
 have h2 : (Value.type "dict" == Value.type "list") = false := by decide
 have h3 : (Value.type "dict" == Value.type "tuple") = false := by decide
 simp only [h1, h2, h3, Bool.or_false, Vd, if_false]
 refine Ua (wpAny_pyIter_dict hd hm1 ?_)
 generalize hO : ({ cls := .type "dict_keyiterator", data := .fields #[.ref d, .int 0 0, .int kvs.length 0, .int ep 0] } : Obj) = O
 have hm2 : (H.push O).DictAt knd d kvs ep := hm1.at' fun o e => Ub _ e
 have hT2 : (⟨H.push O, s.gens, s.drawn, s.toks, s.os⟩ : Shared).TypeIs (.ref d) "dict" := hm2.dictOf.typeIs
 refine Ua (UT ?_)
 unfold Builtin.List.listLengthHint
 refine Ua (wpAny_specialOf hT2 PySem.F.slot_dict_len.lookup ?_)
 wp_delta
 refine Ua (wpAny_isInstance (b := true) hT2 (by rw [isSubtype_type]; kernel_rfl) ?_)
 show wpAny _ A.in1 (typeOf (Value.ref d) >>= _) _ _ _
 refine Ua (wpAny_typeOf hT2 ?_)
 refine Uh ?_
 show wpAny _ A.in1 (rule "list.extend.makes-room" >>= fun _ => Builtin.List.listTouch (.ref s.heap.objs.size) >>= fun _ =>
  again (.builtin "list.extend.loop" ⟨[.ref s.heap.objs.size, .ref H.objs.size, .ref s.heap.objs.size], []⟩)) _ _ _
 refine Ua (wpAny_rule ?_)
 have hS₁ : (H.push O).get? s.heap.objs.size = some { cls := .type "list", data := .seq ([] : List Value).toArray } := Ub _ (hH ▸ Ug _ rfl)
 refine Ua ?_
 show wpAny _ A.in1 (updateSeq s.heap.objs.size (·.push .none) >>= fun _ => updateSeq s.heap.objs.size (·.pop)) _ _ _
 refine Ua (wpAny_updateSeq hS₁ rfl ?_)
 have hS₂ := Heap.get?_update_self (Obj.mapSeq (·.push Value.none)) hS₁ rfl
 refine wpAny_updateSeq hS₂ rfl ?_
 have hS₃ := Heap.get?_update_self (Obj.mapSeq (·.pop)) hS₂ rfl
 have oth : ∀ b o, b ≠ s.heap.objs.size -> (H.push O).get? b = some o -> (((H.push O).update s.heap.objs.size (Obj.mapSeq (·.push Value.none))).update s.heap.objs.size (Obj.mapSeq (·.pop))).get? b = some o :=
  fun b o hb e => (UE _ _ (Ne.symm hb)).trans ((UE _ _ (Ne.symm hb)).trans e)
 have hdH : d < H.objs.size := by rw [hHs]; exact Vf hdl
 have hHne : H.objs.size ≠ s.heap.objs.size := by rw [hHs]; exact Nat.succ_ne_self _
 have hSf : s.heap.objs.size ∉ [H.objs.size, d] := fun z => by
  simp only [Ul, UC, or_false] at z
  rcases z with z | z
  ·exact hHne z.symm
  ·exact Nat.ne_of_gt hdl z
 have W := (Walks.dictKeys (knd := knd) (A := A.in1) hh H.objs.size d (Uq hdH) kvs ep).toS
 refine Uh ⟨plainId_quiet F.plain_extend_loop _, codeAny_extend_loopS (A := A) W hn _ hSf _ kvs.length 0 _ _ _ rfl (UO _) ⟨?_, ?_⟩ hS₃ (ItemsOf.nil _) fun s' acc' c' hmv hS' hacc => ?_⟩
 ·exact ⟨_, oth _ _ hHne (Ug _ (by rw [<- hO]; rfl)), by rw [<- hO], by rw [<- hO]; rfl⟩
 ·exact hm2.at' fun o e => oth _ _ (Uq hdl) e
 ·show wpAny _ A (load s.heap.objs.size >>= _) _ _ s'
  refine Ua (wpAny_load hS' ?_)
  refine Uh (hQ s' acc' (fun b ob e => hmv.heap b ob (fun hb => ?_) (oth _ _ (Uq (Uk e)) (Ub _ (hH ▸ Ub _ e)))) hmv.gens hmv.drawn hmv.os (Uk hS') hacc)
  have hlt := Uk e
  simp only [Ul, UC, or_false] at hb
  rcases hb with h | h
  ·exact Uq hlt h
  ·rw [h, hHs] at hlt; exact absurd hlt (Nat.not_lt.mpr (Nat.le_succ _))
theorem ZOb {d : Addr} {kvs : List (κ × Value)} {ep : Nat} {Q : Value -> Shared -> Prop} (hh : A.handled = none) (hd : (d == sysModules) = false) (hm : s.heap.DictAt knd d kvs ep) (h64 : kvs.length < 64)
  (hI : ∀ acc : Array Value, ItemsOf (fun i v => ∃ k x, kvs[i]? = some (k, x) /\ knd.is k v = true) acc kvs.length -> ∃ ns, IntsAre acc.toList ns /\ ∀ (s' : Shared) (l : Addr) (out : Array Value) (ns' : List Int) (e : Nat), s.heap.objs.size <= l -> (∀ b o, s.heap.get? b = some o -> s'.heap.get? b = some o) -> s'.gens = s.gens -> s'.drawn = s.drawn -> s'.os = s.os ->
   s'.heap.get? l = some (seqObj "list" out e) -> out.size = kvs.length -> IntsAre out.toList ns' -> ns'.Perm ns -> ns'.Pairwise (· <= ·) -> Q (.ref l) s') :
  wpAny (model prog w) A (call (.builtin "sorted") [.ref d]) Q E s := by
 refine Calls.call_function_entry kind_sorted plain_sorted entry_sorted (args_sorted1 _) ?_
 unfold Builtin.«sorted»
 refine Ua (m := checkCount "sorted" 1 1 _) (Uh ?_)
 refine Ua (ZJR (knd := knd) hh hd hm (by rw [sizeLine_eq]; omega) fun s1 acc hk e1 e2 e3 hlt hacc => ?_)
 obtain ⟨ns, hns, hQ⟩ := hI acc hacc
 refine Ua (wpAny_newList (hsz := by rw [UF, hacc.1, sizeLine_eq]; omega) ?_)
 have hoL : (s1.heap.push (seqObj "list" acc.toList.toArray 0)).get? s1.heap.objs.size = some (seqObj "list" acc.toList.toArray 0) := Ug _ rfl
 show wpAny _ _ _ _ _ { s1 with heap := s1.heap.push (seqObj "list" acc.toList.toArray 0) }
 refine Ua (UT (wpAny_call_entry slot_list_sort ⟨_, hoL, rfl⟩ entry_list_sort (list_sort_tree hoL hns (by rw [UF, hacc.1]; exact h64) fun out ns' a1 a2 a3 => ⟨_, rfl, ?_⟩) (args_list_sort _)))
 refine Uh ⟨_, rfl, ?_⟩
 obtain ⟨e, he⟩ := sortedHeap_at (out := out) hoL
 have hle : s.heap.objs.size <= s1.heap.objs.size := Nat.le_of_lt hlt
 refine hQ _ _ out ns' e hle (fun b o eb => ?_) e1 e2 e3 he ?_ a1 a2 a3
 ·have hb := Uk (hk _ _ eb)
  exact (sortedHeap_old (Uq hb) (by rw [UW]; exact Vf hb)).trans (Ub _ (hk _ _ eb))
 ·have l1 := IntsAre.length a1
  have l2 := IntsAre.length hns
  have l3 := a2.length_eq
  have l4 := hacc.1
  simp only [UF] at l1 l2
  omega
end
theorem ZMI : ∀ (vs : List (Key × Value)) (ns : List Int) (l : List Value), vs.map (·.1) = ns.map Sum.inl -> l.length = vs.length -> (∀ (j : Nat) (v : Value), l[j]? = some v -> ∃ k x, vs[j]? = some (k, x) /\ ZHv k v = true) -> IntsAre l ns
 | [], [], [], _, _, _ => .nil
 | [], [], _ :: _, _, h, _ => by simp at h
 | [], _ :: _, _, h, _, _ => by simp at h
 | _ :: _, [], _, h, _, _ => by simp at h
 | _ :: _, _ :: _, [], _, h, _ => by simp at h
 | (k, x) :: vs, n :: ns, v :: l, h1, h2, h3 => by
  simp only [UD, List.cons.injEq] at h1
  obtain ⟨rfl, h1⟩ := h1
  obtain ⟨k', x', e, hk⟩ := h3 0 v rfl
  simp only [List.getElem?_cons_zero, Option.some.injEq, Prod.mk.injEq] at e
  obtain ⟨rfl, rfl⟩ := e
  rcases ZEe hk with ⟨i, t, e1, e2⟩ | ⟨y, t, e1, e2⟩
  ·cases e1; cases e2
   refine .cons _ _ (ZMI vs ns l h1 (by simpa using h2) fun j v e => ?_)
   have := h3 (j + 1) v (by simpa using e)
   simpa using this
  ·cases e1
theorem KV.keysEq {κ : Type} : ∀ {kvs : List (κ × V)} {us : List (κ × Value)}, KV kvs us -> us.map (·.1) = kvs.map (·.1)
 | _, _, .nil => rfl
 | _, _, .cons h t => by rw [UD, UD, h.1, KV.keysEq t]
theorem IntsAre.vals : ∀ {vs : List Value} {ns : List Int}, IntsAre vs ns -> ZD3 (ns.map V.int) vs
 | _, _, .nil => .nil
 | _, _, .cons _ t h => .cons ⟨t, rfl⟩ (IntsAre.vals h)
def ZNY : List V -> Hp -> VK -> Prop := fun xs H Q => ∃ (p : Addr) (kvs : List (Key × V)) (ns : List Int), xs = [.ref p] /\ Rd H p (.dK kvs) /\ kvs.map (·.1) = ns.map Sum.inl /\ kvs.length < 64 /\ ∀ (l : Addr) (ns' : List Int), H l = none -> ns'.Perm ns -> ns'.Pairwise (· <= ·) -> Q (.ref l) (upd H l (.lst (ns'.map V.int)))
theorem ZPq {X : Cx} (hc : X.calm = true) : ZEd X (.builtin "sorted") ZNY := by
 intro pins s U H xs us Q I r h
 obtain ⟨p, kvs, ns, rfl, hd, hns, h64, q⟩ := h
 obtain ⟨u, rfl, ru⟩ := r.one
 cases ru
 obtain ⟨z, hd, vs, rel, dd⟩ := ZGc I.hok hd
 obtain ⟨ep, dd⟩ := dd.dictAt
 have hlen : vs.length = kvs.length := rel.length.symm
 refine ZOb (I.ok.hd hc) hd dd (by rw [hlen]; exact h64) fun acc hacc => ⟨ns, ?_, fun s' l out ns' e hl hk e1 e2 e3 he ho a1 a2 a3 => ?_⟩
 ·exact ZMI vs ns acc.toList (by rw [KV.keysEq rel]; exact hns) (by rw [UF]; exact hacc.1) fun j v e => hacc.2 j v (by simpa using e)
 ·obtain ⟨h', g', d', tk, os'⟩ := s'
  simp only at e1 e2 e3
  subst e1 e2 e3
  refine ⟨.ref l, upd H l (.lst (ns'.map V.int)), I.laid (t' := tk) hk hl ?_, rfl, q l ns' (I.hok.fresh hl) a2 a3⟩
  refine ⟨?_, out.toList, e, IntsAre.vals a1, he⟩
  have l1 := a2.length_eq
  have l2 := congrArg Vl hns
  simp only [Uf] at l2 ⊢
  rw [sizeLine_eq]
  omega
section
variable {X : Cx} {o i value : Expr} {pos pos' : Pos} {td ty tv : TE}
theorem ZY5 {b : Expr} (h : ZMz b = false) : ZTG b := by
 intro ov iv
 cases b <;> first | rfl | cases h
theorem ZF8 (hu : X.A.units + 1 < cLine) (ho : QE X o td) (hi : QE X i ty) (hs : ZMz i = false := by rfl) : QE X (.Subscript o i pos) (ZPo td ty) := ⟨ZVY hu ho.h hi.h (ZY5 hs)⟩
theorem ZF9 (hu : X.A.units + 1 < cLine) (hv : QE X value tv) (ho : QE X o td) (hi : QE X i ty) (hs : ZF7 value = false := by rfl) : QS X (.Assign [.Subscript o i pos'] value pos) (ZPp td ty tv) := ⟨ZVZ hu ho.h hi.h hv.h (ZHd hs)⟩
theorem ZGP : QE X (.Dict [] [] pos) ZNT := ⟨ZTJ⟩
end
section
variable {U : St} {H : Hp} {Q : VK} {D : ZEx}
def ZLH (x y : V) (H : Hp) (Q : VK) : Prop := ∃ a v, x = .ref a /\ ZFI H a y (some v) /\ Q v H
theorem ZTP {td ty : TE} (h : td U H fun x H1 => ty U H1 fun y H2 => ZLH x y H2 Q) : ZPo td ty U H Q := h
def ZM1 (v x y : V) (H : Hp) (R : Hp -> Prop) : Prop := ∃ a H4, x = .ref a /\ ZIB H a y v H4 /\ R H4
theorem ZTQ {td ty tv : TE} (h : tv U H fun v H1 => td U H1 fun x H2 => ty U H2 fun y H3 => ZM1 v x y H3 (D.nx U)) : ZPp td ty tv D U H := h
def ZM2 (H : Hp) (Q : VK) : Prop := ∀ p, H p = none -> Q (.ref p) (upd H p (.dK []))
theorem ZTR (h : ZM2 H Q) : ZNT U H Q := h
theorem ZO7 (h : ∀ p H2, H p = none -> H2 p = some (.dK []) -> ZDq H H2 -> Q (.ref p) H2) : ZM2 H Q := fun p hp => h p _ hp ZDr (ZDq.new hp)
end
def ZEE (m : PL) (t : Int) : Option Int := (m.find? fun kv => decide (kv.1 = t)).map (·.2)
def ZEI (m : PL) (t h : Int) : PL := if (m.any fun kv => decide (kv.1 = t)) = true then m.map fun kv => if kv.1 = t then (kv.1, h) else kv else m ++ [(t, h)]
def dkE (p : Int × Int) : Key × V := (.inl p.1, .int p.2)
def ZEF (m : PL) : List (Key × V) := m.map dkE
theorem ZNZ {a b : Int} : ((Sum.inl a : Key) = Sum.inl b) ↔ a = b := ⟨fun h => Sum.inl.inj h, fun h => h ▸ rfl⟩
theorem ZXm (m : PL) (t : Int) : ((ZEF m).any fun kv => decide (kv.1 = Sum.inl t)) = m.any fun kv => decide (kv.1 = t) := by
 unfold ZEF
 rw [List.any_map]
 congr 1
 funext p
 simp only [Function.comp, dkE, ZNZ]
theorem ZQ8 (m : PL) (t h : Int) : ZFE (ZEF m) (.inl t) (.int h) = ZEF (ZEI m t h) := by
 unfold ZFE ZEI
 rw [ZXm]
 by_cases c : (m.any fun kv => decide (kv.1 = t)) = true
 ·rw [if_pos c, if_pos c]
  unfold ZEF
  rw [UV, UV]
  refine UK fun p _ => ?_
  simp only [Function.comp, dkE, ZNZ]
  split <;> simp
 ·rw [if_neg c, if_neg c]
  simp [ZEF, dkE]
theorem ZHh (t : Int) : ∀ m : PL, ZEY (ZEF m) (.inl t) = (ZEE m t).map V.int
 | [] => rfl
 | p :: m => by
  have ih := ZHh t m
  by_cases e : p.1 = t
  ·have : ZEY (ZEF (p :: m)) (.inl t) = some (.int p.2) := ZE5 (p := dkE p) (by simp [dkE, e])
   rw [this]
   simp [ZEE, Uw, e]
  ·have : ZEY (ZEF (p :: m)) (.inl t) = ZEY (ZEF m) (.inl t) := ZE6 (p := dkE p) (by simp [dkE, e])
   rw [this, ih]
   simp [ZEE, Uw, e]
theorem ZTS {H : Hp} {Q : VK} {p : Addr} {m : PL} {t v : Int} (h1 : H p = some (.dK (ZEF m))) (h2 : ZEE m t = some v) (h : Q (.int v) H) : ZLH (.ref p) (.int t) H Q :=
 ⟨p, .int v, rfl, by
  have := ZFI.k (k := Sum.inl t) h1
  rw [ZHh, h2] at this
  exact this, h⟩
theorem ZIk {H : Hp} {R : Hp -> Prop} {p : Addr} {m : PL} {t v : Int} (h1 : H p = some (.dK (ZEF m))) (hz : m.length < sizeLine) (h : ∀ H2, H2 p = some (.dK (ZEF (ZEI m t v))) -> Kp p H H2 -> R H2) : ZM1 (.int v) (.ref p) (.int t) H R :=
 ⟨p, _, rfl, ZIB.k (k := Sum.inl t) h1 (by simpa [ZEF] using hz), by
  rw [ZQ8]
  exact h _ ZDr Kp.upd⟩
theorem ZIl {H : Hp} {Q : VK} (h : ∀ p H2, H p = none -> H2 p = some (.dK (ZEF [])) -> ZDq H H2 -> Q (.ref p) H2) : ZM2 H Q := ZO7 h
theorem ZKZ (m : PL) (t h j : Int) : ZEE (ZEI m t h) j = if j = t then some h else ZEE m j := by
 have e1 := ZHh j (ZEI m t h)
 rw [<- ZQ8, ZKY] at e1
 have e2 := ZHh j m
 rw [e2] at e1
 simp only [ZNZ] at e1
 by_cases e : j = t
 ·rw [if_pos e] at e1 ⊢
  cases hg : ZEE (ZEI m t h) j with
  | none => rw [hg] at e1; cases e1
  | some x => rw [hg] at e1; simp at e1; rw [e1]
 ·rw [if_neg e] at e1 ⊢
  cases hg : ZEE (ZEI m t h) j <;> cases hm : ZEE m j <;> rw [hg, hm] at e1 <;> simp_all
theorem ZHi (m : PL) (t h : Int) : (ZEI m t h).length <= m.length + 1 := by
 unfold ZEI
 split <;> simp
theorem ZFx {t : Int} : ∀ {m : PL}, ZEE m t = none ↔ t ∉ m.map (·.1)
 | [] => by simp [ZEE]
 | p :: m => by
  have ih := ZFx (t := t) (m := m)
  by_cases e : p.1 = t
  ·simp [ZEE, Uw, e]
  ·have e' : ¬ t = p.1 := fun z => e z.symm
   have : ZEE (p :: m) t = ZEE m t := by simp [ZEE, Uw, e]
   rw [this, ih]
   simp [e']
theorem ZQ9 (m : PL) (t h : Int) : (ZEI m t h).map (·.1) = if t ∈ m.map (·.1) then m.map (·.1) else m.map (·.1) ++ [t] := by
 have ha : (m.any fun kv => decide (kv.1 = t)) = true ↔ t ∈ m.map (·.1) := by simp
 unfold ZEI
 by_cases c : (m.any fun kv => decide (kv.1 = t)) = true
 ·rw [if_pos c, if_pos (ha.mp c), UV]
  refine UK fun p _ => ?_
  simp only [Function.comp]
  split <;> rfl
 ·rw [if_neg c, if_neg (fun z => c (ha.mpr z))]
  simp
theorem ZE9 {m : PL} {t h : Int} (n : (m.map (·.1)).Nodup) : ((ZEI m t h).map (·.1)).Nodup := by
 rw [ZQ9]
 split
 ·exact n
 ·rename_i c
  rw [Vg]
  exact ⟨n, by simp, fun a ha b hb e => c (by simp at hb; subst hb; subst e; exact ha)⟩
theorem ZEj {t h : Int} : ∀ {m : PL}, (m.map (·.1)).Nodup -> (ZEE m t = some h ↔ (t, h) ∈ m)
 | [], _ => by simp [ZEE]
 | p :: m, n => by
  simp only [UD, List.nodup_cons] at n
  have ih := ZEj (t := t) (h := h) n.2
  by_cases e : p.1 = t
  ·have : ZEE (p :: m) t = some p.2 := by simp [ZEE, Uw, e]
   rw [this]
   constructor
   ·intro z; cases z; rw [<- e]; exact UA
   ·intro z
    rcases Ul.mp z with z | z
    ·rw [<- z]
    ·exact absurd (Ux.mpr ⟨_, z, rfl⟩) (by rw [<- e] at *; exact n.1)
  ·have : ZEE (p :: m) t = ZEE m t := by simp [ZEE, Uw, e]
   rw [this, ih]
   constructor
   ·exact fun z => Ur _ z
   ·intro z
    rcases Ul.mp z with z | z
    ·exact absurd (by rw [<- z]) e
    ·exact z
def ZFs (prs : PL) : PL := prs.foldl (fun m p => ZEI m p.1 p.2) []
theorem ZKI : ∀ (prs acc : PL), (acc.map (·.1)).Nodup -> ((prs.foldl (fun m p => ZEI m p.1 p.2) acc).map (·.1)).Nodup
 | [], _, h => h
 | p :: prs, acc, h => ZKI prs _ (ZE9 h)
theorem ZLI (prs : PL) : ((ZFs prs).map (·.1)).Nodup := ZKI prs [] List.nodup_nil
theorem ZMJ : ∀ (prs acc : PL), (prs.foldl (fun m p => ZEI m p.1 p.2) acc).length <= acc.length + prs.length
 | [], acc => Ud _
 | p :: prs, acc => by
  have h1 := ZMJ prs (ZEI acc p.1 p.2)
  have h2 := ZHi acc p.1 p.2
  show (prs.foldl (fun m p => ZEI m p.1 p.2) (ZEI acc p.1 p.2)).length <= acc.length + (prs.length + 1)
  omega
theorem ZNa (prs : PL) : (ZFs prs).length <= prs.length := by
 have := ZMJ prs []
 simpa [ZFs] using this
theorem ZDv.prs {H : Hp} : ∀ {vs : List V} {l : PL}, ZDv H vs l -> ZY4 H vs (l.map dkE)
 | _, _, .nil => .nil
 | _, _, .cons ⟨a, e, z⟩ t => .cons ⟨a, e, z⟩ (ZDv.prs t)
theorem ZDv.length {H : Hp} {vs : List V} {l : PL} (h : ZDv H vs l) : vs.length = l.length := Paired.length h
theorem ZDv.snoc {H : Hp} : ∀ {vs : List V} {l : PL}, ZDv H vs l -> ∀ {a : Addr} {p : Int × Int}, H a = some (.tup [.int p.1, .int p.2]) -> ZDv H (vs ++ [.ref a]) (l ++ [p])
 | _, _, .nil, a, p, z => .cons ⟨a, rfl, z⟩ .nil
 | _, _, .cons h t, a, p, z => .cons h (ZDv.snoc t z)
theorem ZDv.at {H : Hp} : ∀ {vs : List V} {l : PL}, ZDv H vs l -> ∀ {i : Nat} {v : V}, vs[i]? = some v -> ∃ a p, v = .ref a /\ l[i]? = some p /\ H a = some (.tup [.int p.1, .int p.2])
 | _, _, .nil, i, v, e => by simp at e
 | _, _, @Paired.cons _ _ _ _ p _ _ ⟨a, e1, z⟩ t, 0, v, e => by
  simp at e; subst e
  exact ⟨a, p, e1, rfl, z⟩
 | _, _, .cons _ t, i + 1, v, e => by
  obtain ⟨a, p, h1, h2, h3⟩ := ZDv.at t (by simpa using e)
  exact ⟨a, p, h1, by simpa using h2, h3⟩
theorem ZDv.kp {p : Addr} {H H' : Hp} (k : Kp p H H') {n : Nat} {xs : List V} (hp : H p = some (.lst xs)) : ∀ {vs : List V} {l : PL}, ZDv H vs l -> ZDv H' vs l
 | _, _, .nil => .nil
 | _, _, .cons ⟨a, e, z⟩ t => .cons ⟨a, e, k _ _ z (fun c => by subst c; rw [hp] at z; cases z)⟩ (ZDv.kp k (n := n) hp t)
theorem ZPr {H : Hp} {Q : VK} {p : Addr} {m : PL} (h1 : H p = some (.dK (ZEF m))) (hz : m.length < 64) (h : ∀ l H2 (ns : List Int), H l = none -> H2 l = some (.lst (ns.map V.int)) -> ns.Perm (m.map (·.1)) -> ns.Pairwise (· <= ·) -> ZDq H H2 -> Q (.ref l) H2) : ZNY [.ref p] H Q :=
 ⟨p, _, m.map (·.1), rfl, .inl h1, by simp [ZEF, dkE], by simpa [ZEF] using hz, fun l ns hl hp hs => h l _ ns hl ZDr hp hs (ZDq.new hl)⟩
def Asc (cv : PL) : Prop := cv.Pairwise fun a b => a.1 < b.1
def ZLi (m cv : PL) : Prop := Asc cv /\ ∀ t h, (t, h) ∈ cv ↔ ZEE m t = some h
theorem ZO8 : ∀ {a b : PL}, Asc a -> Asc b -> (∀ p, p ∈ a ↔ p ∈ b) -> a = b
 | [], [], _, _, _ => rfl
 | [], q :: b, _, _, h => by have := (h q).mpr UA; simp at this
 | p :: a, [], _, _, h => by have := (h p).mp UA; simp at this
 | p :: a, q :: b, ha, hb, h => by
  unfold Asc at ha hb
  rw [List.pairwise_cons] at ha hb
  have e : p = q := by
   rcases Ul.mp ((h p).mp UA) with e | e
   ·exact e
   ·rcases Ul.mp ((h q).mpr UA) with e2 | e2
    ·exact e2.symm
    ·have h1 := hb.1 _ e
     have h2 := ha.1 _ e2
     omega
  subst e
  rw [ZO8 ha.2 hb.2 fun r => ?_]
  constructor
  ·intro hr
   rcases Ul.mp ((h r).mp (Ur _ hr)) with e | e
   ·subst e; have := ha.1 _ hr; omega
   ·exact e
  ·intro hr
   rcases Ul.mp ((h r).mpr (Ur _ hr)) with e | e
   ·subst e; have := hb.1 _ hr; omega
   ·exact e
def ZFM (m : PL) (ns : List Int) : PL := ns.map fun t => (t, (ZEE m t).getD 0)
theorem ZIm {m : PL} {ns : List Int} (nd : (m.map (·.1)).Nodup) (hp : ns.Perm (m.map (·.1))) (hs : ns.Pairwise (· <= ·)) : ZLi m (ZFM m ns) := by
 have hn : ns.Nodup := hp.nodup_iff.mpr nd
 refine ⟨?_, fun t h => ?_⟩
 ·unfold Asc ZFM
  rw [Vv]
  exact (hs.and hn).imp fun ⟨a, b⟩ => by
   show _ < _
   omega
 ·unfold ZFM
  rw [Ux]
  constructor
  ·rintro ⟨u, hu, e⟩
   have hu' := hp.mem_iff.mp hu
   cases hg : ZEE m u with
   | none => exact absurd hu' (ZFx.mp hg)
   | some x =>
    rw [hg] at e
    cases e
    exact hg
  ·intro hg
   refine ⟨t, hp.mem_iff.mpr ?_, by rw [hg]; rfl⟩
   by_cases c : t ∈ m.map (·.1)
   ·exact c
   ·rw [ZFx.mpr c] at hg; cases hg
theorem ZO9 : bootBuiltins "dict" = some (.type "dict") := by decide +kernel
theorem ZXn : bootBuiltins "zip" = some (.type "zip") := by decide +kernel
theorem ZJ9 {prog : Program} {w : World} {A : Around} {E : Value -> Shared -> Prop} {s : Shared} {t sl : Addr} {items : Array Value} {vl vu : Value} {lo hi : Option Int} {Q : Value -> Shared -> Prop} (ht : IsTup s.heap t items) (hs : s.heap.IsSliceOf sl vl vu .none) (pl : IsPart vl lo) (pu : IsPart vu hi)
  (hw : HT.sIx items.size 0 lo = 0 /\ HT.sIx items.size items.size hi = items.size) (h : Q (.ref t) s) : wpAny (model prog w) A (getItem (.ref t) (.ref sl)) Q E s := by
 obtain ⟨os, hos, hcs, hds⟩ := id hs
 have hTs : s.TypeIs (.ref sl) "slice" := ⟨os, hos, hcs⟩
 unfold getItem
 try with_reducible refine UT ?_
 first | refine Ua (Uh ?_) | skip
 refine Ua (wpAny_sequenceKey ht.typeIs (by decide) ?_)
 refine Ua (wpAny_callSpecial?_slot (name := Str.ofString "__getitem__") ht.typeIs PyProof.Rows.slot_tuple_getitem
  (wpAny_call_entry PyProof.Rows.slot_tuple_getitem ht.typeIs entry_tuple_getitem ?_ (args_tuple_getitem _ _)))
 show wpAny _ _ (Builtin.Tuple.tupleItemsOf (.ref t) >>= _) _ _ s
 refine Ua (tupleItemsOf_ ht ?_)
 refine Ua (wpAny_typeOf hTs ?_)
 rw [if_pos (by decide)]
 refine Ua (HT.sliceApplied_gen hs pl pu ?_)
 rw [hw.1, hw.2]
 have hyes : ((((0 : Nat) : Int) == 0 && (1 : Int) == 1 && (items.size - 0) == items.size) = true) := by simp
 show wpAny _ _ (if ((((0 : Nat) : Int) == 0 && (1 : Int) == 1 && (items.size - 0) == items.size) = true) then _ else _) _ _ s
 rw [if_pos hyes]
 unfold Builtin.Tuple.tupleIsExact
 refine Ua (Ua (wpAny_typeOf ht.typeIs (Uh ?_)))
 rw [if_pos (by decide)]
 refine Ua (wpAny_rule ?_)
 first
  | exact Uh ⟨_, rfl, Uh h⟩
  | exact Ua (Uh (Uh ⟨_, rfl, Uh h⟩))
def ZTT (K : W.Frag) : V -> Option Int -> Option Int -> Hp -> VK -> Prop := fun x lo hi H Q => ∃ a xs, x = .ref a /\ SqT K H a xs /\
 ((HT.sIx xs.length 0 lo = 0 /\ HT.sIx xs.length xs.length hi = xs.length) -> Q (.ref a) H) /\ (¬ (HT.sIx xs.length 0 lo = 0 /\ HT.sIx xs.length xs.length hi = xs.length) -> ∀ p, H p = none -> Q (.ref p) (upd H p (.tup (ZGo xs lo hi))))
theorem ZVa {X : Cx} (K : W.Frag) (hK : X.K = K) : SlR X (ZTT K) := by
 subst hK
 intro pins s U H x v vl vu lo hi sl Q I rx hs pl pu h
 obtain ⟨a, xs, rfl, hx, q1, q2⟩ := h
 by_cases hw : HT.sIx xs.length 0 lo = 0 /\ HT.sIx xs.length xs.length hi = xs.length
 ·cases rx
  obtain ⟨its, r, ht, hz⟩ := I.tuple hx
  have hlen : its.toArray.size = xs.length := by rw [Uo]; exact r.length.symm
  refine ⟨"tuple", _, PyProof.Rows.slot_tuple_getitem.lookup, ht.typeIs, ?_⟩
  exact ZJ9 ht hs pl pu (by rw [hlen]; exact hw) ⟨.ref a, H, I, rfl, q1 hw⟩
 ·exact ZW0 pins s U H (.ref a) v vl vu lo hi sl Q I rx hs pl pu ⟨a, xs, rfl, hx, hw, q2 hw⟩
theorem ZRA {xs : List V} {lo hi : Option Int} (h : HT.sIx xs.length 0 lo = 0 /\ HT.sIx xs.length xs.length hi = xs.length) : ZGo xs lo hi = xs := by
 unfold ZGo
 rw [h.1, h.2]
 simp
section
variable {X : Cx} {pos pos' : Pos} {e : Expr} {te : TE}
theorem ZY6 {op : Operator} {r : R2} (ho : OpR X (inplaceOp op) r) : PIp X op r := ho
theorem ZNb {i : Nat} {x : Str} {op : Operator} {r : R2} (hN : X.N.Nodup) (hi : X.N[i]? = some x) (hx : Loc X.env.scope x) (ho : OpR X (inplaceOp op) r) (he : QE X e te) (hf : X.fn x = true \/ X.env.scope.names.lookup x = some .local := by first | exact .inl rfl | exact .inr rfl | assumption) :
 QS X (.AugAssign (.Name x pos') op e pos) (ZSW i te r) := ⟨ZWn hN hi hx he.h (ZY6 ho) hf⟩
theorem ZXo {i : Nat} {r : R2} {D : ZEx} {U : St} {H : Hp} {x : V} (e1 : U[i]? = some (some x)) (h : te U H fun y H1 => r x y H1 fun z H2 => D.nx (U.set i (some z)) H2) : ZSW i te r D U H := ⟨x, e1, h⟩
end
def ZUP (Pv : St -> Hp -> Prop) (μ : St -> Hp -> Nat) (tb : TS) (D : ZEx) (n : Nat) (U : St) (H : Hp) : Prop :=
 ∃ N : St -> Hp -> Prop, (∀ U' H', N U' H' -> ∃ m', m' < n /\ m' = μ U' H' /\ Pv U' H') /\ tb { D with nx := N, ct := N, bk := D.nx } U H
theorem ZNc {c : TT} {tb : TS} {D : ZEx} {U : St} {H : Hp} (Pv : St -> Hp -> Prop) (μ : St -> Hp -> Nat) (h0 : Pv U H)
  (hs : ∀ U H, Pv U H -> c U H fun b H1 => if b = true then ZUP Pv μ tb D (μ U H) U H1 else D.nx U H1) : ZNA c tb D U H := by
 refine ⟨fun m U H => m = μ U H /\ Pv U H, ⟨_, rfl, h0⟩, ?_⟩
 rintro m U H ⟨rfl, p⟩
 exact hs U H p
theorem ZPA {Pv : St -> Hp -> Prop} {μ : St -> Hp -> Nat} {tb : TS} {D : ZEx} {n : Nat} {U : St} {H : Hp} (h : tb { D with nx := fun U' H' => Pv U' H' /\ μ U' H' < n, ct := fun U' H' => Pv U' H' /\ μ U' H' < n, bk := D.nx } U H) : ZUP Pv μ tb D n U H :=
 ⟨_, fun U' H' ⟨p, l⟩ => ⟨_, l, rfl, p⟩, h⟩
theorem ZDq.kpN {H H1 H2 : Hp} {l : Addr} (s : ZDq H H1) (hl : H l = none) (k : Kp l H1 H2) : ZDq H H2 := fun q o e => k q o (s q o e) (ZET e hl)
theorem ZDv.kpL {p : Addr} {H H' : Hp} (k : Kp p H H') {xs : List V} (hp : H p = some (.lst xs)) {vs : List V} {l : PL} (h : ZDv H vs l) : ZDv H' vs l := ZDv.kp k (n := 0) hp h
theorem ZDv.app {H : Hp} : ∀ {vs : List V} {l : PL}, ZDv H vs l -> ∀ {ws : List V} {m : PL}, ZDv H ws m -> ZDv H (vs ++ ws) (l ++ m)
 | _, _, .nil, _, _, h => h
 | _, _, .cons h t, _, _, g => .cons h (ZDv.app t g)
theorem ZDv.drop {H : Hp} : ∀ {vs : List V} {l : PL} (n : Nat), ZDv H vs l -> ZDv H (vs.drop n) (l.drop n)
 | _, _, 0, h => h
 | _, _, _ + 1, .nil => .nil
 | _, _, n + 1, .cons _ t => ZDv.drop n t
theorem ZDv.take {H : Hp} : ∀ {vs : List V} {l : PL} (n : Nat), ZDv H vs l -> ZDv H (vs.take n) (l.take n)
 | _, _, 0, _ => .nil
 | _, _, _ + 1, .nil => .nil
 | _, _, n + 1, .cons h t => .cons h (ZDv.take n t)
section
variable {K : W.Frag} {H H' : Hp} {Q : VK} {a b : Addr} {xs ys : List V} {cv l m : PL}
theorem ZXp {lo hi : Option Int} (h1 : H a = some (.tup xs)) (h : ∀ p H2, H2 p = some (.tup (ZGo xs lo hi)) -> ZDq H H2 -> Q (.ref p) H2) : ZTT K (.ref a) lo hi H Q :=
 ⟨a, xs, rfl, SqT.of h1, fun e => h a H (by rw [ZRA e]; exact h1) (ZDq.refl H), fun _ p hp => h p _ ZDr (ZDq.new hp)⟩
def PrT (H : Hp) (a : Addr) (cv : PL) : Prop := ∃ vs, H a = some (.tup vs) /\ ZDv H vs cv
def PrL (H : Hp) (a : Addr) (cv : PL) : Prop := ∃ vs, H a = some (.lst vs) /\ ZDv H vs cv
theorem PrT.same (h : PrT H a cv) (s : ZDq H H') : PrT H' a cv := by
 obtain ⟨vs, h1, h2⟩ := h
 exact ⟨vs, s _ _ h1, h2.same s⟩
theorem PrL.same (h : PrL H a cv) (s : ZDq H H') : PrL H' a cv := by
 obtain ⟨vs, h1, h2⟩ := h
 exact ⟨vs, s _ _ h1, h2.same s⟩
def ZJS (l : PL) (lo hi : Option Int) : PL := (l.drop (HT.sIx l.length 0 lo)).take (HT.sIx l.length l.length hi - HT.sIx l.length 0 lo)
theorem ZDv.cut {vs : List V} {lo hi : Option Int} (h : ZDv H vs l) : ZDv H (ZGo vs lo hi) (ZJS l lo hi) := by
 unfold ZGo ZJS
 rw [h.length]
 exact (h.drop _).take _
theorem PrT.sl {lo hi : Option Int} (h1 : PrT H a l) (h : ∀ p H2, PrT H2 p (ZJS l lo hi) -> ZDq H H2 -> Q (.ref p) H2) : ZTT K (.ref a) lo hi H Q := by
 obtain ⟨vs, g1, p1⟩ := h1
 exact ZXp g1 fun p H2 f2 S2 => h p H2 ⟨_, f2, (p1.cut).same S2⟩ S2
theorem PrL.sl {lo hi : Option Int} (h1 : PrL H a l) (h : ∀ p H2, H p = none -> PrL H2 p (ZJS l lo hi) -> ZDq H H2 -> Q (.ref p) H2) : ZPj K (.ref a) lo hi H Q := by
 obtain ⟨vs, g1, p1⟩ := h1
 exact ZXZ (SqL.of g1) fun p H2 n2 f2 S2 => h p H2 n2 ⟨_, f2, (p1.cut).same S2⟩ S2
end
section
variable {X : Cx}
theorem ZRB {N : List Str} {sc : Scope} {own caps : List Str} {ks : List Nat} {elt tg iter : Expr} {ifs : List Expr} {scope : Scope} {pos cpos : Pos} {wi : TI} {g : TG} {tt : TT} {te : TE}
  (hN : X.N = N) (hsc : X.env.scope = sc) (hc : X.calm = true) (S : ZJN N sc own caps ks scope) (hi : PI X tg iter wi)
  (hg : ∀ cl C s₂ H₂ fp, PG (ZEG X (own ++ caps) scope cl C s₂ H₂ fp) tg g)
  (ht : ∀ cl C s₂ H₂ fp, ZLd (ZEG X (own ++ caps) scope cl C s₂ H₂ fp) ifs tt)
  (he : ∀ cl C s₂ H₂ fp, PE (ZEG X (own ++ caps) scope cl C s₂ H₂ fp) elt te)
  (hs : ∀ x, foldedSetIterable iter X.env x = pure x) {use : Option (Value -> Sem Unit)} {QQ : Value -> Shared -> Prop} {pins : List (Addr × Obj)} {s : Shared} {U : St} {H : Hp} {Q : VK} (I : Inv X pins U H s)
  (fin : ∀ (C l : Addr) (H' : Hp) (s' : Shared), (∃ m, s'.heap.Ns C m) -> Inv X pins U H' s' -> ZFQ X pins H' C -> Q (.ref l) H' -> compPost (model X.prog X.w) X.A X.xe use QQ (.ref l) C (.ok .next) s')
  (h : ZJ0 own.length ks wi g tt te U H Q) :
  wpAny (model X.prog X.w) X.A (comprehension (.ListComp elt [⟨tg, iter, ifs, 0⟩] scope pos) scope X.env cpos (newList []) false (eval iter X.env) use) QQ X.xe s := by
 subst hN hsc
 obtain ⟨cl, hclos, hcl, hclf⟩ := ZK9 (scope := scope) (env := X.env) fun y hy hf => I.ok.has y.1 (.inl (S.free y hy hf))
 refine wpAny_comprehension_free (use := use) rfl hs hclos S.kind S.names (UG (hi pins s U H _ I h) (fun xv s₁ h₁ => UG h₁ (fun it s₂ h₂ => ?_) fun _ _ e => e) fun _ _ e => e)
 obtain ⟨it, fp, tn, J, H2, e, I2, T, st2, f2, q⟩ := h₂
 subst e
 refine wpAny_newObj_type (wpAny_newFunctionEnv S.nocell (by intro y hy; simp at hy) (fun h₁ hns₁ hsb₁ => ?_) S.kind)
 dsimp only at hns₁ hsb₁ ⊢
 generalize hH2 : s₂.heap.push { cls := .type "list", dict := none, data := .seq ([] : List Value).toArray } = HP at hns₁ hsb₁ ⊢
 have hC : HP.objs.size = s₂.heap.objs.size + 1 := by rw [<- hH2, UW]
 have hDC : s₂.heap.objs.size ≠ HP.objs.size := by rw [hC]; exact Uq (Vq _)
 have hCle : s₂.heap.objs.size <= HP.objs.size := by rw [hC]; exact Nat.le_succ _
 have old : ∀ b o, s₂.heap.get? b = some o -> h₁.get? b = some o := fun b o e => by
  have hb : b < s₂.heap.objs.size := Uk e
  exact hsb₁.extBut b o (by rw [hC]; exact Uq (Vf hb)) (Ub _ (hH2 ▸ Ub _ e))
 have hacc : h₁.get? s₂.heap.objs.size = some { cls := .type "list", dict := none, data := .seq ([] : List Value).toArray } := hsb₁.extBut _ _ hDC (Ub _ (hH2 ▸ Ug _ rfl))
 have fpl : ∀ b ∈ fp, b < s₂.heap.objs.size := fun b hb => by
  obtain ⟨o, e, _⟩ := T.obj _ _ st2 b hb
  exact Uk e
 have hfD : H2 s₂.heap.objs.size = none := I2.hok.fresh (Ud _)
 obtain ⟨W, ⟨m0, w0⟩, turn⟩ := q s₂.heap.objs.size hfD
 have hkr : ∀ x, (compEnvC scope cl HP.objs.size X.env).kindOf x = (scope.names.lookup x).map fun k => if (k == NameKind.free && X.env.scope.kind == .function && X.env.kindOf x == some .cell) then NameKind.cell else k := fun x => ZGq (env := X.env) scope.names x
 have cellOfN : ∀ x, scope.names.lookup x = some .free -> X.env.kindOf x = some .cell := fun x e => S.free (x, .free) (PySem.mem_of_lookup e) rfl
 -- the context within
 have ok : (ZEG X (own ++ caps) scope cl HP.objs.size s₂ H2 fp).Ok := by
  refine ⟨I2.ok.mod, S.kind, I2.ok.glob, I2.ok.blt, hCle, fun x y c e1 e2 => I2.ok.inj x y c (hcl x c e1) (hcl y c e2), fun x hx => ?_, fun x c z => (by cases z), I2.ok.hd, I2.ok.frames, .inl rfl, fun b hb => ⟨?_, fun x c e => (f2 b hb).2.2.2.2.1 x c (hcl x c e)⟩,
   I2.bs, Uz I2.ok.bsz I2.sz, fun b o e hb => ?_, fun b hb z => ?_, I2.stack, I2.stkFree⟩
  ·have hx' : (scope.names.lookup x).map (fun k => if (k == NameKind.free && X.env.scope.kind == .function && X.env.kindOf x == some .cell) then NameKind.cell else k) = some .cell \/
     (scope.names.lookup x).map (fun k => if (k == NameKind.free && X.env.scope.kind == .function && X.env.kindOf x == some .cell) then NameKind.cell else k) = some .free := by rw [<- hkr x]; exact hx
   cases e : scope.names.lookup x with
   | none => rw [e] at hx'; rcases hx' with z | z <;> cases z
   | some k =>
    have hm := PySem.mem_of_lookup e
    have hk : k = .free := by
     by_cases hkf : k = .free
     ·exact hkf
     ·have hb : (k == NameKind.free) = false := by simpa using hkf
      rw [e] at hx'
      simp only [UY, hb, Vu, Vd, if_false, Option.some.injEq] at hx'
      rcases hx' with z | z
      ·exact absurd z (S.nocell _ hm)
      ·exact z
    exact hclf _ hm hk
  ·exact Uq (Ue (fpl b hb) hCle)
  ·rcases (f2 b hb).2.2.2.1 with z | z
   ·exact I2.ok.noex b o e z
   ·exact absurd (Ue (Uk e) (Uz I2.ok.bsz z)) (Vr _)
  ·rcases Ul.mp (I2.stkSub b z) with r | r
   ·exact (f2 b hb).2.1 r
   ·exact (f2 b hb).2.2.1 r
 have hlen : (ZGK own.length ks U).length = (own ++ caps).length := by
  have := congrArg Vl S.cap
  simp only [Uf] at this
  simp [ZGK, this]
 have I4 : Inv (ZEG X (own ++ caps) scope cl HP.objs.size s₂ H2 fp) [] (ZGK own.length ks U) (upd H2 s₂.heap.objs.size (.lst [])) { s₂ with heap := h₁, toks := s₂.toks + ([] : List (Str × Value)).length } := by
  obtain ⟨mX, hnX, hlX⟩ := I2.loc
  refine ⟨ok, rfl, I2.bare, Un.laid old (Ud _) hfD, ⟨_, hns₁, fun i x v e1 e2 e3 => ?_⟩, fun x c e => ?_, ?_, fun x c e => ?_, fun p hp => (by cases hp), I2.hok.laid old (Ud _) ⟨UO _, [], 0, .nil, hacc⟩, hlen⟩
  ·have e1 : (own ++ caps)[i]? = some x := e1
   by_cases hio : i < own.length
   ·unfold ZGK at e2
    rw [List.getElem?_append_left (by simpa using hio), List.getElem?_replicate] at e2
    rw [if_pos hio] at e2
    cases e2
   ·unfold ZGK at e2
    rw [Vh (by simpa using hio), List.length_replicate, UB] at e2
    rw [Vh (by simpa using hio)] at e1
    cases ek : ks[i - own.length]? with
    | none => rw [ek] at e2; cases e2
    | some k =>
     rw [ek] at e2
     have e2' := ZMF (Option.some.inj e2)
     have hcap := congrArg (fun l => l[i - own.length]?) S.cap
     simp only [UB, ek, e1, UY] at hcap
     have hNk : X.N[k]? = some x := Option.some.inj hcap
     have hfx := S.fr x (Uv e1)
     have hkX := cellOfN x hfx
     obtain ⟨u, ru, lk⟩ := hlX k x v hNk e2' (.inr (.inl hkX))
     refine ⟨u, ru, .inr ⟨.inl ?_, ?_⟩⟩
     ·show (compEnvC scope cl HP.objs.size X.env).kindOf x = some .cell
      rw [hkr x, hfx]
      simp [I2.ok.kind, hkX]
     ·rcases lk with ⟨z, _⟩ | ⟨_, c, ec, o, ho, hd⟩
      ·rw [hkX] at z; cases z
      ·obtain ⟨c', ec'⟩ := hclf (x, .free) (PySem.mem_of_lookup hfx) rfl
       have := hcl _ _ ec'
       rw [ec] at this
       cases this
       exact ⟨c, ec', o, old _ _ ho, hd⟩
  ·obtain ⟨v, o, ho, hd⟩ := I2.cell x c (hcl x c e)
   exact ⟨v, o, old _ _ ho, hd⟩
  ·show upd H2 s₂.heap.objs.size (.lst []) HP.objs.size = none
   rw [ZD4 (Ne.symm hDC)]
   exact I2.hok.fresh hCle
  ·obtain ⟨v, o, ho, hd⟩ := I2.cell x c (hcl x c e)
   show upd H2 s₂.heap.objs.size (.lst []) c = none
   rw [ZD4 (Uq (Uk ho))]
   exact I2.freeC x c (hcl x c e)
 -- the way out
 have out : ∀ {U' : St} {H' : Hp} {s' : Shared}, Inv (ZEG X (own ++ caps) scope cl HP.objs.size s₂ H2 fp) [] U' H' s' -> Q (.ref s₂.heap.objs.size) H' ->
   compPost (model X.prog X.w) X.A X.xe use QQ (.ref s₂.heap.objs.size) HP.objs.size (.ok .next) s' := fun {U' H' s'} I' q' => by
  obtain ⟨m, hn, _⟩ := I'.loc
  refine fin HP.objs.size s₂.heap.objs.size H' s' ⟨m, hn⟩ ?_ (I2.fpOk hCle I'.free) q'
  have hs' : Heap.SameBut HP.objs.size s'.heap s'.heap := Heap.SameBut.refl ..
  have hfree : H' HP.objs.size = none := I'.free
  have neC : ∀ {b : Addr} {o : Obj}, s₂.heap.get? b = some o -> b ≠ HP.objs.size := fun e => Uq (Ue (Uk e) hCle)
  refine I2.call' (ch := fp) (s' := s') I'.os ⟨fun b o e n hb hx => ?_, fun b o e n hb hx => ?_, I'.base.free, fun b o e hx => ?_, I'.base.tups, I'.base.frzs, I'.base.tbls⟩ (fun b ob e => ?_) I'.bare fun b hb => ⟨(f2 b hb).2.2.2.1, (f2 b hb).2.1, (f2 b hb).2.2.2.2.1, (f2 b hb).2.2.2.2.2⟩
  ·exact (I'.base.keep b o e n hb hx)
  ·obtain ⟨sl, e1⟩ := I'.base.slot b o e n hb hx
   exact ⟨sl, e1⟩
  ·obtain ⟨o', e1⟩ := I'.base.there b o e hx
   exact ⟨o', e1⟩
  ·exact I'.hok b ob e
 have stat : ∀ {H' : Hp}, (∀ b ∈ fp, H' b = none) -> ∀ b ∈ fp, ZFQ (ZEG X (own ++ caps) scope cl HP.objs.size s₂ H2 fp) [] H' b := fun hn b hb =>
  ⟨hn b hb, Uq (Ue (fpl b hb) hCle), ok.exfs b hb, .inl hb, (ok.exf b hb).2, fun p hp => by cases hp⟩
 have fr4 : ∀ b ∈ fp, upd H2 s₂.heap.objs.size (.lst []) b = none := fun b hb => by
  rw [ZD4 (Uq (fpl b hb))]
  exact (f2 b hb).1
 have tn4 : tn 0 h₁ := T.keep _ _ _ st2 fun b _ o e => old b o e
 have loop : ∀ s4 : Shared, s4 = { s₂ with heap := h₁, toks := s₂.toks + ([] : List (Str × Value)).length } ->
   codeAny (model X.prog X.w) X.A (.compLoop (.ListComp elt [⟨tg, iter, ifs, 0⟩] scope pos) 0 (.ref it) (.ref s₂.heap.objs.size) (compEnvC scope cl HP.objs.size X.env))
    (compPost (model X.prog X.w) X.A X.xe use QQ (.ref s₂.heap.objs.size) HP.objs.size) s4 := by
  rintro s4 rfl
  refine ZGb (fun n s' => ∃ i U' H', Inv (ZEG X (own ++ caps) scope cl HP.objs.size s₂ H2 fp) [] U' H' s' /\ tn i s'.heap /\ (∀ b ∈ fp, H' b = none) /\ W i n U' H') ?_ m0 ⟨0, _, _, I4, tn4, fr4, w0⟩
  rintro n s3 ⟨i, U3, H3, I3, st3, fr3, w3⟩
  rcases turn i n U3 H3 w3 with ⟨stop, qn⟩ | ⟨go, N, hN, step⟩
  ·refine UG (T.done (ZEG X (own ++ caps) scope cl HP.objs.size s₂ H2 fp) rfl rfl rfl hc i [] s3 U3 H3 (fun _ _ => False) I3 (stat fr3) st3 stop) (fun r s4 ⟨hr, I4'⟩ => ?_) fun _ _ z => False.elim z
   subst hr
   exact out I4' qn
  ·refine UG (T.item (ZEG X (own ++ caps) scope cl HP.objs.size s₂ H2 fp) rfl rfl rfl hc i [] s3 U3 H3 (fun _ _ => False) I3 (stat fr3) st3 go) (fun r s4 ⟨u, hr, h4⟩ => ?_) fun _ _ z => False.elim z
   subst hr
   refine UG h4 (fun _ s5 ⟨x, H5, I5, r5, y5, st5, fr5⟩ => ?_) fun _ _ z => False.elim z
   have I5' := I5.pinned (stat fr5) (T.obj _ _ st5)
   have back : ∀ {s7 : Shared} {U7 : St} {H7 : Hp}, Inv (ZEG X (own ++ caps) scope cl HP.objs.size s₂ H2 fp) ([] ++ ZIP fp s5.heap) U7 H7 s7 -> N U7 H7 ->
     ∃ m, m < n /\ ∃ i U' H', Inv (ZEG X (own ++ caps) scope cl HP.objs.size s₂ H2 fp) [] U' H' s7 /\ tn i s7.heap /\ (∀ b ∈ fp, H' b = none) /\ W i m U' H' := fun {s7 U7 H7} I7 n7 => by
    obtain ⟨m', hm, w7⟩ := hN U7 H7 n7
    refine ⟨m', hm, i + 1, U7, H7, I7.unpinned, T.keep _ _ _ st5 fun b hb o e => (I7.pin (b, o) (Uy _ (Uy _ (ZF3 hb e)))).1, fun b hb => ?_, w7⟩
    obtain ⟨o, e, d⟩ := T.obj _ _ st5 b hb
    exact (I7.pin (b, o) (Uy _ (Uy _ (ZF3 hb e)))).2.1
   refine UG (hg _ _ _ _ _ _ s5 U3 H5 x u _ I5' r5 (step x H5 y5)) (fun _ s6 ⟨U6, H6, I6, q6⟩ => ?_) fun _ _ z => False.elim z
   refine UG (ht _ _ _ _ _ _ s6 U6 H6 _ I6 q6) (fun b s7 ⟨H7, I7, q7⟩ => ?_) fun _ _ z => False.elim z
   cases b with
   | false =>
    rw [if_neg Ut]
    rw [if_neg Ut] at q7
    exact back I7 q7
   | true =>
    rw [if_pos rfl]
    rw [if_pos rfl] at q7
    refine UG (he _ _ _ _ _ _ s7 U6 H7 _ I7 q7) (fun y s8 ⟨v, H8, I8, r8, xs, hx8, hz8, n8⟩ => ?_) fun _ _ z => False.elim z
    refine UG (ZFK (X := ZEG X (own ++ caps) scope cl HP.objs.size s₂ H2 fp) _ s8 U6 H8 (.ref s₂.heap.objs.size) [v] (.ref s₂.heap.objs.size) [y] (fun _ H' => N U6 H') I8 rfl (.cons r8 .nil) ⟨_, xs, v, rfl, rfl, hx8, hz8, n8⟩) (fun _ s9 ⟨_, H9, I9, _, n9⟩ => ?_) fun _ _ z => False.elim z
    exact back I9 n9
 exact codeAny_compStart_list (loop _ rfl) (T.self _ 0 _ _ _ tn4 (loop _ rfl))
theorem ZVb {N : List Str} {sc : Scope} {own caps : List Str} {ks : List Nat} {elt tg iter : Expr} {ifs : List Expr} {scope : Scope} {pos spos pos' : Pos} {wi : TI} {g : TG} {tt : TT} {te : TE} {i : Nat} {x : Str}
  (hN : X.N = N) (hsc : X.env.scope = sc) (hc : X.calm = true) (S : ZJN N sc own caps ks scope) (hi : PI X tg iter wi)
  (hg : ∀ cl C s₂ H₂ fp, PG (ZEG X (own ++ caps) scope cl C s₂ H₂ fp) tg g)
  (ht : ∀ cl C s₂ H₂ fp, ZLd (ZEG X (own ++ caps) scope cl C s₂ H₂ fp) ifs tt)
  (he : ∀ cl C s₂ H₂ fp, PE (ZEG X (own ++ caps) scope cl C s₂ H₂ fp) elt te)
  (hNd : X.N.Nodup) (hix : X.N[i]? = some x) (hx : Loc X.env.scope x)
  (hsw : swapsWith (.ListComp elt [⟨tg, iter, ifs, 0⟩] scope pos) (some (.Name x pos')) spos.line X.env = pure true)
  (hs : ∀ x, foldedSetIterable iter X.env x = pure x := by intro _; rfl)
  (hf : X.fn x = true \/ X.env.scope.names.lookup x = some .local := by first | exact .inl rfl | exact .inr rfl | assumption) :
  PS X (.Assign [.Name x pos'] (.ListComp elt [⟨tg, iter, ifs, 0⟩] scope pos) spos) (ZH9 (ZJ0 own.length ks wi g tt te) (ZGJ i)) := by
 intro pins s U H D I h
 rw [exec_Assign_Name_used _ _ _ _ hsw]
 refine Ua (wpAny_standAt (Ua ?_))
 show wpAny _ X.A (do let _ <- comprehension (.ListComp elt [⟨tg, iter, ifs, 0⟩] scope pos) scope X.env _ (newList []) false (eval iter X.env) (some (assign (.Name x pos') X.env))) _ _ s
 refine Ua (UG (ZRB (QQ := fun _ s' => SP X pins D .next s') hN hsc hc S hi hg ht he hs I ?_ h) (fun _ s' hq => Uh (Uh hq)) fun _ _ e => e)
 rintro C l H' s' ⟨m, hn⟩ I' hF q
 show wpAny (model X.prog X.w) X.A (assign (.Name x pos') X.env (.ref l)) (fun _ s'' => ∃ m, s''.heap.Ns C m /\ ∀ h', Heap.SameBut C s''.heap h' -> SP X pins D .next { s'' with heap := h' }) X.xe s'
 obtain ⟨f0, f1, f2, f3, f4, f5⟩ := hF
 refine wpAny_assign_Name (ZL8 (v := .ref l) I' hNd hix hx rfl (fun s'' I'' ⟨b, hsb, hb⟩ => ?_) hf)
 have hCb : C ≠ b := by
  rcases hb with rfl | hb
  ·exact f1
  ·exact fun z => f4 x b hb z.symm
 refine ⟨m, hn.sameBut hsb hCb, fun h' hs' => ⟨_, H', I''.turned (t' := s''.toks) (fun c o hc e => hs'.extBut c o hc e) f0 f1 f3 f4 f5, q⟩⟩
theorem ZHX {N : List Str} {sc : Scope} {own caps : List Str} {ks : List Nat} {elt tg iter : Expr} {ifs : List Expr} {scope : Scope} {pos spos pos' : Pos} {wi : TI} {g : TG} {tt : TT} {te : TE} {i : Nat} {x : Str}
  (hN : X.N = N) (hsc : X.env.scope = sc) (hc : X.calm = true) (S : ZJN N sc own caps ks scope) (hNd : X.N.Nodup) (hix : X.N[i]? = some x) (hx : Loc X.env.scope x)
  (hi : QI X tg iter wi)
  (hg : ∀ cl C s₂ H₂ fp, QG (ZEG X (own ++ caps) scope cl C s₂ H₂ fp) tg g)
  (ht : ∀ cl C s₂ H₂ fp, QF (ZEG X (own ++ caps) scope cl C s₂ H₂ fp) ifs tt)
  (he : ∀ cl C s₂ H₂ fp, QE (ZEG X (own ++ caps) scope cl C s₂ H₂ fp) elt te)
  (hsw : swapsWith (.ListComp elt [⟨tg, iter, ifs, 0⟩] scope pos) (some (.Name x pos')) spos.line X.env = pure true := by rfl)
  (hs : ∀ x, foldedSetIterable iter X.env x = pure x := by intro _; rfl)
  (hf : X.fn x = true \/ X.env.scope.names.lookup x = some .local := by first | exact .inl rfl | exact .inr rfl | assumption) :
  QS X (.Assign [.Name x pos'] (.ListComp elt [⟨tg, iter, ifs, 0⟩] scope pos) spos) (ZH9 (ZJ0 own.length ks wi g tt te) (ZGJ i)) :=
 ⟨ZVb hN hsc hc S hi.h (fun cl C s₂ H₂ fp => (hg cl C s₂ H₂ fp).h) (fun cl C s₂ H₂ fp => (ht cl C s₂ H₂ fp).h) (fun cl C s₂ H₂ fp => (he cl C s₂ H₂ fp).h) hNd hix hx hsw hs hf⟩
theorem ZVc {i : Nat} {x : Str} {e : Expr} {te : TE} {pos pos' : Pos} (hN : X.N.Nodup) (hi : X.N[i]? = some x) (hx : Loc X.env.scope x) (he : QE X e te) (hs : swapsWith e (some (.Name x pos')) pos.line X.env = pure false := by rfl) (hf : X.fn x = true \/ X.env.scope.names.lookup x = some .local := by first | exact .inl rfl | exact .inr rfl | assumption) :
 QS X (.Assign [.Name x pos'] e pos) (ZH9 te (ZGJ i)) := ⟨ZQi hN hi hx he.h hs hf⟩
end
section
variable {K : W.Frag} {H H' : Hp} {a p l : Addr} {cv : PL} {xs : List V}
theorem PrT.kpL (h : PrT H a cv) (k : Kp l H H') (hl : H l = some (.lst xs)) : PrT H' a cv := by
 obtain ⟨vs, h1, h2⟩ := h
 exact ⟨vs, k _ _ h1 (fun e => by subst e; rw [h1] at hl; cases hl), h2.kpL k hl⟩
end
def Itd (lo : Int) (n : Nat) : It := ⟨fun i _ => i < n, fun i H x H' => H' = H /\ x = .int (lo + i * (-1)), fun i _ => n <= i⟩
theorem ZRC {P : Program} {w : World} {K : W.Frag} {tg : Expr} (it : Addr) (lo : Int) (n : Nat) : ZJK P w K tg (Itd lo n) [it] it (fun i h => IsRangeIter h it (lo + (i : Nat) * (-1)) ((n : Int) - (i : Nat)) (-1)) where
 mem := by simp
 obj := fun i h st b hb => by
  have e : b = it := by simpa using hb
  subst e
  exact ⟨_, st, fun v z => by
   have z' : Data.fields _ = Data.cell v := z
   cases z'⟩
 keep := fun i h h' st k => k it (by simp) _ st
 item := by
  intro X hP hw hK hc i pins s U H E I hf st hg
  subst hP hw hK
  obtain ⟨f0, f1, f2, f3, f4, f5⟩ := hf it (by simp)
  have W := Walks.range (prog := X.prog) (w := X.w) (I.ok.hd hc) it lo (-1) n
  refine W.item i s _ _ hg st fun v h' tk hv st' kk => ?_
  obtain ⟨t, rfl⟩ := hv
  have I1 : Inv X pins U H { s with heap := h', toks := tk } := I.turned (fun b o hb e => kk b o (by simpa using hb) e) f0 f1 f3 f4 f5
  exact ⟨_, rfl, ZJx (s := { s with heap := h', toks := tk }) (n := "range_iterator") st' rfl rfl (by decide) ⟨.int (lo + i * (-1)), H, I1, ⟨t, rfl⟩, ⟨rfl, rfl⟩, st', fun b hb => (hf b hb).1⟩⟩
 done := by
  intro X hP hw hK hc i pins s U H E I hf st hg
  subst hP hw hK
  obtain ⟨f0, f1, f2, f3, f4, f5⟩ := hf it (by simp)
  exact wpAny_pyNext_range_end (I.ok.hd hc) st (by have : n <= i := hg; omega) fun h' eb => ⟨rfl, I.turned (t' := s.toks) (fun b o hb e => eb b o hb e) f0 f1 f3 f4 f5⟩
 self := fun _ _ _ _ _ st h => wpAny_pyIter_rangeiter st h
section
variable {X : Cx} {tg : Expr}
theorem ZRD {pins : List (Addr × Obj)} {U : St} {H : Hp} {s : Shared} {R : It -> Hp -> Prop} {E : Value -> Shared -> Prop} {lo hi : Int} {t u v : Tok} {tk : Nat} (I : Inv X pins U H s) (h1 : -(2 ^ 62) <= lo) (h2 : lo < 2 ^ 62) (h3 : -(2 ^ 62) <= hi) (h4 : hi < 2 ^ 62)
  (q : R (Itd lo (lo - hi).toNat) H) : wpAny (model X.prog X.w) X.A (pyIter (.ref s.heap.objs.size)) (PIE X pins U tg R) E { s with heap := s.heap.push { cls := .type "range", data := .fields #[.int lo t, .int hi u, .int (-1) v] }, toks := tk } := by
 refine wpAny_pyIter_range (IsRange.new ..) (PySem.W.small_down h1 h2 h3 h4) ?_
 have I1 : Inv X pins U H { s with heap := s.heap.push { cls := .type "range", data := .fields #[.int lo t, .int hi u, .int (-1) v] }, toks := tk } := I.kept fun b o e => Ub _ e
 refine ⟨(s.heap.push { cls := .type "range", data := .fields #[.int lo t, .int hi u, .int (-1) v] }).objs.size, [(s.heap.push { cls := .type "range", data := .fields #[.int lo t, .int hi u, .int (-1) v] }).objs.size], _, _, H, rfl,
  I1.kept (t' := tk) fun b o e => Ub _ e, ZRC _ lo (lo - hi).toNat, ?_, fun b hb => ?_, q⟩
 ·have e1 : lo + ((0 : Nat) : Int) * (-1) = lo := by simp
  have e2 : (((lo - hi).toNat : Nat) : Int) - ((0 : Nat) : Int) = Builtin.Range.rangeSize lo hi (-1) := by rw [PySem.W.rangeSize_downNat]; simp
  show IsRangeIter _ _ (lo + ((0 : Nat) : Int) * (-1)) ((((lo - hi).toNat : Nat) : Int) - ((0 : Nat) : Int)) (-1)
  rw [e1, e2]
  exact Ug _ rfl
 ·have e : b = (s.heap.push { cls := .type "range", data := .fields #[.int lo t, .int hi u, .int (-1) v] }).objs.size := by simpa using hb
  subst e
  exact I1.fpOk (Ud _) (I1.hok.fresh (Ud _))
def ZPs (vs : List V) (H : Hp) (R : It -> Hp -> Prop) : Prop := ∃ i j : Int, vs = [.int i, .int j, .int (-1)] /\ (-(2 ^ 62) <= i /\ i < 2 ^ 62 /\ -(2 ^ 62) <= j /\ j < 2 ^ 62) /\ R (Itd i (i - j).toNat) H
def ZUQ (ta : TA) : TI := fun U H R => ta U H fun vs H1 => ZPs vs H1 R
theorem ZRE {a b c : Expr} {t : TA} {p pos : Pos} (hg : Gl X "range") (hm : X.mg "range" = none) (ha : QA X [a, b, c] t) (hs : ZFT a = false := by rfl) (hs2 : ZFT b = false := by rfl) (hs3 : ZFT c = false := by rfl) :
  QI X tg (.Call (.Name "range" p) [a, b, c] [] pos) (ZUQ t) := by
 refine ⟨?_⟩
 intro pins s U H R I h
 refine Call_ (ZGY I hg hm boot_range (PyProof.Rows.callWith_type1 (thn (ha.h pos pins s U H _ I h) fun us s1 ⟨vs, H1, I1, r1, q1⟩ => ?_) (by rw [ZE1 hs, ZE1 hs2]) (by rw [ZE1 hs2, ZE1 hs3]; rfl)))
 obtain ⟨i, j, e, ⟨q1, q2, q3, q4⟩, q⟩ := q1
 subst e
 cases r1 with
 | cons r rr =>
  cases rr with
  | cons r' rr =>
   cases rr with
   | cons r'' rr =>
    cases rr
    obtain ⟨t, rfl⟩ := r
    obtain ⟨t', rfl⟩ := r'
    obtain ⟨t'', rfl⟩ := r''
    exact call_range_3 (by decide) (ZRD I1 q1 q2 q3 q4 q) (.inl (PyProof.noPylong_small (by decide)))
end
section
variable {U : St} {H : Hp}
theorem ZVd {ta : TA} {R : It -> Hp -> Prop} (h : ta U H fun vs H1 => ZPs vs H1 R) : ZUQ ta U H R := h
theorem ZTU {i j : Int} {R : It -> Hp -> Prop} (h1 : -(2 ^ 62) <= i) (h2 : i < 2 ^ 62) (h3 : -(2 ^ 62) <= j) (h4 : j < 2 ^ 62) (h : R (Itd i (i - j).toNat) H) : ZPs [.int i, .int j, .int (-1)] H R := ⟨i, j, rfl, ⟨h1, h2, h3, h4⟩, h⟩
end
theorem ZPB : ∀ {ys : List Str} {vs : List Value}, ZD3 (ys.map V.str) vs -> StrsAre vs ys
 | [], _, .nil => .nil
 | _ :: _, _, .cons ⟨t, e⟩ h => by subst e; exact .cons _ t (ZPB h)
def ZUR (K : W.Frag) : V -> List V -> Hp -> VK -> Prop := fun x vs H Q => ∃ (sep : Str) (p : Addr) (ys : List Str), x = .str sep /\ vs = [.ref p] /\ SqL K H p (ys.map V.str) /\ (ys.map (·.length)).sum + ys.length * sep.length <= 16777216 /\ Q (.str (Txt.join sep ys)) H
theorem ZLj {X : Cx} (K : W.Frag) (hK : X.K = K) : MtR X "str.join" (ZUR K) := by
 subst hK
 intro pins s U H x vs v us Q I rx rv h
 obtain ⟨sep, p, ys, rfl, rfl, hS, hz, q⟩ := h
 obtain ⟨t, rfl⟩ := rx
 obtain ⟨u, rfl, ru⟩ := rv.one
 cases ru
 obtain ⟨its, r, ht, _⟩ := I.list hS
 refine join_list (items := its.toArray) ht.isList (by simpa using ZPB r) hz fun t' k => ?_
 exact ⟨.str _, H, I.tok _, ⟨t', rfl⟩, q⟩
theorem ZLk {K : W.Frag} {H : Hp} {Q : VK} {sep : Str} {p : Addr} {ys : List Str} (h1 : SqL K H p (ys.map V.str)) (hz : (ys.map (·.length)).sum + ys.length * sep.length <= 16777216) (h : Q (.str (Txt.join sep ys)) H) : ZUR K (.str sep) [.ref p] H Q := ⟨sep, p, ys, rfl, rfl, h1, hz, h⟩
theorem ZIY (a b : Str) : (a ++ b).length = a.length + b.length := by
 show (a.cps ++ b.cps).size = a.cps.size + b.cps.size
 exact Array.size_append
def ZGd (ys : List Str) : Str := ys.foldl (· ++ ·) Str.empty
theorem ZMK : ∀ (ys : List Str) (acc : Str), (ys.foldl (· ++ ·) acc).cps = ys.foldl (fun a p => a ++ p.cps) acc.cps
 | [], _ => rfl
 | y :: ys, acc => by
  show (ys.foldl (· ++ ·) (acc ++ y)).cps = ys.foldl (fun a p => a ++ p.cps) (acc.cps ++ y.cps)
  rw [ZMK ys (acc ++ y)]
  rfl
theorem ZIn (ys : List Str) : Txt.join "" ys = ZGd ys := by
 cases ys with
 | nil => rfl
 | cons y ys =>
  have e : (ZGd (y :: ys)).cps = (Txt.join "" (y :: ys)).cps := by
   unfold ZGd
   rw [ZMK]
   show _ = ys.foldl (fun acc p => acc ++ (Str.ofString "").cps ++ p.cps) y.cps
   have e2 : (Str.ofString "").cps = #[] := by decide
   simp only [e2, Array.append_empty]
   show ys.foldl (fun a p => a ++ p.cps) (Str.empty.cps ++ y.cps) = _
   congr 1
   show #[] ++ y.cps = y.cps
   simp
  cases h1 : ZGd (y :: ys)
  cases h2 : Txt.join "" (y :: ys)
  rw [h1, h2] at e
  simp only at e
  rw [e]
theorem ZKa : ∀ (ys : List Str), (ZGd ys).length = (ys.map (·.length)).sum := by
 intro ys
 have : ∀ (ys : List Str) (acc : Str), (ys.foldl (· ++ ·) acc).length = acc.length + (ys.map (·.length)).sum := by
  intro ys
  induction ys with
  | nil => intro acc; simp
  | cons y ys ih =>
   intro acc
   show (ys.foldl (· ++ ·) (acc ++ y)).length = _
   rw [ih, ZIY]
   simp
   omega
 have h := this ys Str.empty
 have e : Str.empty.length = 0 := rfl
 rw [e, Nat.zero_add] at h
 exact h
section
variable {X : Cx}
def ZUS : R2 := fun x y H Q => ∃ i j, x = .str i /\ y = .str j /\ i.length + j.length <= sizeLine /\ Q (.str (i ++ j)) H
theorem ZLl : OpR X (binaryOp .Add) ZUS := ZPa
theorem ZLm {H : Hp} {Q : VK} {i j : Str} (hz : i.length + j.length <= sizeLine) (h : Q (.str (i ++ j)) H) : ZUS (.str i) (.str j) H Q := ⟨i, j, rfl, rfl, hz, h⟩
theorem ZNd {H : Hp} {Q : VK} {i j : Str} (h : Q (.bl (!decide (i = j))) H) : rNe (.str i) (.str j) H Q := ⟨rfl, by
 have : decide (V.str i = V.str j) = decide (i = j) := by
  by_cases e : i = j
  ·subst e; simp
  ·rw [decide_eq_false e, decide_eq_false (fun z => e (V.str.inj z))]
 rw [this]; exact h⟩
theorem ZXq {T : String} {name : Str} {id : String} {r : V -> List V -> Hp -> VK -> Prop} {apos cpos : Pos} {o : Expr} {to : TE} (pa : PlainAttrs T) (slot : Slot T name id) (hty : typeOf (.builtin id) = pure (.type "method_descriptor")) (hm : MtR X id r) (ho : QE X o to)
 (hbase : attributeBase o name X.env (eval o X.env) = eval o X.env := by rfl) (hline : (apos.endLine == cpos.line) = true := by rfl) : QE X (.Call (.Attribute o name apos) [] [] cpos) (ZSu X.K T r to) := ⟨ZW4 pa slot hty hm ho.h hbase hline⟩
theorem ZXr {K : W.Frag} {T : String} {r : V -> List V -> Hp -> VK -> Prop} {to : TE} {U : St} {H : Hp} {Q : VK} (h : to U H fun x H1 => tyV K T x H1 /\ r x [] H1 Q) : ZSu K T r to U H Q := h
theorem tyS {K : W.Frag} {H : Hp} {x : Str} : tyV K "str" (.str x) H := rfl
end
def ZTV (K : W.Frag) (x : V) (H : Hp) (R : It -> Hp -> Prop) : Prop := (∃ a, x = .ref a /\ (∃ xs, SqL K H a xs) /\ R (Itl K a) H) \/ (∃ a, x = .ref a /\ (∃ xs, SqT K H a xs) /\ R (Itt K a) H)
def ZXs (K : W.Frag) (tl : TE) : TI := fun U H R => tl U H fun x H1 => ZTV K x H1 R
theorem ZXt {X : Cx} {tg e : Expr} {te : TE} (K : W.Frag) (hK : X.K = K) (hl : QE X e te) : QI X tg e (ZXs K te) := by
 subst hK
 refine ⟨?_⟩
 intro pins s U H R I h
 refine thn (hl.h pins s U H _ I h) fun v s1 ⟨x, H1, I1, r1, q1⟩ => ?_
 rcases q1 with ⟨a, e, ⟨xs, hq⟩, q⟩ | ⟨a, e, ⟨xs, hq⟩, q⟩
 ·subst e
  cases r1
  obtain ⟨its, rv, p, hz⟩ := I1.list hq
  refine wpAny_pyIter_list p.isList ?_
  refine ⟨s1.heap.objs.size, [s1.heap.objs.size], _, _, H1, rfl, I1.kept (t' := s1.toks) fun b o e => Ub _ e, ZL9 a _, ⟨_, Ug _ rfl, rfl, rfl⟩, fun b hb => ?_, q⟩
  have e : b = s1.heap.objs.size := by simpa using hb
  subst e
  exact I1.fpOk (Ud _) (I1.hok.fresh (Ud _))
 ·subst e
  cases r1
  obtain ⟨its, rv, p, hz⟩ := I1.tuple hq
  refine wpAny_pyIter_tuple (show s1.heap.IsTuple a its.toArray from p) ?_
  refine ⟨s1.heap.objs.size, [s1.heap.objs.size], _, _, H1, rfl, I1.kept (t' := s1.toks) fun b o e => Ub _ e, ZKv a _, ⟨_, Ug _ rfl, rfl, rfl⟩, fun b hb => ?_, q⟩
  have e : b = s1.heap.objs.size := by simpa using hb
  subst e
  exact I1.fpOk (Ud _) (I1.hok.fresh (Ud _))
def SQ (b : Bool) (H : Hp) (a : Addr) (vs : List V) : Prop := H a = some (if b then .lst vs else .tup vs)
section
variable {K : W.Frag} {U : St} {H : Hp} {D : ZEx}
theorem ZVe {tl : TE} {R : It -> Hp -> Prop} (h : tl U H fun x H1 => ZTV K x H1 R) : ZXs K tl U H R := h
theorem ZVf {b : Bool} {a : Addr} {xs : List V} {g : TG} {tb : TS} (Pv : Nat -> St -> Hp -> Prop) (hq : SQ b H a xs) (h0 : Pv 0 U H) (hl : ∀ i U H, i <= xs.length -> Pv i U H -> SQ b H a xs)
  (hs : ∀ i x U H, xs[i]? = some x -> Pv i U H -> g x U H fun U2 H2 => tb { D with nx := Pv (i + 1), ct := Pv (i + 1), bk := D.nx } U2 H2) (hd : ∀ U H, Pv xs.length U H -> D.nx U H) :
  ZTV K (.ref a) H (fun J H1 => rFor J g tb D U H1) := by
 cases b with
 | true => exact .inl ⟨a, rfl, ⟨xs, SqL.of hq⟩, ZLf Pv h0 (fun i U H hi p => SqL.of (hl i U H hi p)) hs hd⟩
 | false => exact .inr ⟨a, rfl, ⟨xs, SqT.of hq⟩, ZJ1 Pv h0 (fun i U H hi p => SqT.of (hl i U H hi p)) hs hd⟩
end
theorem SQ.same {b : Bool} {H H' : Hp} {a : Addr} {vs : List V} (h : SQ b H a vs) (s : ZDq H H') : SQ b H' a vs := s _ _ h
def ZEr (n : Nat) {α : Type} : KasT α -> (α -> Prop) -> Prop
 | .ret a, R => R a
 | .ask i j k, R => i < n /\ j < n /\ ∀ b, ZEr n (k b) R
theorem ZEr.bind {n : Nat} {α β : Type} {f : α -> KasT β} {R : α -> Prop} {R' : β -> Prop} (h : ∀ a, R a -> ZEr n (f a) R') : ∀ t : KasT α, ZEr n t R -> ZEr n (t.bind f) R'
 | .ret a, g => h a g
 | .ask i j k, g => ⟨g.1, g.2.1, fun b => ZEr.bind h (k b) (g.2.2 b)⟩
theorem ZRF {n : Nat} {cmp : Nat -> Nat -> (Bool -> Shared -> Prop) -> Shared -> Prop} {c : Nat -> Nat -> Bool} {s : Shared} (hc : ∀ i j C, i < n -> j < n -> C (c i j) s -> cmp i j C s) {α : Type} {Q : α -> Shared -> Prop} {R : α -> Prop} : ∀ t : KasT α, ZEr n t R -> Q (evT c t) s -> t.kasWp cmp Q s
 | .ret _, _, h => h
 | .ask i j k, g, h => hc i j _ g.1 g.2.1 (ZRF hc (k (c i j)) (g.2.2 _) h)
section
variable {n : Nat}
def Inn (n : Nat) (p : Array Nat) : Prop := 0 < n /\ ∀ v ∈ p.toList, v < n
theorem Inn.at {p : Array Nat} (h : Inn n p) (i : Nat) : p.getD i 0 < n := by
 by_cases hi : i < p.size
 ·have := ZGT (p := p) hi
  exact h.2 _ (Array.mem_toList_iff.mpr (Array.mem_of_getElem? this))
 ·have : p.getD i 0 = 0 := by simp [Array.getD, hi]
  rw [this]
  exact h.1
theorem Inn.perm {p q : Array Nat} (h : Inn n p) (e : q.toList.Perm p.toList) : Inn n q := ⟨h.1, fun v hv => h.2 v (e.mem_iff.mp hv)⟩
theorem Inn.rev {p : Array Nat} (h : Inn n p) (i j : Nat) : Inn n (kas_rev p i j) := h.perm (ZNJ p i j)
theorem ZKb {p : Array Nat} (h : Inn n p) : ∀ f a, ZEr n (kas_asc p f a) (fun _ => True)
 | 0, _ => trivial
 | f + 1, a => ⟨h.at _, h.at _, fun b => by
  cases b with
  | true => exact trivial
  | false => exact ZKb h f (a + 1)⟩
theorem ZH0 : ∀ (f : Nat) {p : Array Nat} (a q : Nat), Inn n p -> ZEr n (kas_desc f p a q) (fun r => Inn n r.1)
 | 0, _, _, _, h => h
 | f + 1, p, a, q, h => ⟨h.at _, h.at _, fun b => by
  cases b with
  | true =>
   show ZEr n (if q > 0 then kas_desc f (kas_rev p (a - (q + 1)) a) (a + 1) 0 else kas_desc f p (a + 1) 0) _
   split
   ·exact ZH0 f _ _ (h.rev _ _)
   ·exact ZH0 f _ _ h
  | false =>
   refine ⟨h.at _, h.at _, fun d => ?_⟩
   cases d with
   | true => exact h
   | false => exact ZH0 f _ _ h⟩
theorem ZML {p : Array Nat} (h : Inn n p) (m k : Nat) : ZEr n (kas_tail3 m k p) (fun r => Inn n r.2) := by
 unfold kas_tail3
 refine ZEr.bind (R := fun _ => True) (fun a _ => ?_) _ (ZKb (h.rev _ _) _ _)
 exact h.rev _ _
theorem ZLJ {p : Array Nat} (h : Inn n p) (m k : Nat) : ZEr n (kas_descPart m k p) (fun r => Inn n r.2) := by
 refine ZEr.bind (R := fun r => Inn n r.1) (fun r hr => ?_) _ (ZH0 _ _ _ h)
 show ZEr n (if r.2.2 > 0 then _ else _) _
 split
 ·exact ZML (hr.rev _ _) _ _
 ·exact ZML hr _ _
theorem ZPt {p : Array Nat} (h : Inn n p) (k : Nat) : ZEr n (kas_count k p) (fun r => Inn n r.2) := by
 refine ZEr.bind (R := fun _ => True) (fun m _ => ?_) _ (ZKb h _ _)
 show ZEr n (if (m == k) = true then _ else _) _
 split
 ·exact h
 ·split
  ·refine ⟨h.at _, h.at _, fun b => ?_⟩
   cases b with
   | true => exact h
   | false => exact ZLJ (h.rev _ _) _ _
  ·exact ZLJ h _ _
theorem ZIo {p : Array Nat} (h : Inn n p) (k : Nat) : ∀ f l r, ZEr n (kas_place p k f l r) (fun _ => True)
 | 0, _, _ => trivial
 | f + 1, l, r => by
  show ZEr n (if l >= r then _ else _) _
  split
  ·exact trivial
  ·refine ⟨h.at _, h.at _, fun b => ?_⟩
   cases b with
   | true => exact ZIo h k f _ _
   | false => exact ZIo h k f _ _
theorem ZNe : ∀ (f : Nat) {p : Array Nat} (k : Nat), Inn n p -> ZEr n (kas_bin f p k) (fun _ => True)
 | 0, _, _, _ => trivial
 | f + 1, p, k, h => ZEr.bind (R := fun _ => True) (fun l _ => ZNe f _ (h.perm (Array.perm_iff_toList_perm.mp (bubble_perm p k _)))) _ (ZIo h k _ _ _)
theorem ZRG (hn : 0 < n) : ZEr n (kas_sort n) (fun _ => True) := by
 have h : Inn n (List.toArray (UM n)) := ⟨hn, fun v hv => by simpa using hv⟩
 refine ZEr.bind (R := fun r => Inn n r.2) (fun r hr => ?_) _ (ZPt h _)
 show ZEr n (if r.1 < n then _ else _) _
 split
 ·exact ZNe _ _ hr
 ·exact trivial
end
def ltP (p q : Int × Int) : Bool := decide (p.1 < q.1) || (decide (p.1 = q.1) && decide (p.2 < q.2))
theorem ZGu {p q : Int × Int} : ltP p q = true ↔ p.1 < q.1 \/ (p.1 = q.1 /\ p.2 < q.2) := by simp [ltP]
theorem ZJT {p q : Int × Int} : ltP p q = false ↔ ¬ (p.1 < q.1 \/ (p.1 = q.1 /\ p.2 < q.2)) := by
 rw [<- ZGu]; simp
def ZIp (h : Heap) (a : Addr) (v : Value) (p : Int × Int) : Prop := ∃ b t u, v = .ref b /\ b ≠ a /\ IsTup h b #[.int p.1 t, .int p.2 u]
def ZGH (h : Heap) (a : Addr) (vs : List Value) (l : PL) : Prop := Paired (ZIp h a) vs l
theorem ZGH.get {h : Heap} {a : Addr} : ∀ {vs : List Value} {l : PL}, ZGH h a vs l -> ∀ {i : Nat}, i < l.length -> ZIp h a (vs.getD i .none) (l.getD i (0, 0))
 | _, _, .nil, i, hi => absurd hi (Nat.not_lt_zero _)
 | _, _, .cons g t, 0, _ => g
 | _, _, .cons g t, i + 1, hi => by
  have := ZGH.get t (i := i) (by simpa using hi)
  simpa using this
theorem ZGH.katT {h : Heap} {a : Addr} : ∀ {vs : List Value} {l : PL}, ZGH h a vs l -> ∃ fs, KatTups h vs fs /\ fs.length = vs.length /\ ∀ v ∈ fs, ∃ x t, v = .int x t
 | _, _, .nil => ⟨[], .nil, rfl, fun v hv => by cases hv⟩
 | _, _, @Paired.cons _ _ _ v p _ _ ⟨b, t, u, e, _, o, ho, hc, k, hd⟩ r => by
  obtain ⟨fs, h1, h2, h3⟩ := ZGH.katT r
  subst e
  refine ⟨.int p.1 t :: fs, .cons ho hc hd rfl h1, by simp [h2], fun v hv => ?_⟩
  rcases Ul.mp hv with rfl | hv
  ·exact ⟨_, _, rfl⟩
  ·exact h3 v hv
section
variable {prog : Program} {w : World} {A : Around} {E : Value -> Shared -> Prop} {s : Shared}
theorem ZOc {a : Addr} {v v' : Value} {p q : Int × Int} {C : Bool -> Shared -> Prop} (hp : ZIp s.heap a v p) (hq : ZIp s.heap a v' q) (h : C (ltP p q) s) : wpAny (model prog w) A (keyLt' (tuples' true) v v') C E s := by
 obtain ⟨b, t, u, rfl, _, o, ho, hc, k, hd⟩ := hp
 obtain ⟨b', t', u', rfl, _, o', ho', hc', k', hd'⟩ := hq
 refine kat_lt ho hd ho' hd' ?_
 refine kat_cons (wpAny_eqBool_int ?_)
 by_cases e1 : p.1 = q.1
 ·rw [show (p.1 == q.1) = true by simp [e1]]
  refine kat_yes (kat_cons (wpAny_eqBool_int ?_))
  by_cases e2 : p.2 = q.2
  ·rw [show (p.2 == q.2) = true by simp [e2]]
   refine kat_yes (kat_nil ?_)
   have : ltP p q = false := by rw [ZJT]; omega
   rw [this] at h
   exact h
  ·rw [show (p.2 == q.2) = false by simp [e2]]
   refine kat_no (kat_one _ _ (lt_int ?_))
   have : ltP p q = decide (p.2 < q.2) := by simp [ltP, e1]
   rw [this] at h
   exact h
 ·rw [show (p.1 == q.1) = false by simp [e1]]
  refine kat_no (oneLt_int ?_)
  have : ltP p q = decide (p.1 < q.1) := by simp [ltP, e1]
  rw [this] at h
  exact h
theorem ZLK {a : Addr} {vs : List Value} {l : PL} {n : Nat} {P : Fin -> Shared -> Prop} (ho : s.heap.get? a = some (seqObj "list" vs.toArray n))
  (hT : ZGH s.heap a vs l) (hd : l.Nodup) (h64 : vs.length < 64)
  (h : ∀ (ix : List Nat), ix.Perm (UM vs.length) -> (ix.map fun i => l.getD i (0, 0)).Pairwise (fun p q => ltP p q = true) -> P (.done (.ret .none)) { s with heap := sortedHeap s.heap a vs (ix.map fun i => vs.getD i Value.none).toArray }) :
  wpAny (model prog w) A (Builtin.«list.sort» ⟨[.ref a], []⟩) P E s := by
 have hlen : vs.length = l.length := Paired.length hT
 have ha : a < s.heap.objs.size := Uk ho
 rw [list_sort_plain]
 refine Ua (listItems_at ho rfl ?_)
 refine Ua (listUpdate_at ho rfl ?_ (by rw [Uo, sizeLine_eq]; omega) (UO _))
 obtain ⟨e1, ho1⟩ : ∃ e1, (s.heap.update a (Obj.mapSeq fun _ => (#[] : Array Value))).get? a = some (seqObj "list" #[] e1) := ⟨_, get?_update_seq ho fun _ => #[]⟩
 refine Ua (seqEpoch_at ho1 rfl ?_)
 refine Ua (wpAny_newTuple ?_ (by show vs.length <= _; rw [sizeLine_eq]; omega))
 refine Ua (wpAny_newList ?_ (UO _))
 refine UT ?_
 generalize hh : (((s.heap.update a (Obj.mapSeq fun _ => (#[] : Array Value))).push (seqObj "tuple" vs.toArray 0)).push (seqObj "list" #[] 0)) = h3
 have ho3 : h3.get? a = some (seqObj "list" #[] e1) := by rw [<- hh]; exact Ub _ (Ub _ ho1)
 have keep : ∀ b o, b ≠ a -> s.heap.get? b = some o -> h3.get? b = some o := fun b o hb e => by
  rw [<- hh]
  exact Ub _ (Ub _ ((UE _ _ (Ne.symm hb)).trans e))
 have hT3 : ZGH h3 a vs l := Paired.mapP hT fun v p ⟨b, t, u, e, hb, o, hx, r⟩ => ⟨b, t, u, e, hb, o, keep b o hb hx, r⟩
 have done : ∀ (ix : List Nat), ix.Perm (UM vs.length) -> (ix.map fun i => l.getD i (0, 0)).Pairwise (fun p q => ltP p q = true) ->
   P (.done (.ret .none)) { s with heap := h3.update a (Obj.mapSeq fun _ => (ix.map fun i => vs.getD i Value.none).toArray) } := fun ix hp hs => by
  have := h ix hp hs
  unfold sortedHeap at this
  rw [hh] at this
  exact this
 show wpAny (model prog w) A _ P E { s with heap := h3 }
 dsimp only
 by_cases h2 : vs.toArray.size < 2
 ·rw [if_pos h2, if_pos h2]
  refine Ua (Uh ?_)
  have hsmall : (UM vs.length).map (fun i => vs.getD i Value.none) = vs := by
   rw [Uo] at h2
   match vs, h2 with
   | [], _ => rfl
   | [v], _ => rfl
  have hpw : ((UM vs.length).map fun i => l.getD i (0, 0)).Pairwise (fun p q => ltP p q = true) := by
   rw [Uo] at h2
   match vs, h2 with
   | [], _ => exact List.Pairwise.nil
   | [v], _ => exact List.pairwise_singleton _ _
  have D := done (UM vs.length) (List.Perm.refl _) hpw
  rw [hsmall] at D
  show wpAny (model prog w) A ((pure () : StateT SortSt Sem Unit).run (SortSt.mk' general' (vs.toArray.zip vs.toArray) #[] 7 none) >>= _) P E { s with heap := h3 }
  rw [StateT.run_pure]
  refine Ua (Uh ?_)
  dsimp only
  have hout : ((arrOf (SortSt.mk' general' (vs.toArray.zip vs.toArray) #[] 7 none)).map (·.2)) = vs.toArray := by
   show ((vs.toArray.zip vs.toArray).map (·.2)) = vs.toArray
   apply Array.toList_inj.mp
   rw [Array.toList_map, Array.toList_zip]
   exact List.map_snd_zip (Ud _)
  rw [hout]
  refine Ua (seqEpoch_at (s := { s with heap := h3 }) ho3 rfl ?_)
  refine Ua (listUpdate_at (s := { s with heap := h3 }) ho3 rfl ?_ (UO _) (by rw [Uo, sizeLine_eq]; omega))
  simp only [bne_self_eq_false, Vd, if_false]
  exact Uh D
 ·rw [if_neg h2, if_neg h2]
  have h2' : 2 <= vs.length := by rw [Uo] at h2; omega
  obtain ⟨fs, k1, k2, k3⟩ := hT3.katT
  refine Ua (kat_kind (T := .type "int") (s := { s with heap := h3 }) k1 (by omega) (fun v hv => ?_) (by decide) ?_)
  ·obtain ⟨x, t, rfl⟩ := k3 v hv
   exact Looks.of_pure rfl
  have hkk : tuples' (Value.type "int" != Value.type "tuple") = tuples' true := by
   have : (Value.type "int" != Value.type "tuple") = true := by decide
   rw [this]
  rw [hkk]
  let c : Nat -> Nat -> Bool := fun i j => ltP (l.getD i (0, 0)) (l.getD j (0, 0))
  have O : Ord c vs.length := by
   refine ⟨fun i j k h1 h2 => ?_, fun i j h1 => ?_, fun i j hi hj hne h1 => ?_⟩
   ·have h1 := ZGu.mp h1
    have h2 := ZGu.mp h2
    exact ZGu.mpr (by omega)
   ·have h1 := ZGu.mp h1
    exact ZJT.mpr (by omega)
   ·have h1 := ZJT.mp h1
    refine ZGu.mpr ?_
    have hne2 : l.getD i (0, 0) ≠ l.getD j (0, 0) := by
     intro e
     have hi' : i < l.length := by omega
     have hj' : j < l.length := by omega
     have hpw := Vn.mp (UU.mp hd)
     have e1 : l.getD i (0, 0) = l[i] := by simp [hi']
     have e2 : l.getD j (0, 0) = l[j] := by simp [hj']
     rw [e1, e2] at e
     rcases Nat.lt_trichotomy i j with z | z | z
     ·exact hpw i j hi' hj' z e
     ·exact hne z
     ·exact hpw j i hj' hi' z e.symm
    have hne3 : ¬ ((l.getD i (0, 0)).1 = (l.getD j (0, 0)).1 /\ (l.getD i (0, 0)).2 = (l.getD j (0, 0)).2) := fun z => hne2 (Prod.ext z.1 z.2)
    omega
  obtain ⟨S1, S2⟩ := ZU5 O (by omega)
  refine Ua (UG (kat_run (E := E) (vs := vs) (ks := vs) (Q := fun st' s' => s' = { s with heap := h3 } /\ arrOf st' = (evT c (kas_sort vs.length)).map (kas_item (vs.toArray.zip vs.toArray)) /\ failedOf st' = none)
   (G := fun p s' => s' = { s with heap := h3 } /\ p = evT c (kas_sort vs.length)) rfl h2' h64 (fun p st' s' a1 a2 a3 a4 => ⟨a4.1, by rw [a2, a4.2], a3⟩)
   (ZRF (c := c) (n := vs.length) (fun i j C hi hj hC => ?_) _ (ZRG (by omega)) ⟨rfl, rfl⟩)) ?_ fun _ _ e => e)
  ·exact ZOc (hT3.get (by omega)) (hT3.get (by omega)) hC
  ·rintro ⟨⟨⟩, st'⟩ s' ⟨rfl, har, hf⟩
   dsimp only
   rw [kat_snds rfl har]
   have hperm : (evT c (kas_sort vs.length)).toList.Perm (UM vs.length) := S1
   have hsz : (evT c (kas_sort vs.length)).size = vs.length := by have := S1.length_eq; simpa using this
   have hpw : ((evT c (kas_sort vs.length)).toList.map fun i => l.getD i (0, 0)).Pairwise (fun p q => ltP p q = true) := by
    rw [Vv, Vn]
    intro i j hi hj hij
    have := S2 i j hij (by simp at hj; omega)
    have e1 : gt0 (evT c (kas_sort vs.length)) i = (evT c (kas_sort vs.length)).toList[i] := ZK6 (by rw [<- Vp, Uc hi])
    have e2 : gt0 (evT c (kas_sort vs.length)) j = (evT c (kas_sort vs.length)).toList[j] := ZK6 (by rw [<- Vp, Uc hj])
    rw [e1, e2] at this
    exact this
   refine Ua (seqEpoch_at (s := { s with heap := h3 }) ho3 rfl ?_)
   refine Ua (listUpdate_at (s := { s with heap := h3 }) ho3 rfl ?_ (UO _) ?_)
   ·rw [hf]
    simp only [bne_self_eq_false, Vd, if_false]
    exact Uh (done _ hperm hpw)
   ·show (((evT c (kas_sort vs.length)).toList.map fun i => vs.getD i Value.none).toArray).size <= _
    rw [Uo, Uf, UF, hsz, sizeLine_eq]
    omega
end
section
variable {X : Cx} {pins : List (Addr × Obj)} {U : St} {H H' : Hp} {s : Shared} {h' : Heap}
theorem Inv.old (I : Inv X pins U H s) {b : Addr} {o : HO} (e : H b = some o) : b < s.heap.objs.size := by
 by_cases h : b < s.heap.objs.size
 ·exact h
 ·rw [I.hok.fresh (Nat.le_of_not_lt h)] at e
  cases e
theorem Inv.many {t' : Nat} (I : Inv X pins U H s) (k : ∀ b u, s.heap.get? b = some u -> h'.get? b = some u) (hs : ∀ b, b < s.heap.objs.size -> H' b = H b) (new : ∀ b o, s.heap.objs.size <= b -> H' b = some o -> ZEW X.prog X.w H' h' b o) :
  Inv X pins U H' { s with heap := h', toks := t' } := by
 have old : ∀ b o, H b = some o -> H' b = some o := fun b o e => (hs b (I.old e)).trans e
 refine I.un ⟨fun b u q _ _ _ => k b u q, fun b u q _ _ _ => ⟨u.slots, k b u q⟩, fun b u q n _ => (hs b (Uk q)).trans n, fun b u q _ => ⟨u, k b u q⟩, fun b xs q => old _ _ q, fun b u xs q => old _ _ q, fun b ps q => ⟨#[], by rw [old _ _ q]; simp⟩⟩ fun b u e => ?_
 by_cases hb : b < s.heap.objs.size
 ·rw [hs b hb] at e
  exact (I.hok b u e).stay (fun c v _ q => k c v q) (fun c q => old _ _ q) fun c xs q => old _ _ q
 ·exact new b u (Nat.le_of_not_lt hb) e
end
section
variable {X : Cx} {o : Expr} {to : TE} {apos cpos : Pos}
def ZNf (to : TE) : (U : St) -> Hp -> (Addr -> PL -> Hp -> Prop) -> Prop := fun U H R => to U H fun x H1 => ∃ a m, x = .ref a /\ H1 a = some (.dK (ZEF m)) /\ R a m H1
theorem ZPu {pins : List (Addr × Obj)} {s : Shared} {U : St} {H : Hp} {R : Addr -> PL -> Hp -> Prop} (ho : PE X o to) (I : Inv X pins U H s) (h : ZNf to U H R)
  (hbase : attributeBase o "items" X.env (eval o X.env) = eval o X.env) (hline : (apos.endLine == cpos.line) = true) :
  wpAny (model X.prog X.w) X.A (eval (.Call (.Attribute o "items" apos) [] [] cpos) X.env) (fun u s1 => ∃ r a m H1, u = .ref r /\ s1.heap.objs.size = r + 1 /\ s1.heap.IsItemsView r a /\ H1 a = some (.dK (ZEF m)) /\ Inv X pins U H1 s1 /\ R a m H1) X.xe s := by
 refine wpAny_Call_method0_late hbase hline (thn (ho pins s U H _ I h) fun v s1 ⟨x, H1, I1, r1, a, m, ex, hd, q1⟩ => ?_)
 subst ex
 cases r1
 obtain ⟨z, hsm, vs, rel, dd⟩ := ZJ4 I1.hok hd
 refine ⟨"dict", "dict.items", PySem.F.plainAttrs_dict, PySem.F.slot_dict_items, PySem.F.type_dict_items, dd.typeIs, ZOa I1 (ZFI.k (k := Sum.inl 0) hd), ?_⟩
 refine Calls.callWith_builtin rfl (PySem.evalArgs_none ?_)
 refine call_meetsIn PySem.F.slot_dict_items dd.typeIs PySem.F.entry_dict_items (PySem.F.args_dict_items_1 _) (meets_dict_items (ZEP X.prog X.w) a hsm) ⟨⟨vs, dd⟩, ?_⟩
 exact ⟨_, a, m, H1, rfl, by rw [UW], ⟨_, Ug _ rfl, rfl, rfl⟩, hd, I1.kept (t' := s1.toks) fun b o e => Ub _ e, q1⟩
end
theorem ZRH {m : PL} {vs : List (Key × Value)} (rel : KV (ZEF m) vs) : vs.length = m.length /\ ∀ (j : Nat) (k : Key) (x : Value), vs[j]? = some (k, x) -> ∃ (p : Int × Int) (t : Tok), m[j]? = some p /\ k = Sum.inl p.1 /\ x = Value.int p.2 t := by
 have hl : vs.length = m.length := by
  have := rel.length
  simp [ZEF] at this
  omega
 refine ⟨hl, ?_⟩
 induction m generalizing vs with
 | nil => intro j k x e; cases rel; simp at e
 | cons p m ih =>
  cases rel with
  | cons h t =>
   rename_i q vs'
   intro j k x e
   cases j with
   | zero =>
    simp at e
    obtain ⟨h1, h2⟩ := h
    rw [e] at h1 h2
    obtain ⟨t', rfl⟩ := h2
    exact ⟨p, t', rfl, h1.symm, rfl⟩
   | succ j =>
    obtain ⟨p', t', g1, g2, g3⟩ := ih t (by simpa using hl) j k x (by simpa using e)
    exact ⟨p', t', by simpa using g1, g2, g3⟩
theorem ZIq {α β : Type} {F : α -> β -> Prop} : ∀ {l₁ : List α} {l₂ : List β}, l₁.length = l₂.length -> (∀ (i : Nat) a b, l₁[i]? = some a -> l₂[i]? = some b -> F a b) -> Paired F l₁ l₂
 | [], [], _, _ => .nil
 | [], _ :: _, h, _ => by simp at h
 | _ :: _, [], h, _ => by simp at h
 | a :: l₁, b :: l₂, h, f => .cons (f 0 a b rfl rfl) (ZIq (by simpa using h) fun i x y e1 e2 => f (i + 1) x y (by simpa using e1) (by simpa using e2))
theorem ZVg {P : Program} {w : World} {m : PL} {vs : List (Key × Value)} {lo : Addr} {h : Heap} {as : List Addr} (rel : KV (ZEF m) vs) (hl : as.length = vs.length) (g : KdxG (ZEP P w) vs lo h as) (a : Addr) (hna : ∀ b ∈ as, b ≠ a) :
  ZGH h a (as.map Value.ref) m := by
 obtain ⟨hvl, hv⟩ := ZRH rel
 refine ZIq (by rw [Uf]; omega) fun i v p e1 e2 => ?_
 rw [UB] at e1
 cases hb : as[i]? with
 | none => rw [hb] at e1; cases e1
 | some b =>
  rw [hb] at e1
  cases e1
  obtain ⟨key, k, x, g1, g2, g3⟩ := g.pairs i b hb
  obtain ⟨p', t', e3, e4, e5⟩ := hv i k x g1
  rw [e2] at e3
  cases e3
  subst e4 e5
  rcases ZEe (k := Sum.inl p.1) (v := key) g2 with ⟨y, t, z1, z2⟩ | ⟨y, t, z1, z2⟩
  ·cases z1
   subst z2
   exact ⟨b, t, t', rfl, hna b (Uv hb), _, g3, rfl, _, rfl⟩
  ·cases z1
theorem ZMM {P : Program} {w : World} {h : Heap} {a b : Addr} {p : Int × Int} {Hn : Hp} (e : ZIp h a (.ref b) p) : ZEW P w Hn h b (.tup [.int p.1, .int p.2]) := by
 obtain ⟨b', t, u, e1, _, ht⟩ := e
 cases e1
 exact ⟨⟨by show 2 <= sizeLine; decide, fun z => absurd rfl (z p.1)⟩, [.int p.1 t, .int p.2 u], .cons ⟨t, rfl⟩ (.cons ⟨u, rfl⟩ .nil), ht⟩
def ZJU (H : Hp) (as : List Addr) (ps : PL) (l : Addr) (vs : List V) (n : Nat) : Hp := fun b => if b < n then H b else if b = l then some (.lst vs) else ((as.zip ps).lookup b).map fun p => .tup [.int p.1, .int p.2]
theorem ZPv {as : List Addr} {ps : PL} (hn : as.Nodup) : ∀ {i : Nat} {b : Addr} {p : Int × Int}, as[i]? = some b -> ps[i]? = some p -> (as.zip ps).lookup b = some p := by
 induction as generalizing ps with
 | nil => intro i b p e; simp at e
 | cons a as ih =>
  intro i b p e1 e2
  rw [List.nodup_cons] at hn
  cases ps with
  | nil => simp at e2
  | cons q ps =>
   cases i with
   | zero => simp at e1 e2; subst e1 e2; simp [Ve]
   | succ i =>
    have e1 : as[i]? = some b := by simpa using e1
    have hb : b ≠ a := fun z => hn.1 (z ▸ Uv e1)
    have hb' : (b == a) = false := by simpa using hb
    have := ih hn.2 (ps := ps) e1 (by simpa using e2)
    simpa [Ve, hb'] using this
theorem ZLn {as : List Addr} {ps : PL} : ∀ {b : Addr} {p : Int × Int}, (as.zip ps).lookup b = some p -> ∃ i : Nat, as[i]? = some b /\ ps[i]? = some p := by
 induction as generalizing ps with
 | nil => intro b p e; simp [Ve] at e
 | cons a as ih =>
  intro b p e
  cases ps with
  | nil => simp [Ve] at e
  | cons q ps =>
   by_cases hb : b = a
   ·subst hb
    simp [Ve] at e
    subst e
    exact ⟨0, rfl, rfl⟩
   ·have hb' : (b == a) = false := by simpa using hb
    have e : (as.zip ps).lookup b = some p := by simpa [Ve, hb'] using e
    obtain ⟨i, h1, h2⟩ := ih e
    exact ⟨i + 1, by simpa using h1, by simpa using h2⟩
theorem ZRI {α : Type} {l : List α} {d : α} {ix : List Nat} (h : ix.Perm (UM l.length)) : (ix.map fun i => l.getD i d).Perm l := by
 have e : (UM l.length).map (fun i => l.getD i d) = l := by
  apply List.ext_getElem
  ·simp
  ·intro i h1 h2
   simp at h1 ⊢
   rw [Uc h1]
   rfl
 have := h.map fun i => l.getD i d
 rw [e] at this
 exact this
def ZJV : Addr -> PL -> Hp -> VK -> Prop := fun a m H Q => m.Nodup /\ m.length < 64 /\
 ∀ (l : Addr) (vs : List V) (cv : PL) (H' : Hp), H l = none -> H' l = some (.lst vs) -> ZDv H' vs cv -> cv.Perm m -> cv.Pairwise (fun p q => ltP p q = true) -> ZDq H H' -> Q (.ref l) H'
section
variable {X : Cx} {o : Expr} {to : TE} {apos cpos pos p : Pos}
theorem ZNg {pins : List (Addr × Obj)} {s : Shared} {U : St} {H : Hp} {Q : VK} {a r : Addr} {m : PL} (hc : X.calm = true) (I : Inv X pins U H s) (hd : H a = some (.dK (ZEF m))) (hr : s.heap.objs.size = r + 1) (hv : s.heap.IsItemsView r a) (h : ZJV a m H Q) :
  wpAny (model X.prog X.w) X.A (call (.builtin "sorted") [.ref r]) (EP X pins U Q) X.xe s := by
 obtain ⟨hnd, h64, q⟩ := h
 obtain ⟨z, hsm, kvs, rel, dd⟩ := ZJ4 I.hok hd
 obtain ⟨ep, dd⟩ := dd.dictAt
 obtain ⟨hkl, _⟩ := ZRH rel
 refine Calls.call_function_entry kind_sorted plain_sorted entry_sorted (args_sorted1 _) ?_
 unfold Builtin.«sorted»
 refine Ua (m := checkCount "sorted" 1 1 _) (Uh ?_)
 refine Ua (kdx_collect (A := X.A.in1) (knd := ZEP X.prog X.w) (I.ok.hd hc) hv dd (by rw [sizeLine_eq]; omega) fun h1 tk as hk hl hG => ?_)
 refine Ua (wpAny_newList ?_ (by rw [Uf, sizeLine_eq]; omega))
 have hoL : (h1.push (seqObj "list" (as.map Value.ref).toArray 0)).get? h1.objs.size = some (seqObj "list" (as.map Value.ref).toArray 0) := Ug _ rfl
 have hT : ZGH (h1.push (seqObj "list" (as.map Value.ref).toArray 0)) h1.objs.size (as.map Value.ref) m := by
  have := ZVg rel hl hG h1.objs.size fun b hb => Uq (hG.there hb)
  exact Paired.mapP this fun v p ⟨b, t, u, e, hb, ot, ho, rr⟩ => ⟨b, t, u, e, hb, ot, Ub _ ho, rr⟩
 show wpAny _ _ _ _ _ { s with heap := h1.push (seqObj "list" (as.map Value.ref).toArray 0), toks := tk }
 refine Ua (UT (wpAny_call_entry slot_list_sort ⟨_, hoL, rfl⟩ entry_list_sort (ZLK (s := { s with heap := h1.push (seqObj "list" (as.map Value.ref).toArray 0), toks := tk }) hoL hT hnd (by rw [Uf]; omega) fun ix hp hs => ⟨_, rfl, ?_⟩) (args_list_sort _)))
 refine Uh ⟨_, rfl, ?_⟩
 generalize hout : (ix.map fun i => (as.map Value.ref).getD i Value.none).toArray = out
 obtain ⟨e, he⟩ := sortedHeap_at (out := out) hoL
 generalize hh2 : sortedHeap (h1.push (seqObj "list" (as.map Value.ref).toArray 0)) h1.objs.size (as.map Value.ref) out = h2 at he
 have hsz1 : s.heap.objs.size <= h1.objs.size := by
  obtain ⟨ov, hov, _⟩ := id hv
  rw [hr]
  exact Uk (hk r ov hov)
 have hkeep : ∀ b u, s.heap.get? b = some u -> h2.get? b = some u := fun b u e => by
  rw [<- hh2]
  have hb := Uk (hk _ _ e)
  exact (sortedHeap_old (Uq hb) (by rw [UW]; exact Vf hb)).trans (Ub _ (hk _ _ e))
 have hasn : as.Nodup := UU.mpr (hG.rise.imp fun hab e => Uq hab e)
 have hlm : as.length = m.length := by omega
 have hout2 : out.toList = (ix.map fun i => as.getD i 0).map Value.ref := by
  rw [<- hout, UV]
  refine UK fun i hi => ?_
  have hi : i < as.length := by
   have := List.mem_range.mp (hp.mem_iff.mp hi)
   simpa using this
  show (as.map Value.ref).getD i Value.none = Value.ref (as.getD i 0)
  simp [hi]
 have hTm : ∀ (i : Nat) b p, as[i]? = some b -> m[i]? = some p -> ZIp h2 0 (.ref b) p \/ ZIp h2 h1.objs.size (.ref b) p := fun i b p e1 e2 => by
  have hi : i < m.length := (Ui.mp e2).1
  have g := hT.get (i := i) hi
  have e3 : (as.map Value.ref).getD i Value.none = .ref b := by simp [e1]
  have e4 : m.getD i (0, 0) = p := by simp [e2]
  rw [e3, e4] at g
  obtain ⟨b', t, u, ee, hb, ot, ho, rr⟩ := g
  refine .inr ⟨b', t, u, ee, hb, ot, ?_, rr⟩
  rw [<- hh2]
  exact (sortedHeap_old hb (Uk ho)).trans ho
 have hat : ∀ (i : Nat) b p, as[i]? = some b -> m[i]? = some p -> ZJU H as m h1.objs.size ((ix.map fun i => as.getD i 0).map V.ref) s.heap.objs.size b = some (.tup [.int p.1, .int p.2]) := fun i b p e1 e2 => by
  have hbl := hG.above b (Uv e1)
  have hbt := hG.there (Uv e1)
  unfold ZJU
  rw [if_neg (Nat.not_lt.mpr (Nat.le_of_lt hbl)), if_neg (Uq hbt), ZPv hasn e1 e2]
  rfl
 have hil : ZJU H as m h1.objs.size ((ix.map fun i => as.getD i 0).map V.ref) s.heap.objs.size h1.objs.size = some (.lst ((ix.map fun i => as.getD i 0).map V.ref)) := by
  unfold ZJU
  rw [if_neg (Nat.not_lt.mpr hsz1), if_pos rfl]
 have hixl : ix.length = as.length := by have := hp.length_eq; simpa using this
 have hSame : ZDq H (ZJU H as m h1.objs.size ((ix.map fun i => as.getD i 0).map V.ref) s.heap.objs.size) := fun b u e => by
  unfold ZJU
  rw [if_pos (I.old e)]
  exact e
 refine ⟨.ref h1.objs.size, _, I.many (t' := tk) (h' := h2) hkeep (fun b hb => by unfold ZJU; rw [if_pos hb]) (fun b ob hb e => ?_), rfl, q h1.objs.size _ (ix.map fun i => m.getD i (0, 0)) _ (I.hok.fresh hsz1) hil ?_ (ZRI (by rw [<- hlm]; simpa using hp)) hs hSame⟩
 ·by_cases hbl : b = h1.objs.size
  ·subst hbl
   rw [hil] at e
   cases e
   refine ⟨by rw [Uf, Uf, hixl, sizeLine_eq]; omega, out.toList, _, ?_, he⟩
   rw [hout2]
   clear hout2 hil hat hSame
   generalize (ix.map fun i => as.getD i 0) = bs
   induction bs with
   | nil => exact .nil
   | cons b bs ih => exact .cons rfl ih
  ·unfold ZJU at e
   rw [if_neg (Nat.not_lt.mpr hb), if_neg hbl] at e
   cases hlk : (as.zip m).lookup b with
   | none => rw [hlk] at e; cases e
   | some p =>
    rw [hlk] at e
    cases e
    obtain ⟨i, e1, e2⟩ := ZLn hlk
    rcases hTm i b p e1 e2 with g | g
    ·exact ZMM g
    ·exact ZMM g
 ·refine ZIq (by simp) fun i v p e1 e2 => ?_
  rw [UB, UB] at e1
  rw [UB] at e2
  cases hi : ix[i]? with
  | none => rw [hi] at e1; cases e1
  | some j =>
   rw [hi] at e1 e2
   cases e1
   cases e2
   have hj : j < as.length := by
    have := List.mem_range.mp (hp.mem_iff.mp (Uv hi))
    simpa using this
   have hj2 : j < m.length := by omega
   refine ⟨as.getD j 0, rfl, hat j _ _ ?_ ?_⟩
   ·simp [hj]
   ·simp [hj2]
def ZMN (to : TE) : TE := fun U H Q => ZNf to U H fun a m H1 => ZJV a m H1 Q
theorem ZOd (hc : X.calm = true) (hg : Gl X "sorted") (hm : X.mg "sorted" = none) (ho : QE X o to)
  (hbase : attributeBase o "items" X.env (eval o X.env) = eval o X.env := by rfl) (hline : (apos.endLine == cpos.line) = true := by rfl) :
  QE X (.Call (.Name "sorted" p) [.Call (.Attribute o "items" apos) [] [] cpos] [] pos) (ZMN to) := by
 refine ⟨?_⟩
 intro pins s U H Q I h
 refine wpAny_Call_Name_kw (ZGY I hg hm ZGU ?_ (by decide) (by decide))
 refine PyProof.Rows.callWith_builtin1 ?_ rfl rfl
 show wpAny _ _ (spliced ((false, eval (.Call (.Attribute o "items" apos) [] [] cpos) X.env) :: backTo pos (starEach [] X.env))) _ _ s
 refine Calls.spliced_cons (thn (ZPu ho.h I h hbase hline) fun u s1 ⟨r, a, m, H1, eu, hsz, hv, hd, I1, q⟩ => ?_)
 subst eu
 refine Calls.spliced_nil ?_
 exact ZNg hc I1 hd hsz hv q
end
section
variable {U : St} {H : Hp} {Q : VK} {to : TE}
def ZRJ (x : V) (H : Hp) (Q : VK) : Prop := ∃ a m, x = .ref a /\ H a = some (.dK (ZEF m)) /\ ZJV a m H Q
theorem ZNh (h : to U H fun x H1 => ZRJ x H1 Q) : ZMN to U H Q := h
theorem ZVh {cv : PL} (h : cv.Pairwise fun p q => ltP p q = true) (hn : (cv.map (·.1)).Nodup) : Asc cv := by
 rw [UU, Vv] at hn
 exact (h.and hn).imp fun ⟨a, b⟩ => by
  have := ZGu.mp a
  omega
theorem ZMk {m : PL} (h : (m.map (·.1)).Nodup) : m.Nodup := by
 rw [UU, Vv] at h
 exact UU.mpr (h.imp fun hab e => hab (by rw [e]))
theorem ZOe {p : Addr} {m : PL} (h1 : H p = some (.dK (ZEF m))) (hn : (m.map (·.1)).Nodup) (hz : m.length < 64)
  (h : ∀ l H2 cv, H l = none -> PrL H2 l cv -> ZLi m cv -> cv.length = m.length -> ZDq H H2 -> Q (.ref l) H2) : ZRJ (.ref p) H Q := by
 refine ⟨p, m, rfl, h1, ZMk hn, hz, fun l vs cv H2 n2 f2 hP hperm hpw S2 => h l H2 cv n2 ⟨vs, f2, hP⟩ ⟨?_, fun t x => ?_⟩ hperm.length_eq S2⟩
 ·exact ZVh hpw ((hperm.map (·.1)).nodup_iff.mpr hn)
 ·rw [hperm.mem_iff, ZEj hn]
end
def SIt (b : Bool) (h : Heap) (i l : Addr) (k : Nat) : Prop := if b then h.IsListIter i l k else h.IsTupleIter i l k
def SOb (b : Bool) (h : Heap) (l : Addr) (xs : Array Value) : Prop := if b then h.IsList l xs else h.IsTuple l xs
theorem SIt.at {b : Bool} {h h' : Heap} {i l : Addr} {k : Nat} (x : SIt b h i l k) (e : ∀ o, h.get? i = some o -> h'.get? i = some o) : SIt b h' i l k := by
 cases b with
 | true => obtain ⟨o, ho, r⟩ := (show h.IsListIter i l k from x); exact ⟨o, e _ ho, r⟩
 | false => obtain ⟨o, ho, r⟩ := (show h.IsTupleIter i l k from x); exact ⟨o, e _ ho, r⟩
theorem SOb.at {b : Bool} {h h' : Heap} {l : Addr} {xs : Array Value} (x : SOb b h l xs) (e : ∀ o, h.get? l = some o -> h'.get? l = some o) : SOb b h' l xs := by
 cases b with
 | true => obtain ⟨o, ho, r⟩ := (show h.IsList l xs from x); exact ⟨o, e _ ho, r⟩
 | false => obtain ⟨o, ho, r⟩ := (show h.IsTuple l xs from x); exact ⟨o, e _ ho, r⟩
theorem SIt.lt {b : Bool} {h : Heap} {i l : Addr} {k : Nat} (x : SIt b h i l k) : i < h.objs.size := by
 cases b with
 | true => obtain ⟨o, ho, r⟩ := (show h.IsListIter i l k from x); exact Uk ho
 | false => obtain ⟨o, ho, r⟩ := (show h.IsTupleIter i l k from x); exact Uk ho
theorem SOb.lt {b : Bool} {h : Heap} {l : Addr} {xs : Array Value} (x : SOb b h l xs) : l < h.objs.size := by
 cases b with
 | true => obtain ⟨o, ho, r⟩ := (show h.IsList l xs from x); exact Uk ho
 | false => obtain ⟨o, ho, r⟩ := (show h.IsTuple l xs from x); exact Uk ho
section
variable {prog : Program} {w : World} {A : Around} {E : Value -> Shared -> Prop} {s : Shared}
theorem ZIC {b : Bool} {i l : Addr} {k : Nat} {xs : Array Value} {x : Value} {Q : Value -> Shared -> Prop} (hit : SIt b s.heap i l k) (hl : SOb b s.heap l xs) (hx : xs[k]? = some x)
  (hQ : ∀ h', SIt b h' i l (k + 1) -> Heap.SameBut i s.heap h' -> Q x { s with heap := h' }) : wpAny (model prog w) A (Builtin.SmallTypes.nextOf (.ref i)) Q E s := by
 cases b with
 | true => exact wpAny_nextOf_list_item (show s.heap.IsListIter i l k from hit) (show s.heap.IsList l xs from hl) hx hQ
 | false =>
  have hit' : s.heap.IsTupleIter i l k := hit
  obtain ⟨o, ho, hc, hd⟩ := id hit'
  obtain ⟨ol, hol, _, nl, hdl⟩ := (show s.heap.IsTuple l xs from hl)
  have hT : s.TypeIs (.ref i) "tuple_iterator" := ⟨o, ho, hc⟩
  unfold Builtin.SmallTypes.nextOf
  refine Ua (wpAny_callSpecial?_slot (name := Str.ofString "__next__") hT slot_tupleiter_next (wpAny_call_entry slot_tupleiter_next hT entry_tupleiter_next ?_ (args_tupleiter_next _)))
  show wpAny _ _ (field (.ref i) 0 >>= _) _ _ s
  refine Ua (Vc ho hd (x := .ref l) rfl ?_)
  show wpAny _ _ (if (Value.ref l == Value.none) = true then _ else _) _ _ s
  rw [if_neg (show ¬ ((Value.ref l == Value.none) = true) from Ut)]
  show wpAny _ _ (field (.ref i) 1 >>= _) _ _ s
  refine Ua (Vc ho hd (x := .int k 0) rfl ?_)
  show wpAny _ _ (seqItems? (.ref l) >>= _) _ _ s
  refine Ua (wpAny_seqItems hol hdl ?_)
  simp only [Vx, hx]
  refine Ua (wpAny_setField ho hd (by simp) (Uh ⟨x, rfl, Uh (hQ _ ?_ (Heap.SameBut.update ..))⟩))
  exact ⟨_, Heap.get?_update_self _ ho (Obj.isFreed_of_fields (Obj.data_mapFields hd _)), (Obj.cls_mapFields ..).trans hc, by rw [Obj.data_mapFields hd]; simp [rawInt]⟩
theorem ZLL {b : Bool} {i l : Addr} {k : Nat} {xs : Array Value} {Q : Value -> Shared -> Prop} (hh : A.handled = none) (hit : SIt b s.heap i l k) (hl : SOb b s.heap l xs) (hx : xs[k]? = none)
  (hE : ∀ h' e, Heap.ExtBut i s.heap h' -> (∃ o, h'.get? e = some o /\ o.cls = .type "StopIteration") -> E (.ref e) { s with heap := h' }) : wpAny (model prog w) A (Builtin.SmallTypes.nextOf (.ref i)) Q E s := by
 cases b with
 | true => exact wpAny_nextOf_list_end hh (show s.heap.IsListIter i l k from hit) (show s.heap.IsList l xs from hl) hx hE
 | false =>
  have hit' : s.heap.IsTupleIter i l k := hit
  obtain ⟨o, ho, hc, hd⟩ := id hit'
  obtain ⟨ol, hol, _, nl, hdl⟩ := (show s.heap.IsTuple l xs from hl)
  have hT : s.TypeIs (.ref i) "tuple_iterator" := ⟨o, ho, hc⟩
  unfold Builtin.SmallTypes.nextOf
  refine Ua (wpAny_callSpecial?_slot (name := Str.ofString "__next__") hT slot_tupleiter_next (wpAny_call_entry slot_tupleiter_next hT entry_tupleiter_next ?_ (args_tupleiter_next _)))
  show wpAny _ _ (field (.ref i) 0 >>= _) _ _ s
  refine Ua (Vc ho hd (x := .ref l) rfl ?_)
  show wpAny _ _ (if (Value.ref l == Value.none) = true then _ else _) _ _ s
  rw [if_neg (show ¬ ((Value.ref l == Value.none) = true) from Ut)]
  show wpAny _ _ (field (.ref i) 1 >>= _) _ _ s
  refine Ua (Vc ho hd (x := .int k 0) rfl ?_)
  show wpAny _ _ (seqItems? (.ref l) >>= _) _ _ s
  refine Ua (wpAny_seqItems hol hdl ?_)
  simp only [Vx, hx]
  refine Ua (wpAny_rule (Ua (wpAny_setField ho hd (by simp) ?_)))
  show wpAny _ _ (newExc (.type "StopIteration") [] >>= _) _ _ _
  refine Ua ?_
  simp only [newExc, newTuple]
  refine Ua (wpAny_newObj_type ?_ (by size_fits))
  refine Ua (m := firstArgMember _ _) (wpAny_of_eq (a := Value.none) (by first | rfl | (simp only [firstArgMember]; rfl)) ?_)
  refine wpAny_newObj_type ?_ (by size_fits)
  simp only [raiseNew]
  refine Ua (wpAny_handled ?_)
  first | rw [show A.in1.handled = none from hh] | rw [hh]
  refine Ua (Uh (wpAny_throw ?_))
  exact hE _ _ (((Heap.SameBut.update ..).extBut.push _).push _) ⟨_, Ug _ rfl, rfl⟩
structure Zp (b1 b2 : Bool) (h : Heap) (z TI TO i1 i2 l1 l2 : Addr) (k : Nat) (xs ys : Array Value) (f0 : Value) : Prop where
 hz : IsZip h z TI TO f0
 hTI : IsPair h TI (.ref i1) (.ref i2)
 hTO : ∃ a b, IsPair h TO a b
 h1 : SIt b1 h i1 l1 k
 h2 : SIt b2 h i2 l2 k
 hl1 : SOb b1 h l1 xs
 hl2 : SOb b2 h l2 ys
theorem ZTW {b1 b2 : Bool} {z TI TO i1 i2 l1 l2 : Addr} {k : Nat} {xs ys : Array Value} {x y : Value} {Q : Option Value -> Shared -> Prop} (D : ZipApart z TI TO i1 i2 l1 l2) (Z : Zp b1 b2 s.heap z TI TO i1 i2 l1 l2 k xs ys .none)
  (hx : xs[k]? = some x) (hy : ys[k]? = some y)
  (hQ : ∀ h', Zp b1 b2 h' z TI TO i1 i2 l1 l2 (k + 1) xs ys (rawInt s.heap.objs.size) -> IsPair h' s.heap.objs.size x y ->
   (∀ c o, c ≠ z -> c ≠ TO -> c ≠ i1 -> c ≠ i2 -> s.heap.get? c = some o -> h'.get? c = some o) -> Q (some (.ref s.heap.objs.size)) { s with heap := h' }) :
  wpAny (model prog w) A (pyNext (.ref z)) Q E s := by
 obtain ⟨hz, hTI, ⟨a, b, hTO⟩, h1, h2, hl1, hl2⟩ := Z
 have hT : s.TypeIs (.ref z) "zip" := ⟨_, hz, rfl⟩
 unfold pyNext
 refine Ua (wpAny_attempt (wpAny_callSpecial?_slot (name := Str.ofString "__next__") hT F.slot_zip_next (wpAny_call_entry F.slot_zip_next hT F.entry_zip_next ?_ (F.args_zip_next_1 _))))
 show wpAny _ _ (field (.ref z) 2 >>= _) _ _ _
 refine Ua (Vc hz rfl (x := .bool false) rfl ?_)
 show wpAny _ _ (field (.ref z) 3 >>= _) _ _ _
 refine Ua (Vc hz rfl (x := .ref TI) rfl ?_)
 refine Ua (wpAny_seqItems hTI rfl ?_)
 show wpAny _ _ (Builtin.SmallTypes.ownedTupleIsFree (.ref z) >>= _) _ _ _
 refine Ua ?_
 unfold Builtin.SmallTypes.ownedTupleIsFree
 refine Ua (Vc hz rfl (x := .none) rfl (Uh ?_))
 simp only [if_true]
 refine Ua (wpAny_rule ?_)
 refine Ua (Vc hz rfl (x := .ref TO) rfl ?_)
 refine Ua (wpAny_setField_rec hz (by simp) fun g1 z1 s1 => ?_)
 replace z1 : IsZip g1 z TI TO .ellipsis := z1
 refine Ua ?_
 simp only [List.zipIdx_cons, List.zipIdx_nil, List.forIn_cons, List.forIn_nil]
 refine Ua (Ua (wpAny_onRaise ?_))
 show wpAny _ _ (Builtin.SmallTypes.nextOf (.ref i1) >>= _) _ _ _
 refine Ua (ZIC (h1.at fun o e => s1.extBut _ _ D.i1z e) (hl1.at fun o e => s1.extBut _ _ D.l1z e) hx fun g2 j1 s2 => Uh ?_)
 have tO2 : IsPair g2 TO a b := s2.extBut _ _ D.TOi1 (s1.extBut _ _ D.TOz hTO)
 refine Ua (wpAny_seqItems tO2 rfl ?_)
 refine Ua (wpAny_updateSeq_pair tO2 fun g3 tO3 s3 => ?_)
 replace tO3 : IsPair g3 TO x b := tO3
 refine Ua (wpAny_letGo (Uh ?_))
 refine Ua (Ua (wpAny_onRaise ?_))
 show wpAny _ _ (Builtin.SmallTypes.nextOf (.ref i2) >>= _) _ _ _
 refine Ua (ZIC (((h2.at fun o e => s1.extBut _ _ D.i2z e).at fun o e => s2.extBut _ _ D.i12.symm e).at fun o e => s3.extBut _ _ D.TOi2.symm e)
  (((hl2.at fun o e => s1.extBut _ _ D.l2z e).at fun o e => s2.extBut _ _ D.l2i1 e).at fun o e => s3.extBut _ _ D.l2TO e) hy fun g4 j2 s4 => Uh ?_)
 have tO4 : IsPair g4 TO x b := s4.extBut _ _ D.TOi2 tO3
 refine Ua (wpAny_seqItems tO4 rfl ?_)
 refine Ua (wpAny_updateSeq_pair tO4 fun g5 tO5 s5 => ?_)
 replace tO5 : IsPair g5 TO x y := tO5
 refine Ua (wpAny_letGo (Uh (Uh ?_)))
 refine Ua (wpAny_seqItems tO5 rfl ?_)
 refine Ua (wpAny_newTuple ?_)
 have hsz : g5.objs.size = s.heap.objs.size := by rw [s5.1, s4.1, s3.1, s2.1, s1.1]
 have z5 : IsZip g5 z TI TO .ellipsis := s5.extBut _ _ D.TOz.symm (s4.extBut _ _ D.i2z.symm (s3.extBut _ _ D.TOz.symm (s2.extBut _ _ D.i1z.symm z1)))
 have k5 : ∀ c o, c ≠ z -> c ≠ TO -> c ≠ i1 -> c ≠ i2 -> s.heap.get? c = some o -> g5.get? c = some o := fun c o c1 c2 c3 c4 e =>
  s5.extBut _ _ c2 (s4.extBut _ _ c4 (s3.extBut _ _ c2 (s2.extBut _ _ c3 (s1.extBut _ _ c1 e))))
 have j15 : SIt b1 g5 i1 l1 (k + 1) := ((j1.at fun o e => s3.extBut _ _ D.TOi1.symm e).at fun o e => s4.extBut _ _ D.i12 e).at fun o e => s5.extBut _ _ D.TOi1.symm e
 have j25 : SIt b2 g5 i2 l2 (k + 1) := j2.at fun o e => s5.extBut _ _ D.TOi2.symm e
 have tI5 : IsPair g5 TI (.ref i1) (.ref i2) := k5 _ _ D.TIz D.TITO D.TIi1 D.TIi2 hTI
 have q15 : SOb b1 g5 l1 xs := hl1.at fun o e => k5 _ o D.l1z D.l1TO D.l1i1 D.l1i2 e
 have q25 : SOb b2 g5 l2 ys := hl2.at fun o e => k5 _ o D.l2z D.l2TO D.l2i1 D.l2i2 e
 have hzlt : z < g5.objs.size := Uk z5
 show wpAny _ _ (Builtin.SmallTypes.ownedTupleHandOut (.ref z) (.ref g5.objs.size) >>= _) _ _ _
 refine Ua ?_
 unfold Builtin.SmallTypes.ownedTupleHandOut
 have z6 : IsZip (g5.push { cls := .type "tuple", data := .seq #[x, y] }) z TI TO .ellipsis := Ub _ z5
 refine Ua (wpAny_setField_rec z6 (by simp) fun g7 z7 s7 => ?_)
 replace z7 : IsZip g7 z TI TO (rawInt g5.objs.size) := z7
 refine wpAny_setField_rec z7 (by simp) fun g8 z8 s8 => ?_
 replace z8 : IsZip g8 z TI TO (rawInt g5.objs.size) := z8
 have up : ∀ c o, c ≠ z -> g5.get? c = some o -> g8.get? c = some o := fun c o c1 e => s8.extBut _ _ c1 (s7.extBut _ _ c1 (Ub _ e))
 have t8 : IsPair g8 g5.objs.size x y := s8.extBut _ _ (Nat.ne_of_gt hzlt) (s7.extBut _ _ (Nat.ne_of_gt hzlt) (Ug _ rfl))
 rw [hsz] at z8 t8
 refine Uh ⟨_, rfl, Uh ?_⟩
 show Q (some (.ref g5.objs.size)) _
 rw [hsz]
 exact hQ g8 ⟨z8, up _ _ D.TIz tI5, ⟨x, y, up _ _ D.TOz tO5⟩, j15.at fun o e => up _ o D.i1z e, j25.at fun o e => up _ o D.i2z e, q15.at fun o e => up _ o D.l1z e, q25.at fun o e => up _ o D.l2z e⟩ t8 fun c o c1 c2 c3 c4 e => up c o c1 (k5 c o c1 c2 c3 c4 e)
theorem ZVi {b1 b2 : Bool} {z TI TO i1 i2 l1 l2 : Addr} {k : Nat} {xs ys : Array Value} {Q : Option Value -> Shared -> Prop} (hh : A.handled = none) (D : ZipApart z TI TO i1 i2 l1 l2) (Z : Zp b1 b2 s.heap z TI TO i1 i2 l1 l2 k xs ys .none)
  (hend : xs[k]? = none \/ ys[k]? = none) (hQ : ∀ h', (∀ c o, c ≠ z -> c ≠ TO -> c ≠ i1 -> c ≠ i2 -> s.heap.get? c = some o -> h'.get? c = some o) -> Q none { s with heap := h' }) : wpAny (model prog w) A (pyNext (.ref z)) Q E s := by
 obtain ⟨hz, hTI, ⟨a, b, hTO⟩, h1, h2, hl1, hl2⟩ := Z
 have hT : s.TypeIs (.ref z) "zip" := ⟨_, hz, rfl⟩
 unfold pyNext
 refine Ua (wpAny_attempt (wpAny_callSpecial?_slot (name := Str.ofString "__next__") hT F.slot_zip_next (wpAny_call_entry F.slot_zip_next hT F.entry_zip_next ?_ (F.args_zip_next_1 _))))
 have out : ∀ h' e, (∀ c o, c ≠ z -> c ≠ TO -> c ≠ i1 -> c ≠ i2 -> s.heap.get? c = some o -> h'.get? c = some o) -> (∃ o, h'.get? e = some o /\ o.cls = .type "StopIteration") -> wpAny (model prog w) A (do
   if (<- isInstance (.ref e) (.type "StopIteration")) = true then pure none else throw (.ref e)) Q E { s with heap := h' } := fun h' e hk ⟨o, ho, hc⟩ => by
  refine Ua (wpAny_isInstance (T := "StopIteration") (b := true) ⟨o, ho, hc⟩ isSubtype_stop ?_)
  exact Uh (hQ _ hk)
 show wpAny _ _ (field (.ref z) 2 >>= _) _ _ _
 refine Ua (Vc hz rfl (x := .bool false) rfl ?_)
 show wpAny _ _ (field (.ref z) 3 >>= _) _ _ _
 refine Ua (Vc hz rfl (x := .ref TI) rfl ?_)
 refine Ua (wpAny_seqItems hTI rfl ?_)
 show wpAny _ _ (Builtin.SmallTypes.ownedTupleIsFree (.ref z) >>= _) _ _ _
 refine Ua ?_
 unfold Builtin.SmallTypes.ownedTupleIsFree
 refine Ua (Vc hz rfl (x := .none) rfl (Uh ?_))
 simp only [if_true]
 refine Ua (wpAny_rule ?_)
 refine Ua (Vc hz rfl (x := .ref TO) rfl ?_)
 refine Ua (wpAny_setField_rec hz (by simp) fun g1 z1 s1 => ?_)
 replace z1 : IsZip g1 z TI TO .ellipsis := z1
 refine Ua ?_
 simp only [List.zipIdx_cons, List.zipIdx_nil, List.forIn_cons, List.forIn_nil]
 refine Ua (Ua (wpAny_onRaise ?_))
 show wpAny _ _ (Builtin.SmallTypes.nextOf (.ref i1) >>= _) _ _ _
 cases hx : xs[k]? with
 | none =>
  refine Ua (ZLL hh (h1.at fun o e => s1.extBut _ _ D.i1z e) (hl1.at fun o e => s1.extBut _ _ D.l1z e) hx fun g2 e s2 he => ?_)
  obtain ⟨oe, hoe, hce⟩ := he
  have z2 : IsZip g2 z TI TO .ellipsis := s2 _ _ D.i1z.symm z1
  have hez : e ≠ z := fun q => by subst q; rw [z2] at hoe; cases hoe; simp at hce
  exact wpAny_setField_rec z2 (by simp) fun g3 _ s3 => out g3 e (fun c o c1 _ c3 _ q => s3.extBut _ _ c1 (s2 _ _ c3 (s1.extBut _ _ c1 q))) ⟨oe, s3.extBut _ _ hez hoe, hce⟩
 | some x =>
  have hy : ys[k]? = none := by rcases hend with h | h; rw [hx] at h; cases h; exact h
  refine Ua (ZIC (h1.at fun o e => s1.extBut _ _ D.i1z e) (hl1.at fun o e => s1.extBut _ _ D.l1z e) hx fun g2 j1 s2 => Uh ?_)
  have tO2 : IsPair g2 TO a b := s2.extBut _ _ D.TOi1 (s1.extBut _ _ D.TOz hTO)
  refine Ua (wpAny_seqItems tO2 rfl ?_)
  refine Ua (wpAny_updateSeq_pair tO2 fun g3 tO3 s3 => ?_)
  refine Ua (wpAny_letGo (Uh ?_))
  refine Ua (Ua (wpAny_onRaise ?_))
  show wpAny _ _ (Builtin.SmallTypes.nextOf (.ref i2) >>= _) _ _ _
  refine Ua (ZLL hh (((h2.at fun o e => s1.extBut _ _ D.i2z e).at fun o e => s2.extBut _ _ D.i12.symm e).at fun o e => s3.extBut _ _ D.TOi2.symm e)
   (((hl2.at fun o e => s1.extBut _ _ D.l2z e).at fun o e => s2.extBut _ _ D.l2i1 e).at fun o e => s3.extBut _ _ D.l2TO e) hy fun g4 e s4 he => ?_)
  obtain ⟨oe, hoe, hce⟩ := he
  have z4 : IsZip g4 z TI TO .ellipsis := s4 _ _ D.i2z.symm (s3.extBut _ _ D.TOz.symm (s2.extBut _ _ D.i1z.symm z1))
  have hez : e ≠ z := fun q => by subst q; rw [z4] at hoe; cases hoe; simp at hce
  exact wpAny_setField_rec z4 (by simp) fun g5 _ s5 => out g5 e (fun c o c1 c2 c3 c4 q => s5.extBut _ _ c1 (s4 _ _ c4 (s3.extBut _ _ c2 (s2.extBut _ _ c3 (s1.extBut _ _ c1 q))))) ⟨oe, s5.extBut _ _ hez hoe, hce⟩
end
section
variable {X : Cx} {pins : List (Addr × Obj)} {U : St} {H H' : Hp} {s : Shared} {h' : Heap}
theorem Inv.turnNew {t' : Nat} {fp : List Addr} (I : Inv X pins U H s) (hf : ∀ b ∈ fp, ZFQ X pins H b) (k : ∀ b o, b ∉ fp -> s.heap.get? b = some o -> h'.get? b = some o) (hs : ∀ b, b < s.heap.objs.size -> H' b = H b)
  (new : ∀ b o, s.heap.objs.size <= b -> H' b = some o -> ZEW X.prog X.w H' h' b o) : Inv X pins U H' { s with heap := h', toks := t' } := by
 have old : ∀ b o, H b = some o -> H' b = some o := fun b o e => (hs b (I.old e)).trans e
 have nfp : ∀ b u, H b = some u -> b ∉ fp := fun b u e z => by rw [(hf b z).1] at e; cases e
 refine I.step (g' := s.gens) (d' := s.drawn) (ch := fp) (fun b hb => ?_) (fun b o _ _ hc e _ => k b o hc e) (fun b o _ _ hc e _ => ⟨o.slots, k b o hc e⟩) (fun b o _ e n => (hs b (Uk e)).trans n)
  (fun b o hc e => ⟨o, k b o hc e⟩) (fun b xs e => old _ _ e) (fun b o xs e => old _ _ e) (fun b ps e => ⟨#[], by rw [old _ _ e]; simp⟩) (fun m hm => ?_) (fun b u e => ?_) I.bare
 ·obtain ⟨f0, f1, f2, f3, f4, f5⟩ := hf b hb
  exact ⟨f3, f1, f4, f5⟩
 ·obtain ⟨o, es, ep, ho, r⟩ := hm
  exact ⟨o, es, ep, k _ o (fun z => (hf _ z).2.1 rfl) ho, r⟩
 ·by_cases hb : b < s.heap.objs.size
  ·rw [hs b hb] at e
   refine (I.hok b u e).stay (fun c v hc q => k c v ?_ q) (fun c q => old _ _ q) fun c xs q => old _ _ q
   rcases hc with z | z
   ·rw [z]; exact nfp b u e
   ·exact nfp c _ z
  ·exact new b u (Nat.le_of_not_lt hb) e
end
def SqB (b : Bool) (K : W.Frag) (H : Hp) (a : Addr) (xs : List V) : Prop := if b then SqL K H a xs else SqT K H a xs
theorem SqB.ofL {K : W.Frag} {H : Hp} {a : Addr} {xs : List V} (h : H a = some (.lst xs)) : SqB true K H a xs := SqL.of h
theorem SqB.ofT {K : W.Frag} {H : Hp} {a : Addr} {xs : List V} (h : H a = some (.tup xs)) : SqB false K H a xs := SqT.of h
theorem Inv.sqB {X : Cx} {pins : List (Addr × Obj)} {U : St} {H : Hp} {s : Shared} {b : Bool} {a : Addr} {xs : List V} (I : Inv X pins U H s) (h : SqB b X.K H a xs) : ∃ its : List Value, ZD3 xs its /\ SOb b s.heap a its.toArray /\ xs.length <= sizeLine := by
 cases b with
 | true =>
  obtain ⟨its, rv, p, hz⟩ := I.list h
  exact ⟨its, rv, p.isList, hz⟩
 | false =>
  obtain ⟨its, rv, p, hz⟩ := I.tuple h
  exact ⟨its, rv, p, hz⟩
theorem Inv.sqB_inj {X : Cx} {pins : List (Addr × Obj)} {U : St} {H : Hp} {s : Shared} {b : Bool} {a : Addr} {xs ys : List V} (I : Inv X pins U H s) (h : SqB b X.K H a xs) (g : SqB b X.K H a ys) : xs = ys := by
 cases b with
 | true => exact I.list_inj h g
 | false => exact I.tuple_inj h g
def Itz (K : W.Frag) (b1 : Bool) (p1 : Addr) (b2 : Bool) (p2 : Addr) : It :=
 ⟨fun i H => ∃ xs ys, SqB b1 K H p1 xs /\ SqB b2 K H p2 ys /\ i < xs.length /\ i < ys.length,
  fun i H x H' => ∃ T a b, H T = none /\ x = .ref T /\ H' = upd H T (.tup [a, b]) /\ (∀ xs, SqB b1 K H p1 xs -> xs[i]? = some a) /\ ∀ ys, SqB b2 K H p2 ys -> ys[i]? = some b,
  fun i H => ∃ xs ys, SqB b1 K H p1 xs /\ SqB b2 K H p2 ys /\ (xs.length <= i \/ ys.length <= i)⟩
def Zo (b1 b2 : Bool) (z TI TO i1 i2 l1 l2 : Addr) (i : Nat) (h : Heap) : Prop := IsZip h z TI TO .none /\ IsPair h TI (.ref i1) (.ref i2) /\ (∃ a b, IsPair h TO a b) /\ SIt b1 h i1 l1 i /\ SIt b2 h i2 l2 i
theorem ZTX {P : Program} {w : World} {K : W.Frag} {es : List Expr} {kk : Nat} {pos : Pos} (b1 b2 : Bool) (z TI TO i1 i2 l1 l2 : Addr) (D : ZipApart z TI TO i1 i2 l1 l2) :
  ZJK P w K (.Tuple es kk pos) (Itz K b1 l1 b2 l2) [z, TI, TO, i1, i2] z (Zo b1 b2 z TI TO i1 i2 l1 l2) where
 mem := by simp
 obj := fun i h st b hb => by
  obtain ⟨hz, hTI, ⟨x, y, hTO⟩, h1, h2⟩ := st
  have si : ∀ {b : Bool} {c l : Addr}, SIt b h c l i -> ∃ o, h.get? c = some o /\ ∀ v, o.data ≠ .cell v := fun {b c l} q => by
   cases b with
   | true => obtain ⟨o, e, c, d⟩ := (show h.IsListIter _ _ _ from q); exact ⟨o, e, fun v z => by rw [d] at z; cases z⟩
   | false => obtain ⟨o, e, c, d⟩ := (show h.IsTupleIter _ _ _ from q); exact ⟨o, e, fun v z => by rw [d] at z; cases z⟩
  simp only [Ul, UC, or_false] at hb
  rcases hb with rfl | rfl | rfl | rfl | rfl
  ·exact ⟨_, hz, fun v q => by cases q⟩
  ·exact ⟨_, hTI, fun v q => by cases q⟩
  ·exact ⟨_, hTO, fun v q => by cases q⟩
  ·exact si h1
  ·exact si h2
 keep := fun i h h' st k => by
  obtain ⟨hz, hTI, ⟨x, y, hTO⟩, h1, h2⟩ := st
  exact ⟨k z (by simp) _ hz, k TI (by simp) _ hTI, ⟨x, y, k TO (by simp) _ hTO⟩, h1.at (k i1 (by simp)), h2.at (k i2 (by simp))⟩
 item := by
  intro X hP hw hK hc i pins s U H E I hf st hg
  subst hP hw hK
  obtain ⟨xs, ys, q1, q2, hi1, hi2⟩ := hg
  obtain ⟨hz, hTI, hTO, h1, h2⟩ := st
  obtain ⟨us, r1, o1, _⟩ := I.sqB q1
  obtain ⟨ws, r2, o2, _⟩ := I.sqB q2
  obtain ⟨u, hu, ru⟩ := r1.get (Uc hi1)
  obtain ⟨v, hv, rv⟩ := r2.get (Uc hi2)
  have Z : Zp b1 b2 s.heap z TI TO i1 i2 l1 l2 i us.toArray ws.toArray .none := ⟨hz, hTI, hTO, h1, h2, o1, o2⟩
  refine ZTW D Z (x := u) (y := v) (by simpa using hu) (by simpa using hv) fun h' Z' hT hk => ⟨_, rfl, ?_⟩
  refine wpAny_letOwnedTupleGo_zip Z'.hz fun h'' hz'' hs'' => ?_
  have hTz : s.heap.objs.size ≠ z := Nat.ne_of_gt (Uk hz)
  have hT'' : IsPair h'' s.heap.objs.size u v := hs''.extBut _ _ hTz hT
  have kk : ∀ b o, b ∉ [z, TI, TO, i1, i2] -> s.heap.get? b = some o -> h''.get? b = some o := fun b o hb e => by
   simp only [Ul, UC, or_false, not_or] at hb
   exact hs''.extBut _ _ hb.1 (hk b o hb.1 hb.2.2.1 hb.2.2.2.1 hb.2.2.2.2 e)
  have I1 : Inv X pins U (upd H s.heap.objs.size (.tup [xs[i], ys[i]])) { s with heap := h'', toks := s.toks } := by
   refine I.turnNew (fp := [z, TI, TO, i1, i2]) hf kk (fun b hb => ZD4 (Uq hb)) fun b o hb e => ?_
   by_cases hbT : b = s.heap.objs.size
   ·subst hbT
    rw [ZDr] at e
    cases e
    exact ⟨⟨by show 2 <= sizeLine; decide, fun _ => ⟨_, hT'', rfl, rfl⟩⟩, [u, v], .cons ru (.cons rv .nil), _, hT'', rfl, _, rfl⟩
   ·rw [ZD4 hbT, I.hok.fresh hb] at e
    cases e
  refine ⟨.ref s.heap.objs.size, _, I1, rfl, ⟨_, _, _, I.hok.fresh (Ud _), rfl, rfl, fun zs hq => ?_, fun zs hq => ?_⟩, ?_, fun b hb => ?_⟩
  ·rw [I.sqB_inj hq q1]; exact Uc hi1
  ·rw [I.sqB_inj hq q2]; exact Uc hi2
  ·obtain ⟨x, y, hTO'⟩ := Z'.hTO
   exact ⟨hz'', hs''.extBut _ _ D.TIz Z'.hTI, ⟨x, y, hs''.extBut _ _ D.TOz hTO'⟩, Z'.h1.at fun o e => hs''.extBut _ _ D.i1z e, Z'.h2.at fun o e => hs''.extBut _ _ D.i2z e⟩
  ·have hbl : b < s.heap.objs.size := by
    obtain ⟨x, y, hTO0⟩ := hTO
    simp only [Ul, UC, or_false] at hb
    rcases hb with rfl | rfl | rfl | rfl | rfl
    ·exact Uk hz
    ·exact Uk hTI
    ·exact Uk hTO0
    ·exact h1.lt
    ·exact h2.lt
   rw [ZD4 (Uq hbl)]
   exact (hf b hb).1
 done := by
  intro X hP hw hK hc i pins s U H E I hf st hg
  subst hP hw hK
  obtain ⟨xs, ys, q1, q2, hend⟩ := hg
  obtain ⟨hz, hTI, hTO, h1, h2⟩ := st
  obtain ⟨us, r1, o1, _⟩ := I.sqB q1
  obtain ⟨ws, r2, o2, _⟩ := I.sqB q2
  have e1 := r1.length
  have e2 := r2.length
  refine ZVi (I.ok.hd hc) D ⟨hz, hTI, hTO, h1, h2, o1, o2⟩ ?_ fun h' hk => ⟨rfl, ?_⟩
  ·rcases hend with h | h
   ·exact .inl (by simp; omega)
   ·exact .inr (by simp; omega)
  ·refine I.turnNew (t' := s.toks) (fp := [z, TI, TO, i1, i2]) hf (fun b o hb e => ?_) (fun b _ => rfl) fun b o hb e => ?_
   ·simp only [Ul, UC, or_false, not_or] at hb
    exact hk b o hb.1 hb.2.2.1 hb.2.2.2.1 hb.2.2.2.2 e
   ·rw [I.hok.fresh hb] at e; cases e
 self := fun _ _ _ _ _ st h => wpAny_pyIter_zip st.1 h
def ZLM (b : Bool) (l : Addr) : Obj := { cls := .type (if b then "list_iterator" else "tuple_iterator"), data := .fields #[.ref l, .int 0 0] }
def zp1 (b1 : Bool) (h : Heap) (l1 : Addr) : Heap := h.push (ZLM b1 l1)
def zp2 (b1 b2 : Bool) (h : Heap) (l1 l2 : Addr) : Heap := (zp1 b1 h l1).push (ZLM b2 l2)
def zp3 (b1 b2 : Bool) (h : Heap) (l1 l2 : Addr) : Heap := (zp2 b1 b2 h l1 l2).push { cls := .type "tuple", data := .seq #[.ref h.objs.size, .ref (zp1 b1 h l1).objs.size] }
def zp4 (b1 b2 : Bool) (h : Heap) (l1 l2 : Addr) : Heap := (zp3 b1 b2 h l1 l2).push { cls := .type "tuple", data := .seq #[.none, .none] }
def zp5 (b1 b2 : Bool) (h : Heap) (l1 l2 : Addr) : Heap := (zp4 b1 b2 h l1 l2).push { cls := .type "zip", data := .fields #[.none, .bool false, .bool false, .ref (zp2 b1 b2 h l1 l2).objs.size, .ref (zp3 b1 b2 h l1 l2).objs.size] }
theorem ZPw (b1 b2 : Bool) (l1 l2 : Addr) (xs ys : Array Value) :
  Meets (Builtin.«zip.__new__» ⟨[.type "zip", .ref l1, .ref l2], []⟩) (fun _ R s => SOb b1 s.heap l1 xs /\ SOb b2 s.heap l2 ys /\
   R (.ok (.ret (.ref (zp4 b1 b2 s.heap l1 l2).objs.size))) { s with heap := zp5 b1 b2 s.heap l1 l2 }) := by
 cases b1 <;> cases b2
 ·exact .of_wp fun prog w A R s h => by
   obtain ⟨hp, g, d, tk, os⟩ := s; obtain ⟨hl1, hl2, h⟩ := h
   have hsub := sub_zip
   have hL1 : Heap.IsTuple (Shared.heap ⟨hp, g, d, tk, os⟩) l1 xs := hl1
   have hL2 : Heap.IsTuple (Shared.heap ⟨hp.push { cls := .type "tuple_iterator", data := .fields #[.ref l1, .int 0 0] }, g, d, tk, os⟩) l2 ys := by
    obtain ⟨o, ho, r⟩ := (show Heap.IsTuple hp l2 ys from hl2); exact ⟨o, Ub _ ho, r⟩
   wp_walk using wpAny_pyIter_tuple hL1, wpAny_pyIter_tuple hL2
   exact ⟨_, rfl, h⟩
 ·exact .of_wp fun prog w A R s h => by
   obtain ⟨hp, g, d, tk, os⟩ := s; obtain ⟨hl1, hl2, h⟩ := h
   have hsub := sub_zip
   have hL1 : Heap.IsTuple (Shared.heap ⟨hp, g, d, tk, os⟩) l1 xs := hl1
   have hL2 : Heap.IsList (Shared.heap ⟨hp.push { cls := .type "tuple_iterator", data := .fields #[.ref l1, .int 0 0] }, g, d, tk, os⟩) l2 ys := by
    obtain ⟨o, ho, r⟩ := (show Heap.IsList hp l2 ys from hl2); exact ⟨o, Ub _ ho, r⟩
   wp_walk using wpAny_pyIter_tuple hL1, wpAny_pyIter_list hL2
   exact ⟨_, rfl, h⟩
 ·exact .of_wp fun prog w A R s h => by
   obtain ⟨hp, g, d, tk, os⟩ := s; obtain ⟨hl1, hl2, h⟩ := h
   have hsub := sub_zip
   have hL1 : Heap.IsList (Shared.heap ⟨hp, g, d, tk, os⟩) l1 xs := hl1
   have hL2 : Heap.IsTuple (Shared.heap ⟨hp.push { cls := .type "list_iterator", data := .fields #[.ref l1, .int 0 0] }, g, d, tk, os⟩) l2 ys := by
    obtain ⟨o, ho, r⟩ := (show Heap.IsTuple hp l2 ys from hl2); exact ⟨o, Ub _ ho, r⟩
   wp_walk using wpAny_pyIter_list hL1, wpAny_pyIter_tuple hL2
   exact ⟨_, rfl, h⟩
 ·exact .of_wp fun prog w A R s h => by
   obtain ⟨hp, g, d, tk, os⟩ := s; obtain ⟨hl1, hl2, h⟩ := h
   have hsub := sub_zip
   have hL1 : Heap.IsList (Shared.heap ⟨hp, g, d, tk, os⟩) l1 xs := hl1
   have hL2 : Heap.IsList (Shared.heap ⟨hp.push { cls := .type "list_iterator", data := .fields #[.ref l1, .int 0 0] }, g, d, tk, os⟩) l2 ys := by
    obtain ⟨o, ho, r⟩ := (show Heap.IsList hp l2 ys from hl2); exact ⟨o, Ub _ ho, r⟩
   wp_walk using wpAny_pyIter_list hL1, wpAny_pyIter_list hL2
   exact ⟨_, rfl, h⟩
section
variable {X : Cx} {tg : Expr}
theorem ZTY {pins : List (Addr × Obj)} {U : St} {H : Hp} {s : Shared} {R : It -> Hp -> Prop} {b1 b2 : Bool} {l1 l2 : Addr} {xs ys : List V} {es : List Expr} {kk : Nat} {pos : Pos} (I : Inv X pins U H s) (q1 : SqB b1 X.K H l1 xs) (q2 : SqB b2 X.K H l2 ys)
  (q : R (Itz X.K b1 l1 b2 l2) H) : wpAny (model X.prog X.w) X.A (call (.type "zip") [.ref l1, .ref l2]) (fun v s1 => wpAny (model X.prog X.w) X.A (pyIter v) (PIE X pins U (.Tuple es kk pos) R) X.xe s1) X.xe s := by
 obtain ⟨us, r1, o1, _⟩ := I.sqB q1
 obtain ⟨ws, r2, o2, _⟩ := I.sqB q2
 refine callType_new F.called_zip (by decide) (F.typeCall_zip_2 _ _) (F.newCall_zip_2 _ _) (fun obj => F.args_object_init_3 obj _ _) F.entry_zip_new (ZPw b1 b2 l1 l2 us.toArray ws.toArray) ⟨o1, o2, ?_⟩
 have z1 : (zp1 b1 s.heap l1).objs.size = s.heap.objs.size + 1 := UW ..
 have z2 : (zp2 b1 b2 s.heap l1 l2).objs.size = s.heap.objs.size + 2 := (UW ..).trans (by rw [z1])
 have z3 : (zp3 b1 b2 s.heap l1 l2).objs.size = s.heap.objs.size + 3 := (UW ..).trans (by rw [z2])
 have z4 : (zp4 b1 b2 s.heap l1 l2).objs.size = s.heap.objs.size + 4 := (UW ..).trans (by rw [z3])
 have g5 : (zp5 b1 b2 s.heap l1 l2).get? (zp4 b1 b2 s.heap l1 l2).objs.size = some _ := Ug _ rfl
 have g4 : (zp5 b1 b2 s.heap l1 l2).get? (zp3 b1 b2 s.heap l1 l2).objs.size = some _ := Ub _ (Ug _ rfl)
 have g3 : (zp5 b1 b2 s.heap l1 l2).get? (zp2 b1 b2 s.heap l1 l2).objs.size = some _ := Ub _ (Ub _ (Ug _ rfl))
 have g2 : (zp5 b1 b2 s.heap l1 l2).get? (zp1 b1 s.heap l1).objs.size = some (ZLM b2 l2) := Ub _ (Ub _ (Ub _ (Ug _ rfl)))
 have g1 : (zp5 b1 b2 s.heap l1 l2).get? s.heap.objs.size = some (ZLM b1 l1) := Ub _ (Ub _ (Ub _ (Ub _ (Ug _ rfl))))
 have keep : ∀ c o, s.heap.get? c = some o -> (zp5 b1 b2 s.heap l1 l2).get? c = some o := fun c o x =>
  Ub _ (Ub _ (Ub _ (Ub _ (Ub _ x))))
 rw [z1] at g2
 rw [z2, z1] at g3
 rw [z3] at g4
 rw [z4, z3, z2] at g5
 rw [z4]
 have sit : ∀ {b : Bool} {c l : Addr}, (zp5 b1 b2 s.heap l1 l2).get? c = some (ZLM b l) -> SIt b (zp5 b1 b2 s.heap l1 l2) c l 0 := fun {b c l} e => by
  cases b with
  | true => exact ⟨_, e, rfl, rfl⟩
  | false => exact ⟨_, e, rfl, rfl⟩
 have I1 : Inv X pins U H { s with heap := zp5 b1 b2 s.heap l1 l2, toks := s.toks } := I.kept keep
 have hl1 : l1 < s.heap.objs.size := o1.lt
 have hl2 : l2 < s.heap.objs.size := o2.lt
 have ne : ∀ {a b : Nat}, a < b -> (a : Addr) ≠ b := fun h => Uq h
 have D : ZipApart (s.heap.objs.size + 4) (s.heap.objs.size + 2) (s.heap.objs.size + 3) s.heap.objs.size (s.heap.objs.size + 1) l1 l2 := by
  have hl1' : (l1 : Nat) < s.heap.objs.size := hl1
  have hl2' : (l2 : Nat) < s.heap.objs.size := hl2
  constructor
  all_goals first
   | exact Uq (by omega)
   | exact Nat.ne_of_gt (by omega)
   | exact Uq (Ue hl1' (by omega))
   | exact Uq (Ue hl2' (by omega))
 refine ⟨⟨_, g5, rfl⟩, wpAny_pyIter_zip g5 ⟨s.heap.objs.size + 4, [s.heap.objs.size + 4, s.heap.objs.size + 2, s.heap.objs.size + 3, s.heap.objs.size, s.heap.objs.size + 1], _, _, H, rfl, I1, ZTX b1 b2 _ _ _ _ _ l1 l2 D, ⟨g5, g3, ⟨_, _, g4⟩, sit g1, sit g2⟩, fun b hb => ?_, q⟩⟩
 have hle : s.heap.objs.size <= b := by
  simp only [Ul, UC, or_false] at hb
  rcases hb with rfl | rfl | rfl | rfl | rfl
  ·exact Nat.le_add_right _ _
  ·exact Nat.le_add_right _ _
  ·exact Nat.le_add_right _ _
  ·exact Ud _
  ·exact Nat.le_add_right _ _
 exact I.fpOk hle (I.hok.fresh hle)
def ZTZ (K : W.Frag) (vs : List V) (H : Hp) (R : It -> Hp -> Prop) : Prop := ∃ b1 b2 l1 l2 xs ys, vs = [.ref l1, .ref l2] /\ SqB b1 K H l1 xs /\ SqB b2 K H l2 ys /\ R (Itz K b1 l1 b2 l2) H
def ZXu (K : W.Frag) (ta : TA) : TI := fun U H R => ta U H fun vs H1 => ZTZ K vs H1 R
theorem ZRK {a b : Expr} {t : TA} {p pos tpos : Pos} {es : List Expr} {kk : Nat} (K : W.Frag) (hK : X.K = K) (hg : Gl X "zip") (hm : X.mg "zip" = none) (ha : QA X [a, b] t) (hs : ZFT a = false := by rfl) (hs2 : ZFT b = false := by rfl) :
  QI X (.Tuple es kk tpos) (.Call (.Name "zip" p) [a, b] [] pos) (ZXu K t) := by
 subst hK
 refine ⟨?_⟩
 intro pins s U H R I h
 refine Call_ (ZGY I hg hm ZXn (PyProof.Rows.callWith_type1 (thn (ha.h pos pins s U H _ I h) fun us s1 ⟨vs, H1, I1, r1, q1⟩ => ?_) (by rw [ZE1 hs, ZE1 hs2]) (by rw [ZE1 hs2]; rfl)))
 obtain ⟨b1, b2, l1, l2, xs, ys, e, g1, g2, q⟩ := q1
 subst e
 obtain ⟨u, v, rfl, ru, rv⟩ := r1.two
 cases ru
 cases rv
 exact ZTY I1 g1 g2 q
end
section
variable {K : W.Frag} {U : St} {H : Hp} {D : ZEx}
theorem ZVj {ta : TA} {R : It -> Hp -> Prop} (h : ta U H fun vs H1 => ZTZ K vs H1 R) : ZXu K ta U H R := h
theorem ZRL {b1 b2 : Bool} {l1 l2 : Addr} {xs ys : List V} {R : It -> Hp -> Prop} (h1 : SqB b1 K H l1 xs) (h2 : SqB b2 K H l2 ys) (h : R (Itz K b1 l1 b2 l2) H) : ZTZ K [.ref l1, .ref l2] H R := ⟨b1, b2, l1, l2, xs, ys, rfl, h1, h2, h⟩
theorem ZPC {b1 b2 : Bool} {l1 l2 : Addr} {xs ys : List V} {g : TG} {tb : TS} (n : Nat) (hn : n = min xs.length ys.length) (Pv : Nat -> St -> Hp -> Prop) (h0 : Pv 0 U H) (hl : ∀ i U H, Pv i U H -> SqB b1 K H l1 xs /\ SqB b2 K H l2 ys)
  (hs : ∀ i U H T H2 a b, i < n -> Pv i U H -> xs[i]? = some a -> ys[i]? = some b -> H T = none -> H2 T = some (.tup [a, b]) -> ZDq H H2 -> g (.ref T) U H2 fun U2 H3 => tb { D with nx := Pv (i + 1), ct := Pv (i + 1), bk := D.nx } U2 H3)
  (hd : ∀ U H, Pv n U H -> D.nx U H) : rFor (Itz K b1 l1 b2 l2) g tb D U H := by
 refine ⟨fun i m U H => m = n - i /\ i <= n /\ Pv i U H, ⟨n, by simp, UO _, h0⟩, ?_⟩
 rintro i m U H ⟨rfl, hi, p⟩
 obtain ⟨q1, q2⟩ := hl i U H p
 by_cases hlt : i < n
 ·refine .inr ⟨⟨xs, ys, q1, q2, by omega, by omega⟩, Pv (i + 1), fun U' H' p' => ⟨n - (i + 1), by omega, rfl, hlt, p'⟩, ?_⟩
  rintro x H' ⟨T, a, b, hT, rfl, rfl, e1, e2⟩
  exact hs i U H T _ a b hlt p (e1 _ q1) (e2 _ q2) hT ZDr (ZDq.new hT)
 ·have e : i = n := by omega
  subst e
  exact .inl ⟨⟨xs, ys, q1, q2, by omega⟩, hd U H p⟩
end
section
variable {X : Cx}
def ZUT (K : W.Frag) : List V -> Hp -> VK -> Prop := fun xs H Q => ∃ (p : Addr) (ns : List Int), xs = [.ref p] /\ SqL K H p (ns.map V.int) /\ ns ≠ [] /\ ∀ m, m ∈ ns -> (∀ n ∈ ns, m <= n) -> Q (.int m) H
def ZUU (K : W.Frag) : List V -> Hp -> VK -> Prop := fun xs H Q => ∃ (p : Addr) (ns : List Int), xs = [.ref p] /\ SqL K H p (ns.map V.int) /\ ns ≠ [] /\ ∀ m, m ∈ ns -> (∀ n ∈ ns, n <= m) -> Q (.int m) H
theorem ZIZ : ∀ {ns : List Int} {its : List Value}, ZD3 (ns.map V.int) its -> ∀ {i : Nat} {v : Value}, its[i]? = some v -> ∃ t, v = .int (ns.getD i 0) t
 | [], _, .nil, i, v, e => by simp at e
 | n :: ns, _, .cons ⟨t, r⟩ h, 0, v, e => by simp at e; subst e; exact ⟨t, r⟩
 | n :: ns, _, .cons _ h, i + 1, v, e => by
  obtain ⟨t, r⟩ := ZIZ h (i := i) (v := v) (by simpa using e)
  exact ⟨t, by simpa using r⟩
theorem ZVk (K : W.Frag) (hK : X.K = K) (hc : X.calm = true) : ZEd X (.builtin "min") (ZUT K) := by
 subst hK
 intro pins s U H xs us Q I r h
 obtain ⟨p, ns, rfl, hS, hne, q⟩ := h
 obtain ⟨u, rfl, ru⟩ := r.one
 cases ru
 obtain ⟨its, rv, pl, _⟩ := I.list hS
 have hlen : its.length = ns.length := by have := rv.length; simpa using this.symm
 have hpos : 0 < ns.length := List.length_pos_iff.mpr hne
 have hl : s.heap.IsList p its.toArray := pl.isList
 have hlt : p < s.heap.objs.size := by obtain ⟨_, e, _⟩ := hl; exact Uk e
 refine call_min_walk (wpAny_pyIter_list hl ⟨_, _, _, _, _, _, _, rfl, Walks.list (A := X.A.in1) (I.ok.hd hc) _ p (Uq hlt) its.toArray, ⟨⟨_, Ug _ rfl, rfl, rfl⟩, hl.push _⟩, fun b hb => ?_, by rw [Uo]; omega,
  CmpOf.ints_lt (fun i => ns.getD i 0) (fun i v e => ZIZ rv (by simpa using e)), fun v h' tk hP hk => ?_⟩)
 ·rw [UW]
  simp only [Ul, UC, or_false] at hb
  rcases hb with rfl | rfl
  ·exact Vq _
  ·exact Vf hlt
 ·have hP' : its[argBest (fun i j => decide (ns.getD i 0 < ns.getD j 0)) (its.length - 1)]? = some v := by simpa using hP
  obtain ⟨t, rfl⟩ := ZIZ rv hP'
  obtain ⟨h1, h2⟩ := argBest_lt (fun i => ns.getD i 0) (its.toArray.size - 1)
  rw [Uo] at h1 h2
  generalize hb : argBest (fun i j => decide (ns.getD i 0 < ns.getD j 0)) (its.length - 1) = b at *
  have hbl : b < ns.length := by omega
  refine ⟨.int (ns.getD b 0), H, I.kept (t' := tk) fun c o e => hk c o ?_ (Ub _ e), ⟨t, rfl⟩, q _ ?_ fun n hn => ?_⟩
  ·intro z; simp at z; exact Uq (Uk e) z
  ·have : ns.getD b 0 = ns[b] := by simp [hbl]
   rw [this]; exact Vb hbl
  ·obtain ⟨j, hj, e⟩ := UP hn
   have := h2 j (by omega)
   have e2 : ns.getD j 0 = n := by simp [hj, e]
   rw [e2] at this
   exact this
theorem ZVl (K : W.Frag) (hK : X.K = K) (hc : X.calm = true) : ZEd X (.builtin "max") (ZUU K) := by
 subst hK
 intro pins s U H xs us Q I r h
 obtain ⟨p, ns, rfl, hS, hne, q⟩ := h
 obtain ⟨u, rfl, ru⟩ := r.one
 cases ru
 obtain ⟨its, rv, pl, _⟩ := I.list hS
 have hlen : its.length = ns.length := by have := rv.length; simpa using this.symm
 have hpos : 0 < ns.length := List.length_pos_iff.mpr hne
 have hl : s.heap.IsList p its.toArray := pl.isList
 have hlt : p < s.heap.objs.size := by obtain ⟨_, e, _⟩ := hl; exact Uk e
 refine call_max_walk (wpAny_pyIter_list hl ⟨_, _, _, _, _, _, _, rfl, Walks.list (A := X.A.in1) (I.ok.hd hc) _ p (Uq hlt) its.toArray, ⟨⟨_, Ug _ rfl, rfl, rfl⟩, hl.push _⟩, fun b hb => ?_, by rw [Uo]; omega,
  CmpOf.ints_gt (fun i => ns.getD i 0) (fun i v e => ZIZ rv (by simpa using e)), fun v h' tk hP hk => ?_⟩)
 ·rw [UW]
  simp only [Ul, UC, or_false] at hb
  rcases hb with rfl | rfl
  ·exact Vq _
  ·exact Vf hlt
 ·have hP' : its[argBest (fun i j => decide (ns.getD i 0 > ns.getD j 0)) (its.length - 1)]? = some v := by simpa using hP
  obtain ⟨t, rfl⟩ := ZIZ rv hP'
  obtain ⟨h1, h2⟩ := argBest_gt (fun i => ns.getD i 0) (its.toArray.size - 1)
  rw [Uo] at h1 h2
  generalize hb : argBest (fun i j => decide (ns.getD i 0 > ns.getD j 0)) (its.length - 1) = b at *
  have hbl : b < ns.length := by omega
  refine ⟨.int (ns.getD b 0), H, I.kept (t' := tk) fun c o e => hk c o ?_ (Ub _ e), ⟨t, rfl⟩, q _ ?_ fun n hn => ?_⟩
  ·intro z; simp at z; exact Uq (Uk e) z
  ·have : ns.getD b 0 = ns[b] := by simp [hbl]
   rw [this]; exact Vb hbl
  ·obtain ⟨j, hj, e⟩ := UP hn
   have := h2 j (by omega)
   have e2 : ns.getD j 0 = n := by simp [hj, e]
   rw [e2] at this
   exact this
theorem ZVm {K : W.Frag} {H : Hp} {Q : VK} {p : Addr} {ns : List Int} (h1 : SqL K H p (ns.map V.int)) (h2 : ns ≠ []) (h : ∀ m, m ∈ ns -> (∀ n ∈ ns, m <= n) -> Q (.int m) H) : ZUT K [.ref p] H Q := ⟨p, ns, rfl, h1, h2, h⟩
theorem ZVn {K : W.Frag} {H : Hp} {Q : VK} {p : Addr} {ns : List Int} (h1 : SqL K H p (ns.map V.int)) (h2 : ns ≠ []) (h : ∀ m, m ∈ ns -> (∀ n ∈ ns, n <= m) -> Q (.int m) H) : ZUU K [.ref p] H Q := ⟨p, ns, rfl, h1, h2, h⟩
end
def Bn (n : Nat) (x : Int) : Prop := x.natAbs < 2 ^ n
theorem Bn.mono {m n : Nat} {x : Int} (h : Bn m x) (hm : m <= n) : Bn n x := Ue h (Nat.pow_le_pow_right (by decide) hm)
theorem Bn.mul {m n : Nat} {x y : Int} (h : Bn m x) (g : Bn n y) : Bn (m + n) (x * y) := by
 unfold Bn at *
 rw [Int.natAbs_mul, Nat.pow_add]
 exact Nat.mul_lt_mul'' h g
theorem Bn.add {n : Nat} {x y : Int} (h : Bn n x) (g : Bn n y) : Bn (n + 1) (x + y) := by
 unfold Bn at *
 have := Int.natAbs_add_le x y
 rw [Nat.pow_succ]
 omega
theorem Bn.sub {n : Nat} {x y : Int} (h : Bn n x) (g : Bn n y) : Bn (n + 1) (x - y) := by
 unfold Bn at *
 have := Int.natAbs_sub_le x y
 rw [Nat.pow_succ]
 omega
theorem Bn.lt {n : Nat} {x : Int} (h : Bn n x) : -(2 ^ n) < x /\ x < 2 ^ n := by
 have e : ((2 ^ n : Nat) : Int) = (2 : Int) ^ n := by simp
 have : (x.natAbs : Int) < ((2 ^ n : Nat) : Int) := Int.ofNat_lt.mpr h
 rw [e] at this
 omega
theorem ZHA {m n : Nat} {x y : Int} (h : Bn m x) (g : Bn n y) (hm : m + n <= 8000) : IntMulOk x y := by
 have h1 : Builtin.Int.intBits x <= m := intBits_le h
 have h2 : Builtin.Int.intBits y <= n := intBits_le g
 unfold IntMulOk
 have : Builtin.Int.intTooBig ((Builtin.Int.intBits x : Int) + (Builtin.Int.intBits y : Int)) = false := by
  unfold Builtin.Int.intTooBig
  refine decide_eq_false ?_
  have hb : (8000 : Int) <= bitsLine := by decide
  omega
 rw [this]
 simp
theorem Bn.divB {n : Nat} {i j : Int} (h : Bn n j) (h0 : 0 < j) (hn : n <= 8000) : ZHw i j := ZHw.of h0 h.lt.2 (by omega)
inductive ZFh (H : Hp) : V -> Option (Int × Int) -> Prop where
 | non : ZFh H .non Option.none
 | pr {c : Addr} {p : Int × Int} (e : H c = Option.some (.tup [.int p.1, .int p.2])) : ZFh H (.ref c) (Option.some p)
theorem ZFh.same {H H' : Hp} {v : V} {o : Option (Int × Int)} (h : ZFh H v o) (s : ZDq H H') : ZFh H' v o := by
 cases h with
 | non => exact .non
 | pr e => exact .pr (s _ _ e)
theorem ZFh.kpL {H H' : Hp} {l : Addr} {xs : List V} {v : V} {o : Option (Int × Int)} (h : ZFh H v o) (k : Kp l H H') (hl : H l = Option.some (.lst xs)) : ZFh H' v o := by
 cases h with
 | non => exact .non
 | pr e => exact .pr (k _ _ e (fun z => by subst z; rw [hl] at e; cases e))
inductive ZFJ (H : Hp) : List V -> List (Option (Int × Int)) -> Prop where
 | nil : ZFJ H [] []
 | cons {v : V} {o : Option (Int × Int)} {vs : List V} {os : List (Option (Int × Int))} (h : ZFh H v o) (t : ZFJ H vs os) : ZFJ H (v :: vs) (o :: os)
theorem ZFJ.mapP {H H' : Hp} (f : ∀ v o, ZFh H v o -> ZFh H' v o) : ∀ {vs : List V} {os : List (Option (Int × Int))}, ZFJ H vs os -> ZFJ H' vs os
 | _, _, .nil => .nil
 | _, _, .cons h t => .cons (f _ _ h) (ZFJ.mapP f t)
theorem ZFJ.same {H H' : Hp} {vs : List V} {os : List (Option (Int × Int))} (h : ZFJ H vs os) (s : ZDq H H') : ZFJ H' vs os := h.mapP fun _ _ d => d.same s
theorem ZFJ.len {H : Hp} : ∀ {vs : List V} {os : List (Option (Int × Int))}, ZFJ H vs os -> vs.length = os.length
 | _, _, .nil => rfl
 | _, _, .cons _ t => by simp [ZFJ.len t]
theorem ZFJ.snoc {H : Hp} : ∀ {vs : List V} {os : List (Option (Int × Int))}, ZFJ H vs os -> ∀ {v : V} {o : Option (Int × Int)}, ZFh H v o -> ZFJ H (vs ++ [v]) (os ++ [o])
 | _, _, .nil, _, _, d => .cons d .nil
 | _, _, .cons h t, _, _, d => .cons h (ZFJ.snoc t d)
theorem ZFJ.at {H : Hp} : ∀ {vs : List V} {os : List (Option (Int × Int))}, ZFJ H vs os -> ∀ {i : Nat} {v : V}, vs[i]? = Option.some v -> ∃ o, os[i]? = Option.some o /\ ZFh H v o
 | _, _, .nil, i, v, e => by simp at e
 | _, _, .cons h t, 0, v, e => by simp at e; subst e; exact ⟨_, rfl, h⟩
 | _, _, .cons _ t, i + 1, v, e => by
  obtain ⟨o, h1, h2⟩ := ZFJ.at t (by simpa using e)
  exact ⟨o, by simpa using h1, h2⟩
section
variable {X : Cx}
def ZNi : V -> List V -> Hp -> VK -> Prop := fun x vs H Q => ∃ l b xs zs, x = .ref l /\ vs = [.ref b] /\ H l = some (.lst xs) /\ H b = some (.tup zs) /\ (∀ i : Int, zs.head? ≠ some (.int i)) /\ xs.length + zs.length <= sizeLine /\ Q .non (upd H l (.lst (xs ++ zs)))
theorem ZPx : MtM X "list.extend" ZNi := by
 intro pins s U H x vs v us Q I rx rv h
 obtain ⟨l, b, xs, zs, rfl, rfl, hH, hB, hh, hz, q⟩ := h
 cases rx
 obtain ⟨u, rfl, ru⟩ := rv.one
 cases ru
 obtain ⟨z, its, n, r, hl, e⟩ := I.lstM hH
 obtain ⟨⟨_, hpd⟩, its2, r2, ht⟩ := (show ZEW X.prog X.w H s.heap b (.tup zs) from I.hok b _ hB)
 obtain ⟨od, hod, hd, hsl⟩ := hpd hh
 obtain ⟨ob, hob, hc, n2, hdat⟩ := ht
 rw [hod] at hob
 cases hob
 have hl2 := r2.length
 have e2 : s.heap.get? b = some { cls := .type "tuple", dict := none, data := .seq its2.toArray n2, slots := #[] } := by
  rw [hod]
  obtain ⟨c, d, dt, sl⟩ := od
  simp only at hc hd hdat hsl
  subst hc hd hdat hsl
  rfl
 have hsz : its.toArray.size + its2.toArray.size <= sizeLine := by rw [Uo, Uo]; omega
 have hlong : ¬ (!its.toArray.isEmpty && Builtin.List.listTooLong (its.toArray.size + its2.toArray.size)) = true := by
  rw [ZSv hsz, Bool.and_false]
  exact Ut
 refine call_meets F.slot_list_extend ⟨_, e, rfl⟩ F.entry_list_extend (F.args_list_extend_2 _ _)
  (AutoSeq1.list_extend_list_tuple_0 l its.toArray n b its2.toArray n2 hlong (by rw [Uo]; omega) (by omega)) ⟨e, e2, ?_⟩
 refine ⟨.non, _, I.lset (its' := its ++ its2) hH e (by simp) (r.append r2) ?_, rfl, q⟩
 rw [UN]
 omega
theorem ZPy {H : Hp} {Q : VK} {l b : Addr} {xs zs : List V} (h1 : H l = some (.lst xs)) (h2 : H b = some (.tup zs)) (h3 : ∀ i : Int, zs.head? ≠ some (.int i)) (hz : xs.length + zs.length <= sizeLine) (h : ∀ H2, H2 l = some (.lst (xs ++ zs)) -> Kp l H H2 -> Q .non H2) : ZNi (.ref l) [.ref b] H Q :=
 ⟨l, b, xs, zs, rfl, rfl, h1, h2, h3, hz, h _ ZDr Kp.upd⟩
end
inductive ZEZ (H : Hp) : V -> Option (PL) -> Prop where
 | non : ZEZ H .non Option.none
 | pr {c : Addr} {qs : PL} (h : PrT H c qs) (hl : qs.length = 4) : ZEZ H (.ref c) (Option.some qs)
theorem ZEZ.same {H H' : Hp} {v : V} {o : Option (PL)} (h : ZEZ H v o) (s : ZDq H H') : ZEZ H' v o := by
 cases h with
 | non => exact .non
 | pr e hl => exact .pr (e.same s) hl
theorem ZEZ.kpL {H H' : Hp} {l : Addr} {xs : List V} {v : V} {o : Option (PL)} (h : ZEZ H v o) (k : Kp l H H') (hl : H l = Option.some (.lst xs)) : ZEZ H' v o := by
 cases h with
 | non => exact .non
 | pr e hn => exact .pr (e.kpL k hl) hn
inductive ZEl (H : Hp) : List V -> List (Option (PL)) -> Prop where
 | nil : ZEl H [] []
 | cons {v : V} {o : Option (PL)} {vs : List V} {os : List (Option (PL))} (h : ZEZ H v o) (t : ZEl H vs os) : ZEl H (v :: vs) (o :: os)
theorem ZEl.mapP {H H' : Hp} (f : ∀ v o, ZEZ H v o -> ZEZ H' v o) : ∀ {vs : List V} {os : List (Option (PL))}, ZEl H vs os -> ZEl H' vs os
 | _, _, .nil => .nil
 | _, _, .cons h t => .cons (f _ _ h) (ZEl.mapP f t)
theorem ZEl.same {H H' : Hp} {vs : List V} {os : List (Option (PL))} (h : ZEl H vs os) (s : ZDq H H') : ZEl H' vs os := h.mapP fun _ _ d => d.same s
theorem ZEl.len {H : Hp} : ∀ {vs : List V} {os : List (Option (PL))}, ZEl H vs os -> vs.length = os.length
 | _, _, .nil => rfl
 | _, _, .cons _ t => by simp [ZEl.len t]
theorem ZEl.snoc {H : Hp} : ∀ {vs : List V} {os : List (Option (PL))}, ZEl H vs os -> ∀ {v : V} {o : Option (PL)}, ZEZ H v o -> ZEl H (vs ++ [v]) (os ++ [o])
 | _, _, .nil, _, _, d => .cons d .nil
 | _, _, .cons h t, _, _, d => .cons h (ZEl.snoc t d)
theorem ZEl.at {H : Hp} : ∀ {vs : List V} {os : List (Option (PL))}, ZEl H vs os -> ∀ {i : Nat} {v : V}, vs[i]? = Option.some v -> ∃ o, os[i]? = Option.some o /\ ZEZ H v o
 | _, _, .nil, i, v, e => by simp at e
 | _, _, .cons h t, 0, v, e => by simp at e; subst e; exact ⟨_, rfl, h⟩
 | _, _, .cons _ t, i + 1, v, e => by
  obtain ⟨o, h1, h2⟩ := ZEl.at t (by simpa using e)
  exact ⟨o, by simpa using h1, h2⟩
section
variable {X : Cx}
mutual
theorem Dat.same {K : W.Frag} {H H' : Hp} (s : ZDq H H') : ∀ {x : V} {d : PyData}, Dat K H x d -> Dat K H' x d
 | _, _, .non => .non
 | _, _, .bl b => .bl b
 | _, _, .int i => .int i
 | _, _, .str x => .str x
 | _, _, .tup h r => .tup (s.seqT h) (ZFg.same s r)
 | _, _, .lst h r => .lst (s.seq h) (ZFg.same s r)
theorem ZFg.same {K : W.Frag} {H H' : Hp} (s : ZDq H H') : ∀ {x : List V} {d : List PyData}, ZFg K H x d -> ZFg K H' x d
 | _, _, .nil => .nil
 | _, _, .cons h r => .cons (Dat.same s h) (ZFg.same s r)
end
end
section
variable {X : Cx} {k : Nat} {f : Addr} {fd : FuncData} {ps : List Str} {sp : Sp}
theorem ZJ5 {pins : List (Addr × Obj)} {U : St} {H : Hp} {s : Shared} {Q : VK} {us : List Value} {vs : List V} {E1 : Value -> Shared -> Prop} (F : ZD2 X.prog X.w X.K X.mg X.base CX0 k f fd ps sp) (hr : Room k X.A.in1) (hb : ZDt X.K fd ps [])
  (I : Inv X pins U H s) (r : ZD3 vs us) (h : sp vs H Q E0) : wpAny (model X.prog X.w) X.A.in1 (call (.ref f) us) (EP X pins U Q) E1 s := by
 have hl : (us ++ []).length = ps.length := by rw [UJ, <- r.length]; exact F.len _ _ _ _ h
 refine wpAny_call (codeAny_mono (F.run X.A.in1 X.stack s H ⟨us, []⟩ (us ++ []) vs Q E0 hr I.env0.in1 (hb s us I.kIn hl) (by rw [UJ]; exact r) h) fun r s' hq => ?_)
 cases r with
 | error e => exact False.elim hq
 | ok fl =>
  cases fl with
  | ret u => exact I.after hq
  | next => exact False.elim hq
  | brk => exact False.elim hq
  | cont => exact False.elim hq
theorem Inv.pin2 {pins : List (Addr × Obj)} {U : St} {H : Hp} {s : Shared} {a b : Addr} {oa ob : Obj} (I : Inv X pins U H s) (fa : ZFQ X pins H a) (fb : ZFQ X pins H b) (ha : s.heap.get? a = some oa) (hb : s.heap.get? b = some ob) (ca : ∀ v, oa.data ≠ .cell v) (cb : ∀ v, ob.data ≠ .cell v) :
  Inv X ((a, oa) :: (b, ob) :: pins) U H s := I.pins_of fun p hp => by
 rcases Ul.mp hp with rfl | hp
 ·exact ⟨ha, fa.1, fa.2.1, fa.2.2.1, ca⟩
 ·rcases Ul.mp hp with rfl | hp
  ·exact ⟨hb, fb.1, fb.2.1, fb.2.2.1, cb⟩
  ·exact I.pin p (Uy _ hp)
theorem Inv.unpin2 {pins : List (Addr × Obj)} {U : St} {H : Hp} {s : Shared} {a b : Addr} {oa ob : Obj} (I : Inv X ((a, oa) :: (b, ob) :: pins) U H s) : s.heap.get? a = some oa /\ s.heap.get? b = some ob /\ Inv X pins U H s :=
 ⟨(I.pin (a, oa) (Uy _ (.head _))).1, (I.pin (b, ob) (Uy _ (.tail _ (.head _)))).1, I.pins_of fun p hp => I.pin p (Uy _ (.tail _ (.tail _ hp)))⟩
theorem Inv.turnedAt {pins : List (Addr × Obj)} {U : St} {H : Hp} {s : Shared} {h' : Heap} {t' : Nat} {it : Addr} (I : Inv X pins U H s) (fa : ZFQ X pins H it) (k : ∀ b o, b ≠ it -> s.heap.get? b = some o -> h'.get? b = some o) : Inv X pins U H { s with heap := h', toks := t' } := by
 obtain ⟨f0, f1, f2, f3, f4, f5⟩ := fa
 exact I.turned k f0 f1 f3 f4 f5
theorem ZMl {pins : List (Addr × Obj)} {U : St} {H : Hp} (hc : X.calm = true) (F : ZD2 X.prog X.w X.K X.mg X.base CX0 k f fd ps sp) (hr : Room k X.A.in1) (hb : ZDt X.K fd ps []) {l I S : Addr} {us : List V} (kf : Nat -> Int) (hSI : S ≠ I) (hS : SqT X.K H l us)
  (fI : ZFQ X pins H I) (fS : ZFQ X pins H S) (turn : ∀ i v, us[i]? = some v -> ∀ Q : VK, Q (.int (kf i)) H -> sp [v] H Q E0) {R : Result -> Shared -> Prop}
  (hR : ∀ i v u s', us[i]? = some v -> ZD0 v u -> (∀ j, j < us.length -> kf i <= kf j /\ (j < i -> kf i < kf j)) -> Inv X pins U H s' -> R (.ok (.ret u)) s') :
  ∀ (r j i : Nat) (s : Shared) (v : V) (vb : Value) (tb : Tok) (c : Nat), us.length - (j + 1) = r -> j + 1 <= us.length -> Inv X pins U H s -> s.heap.get? S = some (seqObj "list" #[vb, .int (kf i) tb] c) -> s.heap.IsTupleIter I l (j + 1) ->
   us[i]? = some v -> ZD0 v vb -> i <= j -> (∀ j', j' <= j -> kf i <= kf j' /\ (j' < i -> kf i < kf j')) ->
   codeAny (model X.prog X.w) X.A (.builtin "min.loop" ⟨[.ref I, .ref f, .ref S], []⟩) R s := by
 have hname : (toString "min" ++ toString ".loop" : String) = "min.loop" := by decide
 intro r
 induction r with
 | zero =>
  intro j i s v vb tb c hr' hj J nS hit hv rv hij hbest
  have hin : j + 1 = us.length := by omega
  obtain ⟨its, rvs, p, hz⟩ := J.tuple hS
  have hl := rvs.length
  refine codeAny_builtin PySem.F.entry_min_loop ?_
  rw [Around.under_plainId PySem.F.plain_min_loop _]
  show wpAny _ X.A.in1 (seqItems? (.ref S) >>= _) _ _ _
  refine Ua (wpAny_seqItems nS rfl ?_)
  show wpAny _ X.A.in1 (tryCatch (pyNext (.ref I)) _ >>= _) _ _ _
  refine Ua (wpAny_tryCatch (wpAny_pyNext_tuple_end (J.ok.hd hc) hit (show s.heap.IsTuple l its.toArray from p) (by simp; omega) fun h' eb => ?_))
  have J1 : Inv X pins U H { s with heap := h' } := J.turnedAt (t' := s.toks) fI fun b o hb e => eb b o hb e
  have hS' : h'.get? S = some (seqObj "list" #[vb, .int (kf i) tb] c) := eb S _ hSI nS
  show wpAny _ X.A.in1 (updateSeq S (fun _ => #[]) >>= _) _ _ _
  refine Ua ?_
  refine wpAny_updateSeq hS' rfl (Ua (wpAny_letGo (Uh ?_)))
  exact hR i v vb _ hv rv (fun j' hj' => hbest j' (by omega)) (J1.turnedAt (t' := s.toks) fS fun b o hb e => (UE _ _ (Ne.symm hb)).trans e)
 | succ r ih =>
  intro j i s v vb tb c hr' hj J nS hit hv rv hij hbest
  have hlt : j + 1 < us.length := by omega
  obtain ⟨its, rvs, p, hz⟩ := J.tuple hS
  have hx : us[j + 1]? = some us[j + 1] := Uc hlt
  obtain ⟨u, hu, ru⟩ := rvs.get hx
  refine codeAny_builtin PySem.F.entry_min_loop ?_
  rw [Around.under_plainId PySem.F.plain_min_loop _]
  show wpAny _ X.A.in1 (seqItems? (.ref S) >>= _) _ _ _
  refine Ua (wpAny_seqItems nS rfl ?_)
  show wpAny _ X.A.in1 (tryCatch (pyNext (.ref I)) _ >>= _) _ _ _
  refine Ua (wpAny_tryCatch (wpAny_pyNext_tuple_item hit (show s.heap.IsTuple l its.toArray from p) (x := u) (by simpa using hu) fun h' st' sb => ?_))
  have J1 : Inv X pins U H { s with heap := h' } := J.turnedAt (t' := s.toks) fI fun b o hb e => (sb.2 b hb).trans e
  have hS' : h'.get? S = some (seqObj "list" #[vb, .int (kf i) tb] c) := (sb.2 S hSI).trans nS
  obtain ⟨oI, hoI, hoc, hod⟩ := id st'
  have J2 := J1.pin2 (s := { s with heap := h' }) fS fI hS' hoI (fun v z => by cases z) (fun v z => by rw [hod] at z; cases z)
  show wpAny _ X.A.in1 (tryCatch (holding [u] (call (.ref f) [u])) _ >>= _) _ _ _
  refine Ua (wpAny_tryCatch (UT (UG (ZJ5 (E1 := fun _ _ => False) F hr hb J2 (.cons ru .nil) (turn (j + 1) _ hx (fun v H' => v = .int (kf (j + 1)) /\ H' = H) ⟨rfl, rfl⟩)) (fun x s'' he => ?_) fun _ _ hF => hF.elim)))
  obtain ⟨v2, H2, J3, r2, e2, e3⟩ := he
  subst e2 e3
  obtain ⟨t2, rfl⟩ := r2
  obtain ⟨nS2, nI2, J4⟩ := J3.unpin2
  have hit2 : s''.heap.IsTupleIter I l (j + 1 + 1) := ⟨oI, nI2, hoc, hod⟩
  show wpAny _ X.A.in1 (tryCatch (holding [u, .int (kf (j + 1)) t2] (richCompare .Lt (.int (kf (j + 1)) t2) (.int (kf i) tb) >>= _)) _ >>= _) _ _ _
  refine Ua (wpAny_tryCatch (UT (Ua (CmpOf.ints_lt (prog := X.prog) (w := X.w) (A := X.A.in1) (P := fun i v => ∃ t, v = .int (kf i) t) kf (fun i v h => h) (j + 1) i _ _ _ _ _ ⟨t2, rfl⟩ ⟨tb, rfl⟩ ?_))))
  refine Ua (UT (wpAny_truthy_bool ?_))
  refine Ua (wpAny_letGo (Uh ?_))
  by_cases hb' : kf (j + 1) < kf i
  ·obtain ⟨c2, hc2⟩ : ∃ c2, (s''.heap.update S (Obj.mapSeq fun _ => #[u, .int (kf (j + 1)) t2])).get? S = some (seqObj "list" #[u, .int (kf (j + 1)) t2] c2) := ⟨_, get?_update_seq nS2 fun _ => #[u, .int (kf (j + 1)) t2]⟩
   simp only [hb', decide_true, if_true]
   refine Ua ?_
   refine wpAny_updateSeq nS2 rfl (Ua (wpAny_letGo ?_))
   rw [hname]
   refine Uh ⟨plainId_quiet PySem.F.plain_min_loop _, ih (j + 1) (j + 1) _ _ u t2 c2 (by omega) hlt (J4.turnedAt (t' := s''.toks) fS fun b o hb e => (UE _ _ (Ne.symm hb)).trans e) hc2 ⟨oI, (UE _ _ hSI).trans nI2, hoc, hod⟩ hx ru (Ud _) fun j' hj' => ?_⟩
   by_cases e : j' = j + 1
   ·subst e
    exact ⟨by omega, fun _ => by omega⟩
   ·have hb1 := hbest j' (by omega)
    have hb2 := hb1.1
    exact ⟨by omega, fun _ => by omega⟩
  ·simp only [hb', decide_false, Vd, if_false]
   refine Ua (wpAny_letGo ?_)
   rw [hname]
   refine Uh ⟨plainId_quiet PySem.F.plain_min_loop _, ih (j + 1) i _ v vb tb c (by omega) hlt J4 nS2 hit2 hv rv (by omega) fun j' hj' => ?_⟩
   by_cases e : j' = j + 1
   ·subst e
    exact ⟨by omega, fun _ => by omega⟩
   ·exact hbest j' (by omega)
theorem ZMm {pins : List (Addr × Obj)} {U : St} {H : Hp} {s : Shared} {Q : VK} {E1 : Value -> Shared -> Prop} (hc : X.calm = true) (F : ZD2 X.prog X.w X.K X.mg X.base CX0 k f fd ps sp) (hr : Room k X.A.in1) (hb : ZDt X.K fd ps []) {l : Addr} {us : List V} (kf : Nat -> Int) (J : Inv X pins U H s) (hS : SqT X.K H l us) (hne : us ≠ [])
  (turn : ∀ i v, us[i]? = some v -> ∀ Q : VK, Q (.int (kf i)) H -> sp [v] H Q E0) (hQ : ∀ i v, us[i]? = some v -> (∀ j, j < us.length -> kf i <= kf j /\ (j < i -> kf i < kf j)) -> Q v H) :
  wpAny (model X.prog X.w) X.A (call (.builtin "min") [.ref l] [(Str.ofString "key", .ref f)]) (EP X pins U Q) E1 s := by
 have hname : (toString "min" ++ toString ".loop" : String) = "min.loop" := by decide
 have hpos : 0 < us.length := List.length_pos_iff.mpr hne
 obtain ⟨its, rvs, p, hz⟩ := J.tuple hS
 have hls : s.heap.IsTuple l its.toArray := p
 refine kmk_tree PySem.F.kind_min PySem.F.plain_min PySem.F.entry_min (kmk_min_key _ _) ?_
 show wpAny _ X.A.in1 (Builtin.Builtins.bindParams "min" ["key", "default"] 0 ⟨[], [(Str.ofString "key", .ref f)]⟩ >>= _) _ _ s
 refine Ua (wpAny_of_eq (show Builtin.Builtins.bindParams "min" ["key", "default"] 0 ⟨[], [(Str.ofString "key", .ref f)]⟩ = pure [some (.ref f), none] from rfl) ?_)
 refine Ua (Uh ?_)
 refine Ua (wpAny_pyIter_tuple hls ?_)
 refine Ua (wpAny_newList ?_ (UO _))
 rw [hname]
 refine Uh ⟨plainId_quiet PySem.F.plain_min_loop _, ?_⟩
 generalize hO : ({ cls := .type "tuple_iterator", data := .fields #[.ref l, .int 0 0] } : Obj) = O
 have hSs : (s.heap.push O).objs.size = s.heap.objs.size + 1 := size_push' ..
 have hSI : (s.heap.push O).objs.size ≠ s.heap.objs.size := by rw [hSs]; exact Nat.ne_of_gt (Vq _)
 have gI : ((s.heap.push O).push (seqObj "list" #[] 0)).get? s.heap.objs.size = some O := Ub _ (Ug _ (by rw [<- hO]; rfl))
 have gS : ((s.heap.push O).push (seqObj "list" #[] 0)).get? (s.heap.push O).objs.size = some (seqObj "list" #[] 0) := Ug _ rfl
 have fI : ZFQ X pins H s.heap.objs.size := J.fpOk (Ud _) (J.hok.fresh (Ud _))
 have fS : ZFQ X pins H (s.heap.push O).objs.size := J.fpOk (by rw [hSs]; exact Nat.le_succ _) (J.hok.fresh (by rw [hSs]; exact Nat.le_succ _))
 have J0 : Inv X pins U H { s with heap := (s.heap.push O).push (seqObj "list" #[] 0) } := J.kept (t' := s.toks) fun b o e => Ub _ (Ub _ e)
 obtain ⟨its0, rvs0, p0, hz0⟩ := J0.tuple hS
 have hx : us[0]? = some us[0] := Uc hpos
 obtain ⟨u, hu, ru⟩ := rvs0.get hx
 refine codeAny_builtin PySem.F.entry_min_loop ?_
 rw [Around.under_plainId PySem.F.plain_min_loop _]
 show wpAny _ X.A.in1 (seqItems? (.ref _) >>= _) _ _ _
 refine Ua (wpAny_seqItems gS rfl ?_)
 show wpAny _ X.A.in1 (tryCatch (pyNext (.ref s.heap.objs.size)) _ >>= _) _ _ _
 refine Ua (wpAny_tryCatch (wpAny_pyNext_tuple_item (s := { s with heap := (s.heap.push O).push (seqObj "list" #[] 0) }) (i := 0) ⟨O, gI, by rw [<- hO], by rw [<- hO]; rfl⟩ (show ((s.heap.push O).push (seqObj "list" #[] 0)).IsTuple l its0.toArray from p0) (x := u) (by simpa using hu) fun h' st' sb => ?_))
 have J1 : Inv X pins U H { s with heap := h' } := J0.turnedAt (t' := s.toks) fI fun b o hb e => (sb.2 b hb).trans e
 have hS' : h'.get? (s.heap.push O).objs.size = some (seqObj "list" #[] 0) := (sb.2 _ hSI).trans gS
 obtain ⟨oI, hoI, hoc, hod⟩ := id st'
 have J2 := J1.pin2 (s := { s with heap := h' }) fS fI hS' hoI (fun v z => by cases z) (fun v z => by rw [hod] at z; cases z)
 show wpAny _ X.A.in1 (tryCatch (holding [u] (call (.ref f) [u])) _ >>= _) _ _ _
 refine Ua (wpAny_tryCatch (UT (UG (ZJ5 (E1 := fun _ _ => False) F hr hb J2 (.cons ru .nil) (turn 0 _ hx (fun v H' => v = .int (kf 0) /\ H' = H) ⟨rfl, rfl⟩)) (fun x s'' he => ?_) fun _ _ hF => hF.elim)))
 obtain ⟨v2, H2, J3, r2, e2, e3⟩ := he
 subst e2 e3
 obtain ⟨t2, rfl⟩ := r2
 obtain ⟨nS2, nI2, J4⟩ := J3.unpin2
 obtain ⟨c2, hc2⟩ : ∃ c2, (s''.heap.update (s.heap.push O).objs.size (Obj.mapSeq fun _ => #[u, .int (kf 0) t2])).get? (s.heap.push O).objs.size = some (seqObj "list" #[u, .int (kf 0) t2] c2) := ⟨_, get?_update_seq nS2 fun _ => #[u, .int (kf 0) t2]⟩
 show wpAny _ X.A.in1 (updateSeq (s.heap.push O).objs.size (fun _ => #[u, .int (kf 0) t2]) >>= _) _ _ _
 refine Ua ?_
 refine wpAny_updateSeq nS2 rfl ?_
 rw [hname]
 refine Uh ⟨plainId_quiet PySem.F.plain_min_loop _, ZMl hc F hr hb kf hSI hS fI fS turn (fun i v u s' hv rv hbest J' => ⟨v, _, J', rv, hQ i v hv hbest⟩) _ 0 0 _ _ u t2 c2 rfl hpos (J4.turnedAt (t' := s''.toks) fS fun b o hb e => (UE _ _ (Ne.symm hb)).trans e) hc2 ⟨oI, (UE _ _ hSI).trans nI2, hoc, hod⟩ hx ru (Ud _) fun j' hj' => ?_⟩
 have e : j' = 0 := by omega
 subst e
 exact ⟨by omega, fun h => absurd h (Vr _)⟩
def ZKc (K : W.Frag) (sp : Sp) (vs : List V) (H : Hp) (Q : VK) : Prop := ∃ (l : Addr) (us : List V) (kf : Nat -> Int), vs = [.ref l] /\ SqT K H l us /\ us ≠ [] /\ (∀ i v, us[i]? = some v -> ∀ Q : VK, Q (.int (kf i)) H -> sp [v] H Q E0) /\
 ∀ i v, us[i]? = some v -> (∀ j, j < us.length -> kf i <= kf j /\ (j < i -> kf i < kf j)) -> Q v H
def ZNj (K : W.Frag) (sp : Sp) (t : TA) : TE := fun U H Q => t U H fun vs H1 => ZKc K sp vs H1 Q
theorem ZPz {x : Str} {e : Expr} {t : TA} {p kp kpos pos : Pos} (K : W.Frag) (hK : X.K = K) (hc : X.calm = true) (F : ZD2 X.prog X.w X.K X.mg X.base CX0 k f fd ps sp) (hr : Room (k + 1) X.A) (hgm : Gl X "min") (hmm : X.mg "min" = none) (hg : Gl X x) (hm : X.mg x = some (.ref f)) (hb : ZDt X.K fd ps []) (ha : QA X [e] t)
  (hs : ZFT e = false := by rfl) (hd : (x == ("__debug__" : Str)) = false := by decide) : QE X (.Call (.Name "min" p) [e] [⟨some "key", .Name x kp, kpos⟩] pos) (ZNj K sp t) := by
 subst hK
 refine ⟨?_⟩
 intro pins s U H Q I h
 refine wpAny_Call_Name_kw (ZGY I hgm hmm ZIS ?_ (by decide) (by decide))
 have hse := ZE1 (e := e) (es := []) (env := X.env) hs
 refine PyProof.Rows.callWith_kw (thn (ha.h pos pins s U H _ I h) fun us s1 ⟨vs, H1, I1, r1, q1⟩ => PyProof.Rows.kws_cons (ZHT I1 hg hm (PyProof.Rows.kws_nil ?_) hd)) (by rw [hse]; rfl) (by rw [hse]; rfl)
 obtain ⟨l, ws, kf, e1, g1, g2, g3, g4⟩ := q1
 subst e1
 obtain ⟨u, rfl, ru⟩ := r1.one
 cases ru
 exact ZMm hc F hr.in1 hb kf I1 g1 g2 g3 g4
theorem ZP0 {K : W.Frag} {H : Hp} {Q : VK} {sp : Sp} {l : Addr} {us : List V} (kf : Nat -> Int) (h1 : SqT K H l us) (h2 : us ≠ []) (h3 : ∀ i v, us[i]? = some v -> ∀ Q : VK, Q (.int (kf i)) H -> sp [v] H Q E0)
 (h : ∀ i v, us[i]? = some v -> (∀ j, j < us.length -> kf i <= kf j /\ (j < i -> kf i < kf j)) -> Q v H) : ZKc K sp [.ref l] H Q := ⟨l, us, kf, rfl, h1, h2, h3, h⟩
theorem ZOf {K : W.Frag} {sp : Sp} {t : TA} {U : St} {H : Hp} {Q : VK} (h : t U H fun vs H1 => ZKc K sp vs H1 Q) : ZNj K sp t U H Q := h
theorem ZMn {pins : List (Addr × Obj)} {U : St} {H : Hp} (hc : X.calm = true) (F : ZD2 X.prog X.w X.K X.mg X.base CX0 k f fd ps sp) (hr : Room k X.A.in1) (hb : ZDt X.K fd ps []) {l I S : Addr} {us : List V} (kf : Nat -> Int) (hSI : S ≠ I) (hS : SqT X.K H l us)
  (fI : ZFQ X pins H I) (fS : ZFQ X pins H S) (turn : ∀ i v, us[i]? = some v -> ∀ Q : VK, Q (.int (kf i)) H -> sp [v] H Q E0) {R : Result -> Shared -> Prop}
  (hR : ∀ i v u s', us[i]? = some v -> ZD0 v u -> (∀ j, j < us.length -> kf i >= kf j /\ (j < i -> kf i > kf j)) -> Inv X pins U H s' -> R (.ok (.ret u)) s') :
  ∀ (r j i : Nat) (s : Shared) (v : V) (vb : Value) (tb : Tok) (c : Nat), us.length - (j + 1) = r -> j + 1 <= us.length -> Inv X pins U H s -> s.heap.get? S = some (seqObj "list" #[vb, .int (kf i) tb] c) -> s.heap.IsTupleIter I l (j + 1) ->
   us[i]? = some v -> ZD0 v vb -> i <= j -> (∀ j', j' <= j -> kf i >= kf j' /\ (j' < i -> kf i > kf j')) ->
   codeAny (model X.prog X.w) X.A (.builtin "max.loop" ⟨[.ref I, .ref f, .ref S], []⟩) R s := by
 have hname : (toString "max" ++ toString ".loop" : String) = "max.loop" := by decide
 intro r
 induction r with
 | zero =>
  intro j i s v vb tb c hr' hj J nS hit hv rv hij hbest
  have hin : j + 1 = us.length := by omega
  obtain ⟨its, rvs, p, hz⟩ := J.tuple hS
  have hl := rvs.length
  refine codeAny_builtin PySem.F.entry_max_loop ?_
  rw [Around.under_plainId PySem.F.plain_max_loop _]
  show wpAny _ X.A.in1 (seqItems? (.ref S) >>= _) _ _ _
  refine Ua (wpAny_seqItems nS rfl ?_)
  show wpAny _ X.A.in1 (tryCatch (pyNext (.ref I)) _ >>= _) _ _ _
  refine Ua (wpAny_tryCatch (wpAny_pyNext_tuple_end (J.ok.hd hc) hit (show s.heap.IsTuple l its.toArray from p) (by simp; omega) fun h' eb => ?_))
  have J1 : Inv X pins U H { s with heap := h' } := J.turnedAt (t' := s.toks) fI fun b o hb e => eb b o hb e
  have hS' : h'.get? S = some (seqObj "list" #[vb, .int (kf i) tb] c) := eb S _ hSI nS
  show wpAny _ X.A.in1 (updateSeq S (fun _ => #[]) >>= _) _ _ _
  refine Ua ?_
  refine wpAny_updateSeq hS' rfl (Ua (wpAny_letGo (Uh ?_)))
  exact hR i v vb _ hv rv (fun j' hj' => hbest j' (by omega)) (J1.turnedAt (t' := s.toks) fS fun b o hb e => (UE _ _ (Ne.symm hb)).trans e)
 | succ r ih =>
  intro j i s v vb tb c hr' hj J nS hit hv rv hij hbest
  have hlt : j + 1 < us.length := by omega
  obtain ⟨its, rvs, p, hz⟩ := J.tuple hS
  have hx : us[j + 1]? = some us[j + 1] := Uc hlt
  obtain ⟨u, hu, ru⟩ := rvs.get hx
  refine codeAny_builtin PySem.F.entry_max_loop ?_
  rw [Around.under_plainId PySem.F.plain_max_loop _]
  show wpAny _ X.A.in1 (seqItems? (.ref S) >>= _) _ _ _
  refine Ua (wpAny_seqItems nS rfl ?_)
  show wpAny _ X.A.in1 (tryCatch (pyNext (.ref I)) _ >>= _) _ _ _
  refine Ua (wpAny_tryCatch (wpAny_pyNext_tuple_item hit (show s.heap.IsTuple l its.toArray from p) (x := u) (by simpa using hu) fun h' st' sb => ?_))
  have J1 : Inv X pins U H { s with heap := h' } := J.turnedAt (t' := s.toks) fI fun b o hb e => (sb.2 b hb).trans e
  have hS' : h'.get? S = some (seqObj "list" #[vb, .int (kf i) tb] c) := (sb.2 S hSI).trans nS
  obtain ⟨oI, hoI, hoc, hod⟩ := id st'
  have J2 := J1.pin2 (s := { s with heap := h' }) fS fI hS' hoI (fun v z => by cases z) (fun v z => by rw [hod] at z; cases z)
  show wpAny _ X.A.in1 (tryCatch (holding [u] (call (.ref f) [u])) _ >>= _) _ _ _
  refine Ua (wpAny_tryCatch (UT (UG (ZJ5 (E1 := fun _ _ => False) F hr hb J2 (.cons ru .nil) (turn (j + 1) _ hx (fun v H' => v = .int (kf (j + 1)) /\ H' = H) ⟨rfl, rfl⟩)) (fun x s'' he => ?_) fun _ _ hF => hF.elim)))
  obtain ⟨v2, H2, J3, r2, e2, e3⟩ := he
  subst e2 e3
  obtain ⟨t2, rfl⟩ := r2
  obtain ⟨nS2, nI2, J4⟩ := J3.unpin2
  have hit2 : s''.heap.IsTupleIter I l (j + 1 + 1) := ⟨oI, nI2, hoc, hod⟩
  show wpAny _ X.A.in1 (tryCatch (holding [u, .int (kf (j + 1)) t2] (richCompare .Gt (.int (kf (j + 1)) t2) (.int (kf i) tb) >>= _)) _ >>= _) _ _ _
  refine Ua (wpAny_tryCatch (UT (Ua (CmpOf.ints_gt (prog := X.prog) (w := X.w) (A := X.A.in1) (P := fun i v => ∃ t, v = .int (kf i) t) kf (fun i v h => h) (j + 1) i _ _ _ _ _ ⟨t2, rfl⟩ ⟨tb, rfl⟩ ?_))))
  refine Ua (UT (wpAny_truthy_bool ?_))
  refine Ua (wpAny_letGo (Uh ?_))
  by_cases hb' : kf (j + 1) > kf i
  ·obtain ⟨c2, hc2⟩ : ∃ c2, (s''.heap.update S (Obj.mapSeq fun _ => #[u, .int (kf (j + 1)) t2])).get? S = some (seqObj "list" #[u, .int (kf (j + 1)) t2] c2) := ⟨_, get?_update_seq nS2 fun _ => #[u, .int (kf (j + 1)) t2]⟩
   simp only [hb', decide_true, if_true]
   refine Ua ?_
   refine wpAny_updateSeq nS2 rfl (Ua (wpAny_letGo ?_))
   rw [hname]
   refine Uh ⟨plainId_quiet PySem.F.plain_max_loop _, ih (j + 1) (j + 1) _ _ u t2 c2 (by omega) hlt (J4.turnedAt (t' := s''.toks) fS fun b o hb e => (UE _ _ (Ne.symm hb)).trans e) hc2 ⟨oI, (UE _ _ hSI).trans nI2, hoc, hod⟩ hx ru (Ud _) fun j' hj' => ?_⟩
   by_cases e : j' = j + 1
   ·subst e
    exact ⟨by omega, fun _ => by omega⟩
   ·have hb1 := hbest j' (by omega)
    have hb2 := hb1.1
    exact ⟨by omega, fun _ => by omega⟩
  ·simp only [hb', decide_false, Vd, if_false]
   refine Ua (wpAny_letGo ?_)
   rw [hname]
   refine Uh ⟨plainId_quiet PySem.F.plain_max_loop _, ih (j + 1) i _ v vb tb c (by omega) hlt J4 nS2 hit2 hv rv (by omega) fun j' hj' => ?_⟩
   by_cases e : j' = j + 1
   ·subst e
    exact ⟨by omega, fun _ => by omega⟩
   ·exact hbest j' (by omega)
theorem ZMo {pins : List (Addr × Obj)} {U : St} {H : Hp} {s : Shared} {Q : VK} {E1 : Value -> Shared -> Prop} (hc : X.calm = true) (F : ZD2 X.prog X.w X.K X.mg X.base CX0 k f fd ps sp) (hr : Room k X.A.in1) (hb : ZDt X.K fd ps []) {l : Addr} {us : List V} (kf : Nat -> Int) (J : Inv X pins U H s) (hS : SqT X.K H l us) (hne : us ≠ [])
  (turn : ∀ i v, us[i]? = some v -> ∀ Q : VK, Q (.int (kf i)) H -> sp [v] H Q E0) (hQ : ∀ i v, us[i]? = some v -> (∀ j, j < us.length -> kf i >= kf j /\ (j < i -> kf i > kf j)) -> Q v H) :
  wpAny (model X.prog X.w) X.A (call (.builtin "max") [.ref l] [(Str.ofString "key", .ref f)]) (EP X pins U Q) E1 s := by
 have hname : (toString "max" ++ toString ".loop" : String) = "max.loop" := by decide
 have hpos : 0 < us.length := List.length_pos_iff.mpr hne
 obtain ⟨its, rvs, p, hz⟩ := J.tuple hS
 have hls : s.heap.IsTuple l its.toArray := p
 refine kmk_tree PySem.F.kind_max PySem.F.plain_max PySem.F.entry_max (kmk_max_key _ _) ?_
 show wpAny _ X.A.in1 (Builtin.Builtins.bindParams "max" ["key", "default"] 0 ⟨[], [(Str.ofString "key", .ref f)]⟩ >>= _) _ _ s
 refine Ua (wpAny_of_eq (show Builtin.Builtins.bindParams "max" ["key", "default"] 0 ⟨[], [(Str.ofString "key", .ref f)]⟩ = pure [some (.ref f), none] from rfl) ?_)
 refine Ua (Uh ?_)
 refine Ua (wpAny_pyIter_tuple hls ?_)
 refine Ua (wpAny_newList ?_ (UO _))
 rw [hname]
 refine Uh ⟨plainId_quiet PySem.F.plain_max_loop _, ?_⟩
 generalize hO : ({ cls := .type "tuple_iterator", data := .fields #[.ref l, .int 0 0] } : Obj) = O
 have hSs : (s.heap.push O).objs.size = s.heap.objs.size + 1 := size_push' ..
 have hSI : (s.heap.push O).objs.size ≠ s.heap.objs.size := by rw [hSs]; exact Nat.ne_of_gt (Vq _)
 have gI : ((s.heap.push O).push (seqObj "list" #[] 0)).get? s.heap.objs.size = some O := Ub _ (Ug _ (by rw [<- hO]; rfl))
 have gS : ((s.heap.push O).push (seqObj "list" #[] 0)).get? (s.heap.push O).objs.size = some (seqObj "list" #[] 0) := Ug _ rfl
 have fI : ZFQ X pins H s.heap.objs.size := J.fpOk (Ud _) (J.hok.fresh (Ud _))
 have fS : ZFQ X pins H (s.heap.push O).objs.size := J.fpOk (by rw [hSs]; exact Nat.le_succ _) (J.hok.fresh (by rw [hSs]; exact Nat.le_succ _))
 have J0 : Inv X pins U H { s with heap := (s.heap.push O).push (seqObj "list" #[] 0) } := J.kept (t' := s.toks) fun b o e => Ub _ (Ub _ e)
 obtain ⟨its0, rvs0, p0, hz0⟩ := J0.tuple hS
 have hx : us[0]? = some us[0] := Uc hpos
 obtain ⟨u, hu, ru⟩ := rvs0.get hx
 refine codeAny_builtin PySem.F.entry_max_loop ?_
 rw [Around.under_plainId PySem.F.plain_max_loop _]
 show wpAny _ X.A.in1 (seqItems? (.ref _) >>= _) _ _ _
 refine Ua (wpAny_seqItems gS rfl ?_)
 show wpAny _ X.A.in1 (tryCatch (pyNext (.ref s.heap.objs.size)) _ >>= _) _ _ _
 refine Ua (wpAny_tryCatch (wpAny_pyNext_tuple_item (s := { s with heap := (s.heap.push O).push (seqObj "list" #[] 0) }) (i := 0) ⟨O, gI, by rw [<- hO], by rw [<- hO]; rfl⟩ (show ((s.heap.push O).push (seqObj "list" #[] 0)).IsTuple l its0.toArray from p0) (x := u) (by simpa using hu) fun h' st' sb => ?_))
 have J1 : Inv X pins U H { s with heap := h' } := J0.turnedAt (t' := s.toks) fI fun b o hb e => (sb.2 b hb).trans e
 have hS' : h'.get? (s.heap.push O).objs.size = some (seqObj "list" #[] 0) := (sb.2 _ hSI).trans gS
 obtain ⟨oI, hoI, hoc, hod⟩ := id st'
 have J2 := J1.pin2 (s := { s with heap := h' }) fS fI hS' hoI (fun v z => by cases z) (fun v z => by rw [hod] at z; cases z)
 show wpAny _ X.A.in1 (tryCatch (holding [u] (call (.ref f) [u])) _ >>= _) _ _ _
 refine Ua (wpAny_tryCatch (UT (UG (ZJ5 (E1 := fun _ _ => False) F hr hb J2 (.cons ru .nil) (turn 0 _ hx (fun v H' => v = .int (kf 0) /\ H' = H) ⟨rfl, rfl⟩)) (fun x s'' he => ?_) fun _ _ hF => hF.elim)))
 obtain ⟨v2, H2, J3, r2, e2, e3⟩ := he
 subst e2 e3
 obtain ⟨t2, rfl⟩ := r2
 obtain ⟨nS2, nI2, J4⟩ := J3.unpin2
 obtain ⟨c2, hc2⟩ : ∃ c2, (s''.heap.update (s.heap.push O).objs.size (Obj.mapSeq fun _ => #[u, .int (kf 0) t2])).get? (s.heap.push O).objs.size = some (seqObj "list" #[u, .int (kf 0) t2] c2) := ⟨_, get?_update_seq nS2 fun _ => #[u, .int (kf 0) t2]⟩
 show wpAny _ X.A.in1 (updateSeq (s.heap.push O).objs.size (fun _ => #[u, .int (kf 0) t2]) >>= _) _ _ _
 refine Ua ?_
 refine wpAny_updateSeq nS2 rfl ?_
 rw [hname]
 refine Uh ⟨plainId_quiet PySem.F.plain_max_loop _, ZMn hc F hr hb kf hSI hS fI fS turn (fun i v u s' hv rv hbest J' => ⟨v, _, J', rv, hQ i v hv hbest⟩) _ 0 0 _ _ u t2 c2 rfl hpos (J4.turnedAt (t' := s''.toks) fS fun b o hb e => (UE _ _ (Ne.symm hb)).trans e) hc2 ⟨oI, (UE _ _ hSI).trans nI2, hoc, hod⟩ hx ru (Ud _) fun j' hj' => ?_⟩
 have e : j' = 0 := by omega
 subst e
 exact ⟨by omega, fun h => absurd h (Vr _)⟩
def ZKd (K : W.Frag) (sp : Sp) (vs : List V) (H : Hp) (Q : VK) : Prop := ∃ (l : Addr) (us : List V) (kf : Nat -> Int), vs = [.ref l] /\ SqT K H l us /\ us ≠ [] /\ (∀ i v, us[i]? = some v -> ∀ Q : VK, Q (.int (kf i)) H -> sp [v] H Q E0) /\
 ∀ i v, us[i]? = some v -> (∀ j, j < us.length -> kf i >= kf j /\ (j < i -> kf i > kf j)) -> Q v H
def ZNk (K : W.Frag) (sp : Sp) (t : TA) : TE := fun U H Q => t U H fun vs H1 => ZKd K sp vs H1 Q
theorem ZP1 {x : Str} {e : Expr} {t : TA} {p kp kpos pos : Pos} (K : W.Frag) (hK : X.K = K) (hc : X.calm = true) (F : ZD2 X.prog X.w X.K X.mg X.base CX0 k f fd ps sp) (hr : Room (k + 1) X.A) (hgm : Gl X "max") (hmm : X.mg "max" = none) (hg : Gl X x) (hm : X.mg x = some (.ref f)) (hb : ZDt X.K fd ps []) (ha : QA X [e] t)
  (hs : ZFT e = false := by rfl) (hd : (x == ("__debug__" : Str)) = false := by decide) : QE X (.Call (.Name "max" p) [e] [⟨some "key", .Name x kp, kpos⟩] pos) (ZNk K sp t) := by
 subst hK
 refine ⟨?_⟩
 intro pins s U H Q I h
 refine wpAny_Call_Name_kw (ZGY I hgm hmm ZIR ?_ (by decide) (by decide))
 have hse := ZE1 (e := e) (es := []) (env := X.env) hs
 refine PyProof.Rows.callWith_kw (thn (ha.h pos pins s U H _ I h) fun us s1 ⟨vs, H1, I1, r1, q1⟩ => PyProof.Rows.kws_cons (ZHT I1 hg hm (PyProof.Rows.kws_nil ?_) hd)) (by rw [hse]; rfl) (by rw [hse]; rfl)
 obtain ⟨l, ws, kf, e1, g1, g2, g3, g4⟩ := q1
 subst e1
 obtain ⟨u, rfl, ru⟩ := r1.one
 cases ru
 exact ZMo hc F hr.in1 hb kf I1 g1 g2 g3 g4
theorem ZP2 {K : W.Frag} {H : Hp} {Q : VK} {sp : Sp} {l : Addr} {us : List V} (kf : Nat -> Int) (h1 : SqT K H l us) (h2 : us ≠ []) (h3 : ∀ i v, us[i]? = some v -> ∀ Q : VK, Q (.int (kf i)) H -> sp [v] H Q E0)
 (h : ∀ i v, us[i]? = some v -> (∀ j, j < us.length -> kf i >= kf j /\ (j < i -> kf i > kf j)) -> Q v H) : ZKd K sp [.ref l] H Q := ⟨l, us, kf, rfl, h1, h2, h3, h⟩
theorem ZOg {K : W.Frag} {sp : Sp} {t : TA} {U : St} {H : Hp} {Q : VK} (h : t U H fun vs H1 => ZKd K sp vs H1 Q) : ZNk K sp t U H Q := h
end
section
variable {X : Cx} {o e value : Expr} {f m : Str} {pos pos' tpos apos : Pos} {ta tv : TE} {t : TA}
def ZXv (K : W.Frag) (f : Str) (x : V) (H : Hp) (Q : VK) : Prop := ∃ a C dx fs v, x = .ref a /\ H a = some (.ins C dx fs) /\ Cls K C /\ ZEp K C f /\ fs.lookup f = some v /\ Q v H
def ZUV (K : W.Frag) (f : Str) (y x : V) (H : Hp) (R : Hp -> Prop) : Prop := ∃ a C dx fs, x = .ref a /\ H a = some (.ins C dx fs) /\ Cls K C /\ ZEp K C f /\ fs.length < 1000 /\ R (upd H a (.ins C dx (ZEV f y fs)))
theorem ZEq (K : W.Frag) (hK : X.K = K) (he : QE X e ta) (hb : attributeBase e f X.env (eval e X.env) = eval e X.env := by rfl) : QE X (.Attribute e f pos) (ZSk K ta f) := by
 subst hK
 exact ⟨ZWt he.h hb⟩
theorem ZHB (K : W.Frag) (hK : X.K = K) (ho : QE X o ta) (hv : QE X value tv) (hs : ZF7 value = false := by rfl) : QS X (.Assign [.Attribute o f pos'] value pos) (ZSl K ta tv f) := by
 subst hK
 exact ⟨ZWu ho.h hv.h (ZHd hs)⟩
theorem ZRM (K : W.Frag) (hK : X.K = K) (ho : QE X o ta) (hv : QE X value tv) : QS X (.AugAssign (.Attribute o f tpos) .Add value pos) (ZLZ K ta tv ZNC f) := by
 subst hK
 exact ⟨ZQr ho.h hv.h ZWv⟩
section
variable {CX : CXT} {k : Nat} {fa C : Addr} {fd : FuncData} {ps : List Str} {sp : Sp} {dvs : List V} {ds : List Value} {E : XK} {es : List Expr} {x : Str} {p : Pos}
theorem ZEo {pl : Sem Bool} (he : QE X o ta) (c : Cls X.K C) (hm : ZE2 X.K C m fa) (F : ZD2 X.prog X.w X.K X.mg X.base CX k fa fd ps sp) (hr : Room k X.A) (hb : ZDt X.K fd ps ds) (hd : ZD3 dvs ds) (hx : ZFS CX X E) (ha : QA X (e :: es) t) (hns : ZEn (e :: es) = true := by rfl)
 (ht : eval (.Call (.Attribute o m apos) (e :: es) [] pos) X.env = (do
  let ov <- eval o X.env
  standAt apos.atName
  let (f, first) <- holding [ov] (getMethod ov m pl)
  callWith pos f first (backTo pos (starEach (e :: es) X.env)) (backToKw pos (keywordEach [] X.env))) := by rfl) :
 QE X (.Call (.Attribute o m apos) (e :: es) [] pos) (ZK2 C m sp dvs E ta t) := ⟨ZUz he.h c hm F hr hb hd hx ha.h (ZGs hns) (ZGO (ZGV hns)) ht⟩
theorem ZIr {pl : Sem Bool} (he : QE X o ta) (c : Cls X.K C) (hm : ZE2 X.K C m fa) (F : ZD2 X.prog X.w X.K X.mg X.base CX k fa fd ps sp) (hr : Room k X.A) (hb : ZDt X.K fd ps ds) (hd : ZD3 dvs ds) (hx : ZFS CX X E)
 (ht : eval (.Call (.Attribute o m apos) [] [] pos) X.env = (do
  let ov <- eval o X.env
  standAt apos.atName
  let (f, first) <- holding [ov] (getMethod ov m pl)
  callWith pos f first (backTo pos (starEach [] X.env)) (backToKw pos (keywordEach [] X.env))) := by rfl) :
 QE X (.Call (.Attribute o m apos) [] [] pos) (ZK2 C m sp dvs E ta ZKR) := ⟨ZSo he.h c hm F hr hb hd hx ht⟩
theorem ZVo (M : Mk X.K C fa) (F : ZD2 X.prog X.w X.K X.mg X.base CX k fa fd ps sp) (hr : Room (k + 1) X.A) (hg : Gl X x) (hm : X.mg x = some (.ref C)) (hb : ZDt X.K fd ps ds) (hd : ZD3 dvs ds) (hx : ZFS CX X E) (ha : QA X (e :: es) t)
 (hns : ZEn (e :: es) = true := by rfl) (hdb : (x == ("__debug__" : Str)) = false := by decide) : QE X (.Call (.Name x p) (e :: es) [] pos) (ZK3 C sp dvs E t) := ⟨ZU0 M F hr hg hm hb hd hx ha.h hdb (ZGs hns) (ZGO (ZGV hns))⟩
theorem ZNl (M : Mk X.K C fa) (F : ZD2 X.prog X.w X.K X.mg X.base CX k fa fd ps sp) (hr : Room (k + 1) X.A) (hg : Gl X x) (hm : X.mg x = some (.ref C)) (hb : ZDt X.K fd ps ds) (hd : ZD3 dvs ds) (hx : ZFS CX X E)
 (hdb : (x == ("__debug__" : Str)) = false := by decide) : QE X (.Call (.Name x p) [] [] pos) (ZK3 C sp dvs E ZKR) := ⟨ZSp M F hr hg hm hb hd hx hdb⟩
end
end
section
variable {K : W.Frag} {U : St} {H : Hp} {Q : VK} {D : ZEx} {f m : Str} {ta tv : TE} {t : TA} {C : Addr} {sp : Sp} {dvs : List V} {E : XK}
theorem ZVp (h : ta U H fun x H1 => ZXv K f x H1 Q) : ZSk K ta f U H Q := h
theorem ZFH {a dx : Addr} {fs : List (Str × V)} {v : V} (h1 : H a = some (.ins C dx fs)) (c : Cls K C) (n : ZEp K C f) (l : fs.lookup f = some v) (q : Q v H) : ZXv K f (.ref a) H Q := ⟨a, C, dx, fs, v, rfl, h1, c, n, l, q⟩
theorem ZTa (h : tv U H fun y H1 => ta U H1 fun x H2 => ZUV K f y x H2 (D.nx U)) : ZSl K ta tv f D U H := h
theorem ZGW {a dx : Addr} {fs : List (Str × V)} {y : V} {R : Hp -> Prop} (h1 : H a = some (.ins C dx fs)) (c : Cls K C) (n : ZEp K C f) (l : fs.length < 1000) (q : ∀ H2, H2 a = some (.ins C dx (ZEV f y fs)) -> Kp a H H2 -> R H2) : ZUV K f y (.ref a) H R := ⟨a, C, dx, fs, rfl, h1, c, n, l, q _ ZDr Kp.upd⟩
def ZPD (K : W.Frag) (f : Str) (tv : TE) (U : St) (R : Hp -> Prop) (x : V) (H : Hp) : Prop := ∃ a C dx fs v, x = .ref a /\ H a = some (.ins C dx fs) /\ Cls K C /\ ZEp K C f /\ fs.lookup f = some v /\
 tv U H fun y H2 => ZNC v y H2 fun z H3 => ∃ dx' fs', H3 a = some (.ins C dx' fs') /\ fs'.length < 1000 /\ R (upd H3 a (.ins C dx' (ZEV f z fs')))
theorem ZP3 (h : ta U H fun x H1 => ZPD K f tv U (D.nx U) x H1) : ZLZ K ta tv ZNC f D U H := h
def ZRN (C : Addr) (m : Str) (x : V) (H : Hp) (R : Prop) : Prop := ∃ a dx fs, x = .ref a /\ H a = some (.ins C dx fs) /\ fs.lookup m = none /\ R
theorem ZTb (h : ta U H fun x H1 => ZRN C m x H1 (t U H1 fun vs H2 => sp (x :: (vs ++ dvs)) H2 Q E)) : ZK2 C m sp dvs E ta t U H Q := h
theorem ZES {a dx : Addr} {fs : List (Str × V)} {R : Prop} (h1 : H a = some (.ins C dx fs)) (l : fs.lookup m = none) (q : R) : ZRN C m (.ref a) H R := ⟨a, dx, fs, rfl, h1, l, q⟩
def ZUW (C : Addr) (sp : Sp) (dvs : List V) (E : XK) (vs : List V) (H : Hp) (Q : VK) : Prop := ∀ x dx, H x = none -> H dx = none -> dx ≠ x -> sp (.ref x :: (vs ++ dvs)) (upd (upd H dx (.own x)) x (.ins C dx [])) (fun v H2 => v = .non /\ Q (.ref x) H2) E
theorem ZTc (h : t U H fun vs H1 => ZUW C sp dvs E vs H1 Q) : ZK3 C sp dvs E t U H Q := h
theorem ZLo {vs : List V} (h : ∀ x dx H2, H x = none -> H2 x = some (.ins C dx []) -> ZDq H H2 -> sp (.ref x :: (vs ++ dvs)) H2 (fun v H3 => v = .non /\ Q (.ref x) H3) E) : ZUW C sp dvs E vs H Q := fun x dx hx hdx hne =>
 h x dx _ hx ZDr fun b o e => by rw [ZD4 (ZET e hx), ZD4 (ZET e hdx)]; exact e
end
structure ZNm (K : W.Frag) (x qual : Str) (st : Stmt) (f : Addr) (fd : FuncData) : Prop where
 ex : ∃ (oc : Value) (od : Option Addr) (dV kV doc pm : Value) (an : Option Addr) (cdv ct : Value) (osl : Array (Option Value)),
  fd = W.fnOf x qual (ZEm st) (ZEg st) (ZDo st) dV kV doc pm an cdv ct /\ K.lookup f = some ⟨oc, od, .func fd, osl⟩ /\ W.codeIn K cdv qual = true
 kp : W.keepIn K (.ref f) = true
theorem ZNm.ok {P : Program} {w : World} {K : W.Frag} {mg : Str -> Option Value} {base : Heap} {x qual : Str} {st : Stmt} {f : Addr} {fd : FuncData} {N ps : List Str} {k : Nat} {sp : Sp} (F : ZNm K x qual st f fd) (S : ZDw N ps (ZDo st)) (len : ∀ vs H Q E, sp vs H Q E -> vs.length = ps.length)
  (hbody : ∀ (cdv : Value) (A : Around) (outer : List Env) (s : Shared) (H : Hp) (vs : List V) (Q : VK) (E : XK), Room k (A.deeper (envOfC qual (ZDo st) s.heap.objs.size f cdv)) -> sp vs H Q E ->
   ∃ t, PSs (ZKS CX0 P w K mg base N qual (ZDo st) f cdv A outer s H E).nox (ZEg st) t /\ t { nx := fun _ H' => Q .non H', rt := Q } (start N vs) H) : ZD2 P w K mg base CX0 (k + 1) f fd ps sp := by
 obtain ⟨oc, od, dV, kV, doc, pm, an, cdv, ct, osl, rfl, lk, hcd⟩ := F.ex
 refine ZUK lk hcd S len fun A outer s H vs Q E hr hsp => ?_
 obtain ⟨t, h, q⟩ := hbody cdv A outer s H vs Q E hr hsp
 exact ⟨t, h.nox, q⟩
section
variable {K : W.Frag} {U : St} {H : Hp} {Q : VK} {f : Str} {tv td ty : TE} {C : Addr}
theorem ZP4 {a dx : Addr} {fs : List (Str × V)} {v : V} {R : Hp -> Prop} (h1 : H a = some (.ins C dx fs)) (c : Cls K C) (n : ZEp K C f) (l : fs.lookup f = some v)
 (q : tv U H fun y H2 => ZNC v y H2 fun z H3 => ∃ dx' fs', H3 a = some (.ins C dx' fs') /\ fs'.length < 1000 /\ R (upd H3 a (.ins C dx' (ZEV f z fs')))) : ZPD K f tv U R (.ref a) H := ⟨a, C, dx, fs, v, rfl, h1, c, n, l, q⟩
def ZJW (a : Addr) (y : V) (H : Hp) (Q : VK) : Prop := ∃ o, ZFI H a y o /\ Q (o.getD .non) H
def ZNn (ty : TE) (U : St) (Q : VK) (x : V) (H : Hp) : Prop := ∃ a, x = .ref a /\ IsD H a /\ ty U H fun y H2 => ZJW a y H2 Q
theorem ZRO (h : td U H fun x H1 => ZNn ty U Q x H1) : ZNV td ty U H Q := h
theorem ZJX {a : Addr} {kvs : List (List Key × V)} (h1 : H a = some (.dT kvs)) (q : ty U H fun y H2 => ZJW a y H2 Q) : ZNn ty U Q (.ref a) H := ⟨a, rfl, .inr ⟨kvs, .inl h1⟩, q⟩
theorem ZKe {a b : Addr} {kvs : List (List Key × V)} {k : List Key} (h1 : H a = some (.dT kvs)) (hb : H b = some (.tup (k.map kV))) (q : Q ((ZEY kvs k).getD .non) H) : ZJW a (.ref b) H Q := ⟨_, ZFI.t h1 hb, q⟩
theorem ZRP {a : Addr} {kvs : List (Key × V)} (h1 : H a = some (.dK kvs)) (q : ty U H fun y H2 => ZJW a y H2 Q) : ZNn ty U Q (.ref a) H := ⟨a, rfl, .inl ⟨kvs, .inl h1⟩, q⟩
theorem ZTd {a : Addr} {m : PL} {i : Int} (h1 : H a = some (.dK (ZEF m))) (q : Q (((ZEE m i).map V.int).getD .non) H) : ZJW a (.int i) H Q := ⟨_, ZFI.k (k := Sum.inl i) h1, by rw [ZHh]; exact q⟩
theorem ZNo {a b : Addr} {kvs : List (List Key × V)} {k : List Key} {v : V} {R : Hp -> Prop} (h1 : H a = some (.dT kvs)) (hb : H b = some (.tup (k.map kV))) (hz : kvs.length < sizeLine) (h : ∀ H2, H2 a = some (.dT (ZFE kvs k v)) -> Kp a H H2 -> R H2) : ZM1 v (.ref a) (.ref b) H R :=
 ⟨a, _, rfl, ZIB.t h1 hb hz, h _ ZDr Kp.upd⟩
end
section
variable {X : Cx} {o e : Expr} {apos cpos pos p : Pos} {td ty to : TE}
theorem ZIs (hu : X.A.units + 1 < cLine) (ho : QE X o td) (he : QE X e ty) (m : M1 X o "get" apos e cpos := by exact ⟨rfl, rfl, rfl, rfl⟩) : QE X (.Call (.Attribute o "get" apos) [e] [] cpos) (ZNV td ty) := ⟨ZTL hu ho.h he.h m⟩
theorem ZTe : QE X (.Dict [] [] pos) ZNU := ⟨ZTK⟩
def ZRQ (H : Hp) (Q : VK) : Prop := ∀ p, H p = none -> Q (.ref p) (upd H p (.dT []))
theorem ZRR {U : St} {H : Hp} {Q : VK} (h : ZRQ H Q) : ZNU U H Q := h
theorem ZTf {H : Hp} {Q : VK} (h : ∀ p H2, H p = none -> H2 p = some (.dT []) -> ZDq H H2 -> Q (.ref p) H2) : ZRQ H Q := fun p hp => h p _ hp ZDr (ZDq.new hp)
end
theorem ZPE {K : W.Frag} {x qual : Str} {st : Stmt} {f : Addr} {oc : Value} {od an : Option Addr} {osl : Array (Option Value)} {dV kV doc pm cdv ct : Value} (l : K.lookup f = some ⟨oc, od, .func (W.fnOf x qual (ZEm st) (ZEg st) (ZDo st) dV kV doc pm an cdv ct), osl⟩)
 (c : W.codeIn K cdv qual = true) (k : W.keepIn K (.ref f) = true) : ZNm K x qual st f (W.fnOf x qual (ZEm st) (ZEg st) (ZDo st) dV kV doc pm an cdv ct) := ⟨⟨oc, od, dV, kV, doc, pm, an, cdv, ct, osl, rfl, l, c⟩, k⟩
def ZPF (K : W.Frag) (fd : FuncData) (ps : List Str) (x : Str) : Prop := ∀ (s : Shared) (u v : Value), K.In s.heap -> BindsTo s fd ⟨[u], [(x, v)]⟩ (ps.zip [u, v])
def Cov (B : Heap) (H' : Hp) (h0 h' : Heap) (fs : List Addr) : Prop := ∀ b o, h'.get? b = some o -> b ∉ fs -> ((∃ u, H' b = some u) \/ ∃ o0, h0.get? b = some o0) -> B.get? b = some o
def ZP5 (K : W.Frag) (C : Addr) : Prop := excIn K C [.type "ValueError", .type "Exception", .type "BaseException", .type "object"] "ValueError.__new__" = true
def Fl (X : Cx) (H1 : Hp) (s0 : Shared) (e : Addr) (C : Value) (H' : Hp) (s3 : Shared) : Prop := ∃ (a0 : Value) (B : Heap), s3.os = s0.os /\ AllBare s3.gens /\ Un (frs X.stack) [] H1 H' s0.heap s3.heap /\ HOk X.prog X.w H' s3.heap /\
 s0.heap.get? e = none /\ H' e = none /\ Heap.FlyingW B X.stack e C a0 s3.heap /\ Cov B H' s0.heap s3.heap (frs X.stack)
abbrev TX := St -> Hp -> VK -> XK -> Prop
def XP (X : Cx) (pins : List (Addr × Obj)) (U : St) (E : XK) (ev : Value) (s' : Shared) : Prop := ∃ H1 s1 e C H', Inv X pins U H1 s1 /\ ev = .ref e /\ Fl X H1 s1 e C H' s' /\ E C none H'
abbrev TBX := ZEx -> XK -> St -> Hp -> Prop
abbrev TH := Value -> ZEx -> St -> Hp -> Prop
end L2
namespace L2
open PySem PySem.Spec PyProof.Rows PySem.W PySem.Builtin PySem.Builtin.ObjectAttr PySem.Builtin.Getset_descriptor
structure ZP6 (K : W.Frag) (C : Addr) : Prop where
 ga : findIn K (.ref C) "__getattribute__" = some (some (.builtin "BaseException.__getattribute__"))
 gt : findIn K (.ref C) "__getattr__" = some none
 cl : findIn K (.ref C) "__class__" = some (some (.builtin "object.__class__"))
 ob : mroIn K C (.type "object") = some true
 be : mroIn K C (.type "BaseException") = some true
section
variable {X : Cx}
def ZXw : R2 := fun x y H Q => ∃ (c : Nat) (z : Str), x = .str ⟨#[c]⟩ /\ y = .str z /\ Q (.bl (decide (c ∈ z.cps.toList))) H
theorem ZXx : OpR X (compareOp .In) ZXw := by
 intro pins s U H x y v u Q I rx ry h
 obtain ⟨c, z, rfl, rfl, q⟩ := h
 obtain ⟨t, rfl⟩ := rx
 obtain ⟨t', rfl⟩ := ry
 exact in_str (ZEK I q (StrLaws.found_one z c).symm)
theorem ZXy {H : Hp} {Q : VK} {c : Nat} {z : Str} (q : Q (.bl (decide (c ∈ z.cps.toList))) H) : ZXw (.str ⟨#[c]⟩) (.str z) H Q := ⟨c, z, rfl, rfl, q⟩
def Its (z : Str) : It := ⟨fun i _ => i < z.cps.size, fun i H x H' => H' = H /\ ∃ c, z.cps.toList[i]? = some c /\ x = .str ⟨#[c]⟩, fun i _ => z.cps.size <= i⟩
theorem ZNp {P : Program} {w : World} {K : W.Frag} {tg : Expr} (it : Addr) (z : Str) (t : Tok) (n : String) (hn : ["enumerate", "zip", "dict_itemiterator", "dict_reverseitemiterator", "odict_iterator", "itertools.zip_longest", "itertools.pairwise"].contains n = false)
  (W : ∀ A : Around, A.handled = none -> Walks P w A it [it] [it] z.cps.size (SignAt z) (fun i h => h.IsStrIter it n z t i))
  (dn : ∀ (A : Around) (s : Shared) (i : Nat) (Q : Option Value -> Shared -> Prop) (E : Value -> Shared -> Prop), A.handled = none -> s.heap.IsStrIter it n z t i -> z.cps[i]? = none -> (∀ h', Heap.ExtBut it s.heap h' -> Q none { s with heap := h' }) -> wpAny (model P w) A (pyNext (.ref it)) Q E s)
  (sf : ∀ (A : Around) (i : Nat) (s : Shared) (Q : Value -> Shared -> Prop) (E : Value -> Shared -> Prop), s.heap.IsStrIter it n z t i -> Q (.ref it) s -> wpAny (model P w) A (pyIter (.ref it)) Q E s) :
  ZJK P w K tg (Its z) [it] it (fun i h => h.IsStrIter it n z t i) where
 mem := by simp
 obj := fun i h st b hb => by
  have e : b = it := by simpa using hb
  subst e
  obtain ⟨o, e, c, d⟩ := st
  exact ⟨o, e, fun v z => by rw [d] at z; cases z⟩
 keep := fun i h h' st k => by
  obtain ⟨o, e, c, d⟩ := st
  exact ⟨o, k it (by simp) _ e, c, d⟩
 item := by
  intro X hP hw hK hc i pins s U H E I hf st hg
  subst hP hw hK
  obtain ⟨f0, f1, f2, f3, f4, f5⟩ := hf it (by simp)
  refine (W X.A (I.ok.hd hc)).item i s _ _ hg st fun v h' tk hv st' kk => ?_
  obtain ⟨c, t2, ec, rfl⟩ := hv
  have I1 : Inv X pins U H { s with heap := h', toks := tk } := I.turned (fun b o hb e => kk b o (by simpa using hb) e) f0 f1 f3 f4 f5
  obtain ⟨o, e, c', d⟩ := id st'
  exact ⟨_, rfl, ZJx (s := { s with heap := h', toks := tk }) e c' d hn ⟨.str ⟨#[c]⟩, H, I1, ⟨t2, rfl⟩, ⟨rfl, c, by rw [Vp]; exact ec, rfl⟩, st', fun b hb => (hf b hb).1⟩⟩
 done := by
  intro X hP hw hK hc i pins s U H E I hf st hg
  subst hP hw hK
  obtain ⟨f0, f1, f2, f3, f4, f5⟩ := hf it (by simp)
  exact dn X.A s i _ _ (I.ok.hd hc) st (Array.getElem?_eq_none hg) fun h' eb => ⟨rfl, I.turned (t' := s.toks) (fun b o hb e => eb b o hb e) f0 f1 f3 f4 f5⟩
 self := fun A i s Q E st h => sf A i s Q E st h
def ZNq (x : V) (H : Hp) (R : It -> Hp -> Prop) : Prop := ∃ z, x = .str z /\ R (Its z) H
def ZXz (tl : TE) : TI := fun U H R => tl U H fun x H1 => ZNq x H1 R
theorem ZX0 {tg l : Expr} {tl : TE} (hl : QE X l tl) : QI X tg l (ZXz tl) := by
 refine ⟨?_⟩
 intro pins s U H R I h
 refine thn (hl.h pins s U H _ I h) fun v s1 ⟨x, H1, I1, r1, q1⟩ => ?_
 obtain ⟨z, e, q⟩ := q1
 subst e
 obtain ⟨t, rfl⟩ := r1
 have fin : ∀ b, b ∈ [s1.heap.objs.size] -> ZFQ X pins H1 b := fun b hb => by
  have e : b = s1.heap.objs.size := by simpa using hb
  subst e
  exact I1.fpOk (Ud _) (I1.hok.fresh (Ud _))
 cases ha : z.cps.all (· < 128)
 ·exact wpAny_pyIter_wide ha ⟨s1.heap.objs.size, [s1.heap.objs.size], _, _, H1, rfl, I1.kept (t' := s1.toks) fun b o e => Ub _ e,
   ZNp _ z t "str_iterator" (by decide) (fun A hA => Walks.strWide hA _ z t) (fun A s i Q E hh st hx hq => wpAny_pyNext_wide_end hh st hx hq) (fun A i s Q E st h => wpAny_pyIter_striter_wide st h), ⟨_, Ug _ rfl, rfl, rfl⟩, fin, q⟩
 ·exact wpAny_pyIter_ascii ha ⟨s1.heap.objs.size, [s1.heap.objs.size], _, _, H1, rfl, I1.kept (t' := s1.toks) fun b o e => Ub _ e,
   ZNp _ z t "str_ascii_iterator" (by decide) (fun A hA => Walks.strAscii hA _ z t) (fun A s i Q E hh st hx hq => wpAny_pyNext_ascii_end hh st hx hq) (fun A i s Q E st h => wpAny_pyIter_striter_ascii st h), ⟨_, Ug _ rfl, rfl, rfl⟩, fin, q⟩
end
section
variable {K : W.Frag} {H : Hp} {Q : VK} {U : St}
theorem ZVq {tl : TE} {R : It -> Hp -> Prop} (h : tl U H fun x H1 => ZNq x H1 R) : ZXz tl U H R := h
theorem ZTg {z : Str} {R : It -> Hp -> Prop} (h : R (Its z) H) : ZNq (.str z) H R := ⟨z, rfl, h⟩
theorem ZRS {z : Str} {i : Int} {c : Nat} (hz : z.length <= sizeLine) (he : atI z.cps.toList i = some c) (h : Q (.str ⟨#[c]⟩) H) : ZW1 (.str z) (.int i) H Q := ⟨z, i, c, rfl, rfl, hz, he, h⟩
variable {D : ZEx}
end
def fl (low tall : Int) (q : Int × Int) : Int := (q.1 - low * q.2) / (tall * q.2)
theorem ZM3 {low tall r : Int} {q : Int × Int} (ht : 0 < tall) (hq : 0 < q.2) : r <= fl low tall q ↔ (low + r * tall) * q.2 <= q.1 := by
 unfold fl
 rw [Int.le_ediv_iff_mul_le (Int.mul_pos ht hq), Int.add_mul, Int.mul_assoc]
 omega
theorem ZYn {low tall r : Int} {q : Int × Int} (ht : 0 < tall) (hq : 0 < q.2) : fl low tall q <= r ↔ q.1 < (low + (r + 1) * tall) * q.2 := by
 have := ZM3 (low := low) (r := r + 1) ht hq
 omega
theorem ZVr {low tall : Int} {p q : Int × Int} (ht : 0 < tall) (hp : 0 < p.2) (hq : 0 < q.2) (h : q.1 * p.2 <= p.1 * q.2) : fl low tall q <= fl low tall p := by
 rw [ZM3 ht hp]
 have h1 := (ZM3 (low := low) (r := fl low tall q) ht hq).mp (Int.le_refl _)
 generalize low + fl low tall q * tall = c at *
 have h2 : c * q.2 * p.2 <= q.1 * p.2 := Va h1 (by omega)
 have e : c * q.2 * p.2 = c * p.2 * q.2 := by rw [Int.mul_assoc, Int.mul_comm q.2 p.2, <- Int.mul_assoc]
 have h3 : c * p.2 * q.2 <= p.1 * q.2 := by omega
 exact Int.le_of_mul_le_mul_right h3 hq
def mx (i j : Int) : Int := if j > i then j else i
def mn (i j : Int) : Int := if j < i then j else i
def ZGA (fs : List Int) (rows : Int) (o : Option (Int × Int)) : Prop :=
 (fs = [] /\ o = none) \/ ∃ m M, m ∈ fs /\ (∀ f ∈ fs, m <= f) /\ M ∈ fs /\ (∀ f ∈ fs, f <= M) /\ o = if max m 0 <= min M (rows - 1) then some (max m 0, min M (rows - 1)) else none
theorem ZGA.unique {fs : List Int} {rows : Int} {o o' : Option (Int × Int)} (h : ZGA fs rows o) (g : ZGA fs rows o') : o = o' := by
 rcases h with ⟨e, h⟩ | ⟨m, M, h1, h2, h3, h4, h5⟩
 ·rcases g with ⟨_, g⟩ | ⟨m, M, g1, _⟩
  ·rw [h, g]
  ·rw [e] at g1; cases g1
 ·rcases g with ⟨e, g⟩ | ⟨m', M', g1, g2, g3, g4, g5⟩
  ·rw [e] at h1; cases h1
  ·have e1 : m = m' := Int.le_antisymm (h2 _ g1) (g2 _ h1)
   have e2 : M = M' := Int.le_antisymm (g4 _ h3) (h4 _ g3)
   subst e1 e2
   rw [h5, g5]
def frP (a b : Int × Int) (t : Int) : Int × Int := (a.2 * (b.1 - a.1) + (b.2 - a.2) * (t - a.1), b.1 - a.1)
def ZEN (x z : Int) (ab : (Int × Int) × (Int × Int)) : PL := if ab.1.1 < z /\ x < ab.2.1 then [frP ab.1 ab.2 (mx x ab.1.1), frP ab.1 ab.2 (mn z ab.2.1)] else []
def ZLN (cv : PL) (x z : Int) : PL := (cv.zip (cv.drop 1)).flatMap (ZEN x z)
def inCol (cv : PL) (b e : Int) : PL := cv.filter fun p => decide (b <= p.1) && decide (p.1 < e)
def ZFF (cv : PL) (x z : Int) : PL := (inCol cv x z).map (fun p => (p.2, 1)) ++ ZLN cv x z
theorem ZJY {cv : PL} (h : Asc cv) {i : Nat} {a b : Int × Int} (h1 : cv[i]? = some a) (h2 : (cv.drop 1)[i]? = some b) : a.1 < b.1 := by
 rw [List.getElem?_drop] at h2
 have hi := (Ui.mp h1)
 have hj := (Ui.mp h2)
 have := Vn.mp h i (1 + i) hi.1 hj.1 (by omega)
 rw [hi.2, hj.2] at this
 exact this
theorem ZLp {cv : PL} {i : Nat} {a b : Int × Int} (h1 : cv[i]? = some a) (h2 : (cv.drop 1)[i]? = some b) : (cv.zip (cv.drop 1))[i]? = some (a, b) := by
 rw [List.getElem?_zip_eq_some]
 exact ⟨h1, h2⟩
theorem ZVs {cv : PL} {x z : Int} (h : Asc cv) : ∀ q ∈ ZFF cv x z, 0 < q.2 := by
 intro q hq
 rcases UI.mp hq with hq | hq
 ·obtain ⟨p, _, rfl⟩ := Ux.mp hq
  show (0 : Int) < 1
  decide
 ·unfold ZLN at hq
  obtain ⟨ab, hab, hq⟩ := List.mem_flatMap.mp hq
  obtain ⟨i, hi, e⟩ := UP hab
  have e' : (cv.zip (cv.drop 1))[i]? = some ab := by rw [Uc hi, e]
  obtain ⟨h1, h2⟩ := List.getElem?_zip_eq_some.mp e'
  have hlt := ZJY h h1 h2
  unfold ZEN at hq
  split at hq
  ·simp only [Ul, UC, or_false] at hq
   rcases hq with rfl | rfl <;> (show 0 < ab.2.1 - ab.1.1; omega)
  ·cases hq
def ZLO (lo hi : Int) (n : Nat) : List Int := ((UM n).map fun (i : Nat) => (0 + (i : Int))).filter fun r => decide (lo <= r) && decide (r <= hi)
theorem ZP7 {lo hi r : Int} {n : Nat} : r ∈ ZLO lo hi n ↔ (0 <= r /\ r < n) /\ lo <= r /\ r <= hi := by
 unfold ZLO
 rw [List.mem_filter, Ux]
 constructor
 ·rintro ⟨⟨i, hi, rfl⟩, h⟩
  have := List.mem_range.mp hi
  simp at h
  omega
 ·rintro ⟨⟨h1, h2⟩, h3, h4⟩
  exact ⟨⟨r.toNat, List.mem_range.mpr (by omega), by omega⟩, by simp [h3, h4]⟩
def dig (m : Nat) : List Nat := (Nat.toDigits 10 m).map Char.toNat
def ZX1 (n : Int) : List Nat := if n < 0 then 45 :: dig n.natAbs else dig n.natAbs
def lineL (p : Int × Int) : List Nat := ZX1 p.1 ++ 32 :: ZX1 p.2
def textL (cv : PL) : List Nat := cv.flatMap fun p => lineL p ++ [10]
def InT (cv : PL) : Prop := ∀ p ∈ cv, (-(10 ^ 64) < p.1 /\ p.1 < 10 ^ 64) /\ -(10 ^ 64) < p.2 /\ p.2 < 10 ^ 64
section
variable {X : Cx}
def ZUX : List V -> Hp -> VK -> Prop := fun xs H Q => ∃ z, xs = [.str z] /\ z.length <= sizeLine /\ Q (.int z.length) H
theorem ZVt : ZEd X (.builtin "len") ZUX := ZNI
theorem ZVu {H : Hp} {Q : VK} {z : Str} (h : z.length <= sizeLine) (q : Q (.int z.length) H) : ZUX [.str z] H Q := ⟨z, rfl, h, q⟩
end
def Adj (cv : PL) (a b : Int × Int) : Prop := a ∈ cv /\ b ∈ cv /\ a.1 < b.1 /\ ∀ c ∈ cv, ¬ (a.1 < c.1 /\ c.1 < b.1)
theorem ZFy {cv : PL} (h : Asc cv) {i j : Nat} (hi : i < cv.length) (hj : j < cv.length) (hij : i < j) : cv[i].1 < cv[j].1 := Vn.mp h i j hi hj hij
theorem ZLq {cv : PL} (h : Asc cv) {a b : Int × Int} (ha : a ∈ cv) (hb : b ∈ cv) (e : a.1 = b.1) : a = b := by
 obtain ⟨i, hi, rfl⟩ := UP ha
 obtain ⟨j, hj, rfl⟩ := UP hb
 rcases Nat.lt_trichotomy i j with hij | hij | hij
 ·have := ZFy h hi hj hij; omega
 ·subst hij; rfl
 ·have := ZFy h hj hi hij; omega
theorem ZPG {cv : PL} (h : Asc cv) {a b : Int × Int} : (a, b) ∈ cv.zip (cv.drop 1) ↔ Adj cv a b := by
 constructor
 ·intro hab
  obtain ⟨i, hi, e⟩ := UP hab
  have e' : (cv.zip (cv.drop 1))[i]? = some (a, b) := by rw [Uc hi, e]
  obtain ⟨h1, h2⟩ := List.getElem?_zip_eq_some.mp e'
  have hlt := ZJY h h1 h2
  rw [List.getElem?_drop] at h2
  obtain ⟨hi1, e1⟩ := Ui.mp h1
  obtain ⟨hi2, e2⟩ := Ui.mp h2
  have e1 : cv[i] = a := e1
  have e2 : cv[1 + i] = b := e2
  refine ⟨Uv h1, Uv h2, hlt, ?_⟩
  rintro c hc ⟨g1, g2⟩
  obtain ⟨j, hj, rfl⟩ := UP hc
  by_cases hij : j <= i
  ·rcases Nat.lt_or_eq_of_le hij with hij | hij
   ·have := ZFy h hj hi1 hij
    rw [e1] at this
    omega
   ·subst hij
    rw [e1] at g1
    omega
  ·by_cases hij2 : j = 1 + i
   ·subst hij2
    rw [e2] at g2
    omega
   ·have := ZFy h hi2 hj (by omega)
    rw [e2] at this
    omega
 ·rintro ⟨ha, hb, hlt, hno⟩
  obtain ⟨i, hi, e1⟩ := UP ha
  obtain ⟨j, hj, e2⟩ := UP hb
  have hij : i < j := by
   rcases Nat.lt_trichotomy i j with hij | hij | hij
   ·exact hij
   ·subst hij
    rw [e1] at e2
    subst e2
    omega
   ·have := ZFy h hj hi hij
    rw [e1, e2] at this
    omega
  have hji : j = 1 + i := by
   by_cases z : j = 1 + i
   ·exact z
   ·exfalso
    have hk : 1 + i < cv.length := by omega
    refine hno cv[1 + i] (Vb hk) ⟨?_, ?_⟩
    ·have := ZFy h hi hk (by omega)
     rw [e1] at this
     exact this
    ·have := ZFy h hk hj (by omega)
     rw [e2] at this
     exact this
  subst hji
  refine Uv (i := i) (ZLp ?_ ?_)
  ·rw [Uc hi, e1]
  ·rw [List.getElem?_drop, Uc hj, e2]
theorem ZFi {cv : PL} (h : Asc cv) {x z : Int} {q : Int × Int} : q ∈ ZFF cv x z ↔ (∃ p ∈ cv, x <= p.1 /\ p.1 < z /\ q = (p.2, 1)) \/ ∃ a b, Adj cv a b /\ a.1 < z /\ x < b.1 /\ (q = frP a b (mx x a.1) \/ q = frP a b (mn z b.1)) := by
 unfold ZFF
 rw [UI]
 constructor
 ·rintro (hq | hq)
  ·obtain ⟨p, hp, rfl⟩ := Ux.mp hq
   obtain ⟨h1, h2⟩ := List.mem_filter.mp hp
   simp at h2
   exact .inl ⟨p, h1, h2.1, h2.2, rfl⟩
  ·unfold ZLN at hq
   obtain ⟨⟨a, b⟩, hab, hq⟩ := List.mem_flatMap.mp hq
   unfold ZEN at hq
   split at hq
   ·rename_i hc
    simp only [Ul, UC, or_false] at hq
    exact .inr ⟨a, b, (ZPG h).mp hab, hc.1, hc.2, hq⟩
   ·cases hq
 ·rintro (⟨p, hp, h1, h2, rfl⟩ | ⟨a, b, hab, h1, h2, hq⟩)
  ·refine .inl (Ux.mpr ⟨p, List.mem_filter.mpr ⟨hp, by simp [h1, h2]⟩, rfl⟩)
  ·refine .inr (List.mem_flatMap.mpr ⟨(a, b), (ZPG h).mpr hab, ?_⟩)
   unfold ZEN
   rw [if_pos ⟨h1, h2⟩]
   simp only [Ul, UC, or_false]
   exact hq
theorem ZGA.dom {fs gs : List Int} {rows : Int} {o : Option (Int × Int)} (h : ZGA fs rows o) (d1 : ∀ f ∈ fs, (∃ g ∈ gs, g <= f) /\ ∃ g ∈ gs, f <= g) (d2 : ∀ g ∈ gs, (∃ f ∈ fs, f <= g) /\ ∃ f ∈ fs, g <= f) : ZGA gs rows o := by
 rcases h with ⟨rfl, rfl⟩ | ⟨m, M, h1, h2, h3, h4, h5⟩
 ·refine .inl ⟨?_, rfl⟩
  cases gs with
  | nil => rfl
  | cons g gs =>
   obtain ⟨f, hf, _⟩ := (d2 g UA).1
   cases hf
 ·have lo : ∀ g ∈ gs, m <= g := fun g hg => by
   obtain ⟨f, hf, hfg⟩ := (d2 g hg).1
   exact Int.le_trans (h2 f hf) hfg
  have hi : ∀ g ∈ gs, g <= M := fun g hg => by
   obtain ⟨f, hf, hfg⟩ := (d2 g hg).2
   exact Int.le_trans hfg (h4 f hf)
  obtain ⟨g, hg, hgm⟩ := (d1 m h1).1
  obtain ⟨g', hg', hgM⟩ := (d1 M h3).2
  have e1 : g = m := Int.le_antisymm hgm (lo g hg)
  have e2 : g' = M := Int.le_antisymm (hi g' hg') hgM
  subst e1 e2
  exact .inr ⟨g, g', hg, lo, hg', hi, h5⟩
theorem ZNr {low tall h d : Int} (hd : 0 < d) : fl low tall (h * d, d) = fl low tall (h, 1) := by
 unfold fl
 show (h * d - low * d) / (tall * d) = (h - low * 1) / (tall * 1)
 rw [<- Int.sub_mul, Int.mul_ediv_mul_of_pos_left _ _ hd, Int.mul_one, Int.mul_one]
theorem ZIt {low tall : Int} {a b : Int × Int} (h : a.1 < b.1) : fl low tall (frP a b a.1) = fl low tall (a.2, 1) := by
 have e : frP a b a.1 = (a.2 * (b.1 - a.1), b.1 - a.1) := by
  unfold frP
  rw [Int.sub_self, Int.mul_zero, Int.add_zero]
 rw [e, ZNr (by omega)]
theorem ZMO {low tall : Int} {a b : Int × Int} (h : a.1 < b.1) : fl low tall (frP a b b.1) = fl low tall (b.2, 1) := by
 have e : frP a b b.1 = (b.2 * (b.1 - a.1), b.1 - a.1) := by
  unfold frP
  rw [<- Int.add_mul]
  congr 2
  omega
 rw [e, ZNr (by omega)]
theorem ZUY {low tall h k : Int} (ht : 0 < tall) (hh : h <= k) : fl low tall (h, 1) <= fl low tall (k, 1) := ZVr ht (show (0 : Int) < 1 by decide) (show (0 : Int) < 1 by decide) (by show h * 1 <= k * 1; omega)
def Kept (cv kp : PL) (b y m : Int) : Prop := (∀ p ∈ kp, p ∈ cv /\ b <= p.1 /\ p.1 < b + m * y) /\ ∀ k : Int, 0 <= k -> k < m -> ∀ p ∈ cv, b + k * y <= p.1 -> p.1 < b + k * y + y ->
 (∃ f ∈ kp, b + k * y <= f.1 /\ f.1 <= p.1) /\ (∃ f ∈ kp, p.1 <= f.1 /\ f.1 < b + k * y + y) /\ (∃ f ∈ kp, b + k * y <= f.1 /\ f.1 < b + k * y + y /\ f.2 <= p.2) /\ ∃ f ∈ kp, b + k * y <= f.1 /\ f.1 < b + k * y + y /\ p.2 <= f.2
theorem ZNs {b y m t : Int} (hy : 0 < y) (h1 : b <= t) (h2 : t < b + m * y) : ∃ j, 0 <= j /\ j < m /\ b + j * y <= t /\ t < b + j * y + y := by
 refine ⟨(t - b) / y, Int.ediv_nonneg (by omega) (by omega), ?_, ?_, ?_⟩
 ·exact Int.ediv_lt_of_lt_mul hy (by omega)
 ·have := Int.ediv_mul_le (t - b) (Int.ne_of_gt hy)
  omega
 ·have := Int.lt_ediv_add_one_mul_self (t - b) hy
  rw [Int.add_mul, Int.one_mul] at this
  omega
theorem ZLP {b y j k t : Int} (hy : 0 < y) (h1 : b + j * y <= t) (h2 : t < b + k * y) : b + j * y + y <= b + k * y := by
 have hjk : j < k := Int.lt_of_mul_lt_mul_right (a := y) (by omega) (by omega)
 have : (j + 1) * y <= k * y := Va (by omega) (by omega)
 rw [Int.add_mul, Int.one_mul] at this
 omega
theorem ZP8 {b y j k t : Int} (hy : 0 < y) (h1 : t < b + j * y + y) (h2 : b + k * y <= t) : b + k * y <= b + j * y := by
 have hjk : k < j + 1 := Int.lt_of_mul_lt_mul_right (a := y) (by rw [Int.add_mul, Int.one_mul]; omega) (by omega)
 have : k * y <= j * y := Va (by omega) (by omega)
 omega
theorem ZDx {cv : PL} {b e : Int} {p : Int × Int} : p ∈ inCol cv b e ↔ p ∈ cv /\ b <= p.1 /\ p.1 < e := by
 unfold inCol
 rw [List.mem_filter]
 simp
theorem ZNt {cv kp : PL} {b y m : Int} (hy : 0 < y) (hasc : Asc cv) (hk : Kept cv kp b y m) {p q : Int × Int} (hadj : Adj (inCol cv b (b + m * y)) p q) {k : Int} (h1 : p.1 < b + k * y) (h2 : b + k * y <= q.1) : Adj (inCol kp b (b + m * y)) p q := by
 obtain ⟨hp, hq, hlt, hno⟩ := hadj
 obtain ⟨hp1, hp2, hp3⟩ := ZDx.mp hp
 obtain ⟨hq1, hq2, hq3⟩ := ZDx.mp hq
 have pk : p ∈ kp := by
  obtain ⟨j, j1, j2, j3, j4⟩ := ZNs hy hp2 hp3
  obtain ⟨f, hf, f1, f2⟩ := (hk.2 j j1 j2 p hp1 j3 j4).2.1
  have hfc := hk.1 f hf
  have := ZLP hy j3 h1
  have hn := hno f (ZDx.mpr hfc)
  have : f.1 = p.1 := by omega
  rw [<- ZLq hasc hfc.1 hp1 this]
  exact hf
 have qk : q ∈ kp := by
  obtain ⟨j, j1, j2, j3, j4⟩ := ZNs hy hq2 hq3
  obtain ⟨f, hf, f1, f2⟩ := (hk.2 j j1 j2 q hq1 j3 j4).1
  have hfc := hk.1 f hf
  have := ZP8 hy j4 h2
  have hn := hno f (ZDx.mpr hfc)
  have : f.1 = q.1 := by omega
  rw [<- ZLq hasc hfc.1 hq1 this]
  exact hf
 refine ⟨ZDx.mpr ⟨pk, hp2, hp3⟩, ZDx.mpr ⟨qk, hq2, hq3⟩, hlt, fun c hc => hno c ?_⟩
 exact ZDx.mpr (hk.1 c (ZDx.mp hc).1)
theorem ZNu {cv kp : PL} {b y m : Int} (hy : 0 < y) (hasc : Asc cv) (hk : Kept cv kp b y m) {p q : Int × Int} (hadj : Adj (inCol kp b (b + m * y)) p q) {k : Int} (h1 : p.1 < b + k * y) (h2 : b + k * y <= q.1) : Adj (inCol cv b (b + m * y)) p q := by
 obtain ⟨hp, hq, hlt, hno⟩ := hadj
 obtain ⟨hp1, hp2, hp3⟩ := ZDx.mp hp
 obtain ⟨hq1, hq2, hq3⟩ := ZDx.mp hq
 refine ⟨ZDx.mpr (hk.1 p hp1), ZDx.mpr (hk.1 q hq1), hlt, fun c hc ⟨c1, c2⟩ => ?_⟩
 obtain ⟨hc1, hc2, hc3⟩ := ZDx.mp hc
 obtain ⟨j, j1, j2, j3, j4⟩ := ZNs hy hc2 hc3
 obtain ⟨⟨f, hf, f1, f2⟩, ⟨g, hg, g1, g2⟩, _⟩ := hk.2 j j1 j2 c hc1 j3 j4
 have hfc := hno f (ZDx.mpr ⟨hf, (hk.1 f hf).2⟩)
 have hgc := hno g (ZDx.mpr ⟨hg, (hk.1 g hg).2⟩)
 have : b + j * y <= p.1 := by omega
 have := ZLP hy this h1
 omega
theorem ZRT {cv kp : PL} {b y m low tall rows k : Int} {o : Option (Int × Int)} (hy : 0 < y) (ht : 0 < tall) (hasc : Asc cv) (hak : Asc kp) (hk : Kept cv kp b y m) (k0 : 0 <= k) (k1 : k < m)
  (h : ZGA ((ZFF (inCol cv b (b + m * y)) (b + k * y) (b + k * y + y)).map (fl low tall)) rows o) : ZGA ((ZFF (inCol kp b (b + m * y)) (b + k * y) (b + k * y + y)).map (fl low tall)) rows o := by
 have ac : Asc (inCol cv b (b + m * y)) := List.Pairwise.filter _ hasc
 have ak : Asc (inCol kp b (b + m * y)) := List.Pairwise.filter _ hak
 have hz : b + k * y + y = b + (k + 1) * y := by rw [Int.add_mul, Int.one_mul]; omega
 have smp : ∀ p, p ∈ cv -> b + k * y <= p.1 -> p.1 < b + k * y + y -> (∃ g ∈ (ZFF (inCol kp b (b + m * y)) (b + k * y) (b + k * y + y)).map (fl low tall), g <= fl low tall (p.2, 1)) /\ ∃ g ∈ (ZFF (inCol kp b (b + m * y)) (b + k * y) (b + k * y + y)).map (fl low tall), fl low tall (p.2, 1) <= g := by
  intro p hp h1 h2
  obtain ⟨_, _, ⟨f, hf, f1, f2, f3⟩, ⟨g, hg, g1, g2, g3⟩⟩ := hk.2 k k0 k1 p hp h1 h2
  refine ⟨⟨_, Vj ((ZFi ak).mpr (.inl ⟨f, ZDx.mpr ⟨hf, (hk.1 f hf).2⟩, f1, f2, rfl⟩)), ZUY ht f3⟩, ⟨_, Vj ((ZFi ak).mpr (.inl ⟨g, ZDx.mpr ⟨hg, (hk.1 g hg).2⟩, g1, g2, rfl⟩)), ZUY ht g3⟩⟩
 have smp2 : ∀ p, p ∈ kp -> b + k * y <= p.1 -> p.1 < b + k * y + y -> fl low tall (p.2, 1) ∈ (ZFF (inCol cv b (b + m * y)) (b + k * y) (b + k * y + y)).map (fl low tall) := fun p hp h1 h2 =>
  Vj ((ZFi ac).mpr (.inl ⟨p, ZDx.mpr (hk.1 p hp), h1, h2, rfl⟩))
 refine h.dom (fun f hf => ?_) (fun g hg => ?_)
 ·obtain ⟨q, hq, rfl⟩ := Ux.mp hf
  have same : ∀ {q'}, q' ∈ ZFF (inCol kp b (b + m * y)) (b + k * y) (b + k * y + y) -> (∃ g ∈ (ZFF (inCol kp b (b + m * y)) (b + k * y) (b + k * y + y)).map (fl low tall), g <= fl low tall q') /\ ∃ g ∈ (ZFF (inCol kp b (b + m * y)) (b + k * y) (b + k * y + y)).map (fl low tall), fl low tall q' <= g :=
   fun hq' => ⟨⟨_, Vj hq', Int.le_refl _⟩, ⟨_, Vj hq', Int.le_refl _⟩⟩
  rcases (ZFi ac).mp hq with ⟨p, hp, h1, h2, rfl⟩ | ⟨p, r, hadj, h1, h2, hqe⟩
  ·exact smp p (ZDx.mp hp).1 h1 h2
  ·have hlt := hadj.2.2.1
   rcases hqe with rfl | rfl
   ·unfold mx at *
    by_cases hc : p.1 > b + k * y
    ·rw [if_pos hc, ZIt hlt]
     exact smp p (ZDx.mp hadj.1).1 (by omega) h1
    ·rw [if_neg hc]
     by_cases hc2 : p.1 = b + k * y
     ·rw [show fl low tall (frP p r (b + k * y)) = fl low tall (p.2, 1) by rw [<- hc2]; exact ZIt hlt]
      exact smp p (ZDx.mp hadj.1).1 (by omega) h1
     ·refine same ((ZFi ak).mpr (.inr ⟨p, r, ZNt hy hasc hk hadj (k := k) (by omega) (by omega), h1, h2, .inl ?_⟩))
      unfold mx
      rw [if_neg hc]
   ·unfold mn at *
    by_cases hc : r.1 < b + k * y + y
    ·rw [if_pos hc, ZMO hlt]
     exact smp r (ZDx.mp hadj.2.1).1 (by omega) hc
    ·rw [if_neg hc]
     refine same ((ZFi ak).mpr (.inr ⟨p, r, ZNt hy hasc hk hadj (k := k + 1) (by omega) (by omega), h1, h2, .inr ?_⟩))
     unfold mn
     rw [if_neg hc]
 ·obtain ⟨q, hq, rfl⟩ := Ux.mp hg
  have fin : fl low tall q ∈ (ZFF (inCol cv b (b + m * y)) (b + k * y) (b + k * y + y)).map (fl low tall) := by
   rcases (ZFi ak).mp hq with ⟨p, hp, h1, h2, rfl⟩ | ⟨p, r, hadj, h1, h2, hqe⟩
   ·exact smp2 p (ZDx.mp hp).1 h1 h2
   ·have hlt := hadj.2.2.1
    rcases hqe with rfl | rfl
    ·unfold mx at *
     by_cases hc : p.1 > b + k * y
     ·rw [if_pos hc, ZIt hlt]
      exact smp2 p (ZDx.mp hadj.1).1 (by omega) h1
     ·rw [if_neg hc]
      by_cases hc2 : p.1 = b + k * y
      ·rw [show fl low tall (frP p r (b + k * y)) = fl low tall (p.2, 1) by rw [<- hc2]; exact ZIt hlt]
       exact smp2 p (ZDx.mp hadj.1).1 (by omega) h1
      ·refine Vj ((ZFi ac).mpr (.inr ⟨p, r, ZNu hy hasc hk hadj (k := k) (by omega) (by omega), h1, h2, .inl ?_⟩))
       unfold mx
       rw [if_neg hc]
    ·unfold mn at *
     by_cases hc : r.1 < b + k * y + y
     ·rw [if_pos hc, ZMO hlt]
      exact smp2 r (ZDx.mp hadj.2.1).1 (by omega) hc
     ·rw [if_neg hc]
      refine Vj ((ZFi ac).mpr (.inr ⟨p, r, ZNu hy hasc hk hadj (k := k + 1) (by omega) (by omega), h1, h2, .inr ?_⟩))
      unfold mn
      rw [if_neg hc]
  exact ⟨⟨_, fin, Int.le_refl _⟩, ⟨_, fin, Int.le_refl _⟩⟩
def Is4 (cv : PL) (o : Option (PL)) : Prop :=
 (o = none /\ cv = []) \/ ∃ q0 q1 q2 q3 : Int × Int, o = some [q0, q1, q2, q3] /\ q0 ∈ cv /\ q1 ∈ cv /\ q2 ∈ cv /\ q3 ∈ cv /\
  ∀ p ∈ cv, q0.1 <= p.1 /\ p.1 <= q1.1 /\ (q2.2 < p.2 \/ (q2.2 = p.2 /\ q2.1 <= p.1)) /\ (p.2 < q3.2 \/ (p.2 = q3.2 /\ q3.1 <= p.1))
theorem Is4.join {c1 c2 : PL} {a0 a1 a2 a3 b0 b1 b2 b3 : Int × Int} (h : Is4 c1 (some [a0, a1, a2, a3])) (g : Is4 c2 (some [b0, b1, b2, b3])) (hlt : ∀ p ∈ c1, ∀ q ∈ c2, p.1 < q.1) :
  Is4 (c1 ++ c2) (some [a0, b1, if a2.2 <= b2.2 then a2 else b2, if b3.2 <= a3.2 then a3 else b3]) := by
 rcases h with ⟨e, _⟩ | ⟨q0, q1, q2, q3, e, m0, m1, m2, m3, hb⟩
 ·cases e
 rcases g with ⟨e', _⟩ | ⟨r0, r1, r2, r3, e', n0, n1, n2, n3, gb⟩
 ·cases e'
 cases e
 cases e'
 refine .inr ⟨_, _, _, _, rfl, List.mem_append_left _ m0, Uy _ n1, ?_, ?_, fun p hp => ?_⟩
 ·split
  ·exact List.mem_append_left _ m2
  ·exact Uy _ n2
 ·split
  ·exact List.mem_append_left _ m3
  ·exact Uy _ n3
 ·rcases UI.mp hp with hp | hp
  ·have k1 := hb p hp
   have k2 := hlt p hp _ n1
   have k3 := hlt p hp _ n2
   have k4 := hlt p hp _ n3
   refine ⟨k1.1, by omega, ?_, ?_⟩
   ·split <;> omega
   ·split <;> omega
  ·have k1 := gb p hp
   have k2 := hlt _ m0 p hp
   have k3 := hlt _ m2 p hp
   have k4 := hlt _ m3 p hp
   refine ⟨by omega, k1.2.1, ?_, ?_⟩
   ·split <;> omega
   ·split <;> omega
theorem Is4.of_none {cv : PL} (h : Is4 cv none) : cv = [] := by
 rcases h with ⟨_, e⟩ | ⟨q0, q1, q2, q3, e, _⟩
 ·exact e
 ·cases e
theorem Is4.minmax {cv : PL} {p0 p1 p2 p3 : Int × Int} {i2 i3 : Nat} (ha : Asc cv) (e0 : cv[0]? = some p0) (e1 : cv[cv.length - 1]? = some p1) (e2 : cv[i2]? = some p2) (e3 : cv[i3]? = some p3)
  (h2 : ∀ j, j < cv.length -> (cv.getD i2 (0, 0)).2 <= (cv.getD j (0, 0)).2 /\ (j < i2 -> (cv.getD i2 (0, 0)).2 < (cv.getD j (0, 0)).2))
  (h3 : ∀ j, j < cv.length -> (cv.getD i3 (0, 0)).2 >= (cv.getD j (0, 0)).2 /\ (j < i3 -> (cv.getD i3 (0, 0)).2 > (cv.getD j (0, 0)).2)) : Is4 cv (some [p0, p1, p2, p3]) := by
 obtain ⟨z0, y0⟩ := Ui.mp e0
 obtain ⟨z1, y1⟩ := Ui.mp e1
 obtain ⟨z2, y2⟩ := Ui.mp e2
 obtain ⟨z3, y3⟩ := Ui.mp e3
 have d : ∀ {j : Nat} (hj : j < cv.length), cv.getD j (0, 0) = cv[j] := fun {j} hj => by simp [hj]
 refine .inr ⟨p0, p1, p2, p3, rfl, Uv e0, Uv e1, Uv e2, Uv e3, fun p hp => ?_⟩
 obtain ⟨j, hj, rfl⟩ := UP hp
 have k2 := h2 j hj
 have k3 := h3 j hj
 rw [d z2, d hj, y2] at k2
 rw [d z3, d hj, y3] at k3
 refine ⟨?_, ?_, ?_, ?_⟩
 ·by_cases h : j = 0
  ·subst h; rw [y0]; exact Int.le_refl _
  ·have := ZFy ha z0 hj (by omega)
   rw [y0] at this
   omega
 ·by_cases h : j = cv.length - 1
  ·subst h; rw [y1]; exact Int.le_refl _
  ·have := ZFy ha hj z1 (by omega)
   rw [y1] at this
   omega
 ·by_cases h : i2 < j
  ·have := ZFy ha z2 hj h
   rw [y2] at this
   omega
  ·by_cases h' : j = i2
   ·subst h'; rw [y2]; omega
   ·have := k2.2 (by omega)
    omega
 ·by_cases h : i3 < j
  ·have := ZFy ha z3 hj h
   rw [y3] at this
   omega
  ·by_cases h' : j = i3
   ·subst h'; rw [y3]; omega
   ·have := k3.2 (by omega)
    omega
theorem ZVv {b y t i : Int} (hy : 0 < y) : (b + i * y <= t /\ t < b + i * y + y) ↔ (t - b) / y = i := by
 have h1 := Int.emod_add_mul_ediv (t - b) y
 have h2 := Int.emod_nonneg (t - b) (show y ≠ 0 by omega)
 have h3 := Int.emod_lt_of_pos (t - b) hy
 constructor
 ·rintro ⟨g1, g2⟩
  refine (Int.ediv_emod_unique hy (r := t - b - i * y) (q := i)).mpr ⟨?_, by omega, by omega⟩ |>.1
  rw [Int.mul_comm y i]
  omega
 ·intro e
  rw [e, Int.mul_comm y i] at h1
  constructor <;> omega
def ZRU (cv : PL) (b y : Int) (m : Nat) (fs : List (Option (PL))) : Prop := fs.length = m /\ ∀ (k : Nat) o, fs[k]? = some o -> Is4 (inCol cv (b + (k : Int) * y) (b + (k : Int) * y + y)) o
def Ch (e : Int) : Int -> PL -> Int -> Prop
 | x, [], y => x = y
 | x, p :: r, y => (0 <= p.1 /\ p.1 <= 40) /\ p.2 * 2 ^ p.1.toNat = x /\ x + 2 ^ p.1.toNat <= e /\ (p.1 < 40 -> x % (2 * 2 ^ p.1.toNat) = 0 -> x + 2 * 2 ^ p.1.toNat <= e -> False) /\ Ch e (x + 2 ^ p.1.toNat) r y
theorem ZFa (k : Nat) : (0 : Int) < 2 ^ k := Int.pow_pos (by decide)
theorem Ch.le {e : Int} : ∀ {r : PL} {x y : Int}, Ch e x r y -> x <= y
 | [], _, _, h => by cases h; exact Int.le_refl _
 | p :: r, x, y, h => by
  have := Ch.le h.2.2.2.2
  have := ZFa p.1.toNat
  omega
theorem Ch.snoc {e : Int} {p : Int × Int} : ∀ {r : PL} {x y : Int}, Ch e x r y -> (0 <= p.1 /\ p.1 <= 40) -> p.2 * 2 ^ p.1.toNat = y -> y + 2 ^ p.1.toNat <= e -> (p.1 < 40 -> y % (2 * 2 ^ p.1.toNat) = 0 -> y + 2 * 2 ^ p.1.toNat <= e -> False) -> Ch e x (r ++ [p]) (y + 2 ^ p.1.toNat)
 | [], _, _, h, h1, h2, h3, h4 => by cases h; exact ⟨h1, h2, h3, h4, rfl⟩
 | _ :: _, _, _, h, h1, h2, h3, h4 => ⟨h.1, h.2.1, h.2.2.1, h.2.2.2.1, Ch.snoc h.2.2.2.2 h1 h2 h3 h4⟩
theorem ZIu {a b : Nat} (h : a <= b) : (2 : Int) ^ a <= 2 ^ b := by
 obtain ⟨c, rfl⟩ := Nat.exists_eq_add_of_le h
 rw [Int.pow_add]
 have h1 := ZFa a
 have h2 := ZFa c
 have h3 : (2 : Int) ^ a * 1 <= 2 ^ a * 2 ^ c := Int.mul_le_mul_of_nonneg_left (by omega) (by omega)
 omega
theorem ZID {a b : Nat} (h : a <= b) : (2 : Int) ^ a ∣ 2 ^ b := by
 obtain ⟨c, rfl⟩ := Nat.exists_eq_add_of_le h
 rw [Int.pow_add]
 exact Int.dvd_mul_right _ _
theorem ZIv (k : Nat) : (2 : Int) * 2 ^ k = 2 ^ (k + 1) := by rw [Int.pow_succ]; omega
def Few (e : Int) (n : Nat) (x : Int) : Prop := ((2 : Int) ^ n ∣ x /\ n <= 40 /\ -(2 ^ 40) + (n : Int) <= x) \/ ∃ m : Nat, (2 : Int) ^ m ∣ x /\ e - x < 2 ^ m /\ n + m <= 80
theorem Few.len {e x : Int} {n : Nat} (h : Few e n x) : n <= 80 := by
 rcases h with h | ⟨m, h⟩ <;> omega
theorem ZRV {a : Nat} {x : Int} (h : (2 : Int) ^ a ∣ x) (h1 : -(2 ^ a) < x) (h2 : x < 2 ^ a) : x = 0 := by
 obtain ⟨c, rfl⟩ := h
 have hp := ZFa a
 have hc : c = 0 := by
  by_cases h0 : c <= -1
  ·have : (2 : Int) ^ a * c <= 2 ^ a * (-1) := Int.mul_le_mul_of_nonneg_left h0 (by omega)
   omega
  ·by_cases h0' : 1 <= c
   ·have : (2 : Int) ^ a * 1 <= 2 ^ a * c := Int.mul_le_mul_of_nonneg_left h0' (by omega)
    omega
   ·omega
 rw [hc, Int.mul_zero]
theorem ZNv {e x : Int} {L : Nat} (he : e <= 2 ^ 40) (hx : -(2 ^ 40) <= x) (h1 : (2 : Int) ^ L ∣ x) (h2 : x + 2 ^ L <= e) : L <= 40 := by
 have hc : L <= 40 \/ L = 41 \/ 42 <= L := by omega
 rcases hc with h | rfl | h
 ·exact h
 ·exfalso
  obtain ⟨c, hc⟩ := h1
  have e1 : (2 : Int) ^ 41 = 2199023255552 := by decide
  have e2 : (2 : Int) ^ 40 = 1099511627776 := by decide
  rw [e1] at h2 hc
  rw [e2] at he hx
  omega
 ·exfalso
  have h3 := ZIu h
  have e1 : (2 : Int) ^ 42 = 4398046511104 := by decide
  have e2 : (2 : Int) ^ 40 = 1099511627776 := by decide
  rw [e1] at h3
  rw [e2] at he hx
  omega
theorem Few.step {e x : Int} {n L : Nat} (he : e <= 2 ^ 40) (hx : -(2 ^ 40) <= x) (h : Few e n x) (h1 : (2 : Int) ^ L ∣ x) (h2 : x + 2 ^ L <= e) (h3 : (2 : Int) ^ (L + 1) ∣ x -> x + 2 ^ (L + 1) <= e -> False) : Few e (n + 1) (x + 2 ^ L) := by
 have hL := ZNv he hx h1 h2
 have hp := ZFa L
 have es : (2 : Int) ^ (L + 1) = 2 * 2 ^ L := (ZIv L).symm
 rcases h with ⟨hd, hn, hb⟩ | ⟨m, hd, hm, hnm⟩
 ·by_cases ha : (2 : Int) ^ (L + 1) ∣ x
  ·-- limited by the end
   have h4 : ¬ x + 2 ^ (L + 1) <= e := fun z => h3 ha z
   by_cases h40 : L = 40
   ·subst h40
    have e2 : (2 : Int) ^ 40 = 1099511627776 := by decide
    have e3 : (2 : Int) ^ (40 + 1) = 2199023255552 := by decide
    have hx0 : x = 0 := ZRV ha (by rw [e3]; rw [e2] at hx; omega) (by rw [e3]; rw [e2] at h2 he; omega)
    subst hx0
    right
    refine ⟨0, Int.one_dvd _, ?_, by omega⟩
    rw [e2] at he h2 ⊢
    show e - (0 + 1099511627776) < 1
    omega
   ·right
    exact ⟨L, Int.dvd_add h1 (Int.dvd_refl _), by omega, by omega⟩
  ·-- limited by where it begins
   have hLn : n <= L := by
    by_cases hlt : n <= L
    ·exact hlt
    ·exact absurd (Int.dvd_trans (ZID (by omega)) hd) ha
   have hd' : (2 : Int) ^ (L + 1) ∣ x + 2 ^ L := by
    obtain ⟨c, hc⟩ := h1
    have hodd : c % 2 = 1 := by
     by_cases h0 : c % 2 = 0
     ·exfalso
      apply ha
      refine ⟨c / 2, ?_⟩
      have : c = 2 * (c / 2) := by omega
      rw [hc, es]
      rw [Int.mul_comm 2 ((2 : Int) ^ L), Int.mul_assoc, <- this]
     ·omega
    refine ⟨(c + 1) / 2, ?_⟩
    have : c + 1 = 2 * ((c + 1) / 2) := by omega
    have h5 : x + 2 ^ L = 2 ^ L * (c + 1) := by rw [hc, Int.mul_add, Int.mul_one]
    rw [h5, es, Int.mul_comm 2 ((2 : Int) ^ L), Int.mul_assoc, <- this]
   left
   refine ⟨Int.dvd_trans (ZID (by omega)) hd', ?_, by omega⟩
   by_cases h40 : L = 40
   ·subst h40
    have e2 : (2 : Int) ^ 40 = 1099511627776 := by decide
    obtain ⟨c, hc⟩ := h1
    rw [e2] at hc he h2 hx hb
    have : c ≠ 0 := by
     rintro rfl
     apply ha
     rw [hc]
     exact ⟨0, by omega⟩
    omega
   ·omega
 ·have hlt : L < m := by
   by_cases hlt : L < m
   ·exact hlt
   ·have := ZIu (show m <= L by omega)
    omega
  have ha : (2 : Int) ^ (L + 1) ∣ x := Int.dvd_trans (ZID (by omega)) hd
  have h4 : ¬ x + 2 ^ (L + 1) <= e := fun z => h3 ha z
  right
  exact ⟨L, Int.dvd_add h1 (Int.dvd_refl _), by omega, by omega⟩
theorem Few.start {e b : Int} (hb : -(2 ^ 40) <= b) : Few e 0 b := .inl ⟨Int.one_dvd _, by omega, by simpa using hb⟩
theorem Is4.congr {a b : PL} {o : Option (PL)} (h : Is4 a o) (e : ∀ p, p ∈ a ↔ p ∈ b) : Is4 b o := by
 rcases h with ⟨h1, h2⟩ | ⟨q0, q1, q2, q3, h1, m0, m1, m2, m3, hb⟩
 ·refine .inl ⟨h1, ?_⟩
  cases b with
  | nil => rfl
  | cons p ps =>
   have := (e p).mpr UA
   rw [h2] at this
   cases this
 ·exact .inr ⟨q0, q1, q2, q3, h1, (e _).mp m0, (e _).mp m1, (e _).mp m2, (e _).mp m3, fun p hp => hb p ((e p).mpr hp)⟩
def inS (sm : PL) (l : Nat) (s : Int) : PL := inCol sm (s * 2 ^ l) (s * 2 ^ l + 2 ^ l)
theorem ZGB {sm : PL} {l : Nat} {s : Int} {p : Int × Int} : p ∈ inS sm l s ↔ p ∈ sm /\ p.1 / 2 ^ l = s := by
 unfold inS
 rw [ZDx]
 have := ZVv (b := 0) (t := p.1) (i := s) (ZFa l)
 rw [Int.sub_zero, Int.zero_add] at this
 rw [this]
theorem ZNw (x : Int) (l : Nat) : x / 2 ^ (l + 1) = x / 2 ^ l / 2 := by
 rw [Int.pow_succ, <- Int.ediv_ediv_of_nonneg (Int.le_of_lt (ZFa l))]
theorem ZTh {sm : PL} {l : Nat} {s : Int} {p : Int × Int} : p ∈ inS sm l (2 * s) ++ inS sm l (2 * s + 1) ↔ p ∈ inS sm (l + 1) s := by
 rw [UI, ZGB, ZGB, ZGB, ZNw]
 constructor
 ·rintro (⟨h1, h2⟩ | ⟨h1, h2⟩)
  ·exact ⟨h1, by omega⟩
  ·exact ⟨h1, by omega⟩
 ·rintro ⟨h1, h2⟩
  have : p.1 / 2 ^ l = 2 * s \/ p.1 / 2 ^ l = 2 * s + 1 := by omega
  rcases this with h | h
  ·exact .inl ⟨h1, h⟩
  ·exact .inr ⟨h1, h⟩
theorem ZX2 {sm : PL} {l : Nat} {a b : Int} (hab : a < b) : ∀ p ∈ inS sm l a, ∀ q ∈ inS sm l b, p.1 < q.1 := by
 intro p hp q hq
 have h1 := (ZGB.mp hp).2
 have h2 := (ZGB.mp hq).2
 by_cases h : p.1 < q.1
 ·exact h
 ·have := Int.ediv_le_ediv (ZFa l) (show q.1 <= p.1 by omega)
  omega
theorem ZP9 {sm : PL} {b x e : Int} (h1 : b <= x) (h2 : x <= e) (p : Int × Int) : p ∈ inCol sm b x ++ inCol sm x e ↔ p ∈ inCol sm b e := by
 rw [UI, ZDx, ZDx, ZDx]
 constructor
 ·rintro (⟨g1, g2, g3⟩ | ⟨g1, g2, g3⟩)
  ·exact ⟨g1, g2, by omega⟩
  ·exact ⟨g1, by omega, g3⟩
 ·rintro ⟨g1, g2, g3⟩
  by_cases h : p.1 < x
  ·exact .inl ⟨g1, g2, h⟩
  ·exact .inr ⟨g1, by omega, g3⟩
theorem ZTi {sm : PL} {b x e : Int} : ∀ p ∈ inCol sm b x, ∀ q ∈ inCol sm x e, p.1 < q.1 := by
 intro p hp q hq
 have h1 := (ZDx.mp hp).2
 have h2 := (ZDx.mp hq).2
 omega
theorem ZFj {m : PL} (hn : (m.map (·.1)).Nodup) {t h : Int} {q : Int × Int} : q ∈ ZEI m t h ↔ (q.1 ≠ t /\ q ∈ m) \/ q = (t, h) := by
 obtain ⟨a, b⟩ := q
 rw [<- ZEj (ZE9 hn), ZKZ, <- ZEj hn]
 by_cases e : a = t
 ·subst e
  simp only [if_true, Option.some.injEq, ne_eq, not_true_eq_false, false_and, false_or, Prod.mk.injEq, true_and]
  exact eq_comm
 ·simp [e]
def kOf (l : Nat) (s : Int) : List Key := [Sum.inl (l : Int), Sum.inl s]
theorem ZVw {l l' : Nat} {s s' : Int} (h : kOf l s = kOf l' s') : l = l' /\ s = s' := by
 unfold kOf at h
 simp only [List.cons.injEq, Sum.inl.injEq, and_true] at h
 exact ⟨by omega, h.2⟩
def ZFC (H : Hp) (kvs : List (List Key × V)) (sm : PL) (G : Nat -> Int -> Prop) : Prop := ∀ (l : Nat) (s : Int), l <= 40 -> G l s -> ∃ o, ZEZ H ((ZEY kvs (kOf l s)).getD .non) o /\ Is4 (inS sm l s) o
theorem ZFC.same {H H' : Hp} {kvs : List (List Key × V)} {sm : PL} {G : Nat -> Int -> Prop} (h : ZFC H kvs sm G) (s : ZDq H H') : ZFC H' kvs sm G := fun l s' hl g => by
 obtain ⟨o, h1, h2⟩ := h l s' hl g
 exact ⟨o, h1.same s, h2⟩
theorem PrT.kpX {H H' : Hp} {a d : Addr} {cv : PL} {ob : HO} (h : PrT H a cv) (k : Kp d H H') (hd : H d = some ob) (hn : ∀ xs, ob ≠ .tup xs) : PrT H' a cv := by
 obtain ⟨us, g, p⟩ := h
 have ne : ∀ {b : Addr} {xs : List V}, H b = some (.tup xs) -> H' b = some (.tup xs) := fun {b xs} e => k _ _ e fun z => by
  subst z
  rw [hd] at e
  exact hn _ (Option.some.inj e)
 exact ⟨us, ne g, Paired.mapP p fun _ _ ⟨a, e, z⟩ => ⟨a, e, ne z⟩⟩
theorem ZEZ.kpX {H H' : Hp} {d : Addr} {v : V} {o : Option (PL)} {ob : HO} (h : ZEZ H v o) (k : Kp d H H') (hd : H d = some ob) (hn : ∀ xs, ob ≠ .tup xs) : ZEZ H' v o := by
 cases h with
 | non => exact .non
 | pr e hl => exact .pr (e.kpX k hd hn) hl
theorem ZFC.kpX {H H' : Hp} {kvs : List (List Key × V)} {sm : PL} {G : Nat -> Int -> Prop} {d : Addr} {ob : HO} (h : ZFC H kvs sm G) (k : Kp d H H') (hd : H d = some ob) (hn : ∀ xs, ob ≠ .tup xs) : ZFC H' kvs sm G := fun l s' hl g => by
 obtain ⟨o, h1, h2⟩ := h l s' hl g
 exact ⟨o, h1.kpX k hd hn, h2⟩
theorem ZFC.other {H : Hp} {kvs : List (List Key × V)} {sm sm' : PL} {t : Int} (h : ZFC H kvs sm fun _ _ => True) (e : ∀ q : Int × Int, q.1 ≠ t -> (q ∈ sm ↔ q ∈ sm')) : ZFC H kvs sm' fun l s => s ≠ t / 2 ^ l := fun l s hl g => by
 obtain ⟨o, h1, h2⟩ := h l s hl trivial
 refine ⟨o, h1, h2.congr fun p => ?_⟩
 rw [ZGB, ZGB]
 constructor
 ·rintro ⟨g1, g2⟩
  exact ⟨(e p fun z => g (by rw [<- g2, z])).mp g1, g2⟩
 ·rintro ⟨g1, g2⟩
  exact ⟨(e p fun z => g (by rw [<- g2, z])).mpr g1, g2⟩
theorem ZFC.put {H' : Hp} {kvs : List (List Key × V)} {sm : PL} {G : Nat -> Int -> Prop} {t : Int} {i : Nat} {v : V} {o : Option (PL)} (h : ZFC H' kvs sm G) (hv : ZEZ H' v o) (ho : Is4 (inS sm i (t / 2 ^ i)) o) :
  ZFC H' (ZFE kvs (kOf i (t / 2 ^ i)) v) sm fun l s => G l s \/ (l = i /\ s = t / 2 ^ l) := fun l s hl g => by
 by_cases e : kOf l s = kOf i (t / 2 ^ i)
 ·obtain ⟨rfl, rfl⟩ := ZVw e
  refine ⟨o, ?_, ho⟩
  rw [ZKY, if_pos rfl]
  exact hv
 ·rcases g with g | ⟨rfl, rfl⟩
  ·obtain ⟨o', h1, h2⟩ := h l s hl g
   refine ⟨o', ?_, h2⟩
   rw [ZKY, if_neg e]
   exact h1
  ·exact absurd rfl e
theorem ZFC.mono {H : Hp} {kvs : List (List Key × V)} {sm : PL} {G G' : Nat -> Int -> Prop} (h : ZFC H kvs sm G) (g : ∀ l s, l <= 40 -> G' l s -> G l s) : ZFC H kvs sm G' := fun l s hl hg => h l s hl (g l s hl hg)
theorem ZFC.tups {H H' : Hp} {kvs : List (List Key × V)} {sm : PL} {G : Nat -> Int -> Prop} (h : ZFC H kvs sm G) (t : ∀ b xs, H b = some (.tup xs) -> H' b = some (.tup xs)) : ZFC H' kvs sm G := fun l s hl g => by
 obtain ⟨o, h1, h2⟩ := h l s hl g
 refine ⟨o, ?_, h2⟩
 generalize (ZEY kvs (kOf l s)).getD .non = v at h1
 cases h1 with
 | non => exact .non
 | pr e hl =>
  obtain ⟨us, g, p⟩ := e
  exact .pr ⟨us, t _ _ g, Paired.mapP p fun _ _ ⟨a, e, z⟩ => ⟨a, e, t _ _ z⟩⟩ hl
def ZFt (m : PL) (t : Int) : PL := m.filter fun p => decide (p.1 ≠ t)
theorem ZVx (m : PL) (t : Int) : ZHx (ZEF m) (.inl t) = ZEF (ZFt m t) := by
 unfold ZHx ZEF ZFt
 rw [List.filter_map]
 congr 1
 apply List.filter_congr
 intro p _
 simp [dkE, Function.comp]
theorem ZH1 {m : PL} {t : Int} {q : Int × Int} : q ∈ ZFt m t ↔ q.1 ≠ t /\ q ∈ m := by
 unfold ZFt
 rw [List.mem_filter, decide_eq_true_iff, and_comm]
theorem ZIE {m : PL} {t : Int} (n : (m.map (·.1)).Nodup) : ((ZFt m t).map (·.1)).Nodup := n.sublist ((List.filter_sublist).map _)
def Eqv (m m' : PL) : Prop := ∀ q : Int × Int, q ∈ m ↔ q ∈ m'
theorem ZRW {m : PL} {t v : Int} (n : (m.map (·.1)).Nodup) (hg : ZEE m t = some v) : Eqv (ZEI (ZFt m t) t v) m := fun q => by
 rw [ZFj (ZIE n), ZH1]
 obtain ⟨x, y⟩ := q
 constructor
 ·rintro (⟨_, _, h⟩ | h)
  ·exact h
  ·rw [h]; exact (ZEj n).mp hg
 ·intro h
  by_cases e : x = t
  ·subst e
   have := (ZEj n).mpr h
   rw [hg] at this
   cases this
   exact .inr rfl
  ·exact .inl ⟨e, e, h⟩
theorem ZRX {m : PL} {t v : Int} (n : (m.map (·.1)).Nodup) (hg : ZEE m t = none) : Eqv (ZFt (ZEI m t v) t) m := fun q => by
 rw [ZH1, ZFj n]
 constructor
 ·rintro ⟨h, (h' | h')⟩
  ·exact h'.2
  ·exact absurd (by rw [h']) h
 ·intro h
  have : q.1 ≠ t := fun e => by
   rw [ZFx] at hg
   exact hg (Ux.mpr ⟨q, h, e⟩)
  exact ⟨this, .inl ⟨this, h⟩⟩
theorem ZTj {m : PL} {t u v : Int} (n : (m.map (·.1)).Nodup) (hg : ZEE m t = some u) : Eqv (ZEI (ZEI m t v) t u) m := fun q => by
 rw [ZFj (ZE9 n), ZFj n]
 obtain ⟨x, y⟩ := q
 constructor
 ·rintro (⟨h, (h' | h')⟩ | h)
  ·exact h'.2
  ·exact absurd (by rw [h']) h
  ·rw [h]; exact (ZEj n).mp hg
 ·intro h
  by_cases e : x = t
  ·subst e
   have := (ZEj n).mpr h
   rw [hg] at this
   cases this
   exact .inr rfl
  ·exact .inl ⟨e, .inl ⟨e, h⟩⟩
section
variable {X : Cx} {o e : Expr} {apos cpos pos p : Pos} {td ty to : TE}
theorem ZTk (ho : QE X o td) (he : QE X e ty) (m : M1 X o "pop" apos e cpos := by exact ⟨rfl, rfl, rfl, rfl⟩) : QE X (.Call (.Attribute o "pop" apos) [e] [] cpos) (ZNX td ty) := ⟨ZTN ho.h he.h m⟩
def ZNx : R2 := fun y x H Q => ∃ a o, x = .ref a /\ ZFI H a y o /\ Q (.bl (!o.isSome)) H
theorem ZQA (hu : X.A.units + 1 < cLine) : OpR X (compareOp .NotIn) ZNx := by
 intro pins s U H x y v u Q I rx ry h
 obtain ⟨a, ov, rfl, g, q⟩ := h
 obtain rfl : u = Value.ref a := ry
 exact ZVW hu I g rx fun s3 I3 => ⟨.bl (!ov.isSome), H, I3, rfl, q⟩
def ZNy : List V -> Hp -> VK -> Prop := fun xs H Q => ∃ a kvs, xs = [.ref a] /\ H a = some (.dK kvs) /\ ∀ p, H p = none -> Q (.ref p) (upd H p (.dK kvs))
theorem ZLQ : ZEd X (.type "dict") ZNy := by
 intro pins s U H xs us Q I r h
 obtain ⟨a, kvs, rfl, hd, q⟩ := h
 cases r with
 | cons r1 r2 =>
 cases r2
 cases r1
 exact ZTO I (.inl hd) fun p s' hp I' => ⟨.ref p, _, I', rfl, q p hp⟩
end
section
variable {K : W.Frag} {U : St} {H : Hp} {Q : VK} {td ty : TE} {a b : Addr} {m m' : PL} {i v : Int}
def ZNz (a : Addr) (y : V) (H : Hp) (Q : VK) : Prop := ∃ kvs k v, H a = some (.dK kvs) /\ y = kV k /\ ZEY kvs k = some v /\ Q v (upd H a (.dK (ZHx kvs k)))
def ZRY (ty : TE) (U : St) (Q : VK) (x : V) (H : Hp) : Prop := ∃ a, x = .ref a /\ IsD H a /\ ty U H fun y H2 => ZNz a y H2 Q
theorem ZTl (h : td U H fun x H1 => ZRY ty U Q x H1) : ZNX td ty U H Q := h
theorem ZTm {kvs : List (Key × V)} (h1 : H a = some (.dK kvs)) (q : ty U H fun y H2 => ZNz a y H2 Q) : ZRY ty U Q (.ref a) H := ⟨a, rfl, .inl ⟨kvs, .inl h1⟩, q⟩
theorem ZTn (h1 : H a = some (.dK (ZEF m))) (l : ZEE m i = some v) (q : ∀ H2, H2 a = some (.dK (ZEF (ZFt m i))) -> Kp a H H2 -> Q (.int v) H2) : ZNz a (.int i) H Q :=
 ⟨ZEF m, .inl i, .int v, h1, rfl, by rw [ZHh, l]; rfl, by rw [ZVx]; exact q _ ZDr Kp.upd⟩
theorem ZTo (h1 : H a = some (.dK (ZEF m))) (q : ∀ p H2, H p = none -> H2 p = some (.dK (ZEF m)) -> ZDq H H2 -> Q (.ref p) H2) : ZNy [.ref a] H Q := ⟨a, _, rfl, h1, fun p hp => q p _ hp ZDr (ZDq.new hp)⟩
theorem ZX3 {l : Addr} {xs : List V} {y : V} (h : H l = some (.lst (xs ++ [y]))) (q : ∀ H2, H2 l = some (.lst xs) -> Kp l H H2 -> Q y H2) : ZW5 (.ref l) [] H Q :=
 ⟨l, xs ++ [y], y, rfl, rfl, h, by simp, by rw [List.dropLast_concat]; exact q _ ZDr Kp.upd⟩
end
def ZRZ (K : W.Frag) : R2 := fun x y H Q => ∃ p q xs, x = .ref p /\ y = .ref q /\ SqL K H p xs /\ SqL K H q [] /\ Q (.bl (!xs.isEmpty)) H
section
variable {X : Cx}
theorem ZN0 (K : W.Frag) (hK : X.K = K) (hu : X.A.units + 1 < cLine) : OpR X (compareOp .NotEq) (ZRZ K) := by
 subst hK
 intro pins s U H x y v u Q I rx ry h
 obtain ⟨p, q, xs, rfl, rfl, h1, h2, k⟩ := h
 obtain rfl : v = Value.ref p := rx
 obtain rfl : u = Value.ref q := ry
 obtain ⟨its, rv, pl, hz⟩ := I.list h1
 obtain ⟨its2, rv2, pl2, hz2⟩ := I.list h2
 cases rv2
 have hlen := rv.length
 cases xs with
 | nil =>
  cases rv
  exact SeqAt.RcNeAt.lists (e := fun _ => true) pl.isList pl2.isList rfl (by omega) (fun j h1 _ => absurd h1 (by simp)) X.prog X.w _ _ ⟨.bl false, H, I, rfl, k⟩
 | cons x xs =>
  refine SeqAt.RcNeAt.lists_lengths pl.isList pl2.isList ?_ (by omega) X.prog X.w _ _ ⟨.bl true, H, I, rfl, k⟩
  simp only [UZ] at hlen
  simp only [Uo, List.length_nil, bne_iff_ne, ne_eq]
  omega
end
section
variable {K : W.Frag} {H : Hp} {Q : VK} {p q : Addr} {xs : List V}
theorem ZN1 (h1 : SqL K H p xs) (h2 : SqL K H q []) (k : Q (.bl (!xs.isEmpty)) H) : ZRZ K (.ref p) (.ref q) H Q := ⟨p, q, xs, rfl, rfl, h1, h2, k⟩
end
theorem ints_dats {K : W.Frag} {H : Hp} : ∀ ns : List Int, ZFg K H (ns.map V.int) (ns.map PyData.int)
 | [] => .nil
 | n :: ns => .cons (.int n) (ints_dats ns)
end L2
namespace L2
theorem ZTp {m : PL} {t h : Int} (e : ZEE m t = none) : ZEI m t h = m ++ [(t, h)] := by
 unfold ZEI
 rw [if_neg]
 intro z
 obtain ⟨q, hq, e2⟩ := UL.mp z
 rw [decide_eq_true_iff] at e2
 rw [ZFx] at e
 exact e (Ux.mpr ⟨q, hq, e2⟩)
end L2
namespace L2
open PySem PySem.Spec PyProof.Rows PySem.W
def FrL (l : List Addr) (H H' : Hp) : Prop := ∀ b o, H b = some o -> b ∉ l -> H' b = some o
theorem FrL.trans {l : List Addr} {H H1 H2 : Hp} (h : FrL l H H1) (g : FrL l H1 H2) : FrL l H H2 := fun b o e n => g b o (h b o e n) n
theorem FrL.same {l : List Addr} {H H' : Hp} (h : ZDq H H') : FrL l H H' := fun b o e _ => h b o e
theorem FrL.kp {l : List Addr} {H H' : Hp} {q : Addr} (h : Kp q H H') (m : q ∈ l) : FrL l H H' := fun b o e n => h b o e fun z => n (z ▸ m)
theorem FrL.fresh {l : List Addr} {H0 H H' : Hp} (f : FrL l H H') (s : ZDq H0 H) (n : ∀ b ∈ l, H0 b = none) : ZDq H0 H' := fun b o e => f _ _ (s _ _ e) fun z => by rw [n b z] at e; cases e
theorem ZGv {H0 H : Hp} {b : Addr} (s : ZDq H0 H) (e : H b = none) : H0 b = none := by
 cases e2 : H0 b with
 | none => rfl
 | some o => rw [s _ _ e2] at e; cases e
end L2
namespace L2
theorem ZRa {c : TT} {t u : TS} {D : ZEx} {U : St} {H : Hp} (h : ZM8 c t u D U H) : ZM8 c t u D U H := h
theorem ZVy {t : TS} {D : ZEx} {U : St} {H : Hp} (P : St -> Hp -> Prop) (h1 : ∀ U' H', P U' H' -> D.nx U' H') (h2 : ∀ D' : ZEx, D'.rt = D.rt -> (∀ U' H', P U' H' -> D'.nx U' H') -> t D' U H) : t D U H := h2 D rfl h1
end L2
namespace L2
open PySem PySem.Spec PyProof.Rows PySem.W
def Itk (d : Addr) (o : Obj) (kvs : List (Key × V)) : It := ⟨fun i H => H d = some (.frz o (.dK kvs)) /\ i < kvs.length, fun i H x H' => H' = H /\ ∃ p, kvs[i]? = some p /\ x = kV p.1, fun i H => H d = some (.frz o (.dK kvs)) /\ kvs.length <= i⟩
theorem ZRb {P : Program} {w : World} {k : Key} {u : Value} (h : (ZEP P w).is k u = true) : ZD0 (kV k) u := by
 rcases ZEe h with ⟨i, t, rfl, rfl⟩ | ⟨x, t, rfl, rfl⟩
 ·exact ⟨t, rfl⟩
 ·exact ⟨t, rfl⟩
theorem ZYo {kvs : List (Key × V)} {vs : List (Key × Value)} (h : KV kvs vs) : ∀ {i : Nat} {p : Key × V}, kvs[i]? = some p -> ∃ q, vs[i]? = some q /\ q.1 = p.1 := by
 unfold KV at h
 induction h with
 | nil => intro i p e; simp at e
 | @cons a b as bs h t ih =>
  intro i p e
  cases i with
  | zero =>
   simp at e
   subst e
   exact ⟨b, rfl, h.1.symm⟩
  | succ i =>
   obtain ⟨q, h1, h2⟩ := ih (i := i) (p := p) (by simpa using e)
   exact ⟨q, by simpa using h1, h2⟩
theorem ZRc {P : Program} {w : World} {K : W.Frag} {tg : Expr} (d it : Addr) (o : Obj) (kvs : List (Key × V)) (es : Array DictEntry) (ep : Nat) (ho : o.data = .dict es ep) : ZJK P w K tg (Itk d o kvs) [it] it (fun i h => h.IsKeyIter it d i kvs.length ep) where
 mem := by simp
 obj := fun i h st b hb => by
  have e : b = it := by simpa using hb
  subst e
  obtain ⟨o, e, c, d⟩ := st
  exact ⟨o, e, fun v z => by rw [d] at z; cases z⟩
 keep := fun i h h' st k => st.at fun o e => k it (by simp) o e
 item := by
  intro X hP hw hK hc i pins s U H E I hf st hg
  subst hP hw hK
  obtain ⟨hd, hi⟩ := hg
  obtain ⟨f0, f1, f2, f3, f4, f5⟩ := hf it (by simp)
  obtain ⟨hob, z, hsm, vs, rel, dd⟩ := (show ZEW X.prog X.w H s.heap d (.frz o (.dK kvs)) from I.hok d _ hd)
  obtain ⟨ep', dd⟩ := dd.dictAt
  obtain ⟨o2, es2, g1, g2, g3, g4⟩ := id dd
  rw [hob] at g1
  cases g1
  rw [ho] at g3
  cases g3
  have hlen : kvs.length = vs.length := rel.length
  obtain ⟨q, hq, eq⟩ := ZYo rel (Uc hi)
  rw [hlen] at st
  refine wpAny_pyNext_dict_item (knd := ZEP X.prog X.w) (k := q.1) (v := q.2) st dd hq fun key h' hkey hit' hs' => ?_
  have I1 : Inv X pins U H { s with heap := h' } := I.turned (t' := s.toks) (fun b o hb e => (hs'.2 b hb).trans e) f0 f1 f3 f4 f5
  obtain ⟨o3, e3, c3, d3⟩ := id hit'
  refine ⟨key, rfl, ZJx (s := { s with heap := h' }) e3 c3 d3 (by decide) ⟨kV kvs[i].1, H, I1, ?_, ⟨rfl, _, Uc hi, rfl⟩, ?_, fun b hb => (hf b hb).1⟩⟩
  ·rw [<- eq]; exact ZRb hkey
  ·rw [hlen]; exact hit'
 done := by
  intro X hP hw hK hc i pins s U H E I hf st hg
  subst hP hw hK
  obtain ⟨hd, hi⟩ := hg
  obtain ⟨f0, f1, f2, f3, f4, f5⟩ := hf it (by simp)
  obtain ⟨hob, z, hsm, vs, rel, dd⟩ := (show ZEW X.prog X.w H s.heap d (.frz o (.dK kvs)) from I.hok d _ hd)
  obtain ⟨ep', dd⟩ := dd.dictAt
  obtain ⟨o2, es2, g1, g2, g3, g4⟩ := id dd
  rw [hob] at g1
  cases g1
  rw [ho] at g3
  cases g3
  have hlen : kvs.length = vs.length := rel.length
  rw [hlen] at st
  exact wpAny_pyNext_dict_end (knd := ZEP X.prog X.w) (I.ok.hd hc) st dd (List.getElem?_eq_none (by omega)) fun h' eb => ⟨rfl, I.turned (t' := s.toks) (fun b o hb e => eb b o hb e) f0 f1 f3 f4 f5⟩
 self := fun _ _ _ _ _ st h => wpAny_pyIter_keyiter st h
def ZIw (X : Cx) (d : Addr) : Prop := ∀ o u, X.H₀ d ≠ some (.frz o u)
def ZLR (X : Cx) (R : It -> Hp -> Prop) (v : V) (H : Hp) : Prop := ∃ d kvs, v = .ref d /\ H d = some (.dK kvs) /\ ∀ o, ZIw X d -> R (Itk d o kvs) (upd H d (.frz o (.dK kvs)))
def ZUZ (X : Cx) (te : TE) : TI := fun U H R => te U H fun v H1 => ZLR X R v H1
section
variable {X : Cx} {tg e : Expr} {te t : TE}
theorem ZLr (he : QE X e te) : QI X tg e (ZUZ X te) := by
 refine ⟨?_⟩
 intro pins s U H R I h
 refine thn (he.h pins s U H _ I h) fun u s1 ⟨x, H1, I1, rx, d, kvs, ex, hd, q⟩ => ?_
 subst ex
 obtain rfl : u = Value.ref d := rx
 obtain ⟨z, hsm, vs, rel, dd⟩ := ZJ4 I1.hok hd
 obtain ⟨ep, dda⟩ := dd.dictAt
 obtain ⟨o, es, ho, hx, hdat, hk, hpr, hn⟩ := id dda
 have hnf : ZIw X d := fun o u e => by
  have := I1.base.frzs d o u e
  rw [hd] at this
  cases this
 have hlen : kvs.length = vs.length := rel.length
 -- frozen
 have I2 : Inv X pins U (upd H1 d (.frz o (.dK kvs))) s1 := by
  have := ZIX (h' := s1.heap) (t' := s1.toks) (ob := .frz o (.dK kvs)) I1 (by rw [hd]; exact True.intro) (Heap.SameBut.refl _ _) ⟨o, ho⟩ ⟨ho, ZJQ z hsm rel dd⟩
  exact this
 refine wpAny_pyIter_dict (knd := ZEP X.prog X.w) hsm dda ?_
 refine ⟨s1.heap.objs.size, [s1.heap.objs.size], _, _, _, rfl, I2.kept (t' := s1.toks) fun b o e => Ub _ e, ZRc d _ o kvs es ep hdat, ?_, fun b hb => ?_, q o hnf⟩
 ·rw [hlen]
  exact ⟨_, Ug _ rfl, rfl, rfl⟩
 ·have e : b = s1.heap.objs.size := by simpa using hb
  subst e
  exact I2.fpOk (Ud _) (I2.hok.fresh (Ud _))
theorem Inv.thaw {pins : List (Addr × Obj)} {U : St} {H : Hp} {s : Shared} {d : Addr} {o : Obj} {u : HO} (I : Inv X pins U H s) (hd : H d = some (.frz o u)) (nf : ZIw X d) (hu : Mut (some u)) : Inv X pins U (upd H d u) s := by
 have hne : ∀ b ob, H b = some ob -> (∀ o u, ob ≠ .frz o u) -> b ≠ d := fun b ob e n z => by rw [z, hd] at e; cases e; exact n _ _ rfl
 have hnn : ∀ b, H b = none -> b ≠ d := fun b e z => by rw [z, hd] at e; cases e
 obtain ⟨ho, hou⟩ := (show ZEW X.prog X.w H s.heap d (.frz o u) from I.hok d _ hd)
 have base := I.base
 refine ⟨I.ok, I.os, I.bare, ⟨base.keep, base.slot, fun b ob e n hx => ?_, base.there, fun b xs e => ?_, fun b ob v e => ?_, fun b ps e => ?_⟩, I.loc, I.cell, ?_, fun x c e => ?_, fun p hp => ?_, fun b ob e => ?_, I.len⟩
 ·have := base.free b ob e n hx
  rw [ZD4 (hnn b this)]; exact this
 ·have := base.tups b xs e
  rw [ZD4 (hne b _ this fun _ _ z => by cases z)]; exact this
 ·have h1 := base.frzs b ob v e
  have : b ≠ d := fun z => by subst z; exact nf _ _ e
  rw [ZD4 this]; exact h1
 ·obtain ⟨more, h1⟩ := base.tbls b ps e
  exact ⟨more, by rw [ZD4 (hne b _ h1 fun _ _ z => by cases z)]; exact h1⟩
 ·rw [ZD4 (hnn _ I.free)]; exact I.free
 ·rw [ZD4 (hnn _ (I.freeC x c e))]; exact I.freeC x c e
 ·obtain ⟨h1, h2, h3⟩ := I.pin p hp
  exact ⟨h1, by rw [ZD4 (hnn _ h2)]; exact h2, h3⟩
 ·by_cases hb : b = d
  ·subst hb
   rw [ZDr] at e
   cases e
   exact hou.stay (fun c v _ r => r) (fun c r => by rw [ZD4 (hne c _ r fun _ _ z => by cases z)]; exact r) fun c xs r => by rw [ZD4 (hne c _ r fun _ _ z => by cases z)]; exact r
  ·rw [ZD4 hb] at e
   exact (I.hok b _ e).stay (fun c v _ r => r) (fun c r => by rw [ZD4 (hne c _ r fun _ _ z => by cases z)]; exact r) fun c xs r => by rw [ZD4 (hne c _ r fun _ _ z => by cases z)]; exact r
end
section
variable {X : Cx} {U : St} {H : Hp} {Q : VK} {R : It -> Hp -> Prop} {te t : TE} {d : Addr} {m : PL}
theorem ZIx (h : te U H fun v H1 => ZLR X R v H1) : ZUZ X te U H R := h
theorem ZX4 (h1 : H d = some (.dK (ZEF m))) (h : ∀ o H2, ZIw X d -> H2 d = some (.frz o (.dK (ZEF m))) -> Kp d H H2 -> R (Itk d o (ZEF m)) H2) : ZLR X R (.ref d) H := ⟨d, _, rfl, h1, fun o nf => h o _ nf ZDr Kp.upd⟩
theorem ZTq {o : Obj} {t v : Int} (h1 : H d = some (.frz o (.dK (ZEF m)))) (h2 : ZEE m t = some v) (h : Q (.int v) H) : ZLH (.ref d) (.int t) H Q :=
 ⟨d, _, rfl, .inl ⟨ZEF m, .inl t, .inr ⟨o, h1⟩, rfl, by rw [ZHh, h2]; rfl⟩, h⟩
theorem ZYp {i : Nat} (hi : i < m.length) : (ZEF m)[i]? = some (dkE m[i]) := by
 unfold ZEF
 rw [UB, Uc hi]
 rfl
end
theorem ZX5 {X : Cx} (K : W.Frag) (h : X.K = K) : OpR X (compareOp .In) (rIn K false) := h ▸ ZQx
structure ZQB (K : Frag) (x : Str) (C : Addr) : Prop where
 a : nsIn K mainGlobals x = some (some (.ref C))
 ex : excIn K C [.type "ValueError", .type "Exception", .type "BaseException", .type "object"] "ValueError.__new__" = true
 ga : findIn K (.ref C) "__getattribute__" = some (some (.builtin "BaseException.__getattribute__"))
 gt : findIn K (.ref C) "__getattr__" = some none
 cl : findIn K (.ref C) "__class__" = some (some (.builtin "object.__class__"))
 ob : mroIn K C (.type "object") = some true
 be : mroIn K C (.type "BaseException") = some true
structure ZTr (K : Frag) (x : Str) (C : Addr) : Prop where
 a : nsIn K mainGlobals x = some (some (.ref C))
 pg : plainGet K C Str.empty = true
 hd : hasDictIn K C = true
 po : plainOver K C = true
 sa : findIn K (.ref C) "__setattr__" = some (some (.builtin "object.__setattr__"))
 mi : makesIn K C = true
 kc : keepIn K (.ref C) = true
section
variable {K : Frag} {x qual : Str} {st : Stmt} {f : Addr} {fd : FuncData}
theorem Fun.b1 {p : Str} (F : Fun K x qual st f fd) (h : ∀ (kV doc pm : Value) (an : Option Addr) (cdv ct u : Value), bindArgs (fnOf x qual (ZEm st) (ZEg st) (ZDo st) .none kV doc pm an cdv ct) ⟨[u], []⟩ = pure ([p].zip [u])) : ZDt K fd [p] [] := F.binds fun _ _ _ _ _ _ us hl => match us, hl with | [_], _ => h _ _ _ _ _ _ _
theorem Fun.b2 {p q : Str} (F : Fun K x qual st f fd) (h : ∀ (kV doc pm : Value) (an : Option Addr) (cdv ct u v : Value), bindArgs (fnOf x qual (ZEm st) (ZEg st) (ZDo st) .none kV doc pm an cdv ct) ⟨[u, v], []⟩ = pure ([p, q].zip [u, v])) : ZDt K fd [p, q] [] := F.binds fun _ _ _ _ _ _ us hl => match us, hl with | [_, _], _ => h _ _ _ _ _ _ _ _
theorem Fun.b3 {p q r : Str} (F : Fun K x qual st f fd) (h : ∀ (kV doc pm : Value) (an : Option Addr) (cdv ct u v y : Value), bindArgs (fnOf x qual (ZEm st) (ZEg st) (ZDo st) .none kV doc pm an cdv ct) ⟨[u, v, y], []⟩ = pure ([p, q, r].zip [u, v, y])) : ZDt K fd [p, q, r] [] := F.binds fun _ _ _ _ _ _ us hl => match us, hl with | [_, _, _], _ => h _ _ _ _ _ _ _ _ _
theorem Fun.b4 {p q r t : Str} (F : Fun K x qual st f fd) (h : ∀ (kV doc pm : Value) (an : Option Addr) (cdv ct u v y z : Value), bindArgs (fnOf x qual (ZEm st) (ZEg st) (ZDo st) .none kV doc pm an cdv ct) ⟨[u, v, y, z], []⟩ = pure ([p, q, r, t].zip [u, v, y, z])) : ZDt K fd [p, q, r, t] [] := F.binds fun _ _ _ _ _ _ us hl => match us, hl with | [_, _, _, _], _ => h _ _ _ _ _ _ _ _ _ _
end
section
variable {X : Cx} {o i e f value : Expr} {tpos pos apos cpos : Pos} {to ti te td ty tx : TE}
theorem ZTs (hu : X.A.units + 1 < cLine) (ho : QE X o td) (he : QE X e ty) (hf : QE X f tx) (m : M2 X o "get" apos e f cpos := by exact ⟨rfl, rfl, rfl, rfl⟩) : QE X (.Call (.Attribute o "get" apos) [e, f] [] cpos) (ZNW td ty tx) := ⟨ZTM hu ho.h he.h hf.h m⟩
end
section
variable {K : W.Frag} {U : St} {H : Hp} {Q : VK} {D : ZEx} {to ti te td ty tx : TE} {a p : Addr} {m : PL} {i : Int}
def ZLs (a : Addr) (y z : V) (H : Hp) (Q : VK) : Prop := ∃ o, ZFI H a y o /\ Q (o.getD z) H
def ZPH (ty tx : TE) (U : St) (Q : VK) (x : V) (H : Hp) : Prop := ∃ a, x = .ref a /\ IsD H a /\ ty U H fun y H2 => tx U H2 fun z H3 => ZLs a y z H3 Q
theorem ZRd (h : td U H fun x H1 => ZPH ty tx U Q x H1) : ZNW td ty tx U H Q := h
end
theorem Paired.get {α β : Type} {F : α -> β -> Prop} : ∀ {l₁ : List α} {l₂ : List β}, Paired F l₁ l₂ -> ∀ {i : Nat} {x : α}, l₁[i]? = some x -> ∃ y, l₂[i]? = some y /\ F x y
 | _, _, .nil, i, x, e => by simp at e
 | _, _, .cons h t, 0, x, e => by simp at e; subst e; exact ⟨_, rfl, h⟩
 | _, _, .cons _ t, i + 1, x, e => by
  obtain ⟨o, h1, h2⟩ := Paired.get t (by simpa using e)
  exact ⟨o, by simpa using h1, h2⟩
theorem Paired.snocP {α β : Type} {F : α -> β -> Prop} : ∀ {l₁ : List α} {l₂ : List β}, Paired F l₁ l₂ -> ∀ {x : α} {y : β}, F x y -> Paired F (l₁ ++ [x]) (l₂ ++ [y])
 | _, _, .nil, _, _, h => .cons h .nil
 | _, _, .cons g t, _, _, h => .cons g (Paired.snocP t h)
def leS (a b : Str) : Prop := ¬ b.cps.toList < a.cps.toList
theorem ZN2 {a b : Str} (h1 : leS a b) (h2 : leS b a) : a = b := by
 have : a.cps.toList = b.cps.toList := List.le_antisymm (List.not_lt.mp h1) (List.not_lt.mp h2)
 cases a; cases b
 congr
 exact Array.toList_inj.mp this
theorem ZMP {a b c : Str} (h1 : leS a b) (h2 : leS b c) : leS a c := List.not_lt.mpr (List.le_trans (List.not_lt.mp h1) (List.not_lt.mp h2))
theorem ZMQ : ∀ (l : List Str) (p : Str), risingS p l = true -> (p :: l).Pairwise leS
 | [], p, _ => List.pairwise_singleton _ _
 | x :: r, p, h => by
  simp only [risingS, UH, Bool.not_eq_true', ltCps_eq, decide_eq_false_iff_not] at h
  have ih := ZMQ r x h.2
  rw [List.pairwise_cons]
  refine ⟨fun y hy => ?_, ih⟩
  rcases Ul.mp hy with rfl | hy
  ·exact h.1
  ·exact ZMP h.1 ((List.pairwise_cons.mp ih).1 y hy)
theorem ZQC {l : List Str} (h : sortedS l = true) : l.Pairwise leS := by
 cases l with
 | nil => exact .nil
 | cons p l => exact ZMQ l p h
theorem ZN3 {l m : List Str} (hp : l.Perm m) (h1 : l.Pairwise leS) (h2 : m.Pairwise leS) : l = m := List.Perm.eq_of_pairwise (le := leS) (fun _ _ _ _ h g => ZN2 h g) h1 h2 hp
section
variable {prog : Program} {w : World} {A : Around} {E : Value -> Shared -> Prop} {s : Shared} {κ : Type} [DecidableEq κ] {knd : KeyKind prog w κ}
theorem ZN4 {d : Addr} {kvs : List (κ × Value)} {ep : Nat} {Q : Value -> Shared -> Prop} (hh : A.handled = none) (hd : (d == sysModules) = false) (hm : s.heap.DictAt knd d kvs ep) (h64 : kvs.length < 64)
  (hI : ∀ acc : Array Value, ItemsOf (fun i v => ∃ k x, kvs[i]? = some (k, x) /\ knd.is k v = true) acc kvs.length -> ∃ ss, StrsAre acc.toList ss /\ ∀ (s' : Shared) (l : Addr) (out : Array Value) (ss' : List Str) (e : Nat), s.heap.objs.size <= l -> (∀ b o, s.heap.get? b = some o -> s'.heap.get? b = some o) -> s'.gens = s.gens -> s'.drawn = s.drawn -> s'.os = s.os ->
   s'.heap.get? l = some (seqObj "list" out e) -> StrsAre out.toList ss' -> ss'.Perm ss -> sortedS ss' = true -> Q (.ref l) s') :
  wpAny (model prog w) A (call (.builtin "sorted") [.ref d]) Q E s := by
 refine Calls.call_function_entry kind_sorted plain_sorted entry_sorted (args_sorted1 _) ?_
 unfold Builtin.«sorted»
 refine Ua (m := checkCount "sorted" 1 1 _) (Uh ?_)
 refine Ua (ZJR (knd := knd) hh hd hm (by rw [sizeLine_eq]; omega) fun s1 acc hk e1 e2 e3 hlt hacc => ?_)
 obtain ⟨ss, hns, hQ⟩ := hI acc hacc
 refine Ua (wpAny_newList (hsz := by rw [UF, hacc.1, sizeLine_eq]; omega) ?_)
 have hoL : (s1.heap.push (seqObj "list" acc.toList.toArray 0)).get? s1.heap.objs.size = some (seqObj "list" acc.toList.toArray 0) := Ug _ rfl
 show wpAny _ _ _ _ _ { s1 with heap := s1.heap.push (seqObj "list" acc.toList.toArray 0) }
 refine Ua (UT (wpAny_call_entry slot_list_sort ⟨_, hoL, rfl⟩ entry_list_sort (list_sort_treeK strKind_oneLt hoL hns.keysOf (fun v₁ v₂ ZFP e => keyKind_strs (by rw [<- e]; exact hns)) (by rw [UF, hacc.1]; exact h64) fun st' hp hs => ⟨_, rfl, ?_⟩) (args_list_sort _)))
 obtain ⟨ss', a1, a2, a3⟩ := sorted_out_str hns hp hs
 refine Uh ⟨_, rfl, ?_⟩
 obtain ⟨e, he⟩ := sortedHeap_at (out := (arrOf st').map (·.2)) hoL
 have hle : s.heap.objs.size <= s1.heap.objs.size := Nat.le_of_lt hlt
 refine hQ _ _ _ ss' e hle (fun b o eb => ?_) e1 e2 e3 he a1 a2 a3
 have hb := Uk (hk _ _ eb)
 exact (sortedHeap_old (Uq hb) (by rw [UW]; exact Vf hb)).trans (Ub _ (hk _ _ eb))
end
theorem ZMR : ∀ (vs : List (Key × Value)) (ns : List Str) (l : List Value), vs.map (·.1) = ns.map Sum.inr -> l.length = vs.length -> (∀ (j : Nat) (v : Value), l[j]? = some v -> ∃ k x, vs[j]? = some (k, x) /\ ZHv k v = true) -> StrsAre l ns
 | [], [], [], _, _, _ => .nil
 | [], [], _ :: _, _, h, _ => by simp at h
 | [], _ :: _, _, h, _, _ => by simp at h
 | _ :: _, [], _, h, _, _ => by simp at h
 | _ :: _, _ :: _, [], _, h, _ => by simp at h
 | (k, x) :: vs, n :: ns, v :: l, h1, h2, h3 => by
  simp only [UD, List.cons.injEq] at h1
  obtain ⟨rfl, h1⟩ := h1
  obtain ⟨k', x', e, hk⟩ := h3 0 v rfl
  simp only [List.getElem?_cons_zero, Option.some.injEq, Prod.mk.injEq] at e
  obtain ⟨rfl, rfl⟩ := e
  rcases ZEe hk with ⟨i, t, e1, e2⟩ | ⟨y, t, e1, e2⟩
  ·cases e1
  ·cases e1; cases e2
   refine .cons _ _ (ZMR vs ns l h1 (by simpa using h2) fun j v e => ?_)
   have := h3 (j + 1) v (by simpa using e)
   simpa using this
theorem ZJZ : ∀ {vs : List Value} {ss : List Str}, StrsAre vs ss -> ZD3 (ss.map V.str) vs
 | _, _, .nil => .nil
 | _, _, .cons _ t h => .cons ⟨t, rfl⟩ (ZJZ h)
def ZMS : List V -> Hp -> VK -> Prop := fun xs H Q => ∃ (p : Addr) (kvs : List (Key × V)) (ss : List Str), xs = [.ref p] /\ Rd H p (.dK kvs) /\ kvs.map (·.1) = ss.map Sum.inr /\ kvs.length < 64 /\ ∀ (l : Addr) (ss' : List Str), H l = none -> ss'.Perm ss -> ss'.Pairwise leS -> Q (.ref l) (upd H l (.lst (ss'.map V.str)))
theorem ZG3 {X : Cx} (hc : X.calm = true) : ZEd X (.builtin "sorted") ZMS := by
 intro pins s U H xs us Q I r h
 obtain ⟨p, kvs, ss, rfl, hd, hns, h64, q⟩ := h
 obtain ⟨u, rfl, ru⟩ := r.one
 cases ru
 obtain ⟨z, hd, vs, rel, dd⟩ := ZGc I.hok hd
 obtain ⟨ep, dd⟩ := dd.dictAt
 have hlen : vs.length = kvs.length := rel.length.symm
 refine ZN4 (I.ok.hd hc) hd dd (by rw [hlen]; exact h64) fun acc hacc => ⟨ss, ?_, fun s' l out ss' e hl hk e1 e2 e3 he a1 a2 a3 => ?_⟩
 ·exact ZMR vs ss acc.toList (by rw [KV.keysEq rel]; exact hns) (by rw [UF]; exact hacc.1) fun j v e => hacc.2 j v (by simpa using e)
 ·obtain ⟨h', g', d', tk, os'⟩ := s'
  simp only at e1 e2 e3
  subst e1 e2 e3
  refine ⟨.ref l, upd H l (.lst (ss'.map V.str)), I.laid (t' := tk) hk hl ?_, rfl, q l ss' (I.hok.fresh hl) a2 (ZQC a3)⟩
  refine ⟨?_, out.toList, e, ZJZ a1, he⟩
  have l1 := a2.length_eq
  have l2 := congrArg Vl hns
  simp only [Uf] at l2 ⊢
  rw [sizeLine_eq]
  omega
section
variable {α : Type}
def ZDs (m : List (Str × α)) (k : Str) : Option α := (m.find? fun p => decide (p.1 = k)).map (·.2)
def ZD8 (m : List (Str × α)) (k : Str) (v : α) : List (Str × α) := if (m.any fun p => decide (p.1 = k)) = true then m.map fun p => if p.1 = k then (p.1, v) else p else m ++ [(k, v)]
def dkS (m : List (Str × V)) : List (Key × V) := m.map fun p => (.inr p.1, p.2)
theorem ZRe {a b : Str} : ((Sum.inr a : Key) = Sum.inr b) ↔ a = b := ⟨fun h => Sum.inr.inj h, fun h => h ▸ rfl⟩
theorem ZGw (k : Str) : ∀ m : List (Str × V), ZEY (dkS m) (.inr k) = ZDs m k
 | [] => rfl
 | p :: m => by
  have ih := ZGw k m
  by_cases e : p.1 = k
  ·have : ZEY (dkS (p :: m)) (.inr k) = some p.2 := ZE5 (p := (Sum.inr p.1, p.2)) (by simp [e])
   rw [this]
   simp [ZDs, Uw, e]
  ·have : ZEY (dkS (p :: m)) (.inr k) = ZEY (dkS m) (.inr k) := ZE6 (p := (Sum.inr p.1, p.2)) (by simp [e])
   rw [this, ih]
   simp [ZDs, Uw, e]
theorem ZPI (m : List (Str × V)) (k : Str) (v : V) : ZFE (dkS m) (.inr k) v = dkS (ZD8 m k v) := by
 have ha : ((dkS m).any fun kv => decide (kv.1 = Sum.inr k)) = m.any fun p => decide (p.1 = k) := by
  unfold dkS
  rw [List.any_map]
  congr 1
  funext p
  simp only [Function.comp, ZRe]
 unfold ZFE ZD8
 rw [ha]
 by_cases c : (m.any fun p => decide (p.1 = k)) = true
 ·rw [if_pos c, if_pos c]
  unfold dkS
  rw [UV, UV]
  refine UK fun p _ => ?_
  simp only [Function.comp, ZRe]
  split <;> simp
 ·rw [if_neg c, if_neg c]
  simp [dkS]
theorem ZEv {k : Str} : ∀ {m : List (Str × α)}, ZDs m k = none ↔ k ∉ m.map (·.1)
 | [] => by simp [ZDs]
 | p :: m => by
  have ih := ZEv (k := k) (m := m)
  by_cases e : p.1 = k
  ·simp [ZDs, Uw, e]
  ·have e' : ¬ k = p.1 := fun z => e z.symm
   have : ZDs (p :: m) k = ZDs m k := by simp [ZDs, Uw, e]
   rw [this, ih]
   simp [e']
theorem ZFk {m : List (Str × α)} {k : Str} {v : α} (e : ZDs m k = none) : ZD8 m k v = m ++ [(k, v)] := by
 unfold ZD8
 rw [if_neg]
 intro z
 obtain ⟨q, hq, e2⟩ := UL.mp z
 rw [decide_eq_true_iff] at e2
 rw [ZEv] at e
 exact e (Ux.mpr ⟨q, hq, e2⟩)
theorem ZHj {β : Type} (f : α -> β) (m : List (Str × α)) (k : Str) : ZDs (m.map fun p => (p.1, f p.2)) k = (ZDs m k).map f := by
 induction m with
 | nil => rfl
 | cons p m ih =>
  by_cases e : p.1 = k
  ·simp [ZDs, Uw, e]
  ·have h1 : ZDs (p :: m) k = ZDs m k := by simp [ZDs, Uw, e]
   have h2 : ZDs ((p :: m).map fun p => (p.1, f p.2)) k = ZDs (m.map fun p => (p.1, f p.2)) k := by simp [ZDs, Uw, e]
   rw [h1, h2, ih]
theorem ZEJ {k : Str} {v : α} : ∀ {m : List (Str × α)}, ZDs m k = some v -> (k, v) ∈ m
 | [], h => by simp [ZDs] at h
 | p :: m, h => by
  by_cases e : p.1 = k
  ·have : ZDs (p :: m) k = some p.2 := by simp [ZDs, Uw, e]
   rw [this] at h
   cases h
   rw [<- e]
   exact UA
  ·have : ZDs (p :: m) k = ZDs m k := by simp [ZDs, Uw, e]
   rw [this] at h
   exact Ur _ (ZEJ h)
theorem ZE7 {k : Str} {v : α} : ∀ {m : List (Str × α)}, (m.map (·.1)).Nodup -> (k, v) ∈ m -> ZDs m k = some v
 | [], _, h => by cases h
 | p :: m, n, h => by
  simp only [UD, List.nodup_cons] at n
  by_cases e : p.1 = k
  ·have : ZDs (p :: m) k = some p.2 := by simp [ZDs, Uw, e]
   rw [this]
   rcases Ul.mp h with h | h
   ·rw [<- h]
   ·exact absurd (Ux.mpr ⟨_, h, rfl⟩) (by rw [<- e] at *; exact n.1)
  ·have : ZDs (p :: m) k = ZDs m k := by simp [ZDs, Uw, e]
   rw [this]
   rcases Ul.mp h with h | h
   ·exact absurd (by rw [<- h]) e
   ·exact ZE7 n.2 h
end
section
variable {X : Cx} {U : St} {H : Hp} {Q : VK} {R : Hp -> Prop} {RI : It -> Hp -> Prop} {p d : Addr} {m : List (Str × V)} {k : Str} {v : V} {te : TE}
theorem ZHk (h1 : H p = some (.dK (dkS m))) (h2 : ZDs m k = some v) (h : Q v H) : ZLH (.ref p) (.str k) H Q :=
 ⟨p, v, rfl, by
  have := ZFI.k (k := Sum.inr k) h1
  rw [ZGw, h2] at this
  exact this, h⟩
theorem ZJa {o : Obj} (h1 : H d = some (.frz o (.dK (dkS m)))) (h2 : ZDs m k = some v) (h : Q v H) : ZLH (.ref d) (.str k) H Q :=
 ⟨d, _, rfl, .inl ⟨dkS m, .inr k, .inr ⟨o, h1⟩, rfl, by rw [ZGw, h2]⟩, h⟩
theorem ZKf (h1 : H p = some (.dK (dkS m))) (hz : m.length < sizeLine) (h : ∀ H2, H2 p = some (.dK (dkS (ZD8 m k v))) -> Kp p H H2 -> R H2) : ZM1 v (.ref p) (.str k) H R :=
 ⟨p, _, rfl, ZIB.k (k := Sum.inr k) h1 (by simpa [dkS] using hz), by
  rw [ZPI]
  exact h _ ZDr Kp.upd⟩
theorem ZKg (h : ∀ p H2, H p = none -> H2 p = some (.dK (dkS [])) -> ZDq H H2 -> Q (.ref p) H2) : ZM2 H Q := ZO7 h
theorem ZQD (h1 : H p = some (.dK (dkS m))) (q : Q (.bl (!(ZDs m k).isSome)) H) : ZNx (.str k) (.ref p) H Q := ⟨p, _, rfl, ZFI.k (k := Sum.inr k) h1, by rw [ZGw]; exact q⟩
theorem ZHN (h1 : H p = some (.dK (dkS m))) (hz : m.length < 64) (h : ∀ l H2 (ss : List Str), H l = none -> H2 l = some (.lst (ss.map V.str)) -> ss.Perm (m.map (·.1)) -> ss.Pairwise leS -> ZDq H H2 -> Q (.ref l) H2) : ZMS [.ref p] H Q :=
 ⟨p, _, m.map (·.1), rfl, .inl h1, by simp [dkS], by simpa [dkS] using hz, fun l ss hl hp hs => h l _ ss hl ZDr hp hs (ZDq.new hl)⟩
theorem ZPJ (h1 : H d = some (.dK (dkS m))) (h : ∀ o H2, ZIw X d -> H2 d = some (.frz o (.dK (dkS m))) -> Kp d H H2 -> RI (Itk d o (dkS m)) H2) : ZLR X RI (.ref d) H := ⟨d, _, rfl, h1, fun o nf => h o _ nf ZDr Kp.upd⟩
end
theorem ZJb {K : W.Frag} {H : Hp} : ∀ ns : List Str, ZFg K H (ns.map V.str) (ns.map PyData.str)
 | [] => .nil
 | n :: ns => .cons (.str n) (ZJb ns)
theorem ZN5 : ∀ l m : List Str, PyData.eqvAll (l.map PyData.str) (m.map PyData.str) = decide (l = m)
 | [], [] => rfl
 | [], q :: m => by simp [PyData.eqvAll]
 | p :: l, [] => by simp [PyData.eqvAll]
 | p :: l, q :: m => by
  show (PyData.eqv (PyData.str p) (PyData.str q) && PyData.eqvAll (l.map PyData.str) (m.map PyData.str)) = _
  rw [ZN5 l m, show PyData.eqv (PyData.str p) (PyData.str q) = (p == q) from rfl]
  by_cases h1 : p = q <;> by_cases h2 : l = m <;> simp [h1, h2]
theorem ZLS : ∀ l : List Str, PyData.depthAll (l.map PyData.str) <= 50
 | [] => by decide
 | p :: l => by
  have ih := ZLS l
  show PyData.depthAll (PyData.str p :: l.map PyData.str) <= 50
  simp only [PyData.depthAll, PyData.depth]
  omega
theorem ZOh (l : List Str) : (PyData.list (l.map PyData.str)).depth <= 60 := by
 have := ZLS l
 simp only [PyData.depth]
 omega
theorem ZN6 (l : List Str) (g : ∀ x ∈ l, PyData.canLay0 (.str x) = true) : (PyData.list (l.map PyData.str)).canLay0 = true := by
 have h : ∀ l : List Str, (∀ x ∈ l, PyData.canLay0 (.str x) = true) -> PyData.canLayAll0 (l.map PyData.str) = true := fun l => by
  induction l with
  | nil => exact fun _ => rfl
  | cons p l ih =>
   intro g
   show (PyData.canLay0 (.str p) && PyData.canLayAll0 (l.map PyData.str)) = true
   rw [g p UA, ih fun x hx => g x (Ur _ hx)]
   rfl
 exact h l g
section
variable {K : W.Frag} {H : Hp} {Q : VK} {a b : Addr} {l m : List Str}
theorem ZPK (h1 : SqL K H a (l.map V.str)) (h2 : SqL K H b (m.map V.str)) (g1 : ∀ x ∈ l, PyData.canLay0 (.str x) = true) (g2 : ∀ x ∈ m, PyData.canLay0 (.str x) = true) (h : Q (.bl (!decide (l = m))) H) : ZTE K (.ref a) (.ref b) H Q := by
 refine ZXj (.lst h1 (ZJb l)) (.lst h2 (ZJb m)) (ZN6 l g1) (ZN6 m g2) (ZOh l) ?_
 rw [show PyData.eqv (.list (l.map PyData.str)) (.list (m.map PyData.str)) = decide (l = m) from ZN5 l m]
 exact h
end
section
variable {X : Cx} {pins : List (Addr × Obj)} {U : St} {H : Hp} {s : Shared} {a : Addr} {kvs : List (Key × V)} {k : Key} {A : Around} {E : Value -> Shared -> Prop}
theorem ZX6 {z : V} {u r : Value} {Q : Value -> Shared -> Prop} (I : Inv X pins U H s) (e : H a = some (.dK kvs)) (ry : ZD0 (kV k) u) (rz : ZD0 z r) (hl : kvs.length < sizeLine)
  (h1 : ∀ v, ZEY kvs k = some v -> ∀ w' s', Inv X pins U H s' -> ZD0 v w' -> Q w' s') (h2 : ZEY kvs k = none -> ∀ s', Inv X pins U (upd H a (.dK (ZFE kvs k z))) s' -> Q r s') :
  wpAny (model X.prog X.w) A (call (.builtin "dict.setdefault") [.ref a, u, r]) Q E s := by
 obtain ⟨hz, hd, vs, rel, dd⟩ := ZJ4 I.hok e
 refine call_meetsIn PySem.F.slot_dict_setdefault dd.typeIs PySem.F.entry_dict_setdefault (PySem.F.args_dict_setdefault_3 _ _ _) (kt_meets_setdefault (ZEP X.prog X.w) a (ZHy ry) hd r) ⟨vs, dd, by rw [<- rel.length]; exact hz, fun w' hw => ?_, fun hn h' dd' hs => ?_⟩
 ·have hv := rel.val k
  rw [hw] at hv
  cases hk : ZEY kvs k with
  | none => rw [hk] at hv; exact hv.elim
  | some v =>
   rw [hk] at hv
   exact h1 v hk w' _ (I.tok _) hv
 ·have hv := rel.val k
  rw [hn] at hv
  cases hk : ZEY kvs k with
  | some v => rw [hk] at hv; exact hv.elim
  | none =>
   have he : ∃ q, h'.get? a = some q := let ⟨q, _, _, hq, _⟩ := dd'; ⟨q, hq⟩
   have hl' : (ZFE kvs k z).length <= sizeLine := by have := ZGG kvs k z; omega
   exact h2 hk _ (ZIX I (by rw [e]; exact True.intro) hs he (ZJQ hl' hd (rel.put k rz) dd'))
end
def ZM4 (a : Addr) (y z : V) (H : Hp) (Q : VK) : Prop := ∃ kvs k, H a = some (.dK kvs) /\ y = kV k /\ kvs.length < sizeLine /\ (∀ v, ZEY kvs k = some v -> Q v H) /\ (ZEY kvs k = none -> Q z (upd H a (.dK (ZFE kvs k z))))
def ZN7 (ty tx : TE) (U : St) (Q : VK) (x : V) (H : Hp) : Prop := ∃ a, x = .ref a /\ IsD H a /\ ty U H fun y H2 => tx U H2 fun z H3 => ZM4 a y z H3 Q
def ZUa (td ty tx : TE) : TE := fun U H Q => td U H fun x H1 => ZN7 ty tx U Q x H1
section
variable {X : Cx} {o e f : Expr} {apos cpos pos p : Pos} {td ty tx : TE}
theorem ZVz (ho : QE X o td) (he : QE X e ty) (hf : QE X f tx) (m : M2 X o "setdefault" apos e f cpos := by exact ⟨rfl, rfl, rfl, rfl⟩) : QE X (.Call (.Attribute o "setdefault" apos) [e, f] [] cpos) (ZUa td ty tx) := by
 refine ⟨?_⟩
 intro pins s U H Q I h
 refine wpAny_Call_method m.base m.few m.line PySem.F.plainAttrs_dict PySem.F.slot_dict_setdefault PySem.F.type_dict_setdefault (thn (ho.h pins s U H _ I h) fun u s1 ⟨x, H1, I1, rx, a, ex, d, q1⟩ => ?_)
 subst ex
 obtain rfl : u = Value.ref a := rx
 obtain ⟨t1, t2, _⟩ := ZLG I1 d
 refine ⟨t1, t2, ?_⟩
 rw [m.trees]
 refine Calls.callWith_builtin rfl (Calls.evalArgs_plain (Calls.spliced_cons (thn (he.h pins s1 U H1 _ I1 q1) fun iv s2 ⟨y, H2, I2, ry, q2⟩ =>
  Calls.spliced_cons (thn (hf.h pins s2 U H2 _ I2 q2) fun fv s3 ⟨z, H3, I3, rz, kvs, k, ea, ey, hl, q3, q4⟩ => Calls.spliced_nil ?_))))
 subst ey
 exact ZX6 I3 ea ry rz hl (fun v l w' s4 I4 rw' => ⟨v, _, I4, rw', q3 v l⟩) fun l s4 I4 => ⟨z, _, I4, rz, q4 l⟩
variable {U : St} {H : Hp} {Q : VK} {a : Addr} {m : List (Str × V)} {k : Str} {z : V}
theorem ZIy (h : td U H fun x H1 => ZN7 ty tx U Q x H1) : ZUa td ty tx U H Q := h
theorem ZTt (h1 : H a = some (.dK (dkS m))) (q : ty U H fun y H2 => tx U H2 fun z H3 => ZM4 a y z H3 Q) : ZN7 ty tx U Q (.ref a) H := ⟨a, rfl, .inl ⟨_, .inl h1⟩, q⟩
theorem ZV0 (h1 : H a = some (.dK (dkS m))) (hl : m.length < sizeLine) (q1 : ∀ v, ZDs m k = some v -> Q v H) (q2 : ZDs m k = none -> ∀ H2, H2 a = some (.dK (dkS (m ++ [(k, z)]))) -> Kp a H H2 -> Q z H2) : ZM4 a (.str k) z H Q :=
 ⟨dkS m, .inr k, h1, rfl, by simpa [dkS] using hl, fun v e => q1 v (by rw [<- ZGw]; exact e), fun e => by
  have e' : ZDs m k = none := by rw [<- ZGw]; exact e
  rw [ZPI, ZFk e']
  exact q2 e' _ ZDr Kp.upd⟩
def ZJc (m : List (Str × V)) (k : Str) (z : V) : List (Str × V) := match ZDs m k with
 | some _ => m
 | none => m ++ [(k, z)]
theorem ZTu (h1 : H a = some (.dK (dkS m))) (hl : m.length < sizeLine) (q : ∀ H2, H2 a = some (.dK (dkS (ZJc m k z))) -> Kp a H H2 -> Q ((ZDs m k).getD z) H2) : ZM4 a (.str k) z H Q := by
 refine ZV0 h1 hl (fun v e => ?_) fun e H2 f2 K2 => ?_
 ·have := q H (by unfold ZJc; rw [e]; exact h1) fun _ _ e _ => e
  rw [e] at this
  exact this
 ·have := q H2 (by unfold ZJc; rw [e]; exact f2) K2
  rw [e] at this
  exact this
theorem ZRf (h1 : H a = some (.dK (dkS m))) (q : ∀ p H2, H p = none -> H2 p = some (.dK (dkS m)) -> ZDq H H2 -> Q (.ref p) H2) : ZNy [.ref a] H Q := ⟨a, _, rfl, h1, fun p hp => q p _ hp ZDr (ZDq.new hp)⟩
theorem ZQE (h1 : H a = some (.dK (dkS m))) (q : ty U H fun y H2 => tx U H2 fun z H3 => ZLs a y z H3 Q) : ZPH ty tx U Q (.ref a) H := ⟨a, rfl, .inl ⟨_, .inl h1⟩, q⟩
theorem ZRg (h1 : H a = some (.dK (dkS m))) (q : Q ((ZDs m k).getD z) H) : ZLs a (.str k) z H Q := ⟨_, ZFI.k (k := Sum.inr k) h1, by rw [ZGw]; exact q⟩
end
section
variable {X : Cx} {U : St} {H : Hp} {D : ZEx} {d : Addr} {o : Obj} {kvs : List (Key × V)}
theorem ZLt {g : TG} {tb : TS} (Pv : Nat -> St -> Hp -> Prop) (h0 : Pv 0 U H) (hf : ∀ i U H, i <= kvs.length -> Pv i U H -> H d = some (.frz o (.dK kvs)))
  (hs : ∀ i p U H, kvs[i]? = some p -> Pv i U H -> g (kV p.1) U H fun U2 H2 => tb { D with nx := Pv (i + 1), ct := Pv (i + 1), bk := D.nx } U2 H2) (hd : ∀ U H, Pv kvs.length U H -> D.nx U H) :
  rFor (Itk d o kvs) g tb D U H := by
 refine ⟨fun i m U H => m = kvs.length - i /\ i <= kvs.length /\ Pv i U H, ⟨_, rfl, UO _, h0⟩, ?_⟩
 rintro i m U H ⟨rfl, hi, p⟩
 by_cases hlt : i < kvs.length
 ·refine .inr ⟨⟨hf i U H hi p, hlt⟩, Pv (i + 1), fun U' H' p' => ⟨kvs.length - (i + 1), by omega, rfl, hlt, p'⟩, ?_⟩
  rintro x H' ⟨rfl, q, hq, rfl⟩
  exact hs i q U H' hq p
 ·have e : i = kvs.length := by omega
  subst e
  exact .inl ⟨⟨hf _ U H hi p, Ud _⟩, hd U H p⟩
def ZN8 (X : Cx) (D : ZEx) (U : St) (H : Hp) : Prop := ∃ d o u, ZIw X d /\ H d = some (.frz o u) /\ Mut (some u) /\ D.nx U (upd H d u)
def ZUb (X : Cx) (t : TS) : TS := fun D U H => t { D with nx := fun U' H' => ZN8 X D U' H' } U H
theorem ZLu {st : Stmt} {t : TS} (h : QS X st t) : QS X st (ZUb X t) := by
 refine ⟨?_⟩
 intro pins s U H D I hq
 refine thn (h.h pins s U H _ I hq) fun fl s1 hs => ?_
 cases fl with
 | next =>
  obtain ⟨U', H', I1, d, o, u, nf, hd, hm, q⟩ := hs
  exact ⟨U', _, I1.thaw hd nf hm, q⟩
 | ret u => exact hs
 | brk => exact hs
 | cont => exact hs
theorem ZIz {t : TS} (h : t { D with nx := fun U' H' => ZN8 X D U' H' } U H) : ZUb X t D U H := h
theorem ZJd {u : HO} (nf : ZIw X d) (hd : H d = some (.frz o u)) (hm : Mut (some u)) (q : ∀ H2, H2 d = some u -> Kp d H H2 -> D.nx U H2) : ZN8 X D U H := ⟨d, o, u, nf, hd, hm, q _ ZDr Kp.upd⟩
end
end L2
namespace My
open PySem L2
theorem ZEB {N P : List Str} {sc : Scope} (a : sc.kind = .function := by rfl) (b : sc.isCoroutine = false := by rfl) (c : sc.isGenerator = false := by rfl) (d : N.Nodup := by decide +kernel) (e : N.take P.length = P := by rfl) (f : ∀ x ∈ P, sc.names.lookup x = some .local \/ sc.names.lookup x = some .cell := by decide +kernel) (g : ∀ y ∈ sc.names, y.2 ≠ .free := by decide +kernel) : ZDw N P sc := ⟨a, b, c, d, e, f, g⟩
theorem qsS {X : Cx} {x : Str} {e : Expr} {te : TE} {pos pos' : Pos} {i : Nat} (hN : X.N.Nodup) (he : QE X e te) (hi : X.N[i]? = some x := by rfl) (hx : Loc X.env.scope x := by first | exact Or.inl rfl | exact Or.inr rfl) (hs : ZF7 e = false := by rfl) (hf : X.fn x = true \/ X.env.scope.names.lookup x = some .local := by first | exact .inl rfl | exact .inr rfl | assumption) : QS X (.Assign [.Name x pos'] e pos) (ZH9 te (ZGJ i)) := ZVU hN hi hx he hs hf
theorem qgN {X : Cx} {x : Str} {pos : Pos} {i : Nat} (hN : X.N.Nodup) (hi : X.N[i]? = some x := by rfl) (hx : Loc X.env.scope x := by first | exact Or.inl rfl | exact Or.inr rfl) (hf : X.fn x = true \/ X.env.scope.names.lookup x = some .local := by first | exact .inl rfl | exact .inr rfl | assumption) : QG X (.Name x pos) (ZGJ i) := ZEa hN hi hx hf
theorem qcS {X : Cx} {e : Expr} {es : List Expr} {t : TA} {pos p : Pos} {x : Str} {k : Nat} {f : Addr} {fd : FuncData} {ps : List Str} {sp : Sp} (F : ZD2 X.prog X.w X.K X.mg X.base CX0 k f fd ps sp) (hr : Room k X.A) (hm : X.mg x = some (.ref f)) (hk : W.keepIn X.K (.ref f) = true) (hb : ZDt X.K fd ps []) (ha : QA X (e :: es) t) (hg : Gl X x := by rfl) (hns : ZEn (e :: es) = true := by rfl) (hdb : (x == ("__debug__" : Str)) = false := by decide) : QE X (.Call (.Name x p) (e :: es) [] pos) (ZK1 sp [] E0 t) := ZTD F hr hg hm hk hb .nil ZEk ha hns hdb
theorem _root_.L2.Room.m {j k : Nat} {A : Around} (r : Room k A) (h : j <= k := by decide) : Room j A := r.mono h
local macro_rules | `(tactic| walk_at "l") => `(tactic| (intro vs H Q E h; (repeat (obtain ⟨_, h⟩ := h)); all_goals (subst_vars; rfl)))
local macro_rules | `(tactic| walk_at "w") => `(tactic| repeat walk_at "rd")
local macro_rules | `(tactic| walk_at "s") => `(tactic| simp only [L2.start, UZ, List.length_nil, UD, Vs, Nat.reduceAdd, Nat.reduceSub, List.replicate_succ, List.replicate_zero, List.cons_append, List.nil_append])
local macro_rules | `(tactic| walk_at "o") => `(tactic| first | exact Or.inl rfl | exact Or.inr rfl)
def top (i : Nat) : Stmt := PySem.Challenge.pw_fourpoints_k82_whole_pictures_of_curves.main.body.getD i (.Pass ⟨0, 0, 0, 0⟩)
abbrev ZPL : Stmt := top 0
abbrev ZI0 : Stmt := top 8
abbrev ZHO : Stmt := top 10
abbrev ZH2 : Stmt := top 11
abbrev ZI1 : Stmt := top 13
abbrev ZGe : Stmt := top 14
abbrev ZIF : Stmt := top 16
abbrev ZJe : Stmt := top 17
abbrev ZKh : Stmt := top 18
abbrev ZJf : Stmt := top 19
abbrev ZH3 : Stmt := top 21
abbrev ZJg : Stmt := top 22
abbrev ZHG : Stmt := top 23
abbrev ZHP : Stmt := top 24
abbrev ZKi : Stmt := top 25
abbrev ZKj : Stmt := top 26
abbrev ZGM : Stmt := top 27
abbrev ZG4 : Stmt := top 28
abbrev ZJh : Stmt := top 29
abbrev ZJi : Stmt := top 30
abbrev ZIG : Stmt := top 34
abbrev ZGf : Stmt := top 35
abbrev ZHl : Stmt := top 36
abbrev ZGx : Stmt := top 37
abbrev ZIH : Stmt := top 38
abbrev ZJj : Stmt := top 39
abbrev ZEf : Stmt := ZEQ (top 40) 0
abbrev ZI2 : Stmt := ZEQ (top 40) 1
abbrev ZII : Stmt := ZEQ (top 40) 2
abbrev ZHm : Stmt := ZEQ (top 40) 3
abbrev ZIJ : Stmt := ZEQ (top 40) 4
abbrev ZGg : Stmt := ZEQ (top 40) 5
abbrev ZKJ : Stmt := ZEQ (top 40) 6
abbrev ZEb : Stmt := ZEQ (top 42) 0
abbrev ZIK : Stmt := ZEQ (top 42) 1
abbrev ZJk : Stmt := ZEQ (top 42) 2
abbrev ZIa : Stmt := ZEQ (top 42) 3
abbrev ZGh : Stmt := ZEQ (top 42) 4
abbrev ZI3 : Stmt := ZEQ (top 42) 5
abbrev ZHH : Stmt := ZEQ (top 42) 6
abbrev ZHn : Stmt := ZEQ (top 42) 7
abbrev ZJF : Stmt := ZEQ (top 42) 8
abbrev ZJl : Stmt := ZEQ (top 42) 9
abbrev ZHI : Stmt := ZEQ (top 42) 10
abbrev ZJm : Stmt := ZEQ (top 42) 11
abbrev ZJG : Stmt := ZEQ (top 42) 12
abbrev ZJn : Stmt := ZEQ (top 42) 13
abbrev ZH4 : Stmt := top 46
abbrev ZGQ : Stmt := ZEQ (top 47) 0
abbrev ZHJ : Stmt := ZEQ (top 47) 1
abbrev ZHK : Stmt := ZEQ (top 47) 2
abbrev ZFu : Stmt := ZEQ (top 47) 3
abbrev ZJo : Stmt := ZEQ (top 47) 4
abbrev ZKk : Stmt := top 49
abbrev ZJp : Stmt := top 50
abbrev ZKl : Stmt := top 51
abbrev ZI4 : Stmt := top 52
abbrev ZIL : Stmt := top 53
abbrev ZI5 : Stmt := top 54
abbrev ZJq : Stmt := top 55
abbrev ZKm : Stmt := top 56
abbrev ZI6 : Stmt := top 57
abbrev ZJ6 : Stmt := top 58
abbrev ZHo : Stmt := top 59
abbrev ZGy : Stmt := top 60
abbrev ZKn : Stmt := top 61
abbrev ZI7 : Stmt := top 62
abbrev ZGN : Stmt := top 63
set_option genInjectivity false in
set_option genSizeOf false in
set_option genSizeOfSpec false in
structure Ad where
 ZBv : Addr
 ZBw : FuncData
 Ys : Addr
 Yw : FuncData
 Y5 : Addr
 Yq : FuncData
 JK : Addr
 JN : FuncData
 Y2 : Addr
 Y4 : FuncData
 Z9 : Addr
 YD : FuncData
 YU : Addr
 Yh : FuncData
 Ji : Addr
 Jt : FuncData
 ZAF : Addr
 ZAN : FuncData
 Jn : Addr
 Jb : FuncData
 JT : Addr
 Ja : FuncData
 JJ : Addr
 Jo : FuncData
 Z1 : Addr
 Z6 : FuncData
 Yo : Addr
 Yr : FuncData
 ZAC : Addr
 ZAR : FuncData
 ZAS : Addr
 ZAb : FuncData
 Zx : Addr
 Z4 : FuncData
 YS : Addr
 Yb : FuncData
 JQ : Addr
 JO : FuncData
 Jg : Addr
 Jj : FuncData
 Ya : Addr
 YY : FuncData
 Zj : Addr
 Zh : FuncData
 YF : Addr
 YJ : FuncData
 Zm : Addr
 Zq : FuncData
 YT : Addr
 YW : FuncData
 Jw : Addr
 Jx : FuncData
 Ze : Addr
 ZK : FuncData
 Yp : Addr
 Yt : FuncData
 YV : Addr
 YQ : FuncData
 YE : Addr
 YG : FuncData
 Yf : Addr
 Yd : FuncData
 YA : Addr
 YI : FuncData
 Jz : Addr
 J7 : FuncData
 ZX : Addr
 ZJ : FuncData
 Yi : Addr
 Yg : FuncData
 Jp : Addr
 Jk : FuncData
 Yk : Addr
 Yj : FuncData
 Zi : Addr
 Zf : FuncData
 Yu : Addr
 Y1 : FuncData
 Zz : Addr
 Zw : FuncData
 YB : Addr
 YC : FuncData
 JF : Addr
 JA : FuncData
 JR : Addr
 Jf : FuncData
 Z5 : Addr
 Z3 : FuncData
 JY : Addr
 Jr : FuncData
 JB : Addr
 JG : FuncData
 JX : Addr
 Js : FuncData
 JU : Addr
 Jl : FuncData
 ZZ : Addr
 ZY : FuncData
 Zt : Addr
 Z2 : FuncData
 Zu : Addr
 Zy : FuncData
 Zb : Addr
 Zc : FuncData
 JM : Addr
 Jd : FuncData
 ZAZ : Addr
 ZAL : FuncData
 Jc : Addr
 Jm : FuncData
 ZAE : Addr
 ZAY : FuncData
 Yz : Addr
 Y6 : FuncData
 Yc : Addr
 YZ : FuncData
 Yx : Addr
 Yv : FuncData
 JS : Addr
 Jv : FuncData
 ZAU : Addr
 ZAX : FuncData
 Y0 : Addr
 Y3 : FuncData
 ZAs : Addr
 ZAu : FuncData
 ZAT : Addr
 ZAa : FuncData
 ZAJ : Addr
 ZAc : FuncData
 ZAV : Addr
 ZAO : FuncData
 ZAQ : Addr
 ZAG : FuncData
 ZB5 : Addr
 ZB4 : FuncData
 ZB : Addr
 ZA : Addr
 ZF : Addr
 ZU : Addr
 ZN : Addr
 ZV : Addr
 Zn : Addr
 ZBn : Tok
 ZBf : Tok
 ZCW : Tok
 ZAt : Tok
structure Txt (K : W.Frag) (mg : Str -> Option Value) (a : Ad) : Prop where
 ZDf : Fun K "_wall" "_wall" ZPL a.ZBv a.ZBw
 ZDg : ZDt K a.ZBw ["k"] []
 ZDh : mg "_wall" = some (.ref a.ZBv)
 Yy : Fun K "is_whole" "is_whole" ZI0 a.Ys a.Yw
 ZAi : ZDt K a.Yw ["thing"] []
 ZAh : mg "is_whole" = some (.ref a.Ys)
 ZAe : Fun K "curve_of" "curve_of" ZHO a.Y5 a.Yq
 ZB0 : ZDt K a.Yq ["samples"] []
 ZBz : mg "curve_of" = some (.ref a.Y5)
 Je : Fun K "part_of" "part_of" ZH2 a.JK a.JN
 ZA2 : ZDt K a.JN ["curve", "begin", "end"] []
 ZAz : mg "part_of" = some (.ref a.JK)
 ZAq : Fun K "times_of" "times_of" ZI1 a.Y2 a.Y4
 ZCB : ZDt K a.Y4 ["window", "k"] []
 ZCE : mg "times_of" = some (.ref a.Y2)
 YH : Fun K "columns_of" "columns_of" ZGe a.Z9 a.YD
 Jh : ZDt K a.YD ["window"] []
 Ju : mg "columns_of" = some (.ref a.Z9)
 ZW : Fun K "height_of" "height_of" ZIF a.YU a.Yh
 ZQ : ZDt K a.Yh ["sample"] []
 ZP : mg "height_of" = some (.ref a.YU)
 ZA4 : Fun K "four_of" "four_of" ZJe a.Ji a.Jt
 ZCQ : ZDt K a.Jt ["curve"] []
 ZCP : mg "four_of" = some (.ref a.Ji)
 ZAD : Fun K "joined" "joined" ZKh a.ZAF a.ZAN
 ZBY : ZDt K a.ZAN ["one", "other"] []
 ZBe : mg "joined" = some (.ref a.ZAF)
 ZAy : Fun K "kept_of" "kept_of" ZJf a.Jn a.Jb
 ZCV : ZDt K a.Jb ["fours"] []
 ZCT : mg "kept_of" = some (.ref a.Jn)
 ZAx : Fun K "dots_of" "dots_of" ZH3 a.JT a.Ja
 ZCU : ZDt K a.Ja ["curve", "window", "heights"] []
 ZCN : mg "dots_of" = some (.ref a.JT)
 ZA7 : Fun K "dots_by" "dots_by" ZJg a.JJ a.Jo
 ZCX : ZDt K a.Jo ["fours", "window", "heights"] []
 ZCZ : mg "dots_by" = some (.ref a.JJ)
 JE : Fun K "column_dots" "column_dots" ZHG a.Z1 a.Z6
 ZA9 : ZDt K a.Z6 ["samples", "times", "heights"] []
 ZBD : mg "column_dots" = some (.ref a.Z1)
 ZAf : Fun K "rows_met" "rows_met" ZHP a.Yo a.Yr
 ZBy : ZDt K a.Yr ["samples", "times", "heights"] []
 ZCA : mg "rows_met" = some (.ref a.Yo)
 ZAM : Fun K "row_at" "row_at" ZKi a.ZAC a.ZAR
 ZBb : ZDt K a.ZAR ["one", "other", "t", "heights"] []
 ZBL : mg "row_at" = some (.ref a.ZAC)
 ZAW : Fun K "row_of" "row_of" ZKj a.ZAS a.ZAb
 ZBc : ZDt K a.ZAb ["height", "parts", "heights"] []
 ZBV : mg "row_of" = some (.ref a.ZAS)
 JH : Fun K "layers_text" "layers_text" ZGM a.Zx a.Z4
 ZBC : ZDt K a.Z4 ["layers", "many", "rows"] []
 ZA8 : mg "layers_text" = some (.ref a.Zx)
 J6 : Fun K "line_text" "line_text" ZG4 a.YS a.Yb
 ZBi : ZDt K a.Yb ["layers", "many", "row"] []
 ZBk : mg "line_text" = some (.ref a.YS)
 ZAw : Fun K "sign_at" "sign_at" ZJh a.JQ a.JO
 ZCd : ZDt K a.JO ["layers", "k", "row"] []
 ZCb : mg "sign_at" = some (.ref a.JQ)
 ZA5 : Fun K "has_dot" "has_dot" ZJi a.Jg a.Jj
 ZCe : ZDt K a.Jj ["pair", "row"] []
 ZCf : mg "has_dot" = some (.ref a.Jg)
 Zs : Fun K "is_border" "is_border" ZIG a.Ya a.YY
 YR : ZDt K a.YY ["thing"] []
 Ye : mg "is_border" = some (.ref a.Ya)
 Zk : Fun K "check_borders" "check_borders" ZGf a.Zj a.Zh
 YO : ZDt K a.Zh ["begin", "end"] []
 YL : mg "check_borders" = some (.ref a.Zj)
 Z8 : Fun K "check_time" "check_time" ZHl a.YF a.YJ
 JW : ZDt K a.YJ ["t"] []
 Jq : mg "check_time" = some (.ref a.YF)
 Zl : Fun K "check_window" "check_window" ZGx a.Zm a.Zq
 Ym : ZDt K a.Zq ["window"] []
 Yl : mg "check_window" = some (.ref a.Zm)
 J8 : Fun K "stretches" "stretches" ZIH a.YT a.YW
 ZBu : ZDt K a.YW ["begin", "end"] []
 ZBt : mg "stretches" = some (.ref a.YT)
 ZA1 : Fun K "longest" "longest" ZJj a.Jw a.Jx
 ZCc : ZDt K a.Jx ["first", "end"] []
 ZCY : mg "longest" = some (.ref a.Jw)
 ZAo : ZNm K "__init__" "Tree.__init__" ZEf a.Ze a.ZK
 ZAl : ZDt K a.ZK ["self", "curve"] []
 ZCu : ZDt K a.ZK ["self", "curve"] [Value.none]
 ZCp : ZPF K a.ZK ["self", "curve"] "curve"
 ZB2 : Fun K "put" "Tree.put" ZI2 a.Yp a.Yt
 ZAn : ZDt K a.Yt ["self", "t", "h"] []
 ZAg : ZE2 K a.ZB "put" a.Yp
 ZBp : Fun K "take" "Tree.take" ZII a.YV a.YQ
 ZBl : ZDt K a.YQ ["self", "t"] []
 ZBh : ZE2 K a.ZB "take" a.YV
 ZBX : Fun K "renew" "Tree.renew" ZHm a.YE a.YG
 JV : ZDt K a.YG ["self", "t", "four"] []
 JI : ZE2 K a.ZB "renew" a.YE
 ZBr : Fun K "four" "Tree.four" ZIJ a.Yf a.Yd
 ZBs : ZDt K a.Yd ["self", "begin", "end"] []
 ZBm : ZE2 K a.ZB "four" a.Yf
 ZBO : Fun K "fours" "Tree.fours" ZGg a.YA a.YI
 ZBN : ZDt K a.YI ["self", "window"] []
 ZBR : ZE2 K a.ZB "fours" a.YA
 ZDS : Fun K "told" "Tree.told" ZKJ a.Jz a.J7
 ZDT : ZDt K a.J7 ["self"] []
 ZDU : ZE2 K a.ZB "told" a.Jz
 ZAI : ZNm K "__init__" "Store.__init__" ZEb a.ZX a.ZJ
 ZCo : ZDt K a.ZJ ["self", "curve"] []
 Jy : ZDt K a.ZJ ["self", "curve"] [Value.none]
 ZCh : ZPF K a.ZJ ["self", "curve"] "curve"
 ZBg : Fun K "put" "Store.put" ZIK a.Yi a.Yg
 J5 : ZDt K a.Yg ["self", "t", "h"] []
 J9 : ZE2 K a.ZA "put" a.Yi
 ZDQ : Fun K "take" "Store.take" ZJk a.Jp a.Jk
 ZC9 : ZDt K a.Jk ["self", "t"] []
 ZDF : ZE2 K a.ZA "take" a.Jp
 ZCy : Fun K "height" "Store.height" ZIa a.Yk a.Yj
 ZC1 : ZDt K a.Yj ["self", "t"] []
 ZC2 : ZE2 K a.ZA "height" a.Yk
 ZCF : Fun K "check_sample" "Store.check_sample" ZGh a.Zi a.Zf
 ZB8 : ZDt K a.Zf ["self", "t"] []
 ZCD : ZE2 K a.ZA "check_sample" a.Zi
 ZCJ : Fun K "do" "Store.do" ZI3 a.Yu a.Y1
 ZB6 : ZDt K a.Y1 ["self", "t", "h"] []
 ZCI : ZE2 K a.ZA "do" a.Yu
 ZBG : Fun K "bring" "Store.bring" ZHH a.Zz a.Zw
 JC : ZDt K a.Zw ["self", "t", "h"] []
 Y7 : ZE2 K a.ZA "bring" a.Zz
 ZBZ : Fun K "undo" "Store.undo" ZHn a.YB a.YC
 ZBK : ZDt K a.YC ["self"] []
 ZBP : ZE2 K a.ZA "undo" a.YB
 ZC3 : Fun K "times" "Store.times" ZJF a.JF a.JA
 ZC4 : ZDt K a.JA ["self"] []
 ZC6 : ZE2 K a.ZA "times" a.JF
 ZDP : Fun K "four" "Store.four" ZJl a.JR a.Jf
 ZDK : ZDt K a.Jf ["self", "begin", "end"] []
 ZDH : ZE2 K a.ZA "four" a.JR
 ZBE : Fun K "fours" "Store.fours" ZHI a.Z5 a.Z3
 ZBB : ZDt K a.Z3 ["self", "window"] []
 ZBF : ZE2 K a.ZA "fours" a.Z5
 ZDI : Fun K "told" "Store.told" ZJm a.JY a.Jr
 ZDO : ZDt K a.Jr ["self"] []
 ZDE : ZE2 K a.ZA "told" a.JY
 ZC7 : Fun K "watch" "Store.watch" ZJG a.JB a.JG
 ZC5 : ZDt K a.JG ["self", "window"] []
 ZC8 : ZE2 K a.ZA "watch" a.JB
 ZDA : Fun K "news" "Store.news" ZJn a.JX a.Js
 ZDD : ZDt K a.Js ["self", "number"] []
 ZDG : ZE2 K a.ZA "news" a.JX
 ZA6 : Fun K "is_name" "is_name" ZH4 a.JU a.Jl
 ZCM : ZDt K a.Jl ["thing"] []
 ZCa : mg "is_name" = some (.ref a.JU)
 ZAP : Fun K "__init__" "Board.__init__" ZGQ a.ZZ a.ZY
 ZAB : ZDt K a.ZY ["self"] []
 ZBA : Fun K "store" "Board.store" ZHJ a.Zt a.Z2
 Y9 : ZDt K a.Z2 ["self", "name"] []
 Y8 : ZE2 K a.ZF "store" a.Zt
 ZBH : Fun K "names" "Board.names" ZHK a.Zu a.Zy
 Z0 : ZDt K a.Zy ["self"] []
 Zv : ZE2 K a.ZF "names" a.Zu
 ZAk : Fun K "picture" "Board.picture" ZFu a.Zb a.Zc
 Zg : ZDt K a.Zc ["self", "window", "heights"] []
 Zd : ZE2 K a.ZF "picture" a.Zb
 ZDL : Fun K "kept" "Board.kept" ZJo a.JM a.Jd
 ZDC : ZDt K a.Jd ["self", "window"] []
 ZDJ : ZE2 K a.ZF "kept" a.JM
 ZBW : Fun K "_law_cell" "_law_cell" ZKk a.ZAZ a.ZAL
 ZCr : ZDt K a.ZAL ["_law_script", "_law_k"] []
 ZCt : mg "_law_cell" = some (.ref a.ZAZ)
 ZA3 : Fun K "_law_purse" "_law_purse" ZJp a.Jc a.Jm
 ZCR : ZDt K a.Jm ["_law_cell_here", "_law_k"] []
 ZCS : mg "_law_purse" = some (.ref a.Jc)
 ZC : Fun K "_law_draw" "_law_draw" ZKl a.ZAE a.ZAY
 ZE : ZDt K a.ZAY ["_law_purse_here", "_law_many"] []
 ZD : mg "_law_draw" = some (.ref a.ZAE)
 ZAj : Fun K "_law_window" "_law_window" ZI4 a.Yz a.Y6
 ZCG : ZDt K a.Y6 ["_law_purse_here"] []
 ZCK : mg "_law_window" = some (.ref a.Yz)
 ZAA : Fun K "_law_heights" "_law_heights" ZIL a.Yc a.YZ
 ZBq : ZDt K a.YZ ["_law_purse_here"] []
 ZBj : mg "_law_heights" = some (.ref a.Yc)
 ZAd : Fun K "_law_curves" "_law_curves" ZI5 a.Yx a.Yv
 ZB1 : ZDt K a.Yv ["_law_purse_here", "_law_window_here"] []
 ZCC : mg "_law_curves" = some (.ref a.Yx)
 ZA0 : Fun K "_law_board" "_law_board" ZJq a.JS a.Jv
 ZCg : ZDt K a.Jv ["_law_curves_here"] []
 ZCO : mg "_law_board" = some (.ref a.JS)
 ZAH : Fun K "_law_less" "_law_less" ZKm a.ZAU a.ZAX
 ZBS : ZDt K a.ZAX ["_law_one", "_law_other"] []
 ZBM : mg "_law_less" = some (.ref a.ZAU)
 Yn : Fun K "_law_height" "_law_height" ZI6 a.Y0 a.Y3
 ZAr : ZDt K a.Y3 ["_law_one", "_law_other", "_law_time"] []
 ZAp : mg "_law_height" = some (.ref a.Y0)
 ZBx : Fun K "_law_met" "_law_met" ZJ6 a.ZAs a.ZAu
 ZC0 : ZDt K a.ZAu ["_law_samples", "_law_x", "_law_z"] []
 ZCw : mg "_law_met" = some (.ref a.ZAs)
 ZBU : Fun K "_law_rows" "_law_rows" ZHo a.ZAT a.ZAa
 ZCj : ZDt K a.ZAa ["_law_met_here", "_law_heights_here"] []
 ZCm : mg "_law_rows" = some (.ref a.ZAT)
 ZBa : Fun K "_law_dots" "_law_dots" ZGy a.ZAJ a.ZAc
 ZCq : ZDt K a.ZAc ["_law_curve", "_law_window_here", "_law_heights_here"] []
 ZCi : mg "_law_dots" = some (.ref a.ZAJ)
 ZBJ : Fun K "_law_sign" "_law_sign" ZKn a.ZAV a.ZAO
 ZCn : ZDt K a.ZAO ["_law_rows_here", "_law_row", "_law_k"] []
 ZCl : mg "_law_sign" = some (.ref a.ZAV)
 ZAK : Fun K "_law_text" "_law_text" ZI7 a.ZAQ a.ZAG
 ZBQ : ZDt K a.ZAG ["_law_curves_here", "_law_window_here", "_law_heights_here"] []
 ZBd : mg "_law_text" = some (.ref a.ZAQ)
 ZDX : Fun K "law" "law" ZGN a.ZB5 a.ZB4
 ZDi : ZDt K a.ZB4 ["_law_script"] []
 ZDj : mg "law" = some (.ref a.ZB5)
 ZG : Cls K a.ZB
 ZDR : mg "Tree" = some (.ref a.ZB)
 ZCv : Mk K a.ZB a.Ze
 ZR : ZEp K a.ZB "looks"
 ZO : ZEp K a.ZB "samples"
 ZL : ZEp K a.ZB "kept_fours"
 ZH : Cls K a.ZA
 ZCx : mg "Store" = some (.ref a.ZA)
 ZCs : Mk K a.ZA a.ZX
 JZ : ZEp K a.ZA "tree"
 JD : ZEp K a.ZA "deeds"
 JP : ZEp K a.ZA "done"
 YK : ZEp K a.ZA "watches"
 ZM : Cls K a.ZF
 ZCz : mg "Board" = some (.ref a.ZF)
 ZCk : Mk K a.ZF a.ZZ
 Zr : ZEp K a.ZF "stores"
 ZDb : ZP5 K a.ZU
 ZDV : ZP6 K a.ZU
 ZDa : mg "NoColumn" = some (.ref a.ZU)
 ZDN : ZP5 K a.ZN
 ZDB : ZP6 K a.ZN
 ZDM : mg "OutOfTimes" = some (.ref a.ZN)
 ZDW : ZP5 K a.ZV
 ZDY : ZP6 K a.ZV
 ZDZ : mg "NoSample" = some (.ref a.ZV)
 ZDe : ZP5 K a.Zn
 ZDd : ZP6 K a.Zn
 ZDc : mg "NoName" = some (.ref a.Zn)
 ZBo : mg "TOP_LEVEL" = some (.int 40 a.ZBn)
 YX : mg "TIMES_END" = some (.int 1099511627776 a.ZBf)
 ZCL : mg "LETTERS" = some (.str "abcdefghijklmnopqrstuvwxyz" a.ZCW)
 ZAv : mg "LONGEST_NAME" = some (.int 8 a.ZAt)
 JL : mg "ValueError" = none
 ZB9 : mg "abs" = none
 ZB7 : mg "all" = none
 ZBT : mg "bool" = none
 ZAm : mg "dict" = none
 ZB3 : mg "int" = none
 ZS : mg "isinstance" = none
 Z7 : mg "len" = none
 YN : mg "max" = none
 YM : mg "min" = none
 ZI : mg "range" = none
 ZT : mg "sorted" = none
 ZCH : mg "str" = none
 Za : mg "tuple" = none
 ZBI : mg "zip" = none
local macro_rules | `(tactic| walk_at "sd") => `(tactic| first
 | (show (0 : Int) < _; omega)
 | decide
 | exact ZYx (by omega) (by omega)
 | exact ZYy (by omega) (by omega)
 | exact ZHw.of (k := 250) (by omega) (by omega) (by decide)
 | exact Or.inr ⟨by omega, by omega⟩
 | exact Or.inl ⟨by omega, by omega⟩
 | exact ZNM (by omega) (by omega) (by decide))
local macro_rules | `(tactic| walk_at "hp") => `(tactic| first
 | assumption
 | exact ZDr
 | (rw [ZD4 (by assumption)]; assumption)
 | (rw [ZD4 (Ne.symm (by assumption))]; assumption)
 | (rw [ZD4 (by assumption)]; rw [ZD4 (by assumption)]; assumption))
local macro_rules | `(tactic| walk_at "rd") => `(tactic| first
 | with_reducible first | refine ZXI ?_ | refine ZVq ?_ | refine ZTg ?_ | refine ZTl ?_ | refine ZTP ?_ | refine ZVj ?_ | refine ZVp ?_ | refine ZTa ?_ | refine ZP3 ?_ | refine ZTb ?_ | refine ZTc ?_ | refine ZRO ?_ | refine ZRR ?_ | refine ZOf ?_ | refine ZOg ?_ | refine ZNh ?_ | refine ZVd ?_ | refine ZXr ?_ | refine ZVe ?_ | refine ZTQ ?_ | refine ZTR ?_
 | ((with_reducible refine' ZXo ?e ?_); (case e => rfl))
 | with_reducible first | refine ZXJ ?_ | refine ZU9 ?_ | refine ZVA ?_ | refine ZXK ?_ | refine ZS8 ?_ | refine ZVB ?_ | refine ZS9 ?_ | refine ZVC ?_ | refine ZXL ?_ | refine ZVD ?_ | refine ZY0 ?_ | refine ZXM ?_ | refine ZYd ?_ | refine ZXN ?_ | refine ZVE ?_ | refine ZVF ?_ | refine ZYe ?_
 | ((with_reducible refine' ZXO ?e ?_); (case e => rfl))
 | with_reducible first | refine ZY1 ?_ | refine ZYf ?_ | refine ZYg ?_ | refine ZYh ?_
 | ((with_reducible refine ZHe (C := ZSd) ?c ?_); (case c => exact ZNM (by decide) (by decide) (by decide)); (simp only [Int.reduceToNat, Int.reducePow]))
 | ((with_reducible refine ZHe ?c ?_); (case c => walk_at "sd"))
 | with_reducible first | refine ZY2 ?_ | refine ZXP ?_ | refine ZYi ?_ | refine ZVG ?_ | refine ZVH ?_ | refine ZXQ ?_ | refine ZXR ?_ | refine ZXS ?_ | refine ZTB ?_ | refine ZVR ?_ | refine ZKW ?_ | refine ZXU ?_ | refine ZXV ?_ | refine ZXW ?_ | refine ZY3 ?_ | refine ZYj ?_ | refine ZQ3 ?_ | refine ZVO ?_ | refine ZXY ?_ | refine ZVM ?_
 | ((with_reducible refine' ZVK ?s ?_); (case s => first | assumption | exact SqL.of (by assumption)))
 | ((with_reducible refine' ZVL ?s ?_); (case s => first | assumption | exact SqT.of (by assumption)))
 | with_reducible first | refine ZXT ?_ | refine ZVJ ?_ | refine ZVP ?_ | refine ZYk ?_ | refine ZVQ ?_ | refine ZTC ?_
 | ((with_reducible refine' ZXc ?s ?_); (case s => first | assumption | exact SqT.of (by assumption)))
 | ((with_reducible refine' ZXd ?s ?_); (case s => first | assumption | exact SqL.of (by assumption)))
 | ((with_reducible refine' ZIT ?s ?e ?_); (case s => exact SqL.of (by assumption)); (case e => rfl))
 | ((with_reducible refine' ZLC ?s ?e ?_); (case s => first | assumption | exact SqT.of (by assumption)); (case e => rfl))
 | ((with_reducible refine' ZVN ?s ?e ?_); (case s => first | assumption | exact SqT.of (by assumption)); (case e => rfl)))
local macro_rules | `(tactic| walk_at "ri") => `(tactic| ((fail_if_success with_reducible refine ZRa ?_); walk_at "rd"))
theorem ZRh (K : W.Frag) : W.kitOne K (.type "int") (.type "int") = some true := by kernel_rfl
theorem ZQF (K : W.Frag) : W.kitOne K (.type "int") (.type "bool") = some false := by kernel_rfl
def Pur (H : Hp) (p : Addr) : Prop := ∃ x n c : Int, H p = some (.lst [.int x, .int n, .int c]) /\ 0 <= x /\ 0 <= c /\ c < 4294967296
theorem Pur.same {H H' : Hp} {p : Addr} (h : Pur H p) (s : ZDq H H') : Pur H' p := by
 obtain ⟨x, n, c, h, r⟩ := h
 exact ⟨x, n, c, s _ _ h, r⟩
theorem Pur.neN {H : Hp} {p l : Addr} (h : Pur H p) (hl : H l = none) : l ≠ p := by
 obtain ⟨x, n, c, h, r⟩ := h
 exact (ZET h hl).symm
theorem Pur.ne_tup {H : Hp} {p l : Addr} {xs : List V} (h : Pur H p) (hl : H l = some (.tup xs)) : l ≠ p := by
 obtain ⟨x, n, c, h, r⟩ := h
 intro e; subst e; rw [h] at hl; cases hl
theorem Pur.ne_dk {H : Hp} {p l : Addr} {kvs : List (Key × V)} (h : Pur H p) (hl : H l = some (.dK kvs)) : l ≠ p := by
 obtain ⟨x, n, c, h, r⟩ := h
 intro e; subst e; rw [h] at hl; cases hl
theorem Pur.kp {H H' : Hp} {p l : Addr} (h : Pur H p) (k : Kp l H H') (n : p ≠ l) : Pur H' p := by
 obtain ⟨x, m, c, h, r⟩ := h
 exact ⟨x, m, c, k _ _ h n, r⟩
def ZX7 (K : W.Frag) : Sp := fun vs H Q _ => ∃ (s : Addr) (ns : List Int) (k : Int), vs = [.ref s, .int k] /\ SqL K H s (ns.map V.int) /\ 0 <= k /\ Q (.int (ns.getD k.toNat 0)) H
def ZV1 : Sp := fun vs H Q _ => ∃ c k : Int, vs = [.int c, .int k] /\ 0 <= k /\ k <= 100 /\ ∀ (p : Addr) (H' : Hp), H p = none -> Pur H' p -> ZDq H H' -> Q (.ref p) H'
def ZX8 : Sp := fun vs H Q _ => ∃ (p : Addr) (n : Int), vs = [.ref p, .int n] /\ Pur H p /\ 0 < n /\ n < 2 ^ 250 /\ ∀ (d : Int) (H' : Hp), 0 <= d -> d < n -> Pur H' p -> Kp p H H' -> Q (.int d) H'
section
variable {P : Program} {w : World} {K : W.Frag} {mg : Str -> Option Value} {base : Heap} {a : Ad}
theorem ZRi : ZDw ["_law_script", "_law_k"] ["_law_script", "_law_k"] (ZDo ZKk) := ZEB
theorem ZRj (T : Txt K mg a) : ZD2 P w K mg base CX0 1 a.ZAZ a.ZAL ["_law_script", "_law_k"] (ZX7 K) := by
 refine T.ZBW.ok ZRi (by walk_at "l") (fun cdv A outer s H vs Q E hr h => ?_)
 ·obtain ⟨p, ns, k, rfl, hS, hk, q⟩ := h
  refine ⟨_, QB.h (ZDp (ZDz (ZIg (ZEC (ZGZ) (qv 1) (ZEA (ZIU K rfl) rfl T.Z7 ZHc (ZDk (qv 0) ZDl)) (ZEL _)) (ZD1 (ZE4 K rfl) (qv 0) (qv 1)) ZDn))), ?_⟩
  walk_at "s"
  walk_at "w"
  rw [Uf]
  refine ZEc (fun h => ?_) (fun h => ?_)
  ·walk_at "w"
   obtain ⟨n, rfl⟩ : ∃ n : Nat, k = (n : Int) := ⟨k.toNat, by omega⟩
   have hk2 : n < ns.length := by omega
   refine ZIT (v := .int (ns.getD n 0)) hS (ZF5 ?_) q
   rw [UB, Uc hk2]
   simp [List.getD, hk2]
  ·walk_at "w"
   have e : ns.getD k.toNat 0 = 0 := by
    rw [List.getD, List.getElem?_eq_none (by omega)]
    rfl
   rw [e] at q
   exact q
theorem ZQG : ZDw ["_law_cell_here", "_law_k"] ["_law_cell_here", "_law_k"] (ZDo ZJp) := ZEB
theorem ZQH (T : Txt K mg a) : ZD2 P w K mg base CX0 1 a.Jc a.Jm ["_law_cell_here", "_law_k"] ZV1 := by
 refine T.ZA3.ok ZQG (by walk_at "l") (fun cdv A outer s H vs Q E hr h => ?_)
 ·obtain ⟨c, n, rfl, hn, hn2, k⟩ := h
  refine ⟨_, QB.h (ZDm (ZEw (ZEC (ZUI) (qv 0) (ZDu ZNB ZDn ZDn) (ZEL _)) (ZDp (ZDz (ZFN (ZDk (qv 0) (ZDk ZDn (ZDk (ZDu ZEU (ZDu ZED ZDn (qv 1)) ZDn) ZDl)))))) ZEX) (ZDp (ZDz (ZFN (ZDk ZDn (ZDk ZDn (ZDk (ZDu ZHZ (ZDu ZEU (ZDu ZEU (ZDu ZEU (ZDu ZED (ZDu ZHZ (ZEA ZXG rfl T.ZB9 ZW9 (ZDk (qv 0) ZDl)) (ZDu ZNB ZDn ZDn)) ZDn) (ZDu ZED (ZDu ZED ZDn (qv 1)) (qv 1))) (ZDu ZED ZDn (qv 1))) ZDn) ZDn) ZDl))))))), ?_⟩
  walk_at "s"
  walk_at "w"
  refine ZEc (fun h => ?_) (fun h => ?_)
  ·walk_at "w"
   refine ZD9 (by show 3 <= sizeLine; decide) fun p H2 hp f2 S2 => ?_
   exact k p H2 hp ⟨_, _, _, f2, by omega, by omega, by omega⟩ S2
  ·walk_at "w"
   refine ZD9 (by show 3 <= sizeLine; decide) fun p H2 hp f2 S2 => ?_
   refine k p H2 hp ⟨_, _, _, f2, by omega, Int.emod_nonneg _ (by decide), ?_⟩ S2
   exact Int.lt_of_lt_of_le (Int.emod_lt_of_pos _ (by decide)) (by decide)
theorem ZMT : ZDw ["_law_purse_here", "_law_many", "_law_digit"] ["_law_purse_here", "_law_many"] (ZDo ZKl) := ZEB
theorem ZER (T : Txt K mg a) : ZD2 P w K mg base CX0 1 a.ZAE a.ZAY ["_law_purse_here", "_law_many"] ZX8 := by
 refine T.ZC.ok ZMT (by walk_at "l") (fun cdv A outer s H vs Q E hr h => ?_)
 ·obtain ⟨p, n, rfl, ⟨x, m, y, hp, hx, hy, hy2⟩, hn, hn2, k⟩ := h
  have hdiv : ∀ i : Int, ZHw i n := fun i => ZHw.of (k := 250) hn hn2 (by decide)
  refine ⟨_, QB.h (ZDm (ZEw (ZEC (ZYa) (ZD1 (ZE4 K rfl) (qv 0) ZDn) ZDn (ZEL _)) (ZDm (qsS (i := 2) ZMT.nd (ZDu ZHZ (ZD1 (ZE4 K rfl) (qv 0) ZDn) (qv 1))) (ZDm (ZFZ (ZDu ZHa (ZD1 (ZE4 K rfl) (qv 0) ZDn) (qv 1)) (ZNP (qv 0) ZDn ZKT)) (ZDp (ZDz (qv 2))))) ZEX) (ZDm (ZFZ (ZDu ZEU (ZD1 (ZE4 K rfl) (qv 0) ZDn) ZDn) (ZNP (qv 0) ZDn ZKT)) (ZDm (ZFZ (ZDu ZHZ (ZDu ZEU (ZDu ZED (ZD1 (ZE4 K rfl) (qv 0) ZDn) ZDn) (ZDu ZED ZDn (ZD1 (ZE4 K rfl) (qv 0) ZDn))) ZDn) (ZNP (qv 0) ZDn ZKT)) (ZDp (ZDz (ZDu ZHZ (ZDu ZHa (ZDu ZHZ (ZDu ZED (ZD1 (ZE4 K rfl) (qv 0) ZDn) (ZD1 (ZE4 K rfl) (qv 0) ZDn)) ZDn) ZDn) (qv 1))))))), ?_⟩
  walk_at "s"
  walk_at "w"
  refine ZEc (fun h => ?_) (fun h => ?_)
  ·walk_at "w"
   refine ZVI hp (by rfl) ?_
   walk_at "w"
   exact k _ _ (Int.emod_nonneg _ (by omega)) (Int.emod_lt_of_pos _ hn) ⟨_, _, _, ZDr, Int.ediv_nonneg hx (by omega), hy, hy2⟩ Kp.upd
  ·walk_at "w"
   refine ZO4 hp (by rfl) fun H2 f2 K2 => ?_
   have f2 : H2 p = some (.lst [V.int x, V.int (m + 1), V.int y]) := f2
   walk_at "w"
   refine ZO4 f2 (by rfl) fun H3 f3 K3 => ?_
   generalize hz : (y * 39373 + 8191 * (m + 1)) % 2147483587 = z at f3
   have h0 : 0 <= z := by rw [<- hz]; exact Int.emod_nonneg _ (by decide)
   have h1 : z < 2147483587 := by rw [<- hz]; exact Int.emod_lt_of_pos _ (by decide)
   have f3 : H3 p = some (.lst [V.int x, V.int (m + 1), V.int z]) := f3
   walk_at "w"
   refine k _ _ (Int.emod_nonneg _ (by omega)) (Int.emod_lt_of_pos _ hn) ⟨_, _, _, f3, hx, h0, by omega⟩ ?_
   exact fun q o e nq => K3 q o (K2 q o e nq) nq
def ZRk (K : W.Frag) : Sp := fun vs H Q _ => ∃ (b : Bool) (l : Addr) (us : List V) (prs : PL), vs = [.ref l] /\ SQ b H l us /\ ZDv H us prs /\ prs.length < 64 /\
 ∀ (t : Addr) (cv : PL) (H' : Hp), PrT H' t cv -> ZLi (ZFs prs) cv -> cv.length <= prs.length -> ZDq H H' -> Q (.ref t) H'
theorem ZRl (l : PL) (p : Int × Int) : ZFs (l ++ [p]) = ZEI (ZFs l) p.1 p.2 := by
 unfold ZFs
 rw [List.foldl_append]
 rfl
theorem ZG5 : ZDw ["samples", "heights", "t", "h"] ["samples"] (ZDo ZHO) := ZEB
theorem ZOi (T : Txt K mg a) : ZD2 P w K mg base CX0 1 a.Y5 a.Yq ["samples"] (ZRk K) := by
 refine T.ZAe.ok ZG5 (by walk_at "l") (fun cdv A outer s H vs Q E hr h => ?_)
 ·obtain ⟨b, l, us, prs, rfl, hL, hP, hlen, k⟩ := h
  have hu := ZF6 hr
  have hm := ZNa prs
  refine ⟨_, QB.h (ZDm (qsS (i := 1) ZG5.nd ZGP) (ZDm (ZFB PassesOwn.never rfl (ZXt K rfl (qv 0)) (ZEz (n := 2) K rfl rfl (ZDy (qgN (i := 2) ZG5.nd) (ZDy (qgN (i := 3) ZG5.nd) ZEi))) (ZDp (ZF9 hu (qv 3) (qv 1) (qv 2)))) (ZDp (ZDz (ZFU (ZGt K rfl) rfl T.Za ZGr (ZDk (ZFY (N := ["samples", "heights", "t", "h"]) (sc := ZDo ZHO) (own := ["t"]) (caps := ["heights"]) (ks := [1]) rfl rfl rfl ⟨rfl, by decide +kernel, by decide +kernel, by decide +kernel, by decide +kernel, rfl, by decide +kernel⟩ (ZFp K rfl (ZEA (ZPq rfl) rfl T.ZT ZGU (ZDk (qv 1) ZDl))) (fun _ _ _ _ _ => ZEa (i := 0) (show List.Nodup (α := Str) ["t", "heights"] from by decide +kernel) rfl (by walk_at "o") (.inr rfl)) (fun _ _ _ _ _ => ZFD) (fun _ _ _ _ _ => ZEh (ZDk (qv 0) (ZDk (ZF8 hu (qv 1) (qv 0)) ZDl)))) ZDl)))))), ?_⟩
  walk_at "s"
  walk_at "w"
  refine ZIl fun d H0 n0 f0 S0 => ?_
  walk_at "w"
  refine ZVf (b := b) (xs := us) (fun i U H' => (∃ v2 v3, U = [some (.ref l), some (.ref d), v2, v3]) /\ ZDq H H' /\ H' d = some (.dK (ZEF (ZFs (prs.take i))))) (hL.same S0) ?_ (fun i U H' _ h => hL.same h.2.1) ?_ ?_
  ·exact ⟨⟨_, _, rfl⟩, S0, f0⟩
  ·rintro i x U H1 hx ⟨⟨v2, v3, rfl⟩, S1, f1⟩
   obtain ⟨c, p, rfl, hp, hc⟩ := (hP.same S1).at hx
   have e3 : prs.take (i + 1) = prs.take i ++ [p] := by
    rw [US, hp]
    rfl
   walk_at "w"
   refine ZIk f1 ?_ fun H2 f2 K2 => ?_
   ·exact Um (ZNa _) (Um (by rw [UR]; exact Nat.min_le_right _ _) (Ue hlen (by decide)))
   walk_at "w"
   refine ⟨⟨_, _, rfl⟩, S1.kpN n0 K2, ?_⟩
   rw [e3, ZRl]
   exact f2
  ·rintro U H1 ⟨⟨v2, v3, rfl⟩, S1, f1⟩
   rw [hP.length, UQ] at f1
   walk_at "w"
   refine ZPr f1 (by omega) fun l2 H2 ns n2 f2 hp hs S2 => ?_
   have hnl : ns.length = (ZFs prs).length := by have := hp.length_eq; simpa using this
   walk_at "w"
   intro l3 n3
   have S23 : ZDq H2 (upd H2 l3 (.lst [])) := ZDq.new n3
   refine ZEu ns.length (fun i U' H' => (∃ o, U' = [o, some (.ref d)]) /\ ZDq H2 H' /\ ∃ vs, H' l3 = some (.lst vs) /\ ZDv H' vs ((ZFM (ZFs prs) ns).take i)) ?_ ?_ ?_
   ·exact ⟨⟨none, rfl⟩, S23, [], ZDr, .nil⟩
   ·rintro U H' ⟨_, s, vs, f3, hPc⟩
    refine ⟨⟨_, SqL.of (s _ _ f2), by simp⟩, ?_⟩
    walk_at "w"
    refine ZHU (SqL.of f3) fun t H4 n4 f4 S4 => ?_
    have ecv : (ZFM (ZFs prs) ns).take ns.length = ZFM (ZFs prs) ns := List.take_of_length_le (by simp [ZFM])
    rw [ecv] at hPc
    exact k t _ H4 ⟨vs, f4, hPc.same S4⟩ (ZIm (ZLI prs) hp hs) (by unfold ZFM; rw [Uf, hnl]; exact hm) (((S1.trans S2).trans s).trans S4)
   ·rintro i U H' hi ⟨⟨o, rfl⟩, s, vs, f3, hPc⟩
    have hi2 : i < (ns.map V.int).length := by simpa using hi
    refine ⟨⟨_, _, SqL.of (s _ _ f2), Uc hi2⟩, ?_⟩
    rintro u H'' ⟨rfl, hu'⟩
    have hu' := hu' _ (SqL.of (s _ _ f2))
    have eu : u = .int ns[i] := by
     rw [UB, Uc hi] at hu'
     simpa using hu'.symm
    subst eu
    walk_at "w"
    refine ZFR ?_
    walk_at "w"
    have hmem : ns[i] ∈ (ZFs prs).map (·.1) := hp.mem_iff.mp (Vb hi)
    obtain ⟨x, hx⟩ : ∃ x, ZEE (ZFs prs) ns[i] = some x := by
     cases hg : ZEE (ZFs prs) ns[i] with
     | none => exact absurd hmem (ZFx.mp hg)
     | some x => exact ⟨x, rfl⟩
    refine ZTS (s _ _ (S2 _ _ f1)) hx ?_
    walk_at "w"
    refine ZD9 (by show 2 <= sizeLine; decide) fun t H4 n4 f4 S4 => ?_
    have f34 := S4 _ _ f3
    refine ⟨vs, f34, ?_, ⟨_, rfl⟩, ?_, ?_⟩
    ·have e := hPc.length
     rw [e, UR]
     exact Um (Nat.min_le_left _ _) (Ue hi (by rw [hnl]; exact Nat.le_of_lt (Um hm (Ue hlen (by decide)))))
    ·exact (s.trans S4).kpN (l := l3) n3 Kp.upd
    ·refine ⟨_, ZDr, ?_⟩
     have e3 : (ZFM (ZFs prs) ns).take (i + 1) = (ZFM (ZFs prs) ns).take i ++ [(ns[i], x)] := by
      rw [US]
      congr 1
      simp [ZFM, Uc hi, hx]
     rw [e3]
     exact ZDv.kpL Kp.upd f34 ((hPc.same S4).snoc f4)
def ZN9 : Sp := fun vs H Q _ => ∃ (c : Addr) (x y : Int), vs = [.ref c] /\ H c = some (.tup [.int x, .int y]) /\ Q (.int y) H
theorem ZOA : ZDw ["sample"] ["sample"] (ZDo ZIF) := ZEB
theorem ZFb (T : Txt K mg a) : ZD2 P w K mg base CX0 1 a.YU a.Yh ["sample"] ZN9 := by
 refine T.ZW.ok ZOA (by walk_at "l") (fun cdv A outer s H vs Q E hr h => ?_)
 ·obtain ⟨c, x, y, rfl, hc, q⟩ := h
  refine ⟨_, QB.h (ZDp (ZDz (ZD1 (ZD6 K rfl) (qv 0) ZDn))), ?_⟩
  walk_at "s"
  walk_at "w"
  exact q
def ZTv (K : W.Frag) : Sp := fun vs H Q _ => ∃ (v1 v2 : V) (o1 o2 : Option (PL)) (c1 c2 : PL), vs = [v1, v2] /\ ZEZ H v1 o1 /\ Is4 c1 o1 /\ ZEZ H v2 o2 /\ Is4 c2 o2 /\ (∀ p ∈ c1, ∀ q ∈ c2, p.1 < q.1) /\
 ∀ (v : V) (o : Option (PL)) (H' : Hp), ZEZ H' v o -> Is4 (c1 ++ c2) o -> ZDq H H' -> Q v H'
theorem ZMU {H : Hp} {v : V} {c : PL} {qs : PL} (h : ZEZ H v (some qs)) (g : Is4 c (some qs)) : ∃ (l : Addr) (q0 q1 q2 q3 : Int × Int) (a0 a1 a2 a3 : Addr), v = .ref l /\ qs = [q0, q1, q2, q3] /\ H l = some (.tup [.ref a0, .ref a1, .ref a2, .ref a3]) /\
  H a0 = some (.tup [.int q0.1, .int q0.2]) /\ H a1 = some (.tup [.int q1.1, .int q1.2]) /\ H a2 = some (.tup [.int q2.1, .int q2.2]) /\ H a3 = some (.tup [.int q3.1, .int q3.2]) := by
 cases h with
 | @pr l qs h hl =>
  obtain ⟨us, f, hP⟩ := h
  rcases g with ⟨e, _⟩ | ⟨q0, q1, q2, q3, e, _⟩
  ·cases e
  ·cases e
   cases hP with
   | cons h0 t => cases t with
    | cons h1 t => cases t with
     | cons h2 t => cases t with
      | cons h3 t =>
       cases t
       obtain ⟨a0, rfl, e0⟩ := h0
       obtain ⟨a1, rfl, e1⟩ := h1
       obtain ⟨a2, rfl, e2⟩ := h2
       obtain ⟨a3, rfl, e3⟩ := h3
       exact ⟨l, q0, q1, q2, q3, a0, a1, a2, a3, rfl, rfl, f, e0, e1, e2, e3⟩
theorem ZJr : ZDw ["one", "other", "lowest", "highest"] ["one", "other"] (ZDo ZKh) := ZEB
theorem ZMV (T : Txt K mg a) : ZD2 P w K mg base CX0 2 a.ZAF a.ZAN ["one", "other"] (ZTv K) := by
 refine T.ZAD.ok ZJr (by walk_at "l") (fun cdv A outer s H vs Q E hr h => ?_)
 ·obtain ⟨v1, v2, o1, o2, c1, c2, rfl, h1, g1, h2, g2, hlt, k⟩ := h
  refine ⟨_, QB.h (ZDm (ZEw (ZEC (ZNL) (qv 0) ZFw (ZEL _)) (ZDp (ZDz (qv 1))) ZEX) (ZDm (ZEw (ZEC (ZNL) (qv 1) ZFw (ZEL _)) (ZDp (ZDz (qv 0))) ZEX) (ZDm (qsS (i := 2) ZJr.nd (ZIg (ZEC (ZF4) (qcS (ZFb T) hr T.ZP T.ZW.kp T.ZQ (ZDk (ZD1 (ZD6 K rfl) (qv 0) ZDn) ZDl)) (qcS (ZFb T) hr T.ZP T.ZW.kp T.ZQ (ZDk (ZD1 (ZD6 K rfl) (qv 1) ZDn) ZDl)) (ZEL _)) (ZD1 (ZD6 K rfl) (qv 0) ZDn) (ZD1 (ZD6 K rfl) (qv 1) ZDn))) (ZDm (qsS (i := 3) ZJr.nd (ZIg (ZEC (ZUI) (qcS (ZFb T) hr T.ZP T.ZW.kp T.ZQ (ZDk (ZD1 (ZD6 K rfl) (qv 0) ZDn) ZDl)) (qcS (ZFb T) hr T.ZP T.ZW.kp T.ZQ (ZDk (ZD1 (ZD6 K rfl) (qv 1) ZDn) ZDl)) (ZEL _)) (ZD1 (ZD6 K rfl) (qv 0) ZDn) (ZD1 (ZD6 K rfl) (qv 1) ZDn))) (ZDp (ZDz (ZEh (ZDk (ZD1 (ZD6 K rfl) (qv 0) ZDn) (ZDk (ZD1 (ZD6 K rfl) (qv 1) ZDn) (ZDk (qv 2) (ZDk (qv 3) ZDl))))))))))), ?_⟩
  walk_at "s"
  walk_at "w"
  cases o1 with
  | none =>
   cases h1
   refine ZEc (fun _ => ?_) (fun h => absurd rfl h)
   walk_at "w"
   refine k v2 o2 H h2 ?_ (ZDq.refl H)
   rw [g1.of_none, List.nil_append]
   exact g2
  | some qs1 =>
   obtain ⟨l1, q0, q1, q2, q3, a0, a1, a2, a3, rfl, rfl, f1, e0, e1, e2, e3⟩ := ZMU h1 g1
   refine ZEc (fun h => by cases h) (fun _ => ?_)
   walk_at "w"
   cases o2 with
   | none =>
    cases h2
    refine ZEc (fun _ => ?_) (fun h => absurd rfl h)
    walk_at "w"
    refine k (.ref l1) _ H h1 ?_ (ZDq.refl H)
    rw [g2.of_none, UJ]
    exact g1
   | some qs2 =>
    obtain ⟨l2, r0, r1, r2, r3, b0, b1, b2, b3, rfl, rfl, f2, d0, d1, d2, d3⟩ := ZMU h2 g2
    refine ZEc (fun h => by cases h) (fun _ => ?_)
    walk_at "w"
    refine ⟨a2, _, _, rfl, e2, ?_⟩
    walk_at "w"
    refine ⟨b2, _, _, rfl, d2, ?_⟩
    walk_at "w"
    have J := g1.join g2 hlt
    have fin : ∀ (x y : Addr) (p2 p3 : Int × Int), H x = some (.tup [.int p2.1, .int p2.2]) -> H y = some (.tup [.int p3.1, .int p3.2]) -> Is4 (c1 ++ c2) (some [q0, r1, p2, p3]) -> ∀ l H', H l = none -> H' l = some (.tup [.ref a0, .ref b1, .ref x, .ref y]) -> ZDq H H' -> Q (.ref l) H' := fun x y p2 p3 hx hy J l H' n' f' S' =>
     k (.ref l) _ H' (.pr ⟨_, f', .cons ⟨a0, rfl, S' _ _ e0⟩ (.cons ⟨b1, rfl, S' _ _ d1⟩ (.cons ⟨x, rfl, S' _ _ hx⟩ (.cons ⟨y, rfl, S' _ _ hy⟩ .nil)))⟩ rfl) J S'
    have part2 : ∀ (x : Addr) (p2 : Int × Int), True := fun _ _ => trivial
    refine ZEc (fun hl => ?_) (fun hl => ?_)
    ·walk_at "w"
     refine ⟨a3, _, _, rfl, e3, ?_⟩
     walk_at "w"
     refine ⟨b3, _, _, rfl, d3, ?_⟩
     walk_at "w"
     refine ZEc (fun hh => ?_) (fun hh => ?_)
     ·walk_at "w"
      rw [if_pos hl, if_pos hh] at J
      exact ZD9 (by show 4 <= sizeLine; decide) fun l H' n' f' S' => fin _ _ _ _ e2 e3 J l H' n' f' S'
     ·walk_at "w"
      rw [if_pos hl, if_neg hh] at J
      exact ZD9 (by show 4 <= sizeLine; decide) fun l H' n' f' S' => fin _ _ _ _ e2 d3 J l H' n' f' S'
    ·walk_at "w"
     refine ⟨a3, _, _, rfl, e3, ?_⟩
     walk_at "w"
     refine ⟨b3, _, _, rfl, d3, ?_⟩
     walk_at "w"
     refine ZEc (fun hh => ?_) (fun hh => ?_)
     ·walk_at "w"
      rw [if_neg hl, if_pos hh] at J
      exact ZD9 (by show 4 <= sizeLine; decide) fun l H' n' f' S' => fin _ _ _ _ d2 e3 J l H' n' f' S'
     ·walk_at "w"
      rw [if_neg hl, if_neg hh] at J
      exact ZD9 (by show 4 <= sizeLine; decide) fun l H' n' f' S' => fin _ _ _ _ d2 d3 J l H' n' f' S'
theorem ZV2 {xs : List V} {v : V} (h : xs[xs.length - 1]? = some v) : atI xs (-1) = some v := by
 have hlt := (Ui.mp h).1
 unfold atI ixN
 rw [if_neg (by decide), if_pos (by omega)]
 have : ((-1 : Int) + (xs.length : Int)).toNat = xs.length - 1 := by omega
 rw [this]
 exact h
def ZTw (K : W.Frag) : Sp := fun vs H Q _ => ∃ (l : Addr) (cv : PL), vs = [.ref l] /\ PrT H l cv /\ Asc cv /\
 ∀ (v : V) (o : Option (PL)) (H' : Hp), ZEZ H' v o -> Is4 cv o -> ZDq H H' -> Q v H'
theorem ZQI : ZDw ["curve"] ["curve"] (ZDo ZJe) := ZEB
theorem ZQJ (T : Txt K mg a) : ZD2 P w K mg base CX0 3 a.Ji a.Jt ["curve"] (ZTw K) := by
 refine T.ZA4.ok ZQI (by walk_at "l") (fun cdv A outer s H vs Q E hr h => ?_)
 ·obtain ⟨l, cv, rfl, ⟨us, gL, pL⟩, hasc, k⟩ := h
  have hul : us.length = cv.length := pL.length
  refine ⟨_, QB.h (ZDm (ZEw (ZEC (ZJy) (ZEA (ZIU K rfl) rfl T.Z7 ZHc (ZDk (qv 0) ZDl)) ZDn (ZEL _)) (ZDp (ZDz ZFw)) ZEX) (ZDp (ZDz (ZEh (ZDk (ZD1 (ZD6 K rfl) (qv 0) ZDn) (ZDk (ZD1 (ZD6 K rfl) (qv 0) (ZM0 ZKw ZDn)) (ZDk (ZPz K rfl rfl (ZFb T) hr rfl T.YM rfl T.ZP T.ZQ (ZDk (qv 0) ZDl)) (ZDk (ZP1 K rfl rfl (ZFb T) hr rfl T.YN rfl T.ZP T.ZQ (ZDk (qv 0) ZDl)) ZDl)))))))), ?_⟩
  walk_at "s"
  walk_at "w"
  refine ZEc (fun h => ?_) (fun h => ?_)
  ·walk_at "w"
   have : cv = [] := List.length_eq_zero_iff.mp (by have h := V.int.inj h; omega)
   exact k _ none H .non (.inl ⟨rfl, this⟩) (ZDq.refl H)
  ·have hpos : 0 < us.length := by
    rcases Nat.eq_zero_or_pos us.length with z | z
    ·exact absurd (by rw [z]; rfl) h
    ·exact z
   have hne : us ≠ [] := List.length_pos_iff.mp hpos
   obtain ⟨c0, q0, ec0, hq0, hc0⟩ := pL.at (Uc hpos)
   obtain ⟨c1, q1, ec1, hq1, hc1⟩ := pL.at (Uc (show us.length - 1 < us.length by omega))
   have hx0 : us[0]? = some (.ref c0) := by rw [Uc hpos, ec0]
   have hx1 : us[us.length - 1]? = some (.ref c1) := by rw [Uc (show us.length - 1 < us.length by omega), ec1]
   have turn : ∀ i v, us[i]? = some v -> ∀ Q : VK, Q (.int (cv.getD i (0, 0)).2) H -> ZN9 [v] H Q E0 := fun i v hv Q q => by
    obtain ⟨c, p, rfl, hp, hc⟩ := pL.at hv
    have e : cv.getD i (0, 0) = p := by simp [hp]
    rw [e] at q
    exact ⟨c, p.1, p.2, rfl, hc, q⟩
   walk_at "w"
   refine ZLC (SqT.of gL) (ZF5 (j := 0) hx0) ?_
   walk_at "w"
   refine ZLC (SqT.of gL) (ZV2 hx1) ?_
   walk_at "w"
   refine ZP0 (fun i => (cv.getD i (0, 0)).2) (SqT.of gL) hne turn fun i2 v2 hv2 hb2 => ?_
   walk_at "w"
   refine ZP2 (fun i => (cv.getD i (0, 0)).2) (SqT.of gL) hne turn fun i3 v3 hv3 hb3 => ?_
   obtain ⟨c2, q2, rfl, hq2, hc2⟩ := pL.at hv2
   obtain ⟨c3, q3, rfl, hq3, hc3⟩ := pL.at hv3
   walk_at "w"
   refine ZD9 (by show 4 <= sizeLine; decide) fun c4 H4 n4 f4 S4 => ?_
   have hP4 : ZDv H4 [.ref c0, .ref c1, .ref c2, .ref c3] [q0, q1, q2, q3] := .cons ⟨c0, rfl, S4 _ _ hc0⟩ (.cons ⟨c1, rfl, S4 _ _ hc1⟩ (.cons ⟨c2, rfl, S4 _ _ hc2⟩ (.cons ⟨c3, rfl, S4 _ _ hc3⟩ .nil)))
   rw [hul] at hq1 hb2 hb3
   exact k _ (some [q0, q1, q2, q3]) H4 (.pr ⟨_, f4, hP4⟩ rfl) (Is4.minmax hasc hq0 hq1 hq2 hq3 hb2 hb3) S4
def InT (x : Int) : Prop := -1099511627776 <= x /\ x <= 1099511627776
def ZV3 : Sp := fun vs H Q _ => ∃ i : Int, vs = [.int i] /\ Q (.bl true) H
theorem ZOj : ZDw ["thing"] ["thing"] (ZDo ZI0) := ZEB
theorem ZKK (T : Txt K mg a) : ZD2 P w K mg base CX0 1 a.Ys a.Yw ["thing"] ZV3 := by
 refine T.Yy.ok ZOj (by walk_at "l") (fun cdv A outer s H vs Q E hr h => ?_)
 ·obtain ⟨i, rfl, q⟩ := h
  refine ⟨_, QB.h (ZDp (ZDz (ZJO (ZEA (ZNR K rfl) rfl T.ZS ZHF (ZDk (qv 0) (ZDk (ZLg (v := .ty "int") rfl T.ZB3 ZW7 rfl) ZDl))) (ZLD (ZXf (ZEA (ZNR K rfl) rfl T.ZS ZHF (ZDk (qv 0) (ZDk (ZLg (v := .ty "bool") rfl T.ZBT ZU7 rfl) ZDl)))))))), ?_⟩
  walk_at "s"
  walk_at "w"
  refine ZG8 (.int i) (ZRh _) (ZKW (ZFR ?_))
  walk_at "w"
  refine ZG8 (.int i) (ZQF _) ?_
  walk_at "w"
  exact q
def ZTx : Sp := fun vs H Q _ => ∃ i : Int, vs = [.int i] /\ ((InT i /\ Q (.bl true) H) \/ (¬ InT i /\ Q (.bl false) H))
theorem ZOB : ZDw ["thing"] ["thing"] (ZDo ZIG) := ZEB
theorem ZHp (T : Txt K mg a) : ZD2 P w K mg base CX0 2 a.Ya a.YY ["thing"] ZTx := by
 refine T.Zs.ok ZOB (by walk_at "l") (fun cdv A outer s H vs Q E hr h => ?_)
 ·obtain ⟨i, rfl, h⟩ := h
  refine ⟨_, QB.h (ZDp (ZDz (ZJO (qcS (ZKK T) hr T.ZAh T.Yy.kp T.ZAi (ZDk (qv 0) ZDl)) (ZLD (ZKX ZF4 ZF4 (ZM0 ZKw (ZHW (v := .int 1099511627776) rfl T.YX ⟨_, rfl⟩)) (qv 0) (ZHW (v := .int 1099511627776) rfl T.YX ⟨_, rfl⟩)))))), ?_⟩
  walk_at "s"
  walk_at "w"
  refine ⟨i, rfl, ?_⟩
  walk_at "w"
  refine ZFR ?_
  walk_at "w"
  unfold InT at h
  refine ZEc (fun h1 => ?_) (fun h1 => ?_)
  ·walk_at "w"
   rcases h with ⟨hi, q⟩ | ⟨hi, q⟩
   ·rw [decide_eq_true hi.2]
    exact q
   ·rw [decide_eq_false fun z => hi ⟨by omega, z⟩]
    exact q
  ·rcases h with ⟨hi, q⟩ | ⟨hi, q⟩
   ·exact absurd hi.1 (by omega)
   ·walk_at "w"
    exact q
def ZV4 : Sp := fun vs H Q _ => ∃ b e : Int, vs = [.int b, .int e] /\ InT b /\ InT e /\ Q .non H
theorem ZKo : ZDw ["begin", "end"] ["begin", "end"] (ZDo ZGf) := ZEB
theorem ZHq (T : Txt K mg a) : ZD2 P w K mg base CX0 3 a.Zj a.Zh ["begin", "end"] ZV4 := by
 refine T.Zk.ok ZKo (by walk_at "l") (fun cdv A outer s H vs Q E hr h => ?_)
 ·obtain ⟨b, e, rfl, hb, he, q⟩ := h
  refine ⟨_, QB.h (ZDp (ZEw (QW.pt (ZLF (ZHf (ZG9 (qcS (ZHp T) hr T.Ye T.Zs.kp T.YR (ZDk (qv 0) ZDl)))) (ZJP (ZHf (ZG9 (qcS (ZHp T) hr T.Ye T.Zs.kp T.YR (ZDk (qv 1) ZDl))))))) (ZDp ZIi) ZEX)), ?_⟩
  walk_at "s"
  walk_at "w"
  refine ⟨b, rfl, .inl ⟨hb, ?_⟩⟩
  walk_at "w"
  refine ZEs ?_
  walk_at "w"
  refine ⟨e, rfl, .inl ⟨he, ?_⟩⟩
  walk_at "w"
  refine ZEs ?_
  walk_at "w"
  exact q
def ZRm : Sp := fun vs H Q _ => ∃ x e : Int, vs = [.int x, .int e] /\ InT x /\ InT e /\ x < e /\
 ∀ (t : Addr) (L : Nat) (H' : Hp), H' t = some (.tup [.int L, .int (2 ^ L)]) -> (2 : Int) ^ L ∣ x -> x + 2 ^ L <= e -> ((2 : Int) ^ (L + 1) ∣ x -> x + 2 ^ (L + 1) <= e -> False) -> ZDq H H' -> Q (.ref t) H'
theorem ZGi : ZDw ["first", "end", "level", "size"] ["first", "end"] (ZDo ZJj) := ZEB
theorem ZQK (T : Txt K mg a) : ZD2 P w K mg base CX0 1 a.Jw a.Jx ["first", "end"] ZRm := by
 refine T.ZA1.ok ZGi (by walk_at "l") (fun cdv A outer s H vs Q E hr h => ?_)
 ·obtain ⟨x, e, rfl, hx, he, hxe, k⟩ := h
  unfold InT at hx he
  refine ⟨_, QB.h (ZDm (qsS (i := 2) ZGi.nd ZDn) (ZDm (qsS (i := 3) ZGi.nd ZDn) (ZDm (ZNQ PassesOwn.never (QW.pt (ZLE (ZEC (ZJy) (ZDu ZHZ (qv 0) (ZDu ZED ZDn (qv 3))) ZDn (ZEL _)) (ZJ3 (ZEC (ZF4) (ZDu ZEU (qv 0) (ZDu ZED ZDn (qv 3))) (qv 1) (ZEL _))))) (ZDm (ZNb (i := 2) ZGi.nd rfl (by walk_at "o") ZOs ZDn) (ZDp (ZNb (i := 3) ZGi.nd rfl (by walk_at "o") ZUq ZDn)))) (ZDp (ZDz (ZEh (ZDk (qv 2) (ZDk (qv 3) ZDl)))))))), ?_⟩
  walk_at "s"
  walk_at "w"
  refine ZNc (fun U H' => H' = H /\ ∃ L : Nat, ∃ z : Int, z = 2 ^ L /\ U = [some (.int x), some (.int e), some (.int L), some (.int z)] /\ z ∣ x /\ x + z <= e) (fun U H' => match U with | [_, _, some (.int l), some (.int z)] => (2199023255552 - z).toNat | _ => 0) ?_ ?_
  ·exact ⟨rfl, 0, 1, rfl, rfl, Int.one_dvd _, by omega⟩
  ·rintro U H' ⟨rfl, L, z, hz, rfl, hd, hle⟩
   have hp : 0 < z := by rw [hz]; exact ZFa L
   have hz2 : z <= 2199023255552 := by omega
   walk_at "w"
   rw [ZMy]
   refine ZEc (fun h1 => ?_) (fun h1 => ?_)
   ·walk_at "w"
    refine ZEc (fun h2 => ?_) (fun h2 => ?_)
    ·refine ZPA ?_
     walk_at "w"
     refine ⟨⟨rfl, L + 1, z * 2, ?_, ?_, ?_, by omega⟩, ?_⟩
     ·rw [hz, Int.pow_succ]
     ·show [some (V.int x), some (V.int e), some (V.int ((L : Int) + 1)), some (V.int (z * 2))] = _
      rfl
     ·rw [Int.mul_comm]; exact Int.dvd_of_emod_eq_zero h1
     ·show (2199023255552 - z * 2).toNat < (2199023255552 - z).toNat
      omega
    ·walk_at "w"
     refine ZD9 (by show 2 <= sizeLine; decide) fun t H2 n2 f2 S2 => ?_
     subst hz
     refine k t L H2 f2 hd hle (fun _ h4 => h2 ?_) S2
     rw [ZIv]; exact h4
   ·refine ZEs ?_
    walk_at "w"
    refine ZD9 (by show 2 <= sizeLine; decide) fun t H2 n2 f2 S2 => ?_
    subst hz
    refine k t L H2 f2 hd hle (fun h3 _ => h1 ?_) S2
    rw [ZIv]; exact Int.emod_eq_zero_of_dvd h3
def ZJs (b e : Int) : Int := if e > b then e else b
def ZOk : Sp := fun vs H Q _ => ∃ b e : Int, vs = [.int b, .int e] /\ InT b /\ InT e /\
 ∀ (t : Addr) (prs : PL) (H' : Hp), PrT H' t prs -> Ch e b prs (ZJs b e) -> prs.length <= 80 -> ZDq H H' -> Q (.ref t) H'
theorem ZFc : ZDw ["begin", "end", "found", "first", "level", "size"] ["begin", "end"] (ZDo ZIH) := ZEB
theorem ZOC (T : Txt K mg a) : ZD2 P w K mg base CX0 4 a.YT a.YW ["begin", "end"] ZOk := by
 refine T.J8.ok ZFc (by walk_at "l") (fun cdv A outer s H vs Q E hr h => ?_)
 ·obtain ⟨b, e, rfl, hb, he, k⟩ := h
  refine ⟨_, QB.h (ZDm (ZEH (qcS (ZHq T) hr T.YL T.Zk.kp T.YO (ZDk (qv 0) (ZDk (qv 1) ZDl)))) (ZDm (qsS (i := 2) ZFc.nd (ZFN ZDl)) (ZDm (qsS (i := 3) ZFc.nd (qv 0)) (ZDm (ZNQ PassesOwn.never (ZEC (ZGZ) (qv 3) (qv 1) (ZEL _)) (ZDm (ZFZ (qcS (ZQK T) hr.m T.ZCY T.ZA1.kp T.ZCc (ZDk (qv 3) (ZDk (qv 1) ZDl))) (ZEz (n := 2) K rfl rfl (ZDy (qgN (i := 4) ZFc.nd) (ZDy (qgN (i := 5) ZFc.nd) ZEi)))) (ZDm (ZEH (ZGL PySem.F.plainAttrs_list PySem.F.slot_list_append PySem.F.type_list_append ZFK (qv 2) (ZDk (ZEh (ZDk (qv 4) (ZDk (ZDu ZHa (qv 3) (qv 5)) ZDl))) ZDl))) (ZDp (ZNb (i := 3) ZFc.nd rfl (by walk_at "o") ZOs (qv 5)))))) (ZDp (ZDz (ZFU (ZGt K rfl) rfl T.Za ZGr (ZDk (qv 2) ZDl)))))))), ?_⟩
  walk_at "s"
  walk_at "w"
  refine ⟨b, e, rfl, hb, he, ?_⟩
  unfold InT at hb he
  walk_at "w"
  refine ZD9 (by show 0 <= sizeLine; decide) fun l H1 n1 f1 S1 => ?_
  walk_at "w"
  have e40 : (2 : Int) ^ 40 = 1099511627776 := by decide
  refine ZNc (fun U H' => ZDq H H' /\ ∃ (x : Int) (prs : PL), (∃ v4 v5, U = [some (.int b), some (.int e), some (.ref l), some (.int x), v4, v5]) /\ PrL H' l prs /\ Ch e b prs x /\ Few e prs.length x /\ x <= ZJs b e /\ b <= x) (fun U H' => match U with | [_, _, _, some (.int x), _, _] => (e - x).toNat | _ => 0) ?_ ?_
  ·exact ⟨S1, b, [], ⟨_, _, rfl⟩, ⟨[], f1, .nil⟩, rfl, Few.start (by rw [e40]; omega), by unfold ZJs; split <;> omega, Int.le_refl _⟩
  ·rintro U H' ⟨S', x, prs, ⟨v4, v5, rfl⟩, ⟨vs, f', hP⟩, hch, hfew, hmx, hbx⟩
   walk_at "w"
   refine ZEc (fun hxe => ?_) (fun hxe => ?_)
   ·refine ZPA ?_
    walk_at "w"
    refine ⟨x, e, rfl, ⟨by omega, by omega⟩, he, hxe, fun t L H2 f2 hd hle hmax S2 => ?_⟩
    have hL : L <= 40 := ZNv (by rw [e40]; omega) (by rw [e40]; omega) hd hle
    have hp := ZFa L
    have hL2 := ZIu hL
    rw [e40] at hL2
    have hfs := Few.step (by rw [e40]; omega) (by rw [e40]; omega) hfew hd hle hmax
    generalize hz : (2 : Int) ^ L = z at *
    walk_at "w"
    refine ⟨tyL (S2 _ _ f'), ?_⟩
    walk_at "w"
    refine ZD9 (by show 2 <= sizeLine; decide) fun t3 H3 n3 f3 S3 => ?_
    have fl := S3 _ _ (S2 _ _ f')
    walk_at "w"
    refine ZFV fl ?_ fun H4 f4 K4 => ?_
    ·rw [hP.length]
     exact Um hfew.len (by decide)
    walk_at "w"
    have hxz : x / z * z = x := Int.ediv_mul_cancel hd
    refine ⟨⟨((S'.trans S2).trans S3).kpN n1 K4, x + z, prs ++ [((L : Int), x / z)], ⟨_, _, rfl⟩, ⟨_, f4, ?_⟩, ?_, ?_, ?_, by omega⟩, ?_⟩
    ·exact ZDv.kpL K4 fl ((hP.same (S2.trans S3)).snoc f3)
    ·have := Ch.snoc (p := ((L : Int), x / z)) hch ⟨by simp, by simp; omega⟩ (by rw [show ((L : Int), x / z).1.toNat = L from Vx L, hz]; exact hxz) (by rw [show ((L : Int), x / z).1.toNat = L from Vx L, hz]; exact hle) (by
      rw [show ((L : Int), x / z).1.toNat = L from Vx L, hz]
      intro _ h5 h6
      have ez : (2 : Int) ^ (L + 1) = 2 * z := by rw [<- ZIv, hz]
      refine hmax ?_ ?_
      ·rw [ez]; exact Int.dvd_of_emod_eq_zero h5
      ·rw [ez]; exact h6)
     rw [show ((L : Int), x / z).1.toNat = L from Vx L, hz] at this
     exact this
    ·rw [UN]; exact hfs
    ·unfold ZJs; split <;> omega
    ·show (e - (x + z)).toNat < (e - x).toNat
     omega
   ·walk_at "w"
    refine ZHU (SqL.of f') fun t H2 n2 f2 S2 => ?_
    have ex : x = ZJs b e := by
     unfold ZJs at hmx ⊢
     split <;> rename_i hh
     ·rw [if_pos hh] at hmx; omega
     ·rw [if_neg hh] at hmx; omega
    rw [ex] at hch
    exact k t prs H2 ⟨vs, f2, hP.same S2⟩ hch hfew.len (S'.trans S2)
def ZV5 (K : W.Frag) : Sp := fun vs H Q _ => ∃ (p : Addr) (b y m k : Int), vs = [.ref p, .int k] /\ H p = some (.tup [.int b, .int y, .int m]) /\ 0 <= k /\ k < m /\ m <= 1000 /\
 ∀ (u : Addr) (H' : Hp), H u = none -> H' u = some (.tup [.int (b + k * y), .int (b + k * y + y)]) -> ZDq H H' -> Q (.ref u) H'
theorem ZGI : ZDw ["window", "k", "begin", "wide", "many", "first"] ["window", "k"] (ZDo ZI1) := ZEB
theorem ZOl (T : Txt K mg a) : ZD2 P w K mg base CX0 2 a.Y2 a.Y4 ["window", "k"] (ZV5 K) := by
 refine T.ZAq.ok ZGI (by walk_at "l") (fun cdv A outer s H vs Q E hr h => ?_)
 ·obtain ⟨p, b, y, m, n, rfl, hT, h0, h1, h2, k⟩ := h
  refine ⟨_, QB.h (ZDm (ZFZ (qv 0) (ZEz (n := 3) K rfl rfl (ZDy (qgN (i := 2) ZGI.nd) (ZDy (qgN (i := 3) ZGI.nd) (ZDy (qgN (i := 4) ZGI.nd) ZEi))))) (ZDm (ZEw (QW.pt (ZLF (ZHf (ZG9 (qcS (ZKK T) hr T.ZAh T.Yy.kp T.ZAi (ZDk (qv 1) ZDl)))) (ZJP (ZHf (ZIh ZF4 ZGZ ZDn (qv 1) (qv 4)))))) (ZDp ZIi) ZEX) (ZDm (qsS (i := 5) ZGI.nd (ZDu ZEU (qv 2) (ZDu ZED (qv 1) (qv 3)))) (ZDp (ZDz (ZEh (ZDk (qv 5) (ZDk (ZDu ZEU (qv 5) (qv 3)) ZDl)))))))), ?_⟩
  walk_at "s"
  walk_at "w"
  refine ⟨n, rfl, ?_⟩
  walk_at "w"
  refine ZEs ?_
  walk_at "w"
  refine ZEc (fun _ => ?_) (fun h => absurd h0 h)
  walk_at "w"
  rw [decide_eq_true h1]
  refine ZEs ?_
  walk_at "w"
  exact ZD9 (by show 2 <= sizeLine; decide) fun u H2 n2 f2 S2 => k u H2 n2 f2 S2
def ZHQ (b y : Int) (n : Nat) : PL := (UM n).map fun (i : Nat) => (b + (i : Int) * y, b + (i : Int) * y + y)
theorem ZHC (b y : Int) (n : Nat) : (ZHQ b y n).length = n := by rw [ZHQ, Uf, Vw]
theorem ZQL (b y : Int) (n : Nat) : ZHQ b y (n + 1) = ZHQ b y n ++ [(b + (n : Int) * y, b + (n : Int) * y + y)] := by rw [ZHQ, Vk, Us]; rfl
theorem ZOD {b y : Int} {n i : Nat} {p : Int × Int} (h : (ZHQ b y n)[i]? = some p) : p = (b + (i : Int) * y, b + (i : Int) * y + y) := by
 rw [ZHQ, UB] at h
 obtain ⟨j, hj, rfl⟩ := Option.map_eq_some_iff.mp h
 rw [List.getElem?_range (by have := (Ui.mp hj).1; rwa [Vw] at this)] at hj
 rw [<- Option.some.inj hj]
def ZRn (K : W.Frag) : Sp := fun vs H Q _ => ∃ (p : Addr) (b y m : Int), vs = [.ref p] /\ H p = some (.tup [.int b, .int y, .int m]) /\ 1 <= m /\ m <= 1000 /\
 ∀ (l : Addr) (us : List V) (H' : Hp), H l = none -> H' l = some (.lst us) -> ZDv H' us (ZHQ b y m.toNat) -> ZDq H H' -> Q (.ref l) H'
theorem ZMp : ZDw ["window"] ["window"] (ZDo ZGe) := ZEB
theorem ZJH (T : Txt K mg a) : ZD2 P w K mg base CX0 3 a.Z9 a.YD ["window"] (ZRn K) := by
 refine T.YH.ok ZMp (by walk_at "l") (fun cdv A outer s H vs Q E hr h => ?_)
 ·obtain ⟨p, b, y, m, rfl, hT, h1, h2, k⟩ := h
  refine ⟨_, QB.h (ZDp (ZDz (ZFY (N := ["window"]) (sc := ZDo ZGe) (own := ["k"]) (caps := ["window"]) (ks := [0]) rfl rfl rfl ⟨rfl, by decide +kernel, by decide +kernel, by decide +kernel, by decide +kernel, rfl, by decide +kernel⟩ (ZFL rfl T.ZI (ZDk (ZD1 (ZD6 K rfl) (qv 0) ZDn) ZDl)) (fun _ _ _ _ _ => ZEa (i := 0) (show List.Nodup (α := Str) ["k", "window"] from by decide +kernel) rfl (by walk_at "o") (.inr rfl)) (fun _ _ _ _ _ => ZFD) (fun _ _ _ _ _ => qcS (ZOl T) hr T.ZCE T.ZAq.kp T.ZCB (ZDk (qv 1) (ZDk (qv 0) ZDl)))))), ?_⟩
  walk_at "s"
  walk_at "w"
  refine ZGF (by omega) (by omega) ?_
  intro l n1
  refine ZEu m.toNat (fun i U' H' => (∃ o, U' = [o, some (.ref p)]) /\ ZDq H H' /\ ∃ vs, H' l = some (.lst vs) /\ ZDv H' vs (ZHQ b y i)) ?_ ?_ ?_
  ·exact ⟨⟨none, rfl⟩, ZDq.new n1, [], ZDr, .nil⟩
  ·rintro U H2 ⟨_, S2, vs, f2, hP⟩
   refine ⟨Ud _, ?_⟩
   walk_at "w"
   exact k l vs H2 n1 f2 hP S2
  ·rintro i U H2 hi ⟨⟨o, rfl⟩, S2, vs, f2, hP⟩
   refine ⟨hi, ?_⟩
   rintro x H'' ⟨rfl, rfl⟩
   walk_at "w"
   refine ZFR ?_
   walk_at "w"
   refine ⟨p, b, y, m, _, rfl, S2 _ _ hT, by omega, by omega, by omega, fun u H3 n3 f3 S3 => ?_⟩
   have e0 : (0 + (i : Int)) = (i : Int) := by omega
   rw [e0] at f3
   refine ⟨vs, S3 _ _ f2, ?_, ⟨_, rfl⟩, (S2.trans S3).kpN n1 Kp.upd, vs ++ [.ref u], ZDr, ?_⟩
   ·rw [hP.length, ZHC]
    exact Ue hi (Uz (show m.toNat <= 1000 by omega) (by decide))
   ·rw [ZQL]
    exact ZDv.kpL Kp.upd (S3 _ _ f2) ((hP.same S3).snoc (p := (b + (i : Int) * y, b + (i : Int) * y + y)) f3)
end
def tfl (n : Int) (d1 d2 : Addr) : List (Str × V) := [("looks", V.int n), ("samples", V.ref d1), ("kept_fours", V.ref d2)]
theorem sn1 : (("samples" : Str) == "looks") = false := by decide +kernel
theorem sn2 : (("kept_fours" : Str) == "looks") = false := by decide +kernel
theorem sn3 : (("kept_fours" : Str) == "samples") = false := by decide +kernel
theorem ZH5 {n : Int} {d1 d2 : Addr} : (tfl n d1 d2).lookup ("looks" : Str) = some (.int n) := by
 unfold tfl
 rw [Uu, beq_self_eq_true]
theorem ZG6 {n : Int} {d1 d2 : Addr} : (tfl n d1 d2).lookup ("samples" : Str) = some (.ref d1) := by
 unfold tfl
 rw [Uu, sn1, Uu, beq_self_eq_true]
theorem ZKp {n : Int} {d1 d2 : Addr} : (tfl n d1 d2).lookup ("kept_fours" : Str) = some (.ref d2) := by
 unfold tfl
 rw [Uu, sn2, Uu, sn3, Uu, beq_self_eq_true]
theorem ZHr {n : Int} {d1 d2 : Addr} {m : Str} (h1 : (m == ("looks" : Str)) = false := by decide +kernel) (h2 : (m == ("samples" : Str)) = false := by decide +kernel) (h3 : (m == ("kept_fours" : Str)) = false := by decide +kernel) : (tfl n d1 d2).lookup m = none := by
 unfold tfl
 rw [Uu, h1, Uu, h2, Uu, h3]
 rfl
theorem ZV6 {n n' : Int} {d1 d2 : Addr} : ZEV "looks" (.int n') (tfl n d1 d2) = tfl n' d1 d2 := by
 show (if ("looks" : Str) = "looks" then [(("looks" : Str), V.int n')] ++ _ else _) = _
 rw [if_pos rfl]
 rfl
theorem ZV7 {d1 d2 : Addr} : ZEV "kept_fours" (.ref d2) (ZEV "samples" (.ref d1) (ZEV "looks" (.int 0) [])) = tfl 0 d1 d2 := by
 have e1 : ¬ ("looks" : Str) = "samples" := by decide +kernel
 have e2 : ¬ ("looks" : Str) = "kept_fours" := by decide +kernel
 have e3 : ¬ ("samples" : Str) = "kept_fours" := by decide +kernel
 show ZEV "kept_fours" (.ref d2) (ZEV "samples" (.ref d1) [(("looks" : Str), V.int 0)]) = _
 rw [show ZEV "samples" (.ref d1) [(("looks" : Str), V.int 0)] = (if ("looks" : Str) = "samples" then [(("looks" : Str), V.ref d1)] else (("looks" : Str), V.int 0) :: ZEV "samples" (.ref d1) []) from rfl, if_neg e1]
 show (if ("looks" : Str) = "kept_fours" then _ else (("looks" : Str), V.int 0) :: (if ("samples" : Str) = "kept_fours" then _ else (("samples" : Str), V.ref d1) :: ZEV "kept_fours" (.ref d2) [])) = _
 rw [if_neg e2, if_neg e3]
 rfl
def ZEM (C : Addr) (H : Hp) (p : Addr) (n : Int) (d1 d2 : Addr) (sm : PL) (c : Nat) : Prop :=
 ∃ dx kvs, H p = some (.ins C dx (tfl n d1 d2)) /\ H d1 = some (.dK (ZEF sm)) /\ H d2 = some (.dT kvs) /\ (sm.map (·.1)).Nodup /\ ZFC H kvs sm (fun _ _ => True) /\ kvs.length <= 41 * c
theorem ZEM.same {C : Addr} {H H' : Hp} {p d1 d2 : Addr} {n : Int} {sm : PL} {c : Nat} (h : ZEM C H p n d1 d2 sm c) (s : ZDq H H') : ZEM C H' p n d1 d2 sm c := by
 obtain ⟨dx, kvs, h1, h2, h3, h4, h5, h6⟩ := h
 exact ⟨dx, kvs, s _ _ h1, s _ _ h2, s _ _ h3, h4, h5.same s, h6⟩
def Fr3 (p d1 d2 : Addr) (H H' : Hp) : Prop := ∀ b o, H b = some o -> b ≠ p -> b ≠ d1 -> b ≠ d2 -> H' b = some o
section
variable {P : Program} {w : World} {K : W.Frag} {mg : Str -> Option Value} {base : Heap} {a : Ad}
local macro_rules | `(tactic| walk_at "rd") => `(tactic| first
 | with_reducible first | refine ZFH (by assumption) (‹Txt _ _ _›).ZG (‹Txt _ _ _›).ZR ZH5 ?_ | refine ZFH (by assumption) (‹Txt _ _ _›).ZG (‹Txt _ _ _›).ZO ZG6 ?_ | refine ZFH (by assumption) (‹Txt _ _ _›).ZG (‹Txt _ _ _›).ZL ZKp ?_)
def Tm (t : Int) : Prop := -1099511627776 <= t /\ t < 1099511627776
def ZTy : Sp := fun vs H Q _ => ∃ t : Int, vs = [.int t] /\ Tm t /\ Q .non H
theorem ZMq : ZDw ["t"] ["t"] (ZDo ZHl) := ZEB
theorem ZJI (T : Txt K mg a) : ZD2 P w K mg base CX0 3 a.YF a.YJ ["t"] ZTy := by
 refine T.Z8.ok ZMq (by walk_at "l") (fun cdv A outer s H vs Q E hr h => ?_)
 ·obtain ⟨t, rfl, ht, q⟩ := h
  unfold Tm at ht
  refine ⟨_, QB.h (ZDp (ZEw (QW.pt (ZLF (ZHf (ZG9 (qcS (ZHp T) hr T.Ye T.Zs.kp T.YR (ZDk (qv 0) ZDl)))) (ZJP (ZEC (ZJy) (qv 0) (ZHW (v := .int 1099511627776) rfl T.YX ⟨_, rfl⟩) (ZEL _))))) (ZDp ZIi) ZEX)), ?_⟩
  walk_at "s"
  walk_at "w"
  refine ⟨t, rfl, .inl ⟨⟨by omega, by omega⟩, ?_⟩⟩
  walk_at "w"
  refine ZEs ?_
  walk_at "w"
  rw [ZMy]
  refine ZEc (fun h => ?_) (fun h => ?_)
  ·exfalso
   omega
  ·walk_at "w"
   exact q
def ZV8 (C : Addr) : Sp := fun vs H Q _ => ∃ (p d1 d2 dx : Addr) (n t : Int) (v : V) (o : Option (PL)) (sm : PL) (kvs : List (List Key × V)) (c : Nat), vs = [.ref p, .int t, v] /\ H p = some (.ins C dx (tfl n d1 d2)) /\ H d1 = some (.dK (ZEF sm)) /\ H d2 = some (.dT kvs) /\ (sm.map (·.1)).Nodup /\
 ZFC H kvs sm (fun l s => s ≠ t / 2 ^ l) /\ kvs.length <= 41 * c /\ c <= 1000 /\ ZEZ H v o /\ Is4 (inS sm 0 t) o /\ ∀ H', ZEM C H' p n d1 d2 sm (c + 1) -> Kp d2 H H' -> Q .non H'
theorem ZFm : ZDw ["self", "t", "four", "s", "level", "halves"] ["self", "t", "four"] (ZDo ZHm) := ZEB
theorem ZJJ (T : Txt K mg a) : ZD2 P w K mg base CX0 3 a.YE a.YG ["self", "t", "four"] (ZV8 a.ZB) := by
 refine T.ZBX.ok ZFm (by walk_at "l") (fun cdv A outer s H vs Q E hr h => ?_)
 ·obtain ⟨p, d1, d2, dx, n, t, v, o, sm, kvs, c, rfl, hp, h1, h2, hnd, hkf, hlen, hc, hv, ho, k⟩ := h
  have hu := ZF6 hr
  have np2 : p ≠ d2 := fun z => by subst z; rw [hp] at h2; cases h2
  have n12 : d1 ≠ d2 := fun z => by subst z; rw [h1] at h2; cases h2
  refine ⟨_, QB.h (ZDm (ZF9 hu (qv 2) (ZEq K rfl (qv 0)) (ZEh (ZDk ZDn (ZDk (qv 1) ZDl)))) (ZDm (qsS (i := 3) ZFm.nd (qv 1)) (ZDp (ZFB PassesOwn.never rfl (ZFL rfl T.ZI (ZDk (ZHW (v := .int 40) rfl T.ZBo ⟨_, rfl⟩) ZDl)) (qgN (i := 4) ZFm.nd) (ZDm (qsS (i := 3) ZFm.nd (ZDu ZHa (qv 3) ZDn)) (ZDm (qsS (i := 5) ZFm.nd (ZEh (ZDk (ZIs hu (ZEq K rfl (qv 0)) (ZEh (ZDk (qv 4) (ZDk (ZDu ZED ZDn (qv 3)) ZDl)))) (ZDk (ZIs hu (ZEq K rfl (qv 0)) (ZEh (ZDk (qv 4) (ZDk (ZDu ZEU (ZDu ZED ZDn (qv 3)) ZDn) ZDl)))) ZDl)))) (ZDp (ZF9 hu (qcS (ZMV T) hr T.ZBe T.ZAD.kp T.ZBY (ZDk (ZD1 (ZD6 K rfl) (qv 5) ZDn) (ZDk (ZD1 (ZD6 K rfl) (qv 5) ZDn) ZDl))) (ZEq K rfl (qv 0)) (ZEh (ZDk (ZDu ZEU (qv 4) ZDn) (ZDk (qv 3) ZDl))))))))))), ?_⟩
  walk_at "s"
  walk_at "w"
  refine ZD9 (by show 2 <= sizeLine; decide) fun b3 H3 n3 f3 S3 => ?_
  walk_at "w"
  refine ZNo (k := kOf 0 t) (S3 _ _ h2) f3 (Um (show kvs.length <= 41000 by omega) (by decide)) fun H4 f4 K4 => ?_
  have K04 : Kp d2 H H4 := (Kp.same S3).trans K4
  have nt : ∀ (l : List (List Key × V)) (xs : List V), HO.dT l ≠ .tup xs := fun l xs z => by cases z
  have e0 : t / 2 ^ 0 = t := by simp
  have hk4 : ZFC H4 (ZFE kvs (kOf 0 t) v) sm (fun l s => s ≠ t / 2 ^ l \/ l <= 0) := by
   have h := ((hkf.same S3).put (i := 0) (t := t) (hv.same S3) (by rw [e0]; exact ho)).kpX K4 (S3 _ _ h2) (nt _)
   rw [e0] at h
   refine h.mono fun l s hl g => ?_
   rcases g with g | g
   ·exact .inl g
   ·have : l = 0 := by omega
    subst this
    by_cases e : s = t / 2 ^ 0
    ·exact .inr ⟨rfl, e⟩
    ·exact .inl e
  have hl4 : (ZFE kvs (kOf 0 t) v).length <= 41 * c + 1 := Uz (ZGG _ _ _) (by omega)
  walk_at "w"
  refine ZGF (by decide) (by decide) (ZHV (fun i U H' => (∃ v4 v5, U = [some (.ref p), some (.int t), some v, some (.int (t / 2 ^ i)), v4, v5]) /\ Kp d2 H H' /\ ∃ kvs', H' d2 = some (.dT kvs') /\ ZFC H' kvs' sm (fun l s => s ≠ t / 2 ^ l \/ l <= i) /\ kvs'.length <= 41 * c + 1 + i) ?_ ?_ ?_)
  ·exact ⟨⟨none, none, by rw [e0]; rfl⟩, K04, _, f4, hk4, hl4⟩
  ·rintro i U H5 hi ⟨⟨v4, v5, rfl⟩, K5, kv5, f5, hk5, hl5⟩
   have hi40 : i < 40 := hi
   have hp5 := K5 _ _ hp np2
   have ez : (0 + (i : Int)) = (i : Int) := by omega
   rw [ez]
   walk_at "w"
   generalize hs : t / 2 ^ i / 2 = s
   have hs1 : t / 2 ^ (i + 1) = s := by rw [ZNw, hs]
   refine ZJX f5 ?_
   walk_at "w"
   refine ZD9 (by show 2 <= sizeLine; decide) fun b6 H6 n6 f6 S6 => ?_
   refine ZKe (k := kOf i (2 * s)) (S6 _ _ f5) f6 ?_
   have hp6 := S6 _ _ hp5
   have f56 := S6 _ _ f5
   walk_at "w"
   refine ZJX f56 ?_
   walk_at "w"
   refine ZD9 (by show 2 <= sizeLine; decide) fun b7 H7 n7 f7 S7 => ?_
   refine ZKe (k := kOf i (2 * s + 1)) (S7 _ _ f56) f7 ?_
   have S57 := S6.trans S7
   walk_at "w"
   refine ZD9 (by show 2 <= sizeLine; decide) fun b8 H8 n8 f8 S8 => ?_
   have S58 := S57.trans S8
   have hk8 := hk5.same S58
   obtain ⟨oa, ha1, ha2⟩ := hk8 i (2 * s) (by omega) (.inr (Ud _))
   obtain ⟨ob, hb1, hb2⟩ := hk8 i (2 * s + 1) (by omega) (.inr (Ud _))
   walk_at "w"
   refine ⟨_, _, oa, ob, _, _, rfl, ha1, ha2, hb1, hb2, ZX2 (by omega), fun v9 o9 H9 h9 g9 S9 => ?_⟩
   have g9 : Is4 (inS sm (i + 1) s) o9 := g9.congr fun q => ZTh
   have S59 := S58.trans S9
   have hp9 := S59 _ _ hp5
   walk_at "w"
   refine ZD9 (by show 2 <= sizeLine; decide) fun b10 H10 n10 f10 S10 => ?_
   have S510 := S59.trans S10
   have f510 := S510 _ _ f5
   refine ZNo (k := kOf (i + 1) s) f510 ?_ (Um (show kv5.length <= 42000 by omega) (by decide)) fun H11 f11 K11 => ?_
   ·rw [f10]
    show some (HO.tup [V.int ((i : Int) + 1), V.int s]) = some (HO.tup [V.int ((i + 1 : Nat) : Int), V.int s])
    rw [show ((i + 1 : Nat) : Int) = (i : Int) + 1 by omega]
   walk_at "w"
   refine ⟨⟨some (.int i), some (.ref b8), by rw [hs1]; rfl⟩, (K5.then S510).trans K11, _, f11, ?_, Uz (ZGG _ _ _) (by omega)⟩
   have h := ((hk5.same S510).put (i := i + 1) (t := t) (h9.same S10) (by rw [hs1]; exact g9)).kpX K11 f510 (nt _)
   rw [hs1] at h
   refine h.mono fun l s' hl g => ?_
   rcases g with g | g
   ·exact .inl (.inl g)
   ·by_cases e : l = i + 1
    ·by_cases e2 : s' = t / 2 ^ l
     ·exact .inr ⟨e, e2⟩
     ·exact .inl (.inl e2)
    ·exact .inl (.inr (by omega))
  ·rintro U H5 ⟨⟨v4, v5, rfl⟩, K5, kv5, f5, hk5, hl5⟩
   walk_at "w"
   refine k H5 ⟨dx, kv5, K5 _ _ hp np2, K5 _ _ h1 n12, f5, hnd, hk5.mono fun l s hl _ => .inr hl, ?_⟩ K5
   have : kv5.length <= 41 * c + 1 + 40 := hl5
   omega
def ZX9 (C : Addr) : Sp := fun vs H Q _ => ∃ (p d1 d2 : Addr) (n t h : Int) (sm : PL) (c : Nat), vs = [.ref p, .int t, .int h] /\ ZEM C H p n d1 d2 sm c /\ Tm t /\ c <= 1000 /\ sm.length <= 1000 /\
 ∀ H', ZEM C H' p n d1 d2 (ZEI sm t h) (c + 1) -> Fr3 p d1 d2 H H' -> Q .non H'
theorem ZOm : ZDw ["self", "t", "h"] ["self", "t", "h"] (ZDo ZI2) := ZEB
theorem ZKL (T : Txt K mg a) : ZD2 P w K mg base CX0 4 a.Yp a.Yt ["self", "t", "h"] (ZX9 a.ZB) := by
 refine T.ZB2.ok ZOm (by walk_at "l") (fun cdv A outer s H vs Q E hr h => ?_)
 ·obtain ⟨p, d1, d2, n, t, x, sm, c, rfl, ⟨dx, kvs, hp, h1, h2, hnd, hkf, hlen⟩, ht, hc, hsl, k⟩ := h
  have hu := ZF6 hr
  have np1 : p ≠ d1 := fun z => by subst z; rw [hp] at h1; cases h1
  have n21 : d2 ≠ d1 := fun z => by subst z; rw [h1] at h2; cases h2
  refine ⟨_, QB.h (ZDm (ZEH (qcS (ZJI T) hr T.Jq T.Z8.kp T.JW (ZDk (qv 1) ZDl))) (ZDm (ZF9 hu (qv 2) (ZEq K rfl (qv 0)) (qv 1)) (ZDp (ZEH (ZEo (qv 0) T.ZG T.JI (ZJJ T) hr T.JV .nil ZEk (ZDk (qv 1) (ZDk (qcS (ZQJ T) hr T.ZCP T.ZA4.kp T.ZCQ (ZDk (ZEh (ZDk (ZEh (ZDk (qv 1) (ZDk (qv 2) ZDl))) ZDl)) ZDl)) ZDl))))))), ?_⟩
  walk_at "s"
  walk_at "w"
  refine ⟨t, rfl, ht, ?_⟩
  walk_at "w"
  refine ZIk h1 (Um hsl (by decide)) fun H3 f3 K3 => ?_
  have hp3 := K3 _ _ hp np1
  have h23 := K3 _ _ h2 n21
  have hk3 : ZFC H3 kvs (ZEI sm t x) (fun l s => s ≠ t / 2 ^ l) := (ZFC.other hkf fun q hq => by
   rw [ZFj hnd]
   constructor
   ·exact fun z => .inl ⟨hq, z⟩
   ·rintro (z | z)
    ·exact z.2
    ·exact absurd (by rw [z]) hq).kpX K3 h1 (fun xs z => by cases z)
  walk_at "w"
  refine ZES hp3 ZHr ?_
  walk_at "w"
  refine ZD9 (by show 2 <= sizeLine; decide) fun b4 H4 n4 f4 S4 => ?_
  walk_at "w"
  refine ZD9 (by show 1 <= sizeLine; decide) fun b5 H5 n5 f5 S5 => ?_
  walk_at "w"
  refine ⟨b5, [(t, x)], rfl, ⟨_, f5, .cons ⟨b4, rfl, S5 _ _ f4⟩ .nil⟩, List.pairwise_singleton _ _, fun v6 o6 H6 h6 g6 S6 => ?_⟩
  have S36 := S4.trans (S5.trans S6)
  walk_at "w"
  refine ⟨p, d1, d2, dx, n, t, v6, o6, ZEI sm t x, kvs, c, rfl, S36 _ _ hp3, S36 _ _ f3, S36 _ _ h23, ZE9 hnd, hk3.same S36, hlen, hc, h6, g6.congr fun q => ?_, fun H7 hT7 K7 => ?_⟩
  ·rw [Uj, ZGB, ZFj hnd]
   simp only [Int.pow_zero, Int.ediv_one]
   constructor
   ·rintro rfl
    exact ⟨.inr rfl, rfl⟩
   ·rintro ⟨h1 | h1, h2⟩
    ·exact absurd h2 h1.1
    ·exact h1
  ·walk_at "w"
   exact k H7 hT7 fun b o e e1 e2 e3 => K7 _ _ (S36 _ _ (K3 _ _ e e2)) e3
def ZV9 (C : Addr) : Sp := fun vs H Q _ => ∃ (p dx : Addr) (x : V) (cv : PL), vs = [.ref p, x] /\ H p = some (.ins C dx []) /\ ((x = .non /\ cv = []) \/ ∃ t, x = .ref t /\ PrT H t cv) /\ (cv.map (·.1)).Nodup /\ (∀ q ∈ cv, Tm q.1) /\ cv.length <= 100 /\
 ∀ (d1 d2 : Addr) (sm : PL) (H' : Hp), H d1 = none -> H d2 = none -> ZEM C H' p 0 d1 d2 sm cv.length -> (∀ q, q ∈ sm ↔ q ∈ cv) -> sm.length <= cv.length -> Kp p H H' -> Q .non H'
theorem ZGR : ZDw ["self", "curve", "t", "h"] ["self", "curve"] (ZDo ZEf) := ZEB
theorem ZKq (T : Txt K mg a) : ZD2 P w K mg base CX0 5 a.Ze a.ZK ["self", "curve"] (ZV9 a.ZB) := by
 refine T.ZAo.ok ZGR (by walk_at "l") (fun cdv A outer s H vs Q E hr h => ?_)
 ·obtain ⟨p, dx, x, cv, rfl, hp, hx, hnd, htm, hlen, k⟩ := h
  refine ⟨_, QB.h (ZDm (ZHB K rfl (qv 0) ZDn) (ZDm (ZHB K rfl (qv 0) ZGP) (ZDm (ZHB K rfl (qv 0) ZTe) (ZDp (ZEw (ZEC (ZLe) (qv 1) ZFw (ZEL _)) (ZDp (ZFB PassesOwn.never rfl (ZIV K rfl (qv 1)) (ZEz (n := 2) K rfl rfl (ZDy (qgN (i := 2) ZGR.nd) (ZDy (qgN (i := 3) ZGR.nd) ZEi))) (ZDp (ZEH (ZEo (qv 0) T.ZG T.ZAg (ZKL T) hr T.ZAn .nil ZEk (ZDk (qv 2) (ZDk (qv 3) ZDl))))))) ZEX))))), ?_⟩
  walk_at "s"
  walk_at "w"
  refine ZGW hp T.ZG T.ZR (by show 0 < 1000; decide) fun H1 f1 K1 => ?_
  walk_at "w"
  refine ZIl fun d1 H2 n2 f2 S2 => ?_
  have hp2 := S2 _ _ f1
  have nd1 : d1 ≠ p := fun z => by rw [z, f1] at n2; cases n2
  walk_at "w"
  refine ZGW hp2 T.ZG T.ZO (by show 1 < 1000; decide) fun H3 f3 K3 => ?_
  have f23 := K3 _ _ f2 nd1
  walk_at "w"
  refine ZTf fun d2 H4 n4 f4 S4 => ?_
  have hp4 := S4 _ _ f3
  have nd2 : d2 ≠ p := fun z => by rw [z, f3] at n4; cases n4
  walk_at "w"
  refine ZGW hp4 T.ZG T.ZL (by show 2 < 1000; decide) fun H5 f5 K5 => ?_
  have f5 : H5 p = some (.ins a.ZB dx (tfl 0 d1 d2)) := by rw [f5, ZV7]
  have K05 : Kp p H H5 := (((K1.then S2).trans K3).then S4).trans K5
  have f25 := K5 _ _ (S4 _ _ f23) nd1
  have f45 := K5 _ _ f4 nd2
  have hn1 : H d1 = none := by
   cases e : H d1 with
   | none => rfl
   | some o =>
    have := K1 _ _ e nd1
    rw [n2] at this
    cases this
  have hn2 : H d2 = none := by
   cases e : H d2 with
   | none => rfl
   | some o =>
    have := ((K1.then S2).trans K3) _ _ e nd2
    rw [n4] at this
    cases this
  have hT5 : ZEM a.ZB H5 p 0 d1 d2 [] 0 := ⟨dx, [], f5, f25, f45, List.nodup_nil, fun l s hl _ => ⟨none, .non, .inl ⟨rfl, rfl⟩⟩, Ud _⟩
  walk_at "w"
  rcases hx with ⟨rfl, rfl⟩ | ⟨t, rfl, hT⟩
  ·refine ZIf (fun h => absurd rfl h) (fun _ => ?_)
   walk_at "w"
   exact k d1 d2 [] H5 hn1 hn2 hT5 (fun q => Iff.rfl) (Ud _) K05
  ·refine ZIf (fun _ => ?_) (fun h => by cases h)
   obtain ⟨us, g, hP⟩ := hT
   have ntp : ∀ {b : Addr} {xs : List V}, H b = some (.tup xs) -> b ≠ p := fun e z => by rw [z, hp] at e; cases e
   have g5 := K05 _ _ g (ntp g)
   walk_at "w"
   refine ZJ1 (xs := us) (fun i U H' => (∃ v2 v3, U = [some (.ref p), some (.ref t), v2, v3]) /\ Kp p H H' /\ ∃ sm, ZEM a.ZB H' p 0 d1 d2 sm i /\ (∀ q, q ∈ sm ↔ q ∈ cv.take i) /\ sm.length <= i) ?_ ?_ ?_ ?_
   ·exact ⟨⟨_, _, rfl⟩, K05, [], hT5, fun q => by rw [List.take_zero], Ud _⟩
   ·rintro i U H6 _ ⟨_, K6, _⟩
    exact SqT.of (K6 _ _ g (ntp g))
   ·rintro i x U H6 hx ⟨⟨v2, v3, rfl⟩, K6, sm, hT6, hm6, hl6⟩
    obtain ⟨cc, q, rfl, hq, hc⟩ := hP.at hx
    have hc6 := K6 _ _ hc (ntp hc)
    obtain ⟨dx6, kv6, hp6, h16, h26, hnd6, hkf6, hlen6⟩ := id hT6
    have hi : i < cv.length := (Ui.mp hq).1
    walk_at "w"
    refine ZES hp6 ZHr ?_
    walk_at "w"
    refine ⟨p, d1, d2, 0, q.1, q.2, sm, i, rfl, hT6, htm q (Uv hq), by omega, by omega, fun H7 hT7 Fr7 => ?_⟩
    walk_at "w"
    refine ⟨⟨_, _, rfl⟩, fun b o e nb => Fr7 _ _ (K6 _ _ e nb) nb (fun z => by rw [z, hn1] at e; cases e) (fun z => by rw [z, hn2] at e; cases e), ZEI sm q.1 q.2, hT7, fun r => ?_, Uz (ZHi _ _ _) (by omega)⟩
    rw [ZFj hnd6, US, hq, UI, hm6]
    have hne : ∀ r ∈ cv.take i, r.1 ≠ q.1 := fun r hr e => by
     obtain ⟨j, hj, rfl⟩ := UP hr
     rw [UR] at hj
     rw [List.getElem_take] at e
     obtain ⟨z2, y2⟩ := Ui.mp hq
     have : (cv.map (·.1))[j]'(by rw [Uf]; omega) = (cv.map (·.1))[i]'(by rw [Uf]; omega) := by
      rw [List.getElem_map, List.getElem_map, y2]
      exact e
     have := (List.getElem_inj hnd).mp this
     omega
    constructor
    ·rintro (h | h)
     ·exact .inl h.2
     ·exact .inr (by rw [h]; exact UA)
    ·rintro (h | h)
     ·exact .inl ⟨hne r h, h⟩
     ·exact .inr (by simpa using h)
   ·rintro U H6 ⟨⟨v2, v3, rfl⟩, K6, sm, hT6, hm6, hl6⟩
    rw [hP.length] at hT6 hm6 hl6
    rw [UQ] at hm6
    walk_at "w"
    exact k d1 d2 sm H6 hn1 hn2 hT6 hm6 hl6 K6
end
theorem ZEM.kpX {C : Addr} {H H' : Hp} {p d1 d2 l : Addr} {n : Int} {sm : PL} {c : Nat} {xs : List V} (h : ZEM C H p n d1 d2 sm c) (k : Kp l H H') (hl : H l = some (.lst xs)) : ZEM C H' p n d1 d2 sm c := by
 obtain ⟨dx, kvs, h1, h2, h3, h4, h5, h6⟩ := h
 exact ⟨dx, kvs, k _ _ h1 (fun z => by rw [z, hl] at h1; cases h1), k _ _ h2 (fun z => by rw [z, hl] at h2; cases h2), k _ _ h3 (fun z => by rw [z, hl] at h3; cases h3), h4, h5.kpX k hl (fun _ z => by cases z), h6⟩
theorem ZYA {p d1 d2 : Addr} {H H' : Hp} (h : Kp p H H') : Fr3 p d1 d2 H H' := fun b o e e1 _ _ => h b o e e1
theorem ZEM.keepT {C : Addr} {H H' : Hp} {p d1 d2 : Addr} {n : Int} {sm : PL} {c : Nat} (g : ZEM C H p n d1 d2 sm c) (f : Fr3 p d1 d2 H H') {b : Addr} {xs : List V} (e : H b = some (.tup xs)) : H' b = some (.tup xs) := by
 obtain ⟨dy, kws, g1, g2, g3, _⟩ := g
 exact f _ _ e (fun z => by rw [z, g1] at e; cases e) (fun z => by rw [z, g2] at e; cases e) (fun z => by rw [z, g3] at e; cases e)
theorem ZEM.keepL {C : Addr} {H H' : Hp} {p d1 d2 : Addr} {n : Int} {sm : PL} {c : Nat} (g : ZEM C H p n d1 d2 sm c) (f : Fr3 p d1 d2 H H') {b : Addr} {xs : List V} (e : H b = some (.lst xs)) : H' b = some (.lst xs) := by
 obtain ⟨dy, kws, g1, g2, g3, _⟩ := g
 exact f _ _ e (fun z => by rw [z, g1] at e; cases e) (fun z => by rw [z, g2] at e; cases e) (fun z => by rw [z, g3] at e; cases e)
theorem ZEM.keepP {C : Addr} {H H' : Hp} {p d1 d2 : Addr} {n : Int} {sm : PL} {c : Nat} (g : ZEM C H p n d1 d2 sm c) (f : Fr3 p d1 d2 H H') {b : Addr} {cv : PL} (e : PrT H b cv) : PrT H' b cv := by
 obtain ⟨us, h1, h2⟩ := e
 exact ⟨us, g.keepT f h1, Paired.mapP h2 fun _ _ ⟨a, e, z⟩ => ⟨a, e, g.keepT f z⟩⟩
theorem ZEM.nd {C : Addr} {H : Hp} {p d1 d2 : Addr} {n : Int} {sm : PL} {c : Nat} (g : ZEM C H p n d1 d2 sm c) : (sm.map (·.1)).Nodup := by
 obtain ⟨dy, kws, g1, g2, g3, g4, _⟩ := g
 exact g4
section
variable {P : Program} {w : World} {K : W.Frag} {mg : Str -> Option Value} {base : Heap} {a : Ad}
local macro_rules | `(tactic| walk_at "rd") => `(tactic| first
 | with_reducible first | refine ZFH (by assumption) (‹Txt _ _ _›).ZG (‹Txt _ _ _›).ZR ZH5 ?_ | refine ZFH (by assumption) (‹Txt _ _ _›).ZG (‹Txt _ _ _›).ZO ZG6 ?_ | refine ZFH (by assumption) (‹Txt _ _ _›).ZG (‹Txt _ _ _›).ZL ZKp ?_)
def ZWA (C : Addr) : Sp := fun vs H Q _ => ∃ (p d1 d2 : Addr) (n b e : Int) (sm : PL) (c : Nat), vs = [.ref p, .int b, .int e] /\ ZEM C H p n d1 d2 sm c /\ InT b /\ InT e /\
 ∀ (v : V) (o : Option (PL)) (prs : PL) (H' : Hp), ZEZ H' v o -> Is4 (inCol sm b e) o -> Ch e b prs (ZJs b e) -> ZEM C H' p (n + prs.length) d1 d2 sm c -> Kp p H H' -> Q v H'
theorem Ch.cut {e : Int} : ∀ {prs : PL} {x y : Int}, Ch e x prs y -> ∀ {i : Nat} {q : Int × Int}, prs[i]? = some q -> ∃ z, Ch e x (prs.take i) z /\ (0 <= q.1 /\ q.1 <= 40) /\ q.2 * 2 ^ q.1.toNat = z /\ Ch e x (prs.take (i + 1)) (z + 2 ^ q.1.toNat)
 | [], _, _, _, i, q, h => by simp at h
 | p :: r, x, y, hc, 0, q, h => by
  have : p = q := by simpa using h
  subst this
  obtain ⟨h1, h2, h3, h4, h5⟩ := hc
  exact ⟨x, rfl, h1, h2, h1, h2, h3, h4, rfl⟩
 | p :: r, x, y, hc, i + 1, q, h => by
  obtain ⟨h1, h2, h3, h4, h5⟩ := hc
  obtain ⟨z, g1, g2, g3, g4⟩ := Ch.cut h5 (i := i) (q := q) (by simpa using h)
  exact ⟨z, ⟨h1, h2, h3, h4, g1⟩, g2, g3, h1, h2, h3, h4, g4⟩
theorem Ch.fun {e : Int} : ∀ {prs : PL} {x y z : Int}, Ch e x prs y -> Ch e x prs z -> y = z
 | [], _, _, _, h, g => h.symm.trans g
 | p :: r, x, y, z, h, g => Ch.fun h.2.2.2.2 g.2.2.2.2
theorem ZFz : ZDw ["self", "begin", "end", "four", "parts", "stretch"] ["self", "begin", "end"] (ZDo ZIJ) := ZEB
theorem ZOE (T : Txt K mg a) : ZD2 P w K mg base CX0 5 a.Yf a.Yd ["self", "begin", "end"] (ZWA a.ZB) := by
 refine T.ZBr.ok ZFz (by walk_at "l") (fun cdv A outer s H vs Q E hr h => ?_)
 ·obtain ⟨p, d1, d2, n, b, e, sm, c, rfl, hTr, hb, he, k⟩ := h
  have hu := ZF6 hr
  obtain ⟨dx, kvs, hp, h1, h2, hnd, hkf, hlen⟩ := id hTr
  refine ⟨_, QB.h (ZDm (qsS (i := 3) ZFz.nd ZFw) (ZDm (qsS (i := 4) ZFz.nd (qcS (ZOC T) hr T.ZBt T.J8.kp T.ZBu (ZDk (qv 1) (ZDk (qv 2) ZDl)))) (ZDm (ZFB PassesOwn.never rfl (ZIV K rfl (qv 4)) (qgN (i := 5) ZFz.nd) (ZDp (qsS (i := 3) ZFz.nd (qcS (ZMV T) hr.m T.ZBe T.ZAD.kp T.ZBY (ZDk (qv 3) (ZDk (ZIs hu (ZEq K rfl (qv 0)) (qv 5)) ZDl)))))) (ZDm (ZRM K rfl (qv 0) (ZEA (ZIU K rfl) rfl T.Z7 ZHc (ZDk (qv 4) ZDl))) (ZDp (ZDz (qv 3))))))), ?_⟩
  walk_at "s"
  walk_at "w"
  refine ⟨b, e, rfl, hb, he, fun t prs H1 hT1 hch hpl S1 => ?_⟩
  obtain ⟨us, g1, hP1⟩ := hT1
  have hp1 := S1 _ _ hp
  walk_at "w"
  refine ZJ1 (xs := us) (fun i U H' => (∃ v v5, U = [some (.ref p), some (.int b), some (.int e), some v, some (.ref t), v5] /\ ∃ o z, ZEZ H' v o /\ Ch e b (prs.take i) z /\ Is4 (inCol sm b z) o) /\ ZDq H1 H') ?_ ?_ ?_ ?_
  ·refine ⟨⟨_, _, rfl, none, b, .non, rfl, .inl ⟨rfl, ?_⟩⟩, ZDq.refl _⟩
   cases e0 : inCol sm b b with
   | nil => rfl
   | cons q qs =>
    have := (ZDx.mp (show q ∈ inCol sm b b by rw [e0]; exact UA)).2
    omega
  ·rintro i U H' _ ⟨_, S'⟩
   exact SqT.of (S' _ _ g1)
  ·rintro i x U H2 hx ⟨⟨v, v5, rfl, o, z, hv, hz, ho⟩, S2⟩
   obtain ⟨cc, q, rfl, hq, hc⟩ := (hP1.same S2).at hx
   obtain ⟨z', hz', hq1, hq2, hz2⟩ := Ch.cut hch hq
   obtain rfl := Ch.fun hz hz'
   have S02 := S1.trans S2
   obtain ⟨l, hl⟩ : ∃ l : Nat, q.1 = (l : Int) := ⟨q.1.toNat, by omega⟩
   have hln : q.1.toNat = l := by omega
   rw [hln] at hq2 hz2
   have hp2 := S02 _ _ hp
   have h22 := S02 _ _ h2
   obtain ⟨o2, hf2, hi2⟩ := (hkf.same S02) l q.2 (by omega) trivial
   have e4 : inS sm l q.2 = inCol sm z (z + 2 ^ l) := by unfold inS; rw [hq2]
   rw [e4] at hi2
   walk_at "w"
   refine ZJX h22 ?_
   walk_at "w"
   refine ZKe (k := kOf l q.2) h22 (by rw [hc, hl]; rfl) ?_
   refine ⟨v, _, o, o2, _, _, rfl, hv, ho, hf2, hi2, ZTi, fun v3 o3 H3 h3 g3 S3 => ?_⟩
   walk_at "w"
   refine ⟨⟨_, _, rfl, o3, z + 2 ^ l, h3, hz2, g3.congr fun r => ZP9 hz.le (by have := ZFa l; omega) r⟩, S2.trans S3⟩
  ·rintro U H2 ⟨⟨v, v5, rfl, o, z, hv, hz, ho⟩, S2⟩
   rw [hP1.length, UQ] at hz
   obtain rfl := Ch.fun hz hch
   have S02 := S1.trans S2
   have hp2 := S02 _ _ hp
   have g2 := S2 _ _ g1
   have hul : us.length = prs.length := hP1.length
   walk_at "w"
   refine ZP4 hp2 T.ZG T.ZR ZH5 ?_
   walk_at "w"
   refine ⟨n, _, rfl, rfl, dx, _, hp2, by show 3 < 1000; decide, ?_⟩
   rw [ZV6]
   have f3 : (upd H2 p (.ins a.ZB dx (tfl (n + (us.length : Int)) d1 d2))) p = some (.ins a.ZB dx (tfl (n + (us.length : Int)) d1 d2)) := ZDr
   have K3 : Kp p H2 (upd H2 p (.ins a.ZB dx (tfl (n + (us.length : Int)) d1 d2))) := Kp.upd
   generalize upd H2 p (.ins a.ZB dx (tfl (n + (us.length : Int)) d1 d2)) = H3 at f3 K3
   have ntp : ∀ (xs : List V), HO.ins a.ZB dx (tfl n d1 d2) ≠ .tup xs := fun xs z => by cases z
   walk_at "w"
   refine k v o prs H3 (hv.kpX K3 hp2 ntp) (ho.congr fun r => ?_) hch ⟨dx, kvs, by rw [<- hul]; exact f3, K3 _ _ (S02 _ _ h1) (fun z => by rw [z, hp] at h1; cases h1), K3 _ _ (S02 _ _ h2) (fun z => by rw [z, hp] at h2; cases h2), hnd, (hkf.same S02).kpX K3 hp2 ntp, hlen⟩ ((Kp.same S02).trans K3)
   rw [ZDx, ZDx]
   unfold ZJs
   split
   ·exact Iff.rfl
   ·constructor
    ·rintro ⟨_, g1, g2⟩
     omega
    ·rintro ⟨_, g1, g2⟩
     omega
end
section
variable {P : Program} {w : World} {K : W.Frag} {mg : Str -> Option Value} {base : Heap} {a : Ad}
local macro_rules | `(tactic| walk_at "rd") => `(tactic| first
 | with_reducible first | refine ZFH (by assumption) (‹Txt _ _ _›).ZG (‹Txt _ _ _›).ZR ZH5 ?_ | refine ZFH (by assumption) (‹Txt _ _ _›).ZG (‹Txt _ _ _›).ZO ZG6 ?_ | refine ZFH (by assumption) (‹Txt _ _ _›).ZG (‹Txt _ _ _›).ZL ZKp ?_)
def ZTz : Sp := fun vs H Q _ => ∃ (p : Addr) (b y m : Int), vs = [.ref p] /\ H p = some (.tup [.int b, .int y, .int m]) /\ 0 <= m /\ m <= 1000 /\ InT b /\ InT (b + m * y) /\ Q .non H
theorem ZFv : ZDw ["window", "begin", "wide", "many"] ["window"] (ZDo ZGx) := ZEB
theorem ZH6 (T : Txt K mg a) : ZD2 P w K mg base CX0 4 a.Zm a.Zq ["window"] ZTz := by
 refine T.Zl.ok ZFv (by walk_at "l") (fun cdv A outer s H vs Q E hr h => ?_)
 ·obtain ⟨p, b, y, m, rfl, hp, h0, h1, hb, he, q⟩ := h
  refine ⟨_, QB.h (ZDm (ZFZ (qv 0) (ZEz (n := 3) K rfl rfl (ZDy (qgN (i := 1) ZFv.nd) (ZDy (qgN (i := 2) ZFv.nd) (ZDy (qgN (i := 3) ZFv.nd) ZEi))))) (ZDp (ZEH (qcS (ZHq T) hr T.YL T.Zk.kp T.YO (ZDk (qv 1) (ZDk (ZDu ZEU (qv 1) (ZDu ZED (qv 3) (qv 2))) ZDl)))))), ?_⟩
  walk_at "s"
  walk_at "w"
  refine ⟨b, b + m * y, rfl, hb, he, ?_⟩
  walk_at "w"
  exact q
def ZIM (H : Hp) (q : Addr) (b y m : Int) : Prop := H q = some (.tup [.int b, .int y, .int m]) /\ 0 < y /\ 1 <= m /\ m <= 100 /\ InT b /\ InT (b + m * y)
theorem ZIM.col {H : Hp} {q : Addr} {b y m : Int} (h : ZIM H q b y m) {k : Int} (h0 : 0 <= k) (h1 : k < m) : InT (b + k * y) /\ InT (b + k * y + y) := by
 obtain ⟨_, hy, _, _, hb, he⟩ := h
 have g1 : 0 <= k * y := Int.mul_nonneg h0 (by omega)
 have g2 : (k + 1) * y <= m * y := Va (by omega) (by omega)
 rw [Int.add_mul, Int.one_mul] at g2
 unfold InT at *
 constructor <;> constructor <;> omega
def ZT0 (C : Addr) : Sp := fun vs H Q _ => ∃ (p q d1 d2 : Addr) (n b y m : Int) (sm : PL) (c : Nat), vs = [.ref p, .ref q] /\ ZEM C H p n d1 d2 sm c /\ ZIM H q b y m /\
 ∀ (u : Addr) (us : List V) (fs : List (Option (PL))) (n' : Int) (H' : Hp), H' u = some (.tup us) -> ZEl H' us fs -> ZRU sm b y m.toNat fs -> ZEM C H' p n' d1 d2 sm c -> Kp p H H' -> Q (.ref u) H'
theorem ZMr : ZDw ["self", "window"] ["self", "window"] (ZDo ZGg) := ZEB
theorem ZMs (T : Txt K mg a) : ZD2 P w K mg base CX0 6 a.YA a.YI ["self", "window"] (ZT0 a.ZB) := by
 refine T.ZBO.ok ZMr (by walk_at "l") (fun cdv A outer s H vs Q E hr h => ?_)
 ·obtain ⟨p, q, d1, d2, n, b, y, m, sm, c, rfl, hTr, hW, k⟩ := h
  obtain ⟨hq, hy, hm1, hm2, hb, he⟩ := id hW
  refine ⟨_, QB.h (ZDm (ZEH (qcS (ZH6 T) hr.m T.Yl T.Zl.kp T.Ym (ZDk (qv 1) ZDl))) (ZDp (ZDz (ZFU (ZGt K rfl) rfl T.Za ZGr (ZDk (ZFY (N := ["self", "window"]) (sc := ZDo ZGg) (own := ["first", "behind"]) (caps := ["self"]) (ks := [0]) rfl rfl rfl ⟨rfl, by decide +kernel, by decide +kernel, by decide +kernel, by decide +kernel, rfl, by decide +kernel⟩ (ZFp K rfl (qcS (ZJH T) hr.m T.Ju T.YH.kp T.Jh (ZDk (qv 1) ZDl))) (fun _ _ _ _ _ => ZEz (n := 2) K rfl rfl (ZDy (ZEa (i := 0) (show List.Nodup (α := Str) ["first", "behind", "self"] from by decide +kernel) rfl (by walk_at "o") (.inr rfl)) (ZDy (ZEa (i := 1) (show List.Nodup (α := Str) ["first", "behind", "self"] from by decide +kernel) rfl (by walk_at "o") (.inr rfl)) ZEi))) (fun _ _ _ _ _ => ZFD) (fun _ _ _ _ _ => ZEo (qv 2) T.ZG T.ZBm (ZOE T) hr T.ZBs .nil ZEk (ZDk (qv 0) (ZDk (qv 1) ZDl)))) ZDl))))), ?_⟩
  walk_at "s"
  walk_at "w"
  refine ⟨q, b, y, m, rfl, hq, by omega, by omega, hb, he, ?_⟩
  walk_at "w"
  refine ⟨q, b, y, m, rfl, hq, hm1, by omega, fun l0 us0 H1 n1 f1 hP1 S1 => ?_⟩
  have hT1 := hTr.same S1
  have np1 : ∀ {b : Addr} {xs : List V}, H1 b = some (.tup xs) -> b ≠ p := fun e z => by
   obtain ⟨dy, kws, g1, _⟩ := hT1
   rw [z, g1] at e; cases e
  have nl1 : l0 ≠ p := fun z => by
   obtain ⟨dy, kws, g1, _⟩ := hT1
   rw [z, g1] at f1; cases f1
  walk_at "w"
  intro l n2
  have nlp : l ≠ p := fun z => by
   obtain ⟨dy, kws, g1, _⟩ := hT1
   rw [z, g1] at n2; cases n2
  refine ZEu m.toNat (fun i U' H' => (∃ o1 o2, U' = [o1, o2, some (.ref p)]) /\ Kp p H1 H' /\ (∃ n', ZEM a.ZB H' p n' d1 d2 sm c) /\ ∃ vs fs, H' l = some (.lst vs) /\ ZEl H' vs fs /\ fs.length = i /\ ∀ (k : Nat) o, fs[k]? = some o -> Is4 (inCol sm (b + (k : Int) * y) (b + (k : Int) * y + y)) o) ?_ ?_ ?_
  ·exact ⟨⟨none, none, rfl⟩, Kp.same (ZDq.new n2), ⟨n, hT1.same (ZDq.new n2)⟩, [], [], ZDr, .nil, rfl, fun k o h => by simp at h⟩
  ·rintro U' H2 ⟨_, K2, ⟨n', hT2⟩, vs, fs, f2, hF2, hfl, hO2⟩
   refine ⟨⟨_, SqL.of (K2 _ _ f1 nl1), by rw [hP1.length, ZHC]; exact Ud _⟩, ?_⟩
   walk_at "w"
   refine ZHU (SqL.of f2) fun u H3 n3 f3 S3 => ?_
   exact k u vs fs n' H3 f3 (hF2.same S3) ⟨hfl, hO2⟩ (hT2.same S3) (((Kp.same S1).trans K2).then S3)
  ·rintro i U' H2 hi ⟨⟨o1, o2, rfl⟩, K2, ⟨n', hT2⟩, vs, fs, f2, hF2, hfl, hO2⟩
   have hi2 : i < us0.length := by rw [hP1.length, ZHC]; exact hi
   have f12 := K2 _ _ f1 nl1
   refine ⟨⟨_, _, SqL.of f12, Uc hi2⟩, ?_⟩
   rintro x H'' ⟨rfl, hx⟩
   have hx := hx _ (SqL.of f12)
   obtain ⟨u, pr, rfl, hpr, f3⟩ := hP1.at hx
   have hpr := ZOD hpr
   subst hpr
   have f32 := K2 _ _ f3 (np1 f3)
   obtain ⟨w1, w2⟩ := hW.col (k := (i : Int)) (by omega) (by omega)
   obtain ⟨dx, kvs, hp2, _⟩ := id hT2
   walk_at "w"
   refine ZFR ?_
   walk_at "w"
   refine ZES hp2 ZHr ?_
   walk_at "w"
   refine ⟨p, d1, d2, n', _, _, sm, c, rfl, hT2, w1, w2, fun v o3 prs H3 h3 g3 _ hT3 K3 => ?_⟩
   have fl3 := K3 _ _ f2 nlp
   have hF3 : ZEl H3 vs fs := hF2.mapP fun _ _ d => d.kpX K3 hp2 (fun _ z => by cases z)
   refine ⟨vs, fl3, ?_, ⟨_, _, rfl⟩, ?_, ⟨_, hT3.kpX Kp.upd fl3⟩, vs ++ [v], fs ++ [o3], ZDr, (hF3.snoc h3).mapP fun _ _ d => d.kpL Kp.upd fl3, by simp [hfl], ?_⟩
   ·rw [hF2.len, hfl]
    exact Ue (show i < 100 by omega) (by decide)
   ·intro b' o' e nb
    rw [ZD4 (fun z => by rw [z, n2] at e; cases e)]
    exact (K2.trans K3) b' o' e nb
   ·intro k' o' h'
    rw [List.getElem?_append] at h'
    split at h'
    ·exact hO2 k' o' h'
    ·have : k' = i := by
      have := (Ui.mp h').1
      simp at this
      omega
     subst this
     rw [hfl, Nat.sub_self] at h'
     have : o3 = o' := by simpa using h'
     subst this
     exact g3
end
def sfl (tr dd dn wt : Addr) : List (Str × V) := [("tree", V.ref tr), ("deeds", V.ref dd), ("done", V.ref dn), ("watches", V.ref wt)]
section
variable {tr dd dn wt : Addr}
theorem sg1 : (("deeds" : Str) == "tree") = false := by decide +kernel
theorem sg2 : (("done" : Str) == "tree") = false := by decide +kernel
theorem sg3 : (("done" : Str) == "deeds") = false := by decide +kernel
theorem sg4 : (("watches" : Str) == "tree") = false := by decide +kernel
theorem sg5 : (("watches" : Str) == "deeds") = false := by decide +kernel
theorem sg6 : (("watches" : Str) == "done") = false := by decide +kernel
theorem ZT1 : (sfl tr dd dn wt).lookup ("tree" : Str) = some (.ref tr) := by
 unfold sfl
 rw [Uu, beq_self_eq_true]
theorem ZRo : (sfl tr dd dn wt).lookup ("deeds" : Str) = some (.ref dd) := by
 unfold sfl
 rw [Uu, sg1, Uu, beq_self_eq_true]
theorem ZT2 : (sfl tr dd dn wt).lookup ("done" : Str) = some (.ref dn) := by
 unfold sfl
 rw [Uu, sg2, Uu, sg3, Uu, beq_self_eq_true]
theorem ZOn : (sfl tr dd dn wt).lookup ("watches" : Str) = some (.ref wt) := by
 unfold sfl
 rw [Uu, sg4, Uu, sg5, Uu, sg6, Uu, beq_self_eq_true]
theorem ZHs {m : Str} (h1 : (m == ("tree" : Str)) = false := by decide +kernel) (h2 : (m == ("deeds" : Str)) = false := by decide +kernel) (h3 : (m == ("done" : Str)) = false := by decide +kernel) (h4 : (m == ("watches" : Str)) = false := by decide +kernel) : (sfl tr dd dn wt).lookup m = none := by
 unfold sfl
 rw [Uu, h1, Uu, h2, Uu, h3, Uu, h4]
 rfl
theorem ZWB : ZEV "watches" (.ref wt) (ZEV "done" (.ref dn) (ZEV "deeds" (.ref dd) (ZEV "tree" (.ref tr) []))) = sfl tr dd dn wt := by
 have e1 : ¬ ("tree" : Str) = "deeds" := by decide +kernel
 have e2 : ¬ ("tree" : Str) = "done" := by decide +kernel
 have e3 : ¬ ("deeds" : Str) = "done" := by decide +kernel
 have e4 : ¬ ("tree" : Str) = "watches" := by decide +kernel
 have e5 : ¬ ("deeds" : Str) = "watches" := by decide +kernel
 have e6 : ¬ ("done" : Str) = "watches" := by decide +kernel
 show ZEV "watches" (.ref wt) (ZEV "done" (.ref dn) (ZEV "deeds" (.ref dd) [(("tree" : Str), V.ref tr)])) = _
 rw [show ZEV "deeds" (.ref dd) [(("tree" : Str), V.ref tr)] = (if ("tree" : Str) = "deeds" then _ else (("tree" : Str), V.ref tr) :: ZEV "deeds" (.ref dd) []) from rfl, if_neg e1]
 rw [show ZEV "done" (.ref dn) ((("tree" : Str), V.ref tr) :: ZEV "deeds" (.ref dd) []) = (if ("tree" : Str) = "done" then _ else (("tree" : Str), V.ref tr) :: (if ("deeds" : Str) = "done" then _ else (("deeds" : Str), V.ref dd) :: ZEV "done" (.ref dn) [])) from rfl, if_neg e2, if_neg e3]
 show (if ("tree" : Str) = "watches" then _ else (("tree" : Str), V.ref tr) :: (if ("deeds" : Str) = "watches" then _ else (("deeds" : Str), V.ref dd) :: (if ("done" : Str) = "watches" then _ else (("done" : Str), V.ref dn) :: ZEV "watches" (.ref wt) []))) = _
 rw [if_neg e4, if_neg e5, if_neg e6]
 rfl
theorem ZYB {n : Int} {d1 d2 : Addr} : sfl tr dd dn wt ≠ tfl n d1 d2 := fun h => by
 have := congrArg Vl h
 simp [sfl, tfl] at this
end
structure SA where
 p : Addr
 tr : Addr
 d1 : Addr
 d2 : Addr
 dd : Addr
 dn : Addr
 wt : Addr
def SA.ls (S : SA) : List Addr := [S.dd, S.dn, S.wt]
def SA.own (S : SA) : List Addr := [S.tr, S.d1, S.d2, S.dd, S.dn, S.wt]
def ZI8 : Option Int -> V
 | none => .non
 | some i => .int i
theorem ZT3 (o : Option Int) : (o.map V.int).getD .non = ZI8 o := by cases o <;> rfl
def ZE8 (H : Hp) (vs : List V) (ds : List (Int × Option Int)) : Prop := Paired (fun v (q : Int × Option Int) => ∃ b, v = .ref b /\ H b = some (.tup [.int q.1, ZI8 q.2])) vs ds
theorem ZE8.tups {H H' : Hp} {vs : List V} {ds : List (Int × Option Int)} (h : ZE8 H vs ds) (t : ∀ b xs, H b = some (.tup xs) -> H' b = some (.tup xs)) : ZE8 H' vs ds := Paired.mapP h fun _ _ ⟨b, e, z⟩ => ⟨b, e, t _ _ z⟩
theorem ZE8.snoc {H : Hp} : ∀ {vs : List V} {ds : List (Int × Option Int)}, ZE8 H vs ds -> ∀ {b : Addr} {q : Int × Option Int}, H b = some (.tup [.int q.1, ZI8 q.2]) -> ZE8 H (vs ++ [.ref b]) (ds ++ [q])
 | _, _, .nil, _, _, e => .cons ⟨_, rfl, e⟩ .nil
 | _, _, .cons h t, _, _, e => .cons h (ZE8.snoc t e)
theorem ZE8.unsnoc {H : Hp} {q : Int × Option Int} : ∀ {ds : List (Int × Option Int)} {vs : List V}, ZE8 H vs (ds ++ [q]) -> ∃ us b, vs = us ++ [.ref b] /\ ZE8 H us ds /\ H b = some (.tup [.int q.1, ZI8 q.2])
 | [], _, h => by
  cases h with
  | cons h t =>
   cases t
   obtain ⟨b, rfl, e⟩ := h
   exact ⟨[], b, rfl, .nil, e⟩
 | d :: ds, _, h => by
  cases h with
  | cons h t =>
   obtain ⟨us, b, e1, e2, e3⟩ := ZE8.unsnoc t
   subst e1
   exact ⟨_ :: us, b, rfl, .cons h e2, e3⟩
theorem ZE8.len {H : Hp} {vs : List V} {ds : List (Int × Option Int)} (h : ZE8 H vs ds) : vs.length = ds.length := Paired.length h
def ZD7 (a : Ad) (H : Hp) (S : SA) (n : Int) (sm : PL) (c : Nat) (ds : List (Int × Option Int)) (ts : List Int) (ws : List V) : Prop :=
 ∃ dx vs, H S.p = some (.ins a.ZA dx (sfl S.tr S.dd S.dn S.wt)) /\ ZEM a.ZB H S.tr n S.d1 S.d2 sm c /\ H S.dd = some (.lst vs) /\ ZE8 H vs ds /\ H S.dn = some (.lst (ts.map V.int)) /\ H S.wt = some (.lst ws) /\ S.dd ≠ S.dn /\ S.dd ≠ S.wt /\ S.dn ≠ S.wt
def FrS (S : SA) (H H' : Hp) : Prop := ∀ b o, H b = some o -> b ∉ S.own -> H' b = some o
theorem FrS.trans {S : SA} {H H1 H2 : Hp} (h : FrS S H H1) (g : FrS S H1 H2) : FrS S H H2 := fun b o e n => g b o (h b o e n) n
theorem FrS.same {S : SA} {H H' : Hp} (h : ZDq H H') : FrS S H H' := fun b o e _ => h b o e
theorem FrS.kp {S : SA} {H H' : Hp} {q : Addr} (h : Kp q H H') (m : q ∈ S.own) : FrS S H H' := fun b o e n => h b o e fun z => n (z ▸ m)
theorem FrS.fr3 {S : SA} {H H' : Hp} (h : Fr3 S.tr S.d1 S.d2 H H') : FrS S H H' := fun b o e n => h b o e (fun z => n (by simp [SA.own, z])) (fun z => n (by simp [SA.own, z])) (fun z => n (by simp [SA.own, z]))
section
variable {a : Ad} {H H' : Hp} {S : SA} {n : Int} {sm : PL} {c : Nat} {ds : List (Int × Option Int)} {ts : List Int} {ws : List V}
theorem ZD7.tree (h : ZD7 a H S n sm c ds ts ws) : ZEM a.ZB H S.tr n S.d1 S.d2 sm c := let ⟨_, _, _, h, _⟩ := h; h
theorem ZD7.nd (h : ZD7 a H S n sm c ds ts ws) : (sm.map (·.1)).Nodup := h.tree.nd
theorem ZD7.same (h : ZD7 a H S n sm c ds ts ws) (s : ZDq H H') : ZD7 a H' S n sm c ds ts ws := by
 obtain ⟨dx, vs, h1, h2, h3, h4, h5, h6, h7⟩ := h
 exact ⟨dx, vs, s _ _ h1, h2.same s, s _ _ h3, h4.tups fun b xs e => s _ _ e, s _ _ h5, s _ _ h6, h7⟩
theorem ZD7.nown (h : ZD7 a H S n sm c ds ts ws) {b : Addr} {o : HO} (e : H b = some o) (h1 : ∀ C dx fs, o ≠ .ins C dx fs) (h2 : (∃ m, o = .dK m) -> b ≠ S.d1) (h3 : ∀ m, o ≠ .dT m) (h4 : (∃ m, o = .lst m) -> b ∉ S.ls) : b ∉ S.own := by
 obtain ⟨dx, vs, g1, ⟨dy, kvs, t1, t2, t3, _⟩, g3, g4, g5, g6, _⟩ := h
 intro z
 simp only [SA.own, Ul, UC, or_false] at z
 rcases z with z | z | z | z | z | z
 ·rw [z, t1] at e; exact h1 _ _ _ (Option.some.inj e).symm
 ·exact h2 ⟨_, (by rw [z, t2] at e; exact (Option.some.inj e).symm)⟩ z
 ·rw [z, t3] at e; exact h3 _ (Option.some.inj e).symm
 ·exact h4 ⟨_, (by rw [z, g3] at e; exact (Option.some.inj e).symm)⟩ (by simp [SA.ls, z])
 ·exact h4 ⟨_, (by rw [z, g5] at e; exact (Option.some.inj e).symm)⟩ (by simp [SA.ls, z])
 ·exact h4 ⟨_, (by rw [z, g6] at e; exact (Option.some.inj e).symm)⟩ (by simp [SA.ls, z])
theorem ZD7.kpL (h : ZD7 a H S n sm c ds ts ws) {q : Addr} {xs : List V} (k : Kp q H H') (hq : H q = some (.lst xs)) (nq : q ∉ S.ls) : ZD7 a H' S n sm c ds ts ws := by
 obtain ⟨dx, vs, h1, h2, h3, h4, h5, h6, h7⟩ := h
 simp only [SA.ls, Ul, UC, or_false, not_or] at nq
 exact ⟨dx, vs, k _ _ h1 (fun z => by rw [z, hq] at h1; cases h1), h2.kpX k hq, k _ _ h3 (Ne.symm nq.1), h4.tups (fun b xs e => k _ _ e (fun z => by rw [z, hq] at e; cases e)), k _ _ h5 (Ne.symm nq.2.1), k _ _ h6 (Ne.symm nq.2.2), h7⟩
theorem ZD7.fr3 (h : ZD7 a H S n sm c ds ts ws) {n' : Int} {sm' : PL} {c' : Nat} (f : Fr3 S.tr S.d1 S.d2 H H') (t : ZEM a.ZB H' S.tr n' S.d1 S.d2 sm' c') : ZD7 a H' S n' sm' c' ds ts ws := by
 obtain ⟨dx, vs, h1, h2, h3, h4, h5, h6, h7⟩ := h
 refine ⟨dx, vs, ?_, t, h2.keepL f h3, h4.tups (fun b xs e => h2.keepT f e), h2.keepL f h5, h2.keepL f h6, h7⟩
 obtain ⟨dy, kvs, t1, t2, t3, _⟩ := h2
 exact f _ _ h1 (fun z => by rw [z, t1] at h1; injection h1 with h1; injection h1 with _ _ h3; exact ZYB h3.symm) (fun z => by rw [z, t2] at h1; cases h1) (fun z => by rw [z, t3] at h1; cases h1)
theorem ZD7.kpDone (h : ZD7 a H S n sm c ds ts ws) {ts' : List Int} (k : Kp S.dn H H') (f : H' S.dn = some (.lst (ts'.map V.int))) : ZD7 a H' S n sm c ds ts' ws := by
 obtain ⟨dx, vs, h1, h2, h3, h4, h5, h6, h7, h8, h9⟩ := h
 exact ⟨dx, vs, k _ _ h1 (fun z => by rw [z, h5] at h1; cases h1), h2.kpX k h5, k _ _ h3 h7, h4.tups (fun b xs e => k _ _ e (fun z => by rw [z, h5] at e; cases e)), f, k _ _ h6 (Ne.symm h9), h7, h8, h9⟩
theorem ZD7.kpDeeds (h : ZD7 a H S n sm c ds ts ws) {ds' : List (Int × Option Int)} {vs' : List V} (k : Kp S.dd H H') (f : H' S.dd = some (.lst vs')) (g : ZE8 H' vs' ds') : ZD7 a H' S n sm c ds' ts ws := by
 obtain ⟨dx, vs, h1, h2, h3, h4, h5, h6, h7, h8, h9⟩ := h
 exact ⟨dx, vs', k _ _ h1 (fun z => by rw [z, h3] at h1; cases h1), h2.kpX k h3, f, g, k _ _ h5 (Ne.symm h7), k _ _ h6 (Ne.symm h8), h7, h8, h9⟩
end
def ZFn (m : PL) (t : Int) : Option Int -> PL
 | none => ZFt m t
 | some h => ZEI m t h
section
variable {P : Program} {w : World} {K : W.Frag} {mg : Str -> Option Value} {base : Heap} {a : Ad}
local macro_rules | `(tactic| walk_at "rd") => `(tactic| first
 | with_reducible first | refine ZFH (by assumption) (‹Txt _ _ _›).ZG (‹Txt _ _ _›).ZO ZG6 ?_ | refine ZFH (by assumption) (‹Txt _ _ _›).ZH (‹Txt _ _ _›).JZ ZT1 ?_ | refine ZFH (by assumption) (‹Txt _ _ _›).ZH (‹Txt _ _ _›).JD ZRo ?_ | refine ZFH (by assumption) (‹Txt _ _ _›).ZH (‹Txt _ _ _›).JP ZT2 ?_ | refine ZFH (by assumption) (‹Txt _ _ _›).ZH (‹Txt _ _ _›).YK ZOn ?_)
def ZWC (C : Addr) : Sp := fun vs H Q _ => ∃ (p d1 d2 : Addr) (n t v : Int) (sm : PL) (c : Nat), vs = [.ref p, .int t] /\ ZEM C H p n d1 d2 sm c /\ ZEE sm t = some v /\ c <= 1000 /\
 ∀ H', ZEM C H' p n d1 d2 (ZFt sm t) (c + 1) -> Fr3 p d1 d2 H H' -> Q .non H'
theorem ZOF : ZDw ["self", "t"] ["self", "t"] (ZDo ZII) := ZEB
theorem ZOG (T : Txt K mg a) : ZD2 P w K mg base CX0 4 a.YV a.YQ ["self", "t"] (ZWC a.ZB) := by
 refine T.ZBp.ok ZOF (by walk_at "l") (fun cdv A outer s H vs Q E hr h => ?_)
 ·obtain ⟨p, d1, d2, n, t, v, sm, c, rfl, ⟨dx, kvs, hp, h1, h2, hnd, hkf, hlen⟩, hg, hc, k⟩ := h
  have np1 : p ≠ d1 := fun z => by subst z; rw [hp] at h1; cases h1
  have n21 : d2 ≠ d1 := fun z => by subst z; rw [h1] at h2; cases h2
  refine ⟨_, QB.h (ZDm (ZEH (ZTk (ZEq K rfl (qv 0)) (qv 1))) (ZDp (ZEH (ZEo (qv 0) T.ZG T.JI (ZJJ T) hr T.JV .nil ZEk (ZDk (qv 1) (ZDk ZFw ZDl)))))), ?_⟩
  walk_at "s"
  walk_at "w"
  refine ZTm h1 ?_
  walk_at "w"
  refine ZTn h1 hg fun H3 f3 K3 => ?_
  have hp3 := K3 _ _ hp np1
  have h23 := K3 _ _ h2 n21
  have hk3 : ZFC H3 kvs (ZFt sm t) (fun l s => s ≠ t / 2 ^ l) := (ZFC.other hkf fun q hq => by
   rw [ZH1]
   exact ⟨fun z => ⟨hq, z⟩, fun z => z.2⟩).kpX K3 h1 (fun xs z => by cases z)
  walk_at "w"
  refine ZES hp3 ZHr ?_
  walk_at "w"
  refine ⟨p, d1, d2, dx, n, t, .non, none, ZFt sm t, kvs, c, rfl, hp3, f3, h23, ZIE hnd, hk3, hlen, hc, .non, .inl ⟨rfl, ?_⟩, fun H7 hT7 K7 => ?_⟩
  ·cases e : inS (ZFt sm t) 0 t with
   | nil => rfl
   | cons q qs =>
    have hq : q ∈ inS (ZFt sm t) 0 t := by rw [e]; exact UA
    rw [ZGB, ZH1] at hq
    simp only [Int.pow_zero, Int.ediv_one] at hq
    exact absurd hq.2 hq.1.1
  ·walk_at "w"
   exact k H7 hT7 fun b o e e1 e2 e3 => K7 _ _ (K3 _ _ e e2) e3
def ZWD (a : Ad) : Sp := fun vs H Q _ => ∃ (p dx : Addr) (x : V) (cv : PL), vs = [.ref p, x] /\ H p = some (.ins a.ZA dx []) /\ ((x = .non /\ cv = []) \/ ∃ t, x = .ref t /\ PrT H t cv) /\ (cv.map (·.1)).Nodup /\ (∀ q ∈ cv, Tm q.1) /\ cv.length <= 100 /\
 ∀ (S : SA) (sm : PL) (H' : Hp), S.p = p -> (∀ b ∈ S.own, H b = none) -> ZD7 a H' S 0 sm cv.length [] [] [] -> (∀ q, q ∈ sm ↔ q ∈ cv) -> sm.length <= cv.length -> Kp p H H' -> Q .non H'
theorem ZKA : ZDw ["self", "curve"] ["self", "curve"] (ZDo ZEb) := ZEB
theorem ZKB (T : Txt K mg a) : ZD2 P w K mg base CX0 7 a.ZX a.ZJ ["self", "curve"] (ZWD a) := by
 refine T.ZAI.ok ZKA (by walk_at "l") (fun cdv A outer s H vs Q E hr h => ?_)
 ·obtain ⟨p, dx, x, cv, rfl, hp, hx, hnd, htm, hlen, k⟩ := h
  refine ⟨_, QB.h (ZDm (ZHB K rfl (qv 0) (ZVo T.ZCv (ZKq T) hr rfl T.ZDR T.ZAl .nil ZEk (ZDk (qv 1) ZDl))) (ZDm (ZHB K rfl (qv 0) (ZFN ZDl)) (ZDm (ZHB K rfl (qv 0) (ZFN ZDl)) (ZDp (ZHB K rfl (qv 0) (ZFN ZDl)))))), ?_⟩
  walk_at "s"
  walk_at "w"
  refine ZLo fun tr dt H1 n1 f1 S1 => ?_
  refine ⟨tr, dt, x, cv, rfl, f1, ?_, hnd, htm, hlen, fun d1 d2 sm H2 m1 m2 hT2 hm hl K2 => ⟨rfl, ?_⟩⟩
  ·rcases hx with h | ⟨t, h1, h2⟩
   ·exact .inl h
   ·exact .inr ⟨t, h1, h2.same S1⟩
  have S02 : ZDq H H2 := fun b o e => K2 _ _ (S1 _ _ e) (ZET e n1)
  have hp2 := S02 _ _ hp
  have nt : tr ≠ p := fun z => by rw [z, hp] at n1; cases n1
  have free : ∀ {b : Addr}, H1 b = none -> H b = none := fun {b} e => by
   cases e2 : H b with
   | none => rfl
   | some o => rw [S1 _ _ e2] at e; cases e
  have free2 : ∀ {b : Addr}, H2 b = none -> H b = none := fun {b} e => by
   cases e2 : H b with
   | none => rfl
   | some o => rw [S02 _ _ e2] at e; cases e
  walk_at "w"
  refine ZGW hp2 T.ZH T.JZ (by show 0 < 1000; decide) fun H3 f3 K3 => ?_
  walk_at "w"
  refine ZD9 (by show 0 <= sizeLine; decide) fun dd H4 n4 f4 S4 => ?_
  have np4 : dd ≠ p := fun z => by rw [z, f3] at n4; cases n4
  walk_at "w"
  refine ZGW (S4 _ _ f3) T.ZH T.JD (by show 1 < 1000; decide) fun H5 f5 K5 => ?_
  walk_at "w"
  refine ZD9 (by show 0 <= sizeLine; decide) fun dn H6 n6 f6 S6 => ?_
  have np6 : dn ≠ p := fun z => by rw [z, f5] at n6; cases n6
  walk_at "w"
  refine ZGW (S6 _ _ f5) T.ZH T.JP (by show 2 < 1000; decide) fun H7 f7 K7 => ?_
  walk_at "w"
  refine ZD9 (by show 0 <= sizeLine; decide) fun wt H8 n8 f8 S8 => ?_
  have np8 : wt ≠ p := fun z => by rw [z, f7] at n8; cases n8
  walk_at "w"
  refine ZGW (S8 _ _ f7) T.ZH T.YK (by show 3 < 1000; decide) fun H9 f9 K9 => ?_
  rw [ZWB] at f9
  have K29 : Kp p H2 H9 := (((((K3.then S4).trans K5).then S6).trans K7).then S8).trans K9
  have K24 : Kp p H2 H5 := (K3.then S4).trans K5
  have K26 : Kp p H2 H7 := (K24.then S6).trans K7
  have g4 : H9 dd = some (.lst []) := K9 _ _ (S8 _ _ (K7 _ _ (S6 _ _ (K5 _ _ f4 np4)) np4)) np4
  have g6 : H9 dn = some (.lst []) := K9 _ _ (S8 _ _ (K7 _ _ f6 np6)) np6
  have g8 : H9 wt = some (.lst []) := K9 _ _ f8 np8
  have e46 : dd ≠ dn := fun z => by rw [<- z, K5 _ _ f4 np4] at n6; cases n6
  have e48 : dd ≠ wt := fun z => by rw [<- z, K7 _ _ (S6 _ _ (K5 _ _ f4 np4)) np4] at n8; cases n8
  have e68 : dn ≠ wt := fun z => by rw [<- z, K7 _ _ f6 np6] at n8; cases n8
  have hT9 : ZEM a.ZB H9 tr 0 d1 d2 sm cv.length := by
   obtain ⟨dy, kvs, t1, t2, t3, t4, t5, t6⟩ := hT2
   have nt2 : ∀ {b : Addr} {xs : List V}, H2 b = some (.tup xs) -> H9 b = some (.tup xs) := fun e => K29 _ _ e (fun z => by rw [z, hp2] at e; cases e)
   exact ⟨dy, kvs, K29 _ _ t1 nt, K29 _ _ t2 (fun z => by rw [z, hp2] at t2; cases t2), K29 _ _ t3 (fun z => by rw [z, hp2] at t3; cases t3), t4, t5.tups (fun b xs e => nt2 e), t6⟩
  have fr4 : H dd = none := by
   cases e : H dd with
   | none => rfl
   | some o => rw [K3 _ _ (S02 _ _ e) np4] at n4; cases n4
  have fr6 : H dn = none := by
   cases e : H dn with
   | none => rfl
   | some o => rw [K24 _ _ (S02 _ _ e) np6] at n6; cases n6
  have fr8 : H wt = none := by
   cases e : H wt with
   | none => rfl
   | some o => rw [K26 _ _ (S02 _ _ e) np8] at n8; cases n8
  walk_at "w"
  refine k ⟨p, tr, d1, d2, dd, dn, wt⟩ sm H9 rfl (fun b hb => ?_) ⟨dx, [], f9, hT9, g4, .nil, g6, g8, e46, e48, e68⟩ hm hl ((Kp.same S02).trans K29)
  simp only [SA.own, Ul, UC, or_false] at hb
  rcases hb with rfl | rfl | rfl | rfl | rfl | rfl
  ·exact n1
  ·exact free m1
  ·exact free m2
  ·exact fr4
  ·exact fr6
  ·exact fr8
def ZT4 (a : Ad) : Sp := fun vs H Q _ => ∃ (S : SA) (n t : Int) (o : Option Int) (sm : PL) (c : Nat) (ds : List (Int × Option Int)) (ts : List Int) (ws : List V), vs = [.ref S.p, .int t, ZI8 o] /\ ZD7 a H S n sm c ds ts ws /\
 Tm t /\ (o = none -> (ZEE sm t).isSome = true) /\ c <= 900 /\ sm.length <= 900 /\ ts.length <= 900 /\
 ∀ H', ZD7 a H' S n (ZFn sm t o) (c + 1) ds (ts ++ [t]) ws -> FrS S H H' -> Q .non H'
theorem ZLv : ZDw ["self", "t", "h"] ["self", "t", "h"] (ZDo ZHH) := ZEB
theorem ZIb (T : Txt K mg a) : ZD2 P w K mg base CX0 5 a.Zz a.Zw ["self", "t", "h"] (ZT4 a) := by
 refine T.ZBG.ok ZLv (by walk_at "l") (fun cdv A outer s H vs Q E hr h => ?_)
 ·obtain ⟨S, n, t, o, sm, c, ds, ts, ws, rfl, hS, ht, ho, hc, hsl, htl, k⟩ := h
  refine ⟨_, QB.h (ZDm (ZEw (ZEC (ZNL) (qv 2) ZFw (ZEL _)) (ZDp (ZEH (ZEo (ZEq K rfl (qv 0)) T.ZG T.ZBh (ZOG T) hr T.ZBl .nil ZEk (ZDk (qv 1) ZDl)))) (ZDp (ZEH (ZEo (ZEq K rfl (qv 0)) T.ZG T.ZAg (ZKL T) hr T.ZAn .nil ZEk (ZDk (qv 1) (ZDk (qv 2) ZDl)))))) (ZDp (ZEH (ZGL PySem.F.plainAttrs_list PySem.F.slot_list_append PySem.F.type_list_append ZFK (ZEq K rfl (qv 0)) (ZDk (qv 1) ZDl))))), ?_⟩
  walk_at "s"
  have fin : ∀ H1, ZEM a.ZB H1 S.tr n S.d1 S.d2 (ZFn sm t o) (c + 1) -> Fr3 S.tr S.d1 S.d2 H H1 -> ZD7 a H1 S n (ZFn sm t o) (c + 1) ds ts ws := fun H1 hT F => hS.fr3 F hT
  obtain ⟨dx, vs, hp, hT, _⟩ := id hS
  obtain ⟨dy, kvs, hq, _⟩ := id hT
  walk_at "w"
  cases o with
  | none =>
   obtain ⟨v, hv⟩ := Option.isSome_iff_exists.mp (ho rfl)
   refine ZEc (fun _ => ?_) (fun h => absurd rfl h)
   walk_at "w"
   refine ZES hq ZHr ?_
   walk_at "w"
   refine ⟨S.tr, S.d1, S.d2, n, t, v, sm, c, rfl, hT, hv, by omega, fun H1 hT1 F1 => ?_⟩
   have hS1 := fin H1 hT1 F1
   obtain ⟨dx1, vs1, hp1, hT1', hd1, hD1, hn1, hw1, hne⟩ := id hS1
   walk_at "w"
   refine ⟨tyL hn1, ?_⟩
   walk_at "w"
   refine ZFV hn1 (by rw [Uf]; exact Um htl (by decide)) fun H2 f2 K2 => ?_
   walk_at "w"
   exact k H2 (hS1.kpDone K2 (by rw [Us]; exact f2)) ((FrS.fr3 F1).trans (.kp K2 (by simp [SA.own])))
  | some h =>
   refine ZEc (fun h => by simp [ZI8] at h) (fun _ => ?_)
   walk_at "w"
   refine ZES hq ZHr ?_
   walk_at "w"
   refine ⟨S.tr, S.d1, S.d2, n, t, h, sm, c, rfl, hT, ht, by omega, by omega, fun H1 hT1 F1 => ?_⟩
   have hS1 := fin H1 hT1 F1
   obtain ⟨dx1, vs1, hp1, hT1', hd1, hD1, hn1, hw1, hne⟩ := id hS1
   walk_at "w"
   refine ⟨tyL hn1, ?_⟩
   walk_at "w"
   refine ZFV hn1 (by rw [Uf]; exact Um htl (by decide)) fun H2 f2 K2 => ?_
   walk_at "w"
   exact k H2 (hS1.kpDone K2 (by rw [Us]; exact f2)) ((FrS.fr3 F1).trans (.kp K2 (by simp [SA.own])))
def ZYq (a : Ad) : Sp := fun vs H Q _ => ∃ (S : SA) (n t : Int) (o : Option Int) (sm : PL) (c : Nat) (ds : List (Int × Option Int)) (ts : List Int) (ws : List V), vs = [.ref S.p, .int t, ZI8 o] /\ ZD7 a H S n sm c ds ts ws /\
 Tm t /\ (o = none -> (ZEE sm t).isSome = true) /\ c <= 900 /\ sm.length <= 900 /\ ts.length <= 900 /\ ds.length <= 900 /\
 ∀ H', ZD7 a H' S n (ZFn sm t o) (c + 1) (ds ++ [(t, ZEE sm t)]) (ts ++ [t]) ws -> FrS S H H' -> Q (ZI8 (ZEE sm t)) H'
theorem ZKM : ZDw ["self", "t", "h", "before"] ["self", "t", "h"] (ZDo ZI3) := ZEB
theorem ZOo (T : Txt K mg a) : ZD2 P w K mg base CX0 6 a.Yu a.Y1 ["self", "t", "h"] (ZYq a) := by
 refine T.ZCJ.ok ZKM (by walk_at "l") (fun cdv A outer s H vs Q E hr h => ?_)
 ·obtain ⟨S, n, t, o, sm, c, ds, ts, ws, rfl, hS, ht, ho, hc, hsl, htl, hdl, k⟩ := h
  have hu := ZF6 hr
  refine ⟨_, QB.h (ZDm (qsS (i := 3) ZKM.nd (ZIs hu (ZEq K rfl (ZEq K rfl (qv 0))) (qv 1))) (ZDm (ZEH (ZEo (qv 0) T.ZH T.Y7 (ZIb T) hr T.JC .nil ZEk (ZDk (qv 1) (ZDk (qv 2) ZDl)))) (ZDm (ZEH (ZGL PySem.F.plainAttrs_list PySem.F.slot_list_append PySem.F.type_list_append ZFK (ZEq K rfl (qv 0)) (ZDk (ZEh (ZDk (qv 1) (ZDk (qv 3) ZDl))) ZDl))) (ZDp (ZDz (qv 3)))))), ?_⟩
  walk_at "s"
  obtain ⟨dx, vs, hp, hT, _⟩ := id hS
  obtain ⟨dy, kvs, hq, hd1, _⟩ := id hT
  walk_at "w"
  refine ZRP hd1 ?_
  walk_at "w"
  refine ZTd hd1 ?_
  rw [ZT3]
  walk_at "w"
  refine ZES hp ZHs ?_
  walk_at "w"
  refine ⟨S, n, t, o, sm, c, ds, ts, ws, rfl, hS, ht, ho, hc, hsl, htl, fun H1 hS1 F1 => ?_⟩
  obtain ⟨dx1, vs1, hp1, hT1, hd1, hD1, _⟩ := id hS1
  walk_at "w"
  refine ⟨tyL hd1, ?_⟩
  walk_at "w"
  refine ZD9 (by show 2 <= sizeLine; decide) fun b H2 n2 f2 S2 => ?_
  walk_at "w"
  refine ZFV (S2 _ _ hd1) (by rw [hD1.len]; exact Um hdl (by decide)) fun H3 f3 K3 => ?_
  have nt : ∀ {b : Addr} {xs : List V}, H2 b = some (.tup xs) -> H3 b = some (.tup xs) := fun e => K3 _ _ e (fun z => by rw [z, S2 _ _ hd1] at e; cases e)
  walk_at "w"
  exact k H3 ((hS1.same S2).kpDeeds K3 f3 (((hD1.tups fun b xs e => S2 _ _ e).tups fun b xs e => nt e).snoc (q := (t, ZEE sm t)) (nt f2))) ((F1.trans (.same S2)).trans (.kp K3 (by simp [SA.own])))
def ZYC (a : Ad) : Sp := fun vs H Q _ => ∃ (S : SA) (n t h : Int) (sm : PL) (c : Nat) (ds : List (Int × Option Int)) (ts : List Int) (ws : List V), vs = [.ref S.p, .int t, .int h] /\ ZD7 a H S n sm c ds ts ws /\
 Tm t /\ c <= 900 /\ sm.length <= 900 /\ ts.length <= 900 /\ ds.length <= 900 /\
 ∀ H', ZD7 a H' S n (ZEI sm t h) (c + 1) (ds ++ [(t, ZEE sm t)]) (ts ++ [t]) ws -> FrS S H H' -> Q (ZI8 (ZEE sm t)) H'
theorem ZOH : ZDw ["self", "t", "h"] ["self", "t", "h"] (ZDo ZIK) := ZEB
theorem ZJt (T : Txt K mg a) : ZD2 P w K mg base CX0 7 a.Yi a.Yg ["self", "t", "h"] (ZYC a) := by
 refine T.ZBg.ok ZOH (by walk_at "l") (fun cdv A outer s H vs Q E hr h => ?_)
 ·obtain ⟨S, n, t, h, sm, c, ds, ts, ws, rfl, hS, ht, hc, hsl, htl, hdl, k⟩ := h
  refine ⟨_, QB.h (ZDm (ZEH (qcS (ZJI T) hr.m T.Jq T.Z8.kp T.JW (ZDk (qv 1) ZDl))) (ZDp (ZDz (ZEo (qv 0) T.ZH T.ZCI (ZOo T) hr T.ZB6 .nil ZEk (ZDk (qv 1) (ZDk (qv 2) ZDl)))))), ?_⟩
  walk_at "s"
  obtain ⟨dx, vs, hp, hT, _⟩ := id hS
  walk_at "w"
  refine ⟨t, rfl, ht, ?_⟩
  walk_at "w"
  refine ZES hp ZHs ?_
  walk_at "w"
  exact ⟨S, n, t, some h, sm, c, ds, ts, ws, rfl, hS, ht, (fun z => by cases z), hc, hsl, htl, hdl, fun H1 hS1 F1 => k H1 hS1 F1⟩
def ZWE (a : Ad) : Sp := fun vs H Q _ => ∃ (S : SA) (n : Int) (sm : PL) (c : Nat) (ds : List (Int × Option Int)) (ts : List Int) (ws : List V), vs = [.ref S.p] /\ ZD7 a H S n sm c ds ts ws /\
  ((ds = [] /\ Q (.bl false) H) \/ ∃ ds' t o, ds = ds' ++ [(t, o)] /\ Tm t /\ (o = none -> (ZEE sm t).isSome = true) /\ c <= 900 /\ sm.length <= 900 /\ ts.length <= 900 /\
    ∀ H', ZD7 a H' S n (ZFn sm t o) (c + 1) ds' (ts ++ [t]) ws -> FrS S H H' -> Q (.bl true) H')
theorem ZHL : ZDw ["self", "t", "before"] ["self"] (ZDo ZHn) := ZEB
theorem ZMt (T : Txt K mg a) : ZD2 P w K mg base CX0 6 a.YB a.YC ["self"] (ZWE a) := by
 refine T.ZBZ.ok ZHL (by walk_at "l") (fun cdv A outer s H vs Q E hr h => ?_)
 ·obtain ⟨S, n, sm, c, ds, ts, ws, rfl, hS, k⟩ := h
  refine ⟨_, QB.h (ZDm (ZEw (ZEC (ZJy) (ZEA (ZIU K rfl) rfl T.Z7 ZHc (ZDk (ZEq K rfl (qv 0)) ZDl)) ZDn (ZEL _)) (ZDp (ZDz ZJ2)) ZEX) (ZDm (ZFZ (ZXq PySem.F.plainAttrs_list PySem.F.slot_list_pop PySem.F.type_list_pop ZW6 (ZEq K rfl (qv 0))) (ZEz (n := 2) K rfl rfl (ZDy (qgN (i := 1) ZHL.nd) (ZDy (qgN (i := 2) ZHL.nd) ZEi)))) (ZDm (ZEH (ZEo (qv 0) T.ZH T.Y7 (ZIb T) hr T.JC .nil ZEk (ZDk (qv 1) (ZDk (qv 2) ZDl)))) (ZDp (ZDz ZJ2))))), ?_⟩
  walk_at "s"
  obtain ⟨dx, vs, hp, hT, hd, hD, _⟩ := id hS
  have hvl := hD.len
  walk_at "w"
  rw [ZMy]
  rcases k with ⟨rfl, q⟩ | ⟨ds', t, o, rfl, ht, ho, hc, hsl, htl, k⟩
  ·refine ZEc (fun _ => ?_) (fun h => absurd (by rw [hvl]; rfl) h)
   walk_at "w"
   exact q
  ·refine ZEc (fun h => ?_) (fun _ => ?_)
   ·rw [hvl, UN] at h
    simp at h
    omega
   obtain ⟨us, b, rfl, hD', hb⟩ := hD.unsnoc
   walk_at "w"
   refine ⟨tyL hd, ?_⟩
   refine ZX3 hd fun H1 f1 K1 => ?_
   have hb1 := K1 _ _ hb (fun z => by rw [z, hd] at hb; cases hb)
   have nt : ∀ {b : Addr} {xs : List V}, H b = some (.tup xs) -> H1 b = some (.tup xs) := fun e => K1 _ _ e (fun z => by rw [z, hd] at e; cases e)
   have hS1 := hS.kpDeeds K1 f1 (hD'.tups fun b xs e => nt e)
   obtain ⟨dx1, vs1, hp1, _⟩ := id hS1
   walk_at "w"
   refine ZES hp1 ZHs ?_
   walk_at "w"
   refine ⟨S, n, t, o, sm, c, ds', ts, ws, rfl, hS1, ht, ho, hc, hsl, htl, fun H2 hS2 F2 => ?_⟩
   walk_at "w"
   exact k H2 hS2 ((FrS.kp K1 (by simp [SA.own])).trans F2)
def ZT5 (a : Ad) : Sp := fun vs H Q _ => ∃ (S : SA) (q : Addr) (n b y m : Int) (sm : PL) (c : Nat) (ds : List (Int × Option Int)) (ts : List Int) (ws : List V), vs = [.ref S.p, .ref q] /\ ZD7 a H S n sm c ds ts ws /\ ZIM H q b y m /\
 ∀ (u : Addr) (us : List V) (fs : List (Option (PL))) (n' : Int) (H' : Hp), H' u = some (.tup us) -> ZEl H' us fs -> ZRU sm b y m.toNat fs -> ZD7 a H' S n' sm c ds ts ws -> Kp S.tr H H' -> Q (.ref u) H'
theorem ZLw : ZDw ["self", "window"] ["self", "window"] (ZDo ZHI) := ZEB
theorem ZLx (T : Txt K mg a) : ZD2 P w K mg base CX0 7 a.Z5 a.Z3 ["self", "window"] (ZT5 a) := by
 refine T.ZBE.ok ZLw (by walk_at "l") (fun cdv A outer s H vs Q E hr h => ?_)
 ·obtain ⟨S, q, n, b, y, m, sm, c, ds, ts, ws, rfl, hS, hW, k⟩ := h
  refine ⟨_, QB.h (ZDp (ZDz (ZEo (ZEq K rfl (qv 0)) T.ZG T.ZBR (ZMs T) hr T.ZBN .nil ZEk (ZDk (qv 1) ZDl)))), ?_⟩
  walk_at "s"
  obtain ⟨dx, vs, hp, hT, _⟩ := id hS
  obtain ⟨dy, kvs, hq, hd1, _⟩ := id hT
  walk_at "w"
  refine ZES hq ZHr ?_
  walk_at "w"
  exact ⟨S.tr, q, S.d1, S.d2, n, b, y, m, sm, c, rfl, hT, hW, fun u us fs n' H1 h1 g1 z1 hT1 K1 => k u us fs n' H1 h1 g1 z1 (hS.fr3 (ZYA K1) hT1) K1⟩
end
section
variable {a : Ad} {H H' : Hp} {S : SA} {n : Int} {sm : PL} {c : Nat} {ds : List (Int × Option Int)} {ts : List Int} {ws : List V}
theorem ZD7.live (h : ZD7 a H S n sm c ds ts ws) : ∀ b ∈ S.p :: S.own, ∃ o, H b = some o := by
 obtain ⟨dx, vs, h1, ⟨dy, kvs, t1, t2, t3, _⟩, h3, h4, h5, h6, h7⟩ := h
 intro b hb
 simp only [SA.own, Ul, UC, or_false] at hb
 rcases hb with rfl | rfl | rfl | rfl | rfl | rfl | rfl
 ·exact ⟨_, h1⟩
 ·exact ⟨_, t1⟩
 ·exact ⟨_, t2⟩
 ·exact ⟨_, t3⟩
 ·exact ⟨_, h3⟩
 ·exact ⟨_, h5⟩
 ·exact ⟨_, h6⟩
theorem ZD7.noTup (h : ZD7 a H S n sm c ds ts ws) : ∀ b ∈ S.own, ∀ xs, H b ≠ some (.tup xs) := by
 obtain ⟨dx, vs, h1, ⟨dy, kvs, t1, t2, t3, _⟩, h3, h4, h5, h6, h7⟩ := h
 intro b hb xs e
 simp only [SA.own, Ul, UC, or_false] at hb
 rcases hb with rfl | rfl | rfl | rfl | rfl | rfl
 ·rw [t1] at e; cases e
 ·rw [t2] at e; cases e
 ·rw [t3] at e; cases e
 ·rw [h3] at e; cases e
 ·rw [h5] at e; cases e
 ·rw [h6] at e; cases e
theorem ZD7.frL (h : ZD7 a H S n sm c ds ts ws) {l : List Addr} (f : FrL l H H') (d : ∀ b ∈ l, b ∉ S.p :: S.own) (nt : ∀ b ∈ l, ∀ xs, H b ≠ some (.tup xs)) : ZD7 a H' S n sm c ds ts ws := by
 obtain ⟨dx, vs, h1, ⟨dy, kvs, t1, t2, t3, t4, t5, t6⟩, h3, h4, h5, h6, h7⟩ := h
 have k : ∀ b o, H b = some o -> b ∈ S.p :: S.own -> H' b = some o := fun b o e m => f _ _ e fun z => d b z m
 have kt : ∀ b xs, H b = some (.tup xs) -> H' b = some (.tup xs) := fun b xs e => f _ _ e fun z => nt b z xs e
 exact ⟨dx, vs, k _ _ h1 (by simp), ⟨dy, kvs, k _ _ t1 (by simp [SA.own]), k _ _ t2 (by simp [SA.own]), k _ _ t3 (by simp [SA.own]), t4, t5.tups kt, t6⟩, k _ _ h3 (by simp [SA.own]), h4.tups kt, k _ _ h5 (by simp [SA.own]), k _ _ h6 (by simp [SA.own]), h7⟩
end
def BP (cv : PL) : Prop := ∀ p ∈ cv, Bn 200 p.1 /\ Bn 200 p.2
theorem bn1 : Bn 200 1 := by unfold Bn; decide
section
variable {P : Program} {w : World} {K : W.Frag} {mg : Str -> Option Value} {base : Heap} {a : Ad}
def ZYD (K : W.Frag) : Sp := fun vs H Q _ => ∃ (t : Addr) (cv : PL) (b e : Int), vs = [.ref t, .int b, .int e] /\ PrT H t cv /\ cv.length <= 1000 /\
 ∀ (u : Addr) (H' : Hp), PrT H' u (inCol cv b e) -> ZDq H H' -> Q (.ref u) H'
theorem ZQM : ZDw ["curve", "begin", "end"] ["curve", "begin", "end"] (ZDo ZH2) := ZEB
theorem ZLT (T : Txt K mg a) : ZD2 P w K mg base CX0 1 a.JK a.JN ["curve", "begin", "end"] (ZYD K) := by
 refine T.Je.ok ZQM (by walk_at "l") (fun cdv A outer s H vs Q E hr h => ?_)
 ·obtain ⟨t, cv, b, e, rfl, ⟨us, hT0, hP⟩, hlen, k⟩ := h
  have hT : SqT K H t us := SqT.of hT0
  refine ⟨_, QB.h (ZDp (ZDz (ZFU (ZGt K rfl) rfl T.Za ZGr (ZDk (ZFY (N := ["curve", "begin", "end"]) (sc := ZDo ZH2) (own := ["t", "h"]) (caps := ["begin", "end"]) (ks := [1, 2]) rfl rfl rfl ⟨rfl, by decide +kernel, by decide +kernel, by decide +kernel, by decide +kernel, rfl, by decide +kernel⟩ (ZIV K rfl (qv 0)) (fun _ _ _ _ _ => ZEz (n := 2) K rfl rfl (ZDy (ZEa (i := 0) (show List.Nodup (α := Str) ["t", "h", "begin", "end"] from by decide +kernel) rfl (by walk_at "o") (.inr rfl)) (ZDy (ZEa (i := 1) (show List.Nodup (α := Str) ["t", "h", "begin", "end"] from by decide +kernel) rfl (by walk_at "o") (.inr rfl)) ZEi))) (fun _ _ _ _ _ => ZHg (ZIh ZF4 ZGZ (qv 2) (qv 0) (qv 3))) (fun _ _ _ _ _ => ZEh (ZDk (qv 0) (ZDk (qv 1) ZDl)))) ZDl)))), ?_⟩
  walk_at "s"
  walk_at "w"
  intro l hl
  refine ZEu cv.length (fun i U' H' => (∃ o1 o2, U' = [o1, o2, some (.int b), some (.int e)]) /\ ZDq H H' /\ ∃ vs, H' l = some (.lst vs) /\ ZDv H' vs (inCol (cv.take i) b e)) ?_ ?_ ?_
  ·exact ⟨⟨none, none, rfl⟩, ZDq.new hl, [], ZDr, .nil⟩
  ·rintro U H' ⟨_, s, vs, f, hPc⟩
   refine ⟨⟨_, s.seqT hT, by rw [hP.length]; exact Ud _⟩, ?_⟩
   walk_at "w"
   refine ZHU (SqL.of f) fun u H4 n4 f4 S4 => ?_
   rw [UQ] at hPc
   exact k u H4 ⟨vs, f4, hPc.same S4⟩ (s.trans S4)
  ·rintro i U H' hi ⟨⟨o1, o2, rfl⟩, s, vs, f, hPc⟩
   have hi2 : i < us.length := by rw [hP.length]; exact hi
   refine ⟨⟨_, _, s.seqT hT, Uc hi2⟩, ?_⟩
   rintro u H'' ⟨rfl, hu'⟩
   have hu' := hu' _ (s.seqT hT)
   obtain ⟨c, p, rfl, hp, hc⟩ := (hP.same s).at hu'
   have e3 : cv.take (i + 1) = cv.take i ++ [p] := by
    rw [US, hp]
    rfl
   have e4 : inCol (cv.take (i + 1)) b e = inCol (cv.take i) b e ++ (if (decide (b <= p.1) && decide (p.1 < e)) = true then [p] else []) := by
    rw [e3, inCol, List.filter_append]
    congr 1
    simp only [List.filter_cons, List.filter_nil]
   walk_at "w"
   refine ZEc (fun h1 => ?_) (fun h1 => ?_)
   ·walk_at "w"
    refine ZEc (fun h2 => ?_) (fun h2 => ?_)
    ·walk_at "w"
     refine ZD9 (by show 2 <= sizeLine; decide) fun t4 H4 n4 f4 S4 => ?_
     have f34 := S4 _ _ f
     refine ⟨vs, f34, ?_, ⟨_, _, rfl⟩, ?_, ?_⟩
     ·have e := hPc.length
      rw [e]
      refine Um (UX _ _) ?_
      rw [UR]
      exact Um (Nat.min_le_left _ _) (Ue (Ue hi hlen) (by decide))
     ·exact (s.trans S4).kpN hl Kp.upd
     ·refine ⟨_, ZDr, ?_⟩
      rw [e4, decide_eq_true h1, decide_eq_true h2, Bool.and_self, if_pos rfl]
      exact ZDv.kpL Kp.upd f34 ((hPc.same S4).snoc f4)
    ·refine ⟨⟨_, _, rfl⟩, s, vs, f, ?_⟩
     rw [e4, decide_eq_false h2, Bool.and_false, if_neg (by decide), UJ]
     exact hPc
   ·walk_at "w"
    refine ZEs ?_
    refine ⟨⟨_, _, rfl⟩, s, vs, f, ?_⟩
    rw [e4, decide_eq_false h1, Vu, if_neg (by decide), UJ]
    exact hPc
def Hts (H : Hp) (p : Addr) (low tall rows : Int) : Prop := H p = some (.tup [.int low, .int tall, .int rows]) /\ Bn 200 low /\ 0 < tall /\ Bn 200 tall /\ 0 <= rows /\ rows <= 1000
theorem Hts.same {H H' : Hp} {p : Addr} {low tall rows : Int} (h : Hts H p low tall rows) (s : ZDq H H') : Hts H' p low tall rows := ⟨s _ _ h.1, h.2⟩
def ZWF (K : W.Frag) : Sp := fun vs H Q _ => ∃ (x d : Int) (p : Addr) (low tall rows : Int), vs = [.int x, .int d, .ref p] /\ Hts H p low tall rows /\ 0 < d /\ Bn 201 d /\ Q (.int (fl low tall (x, d))) H
theorem ZH7 : ZDw ["height", "parts", "heights", "low", "tall", "rows"] ["height", "parts", "heights"] (ZDo ZKj) := ZEB
theorem ZMW (T : Txt K mg a) : ZD2 P w K mg base CX0 1 a.ZAS a.ZAb ["height", "parts", "heights"] (ZWF K) := by
 refine T.ZAW.ok ZH7 (by walk_at "l") (fun cdv A outer s H vs Q E hr h => ?_)
 ·obtain ⟨x, d, p, low, tall, rows, rfl, ⟨hp, hb1, ht, hb2, _⟩, hd, hbd, q⟩ := h
  refine ⟨_, QB.h (ZDm (ZFZ (qv 2) (ZEz (n := 3) K rfl rfl (ZDy (qgN (i := 3) ZH7.nd) (ZDy (qgN (i := 4) ZH7.nd) (ZDy (qgN (i := 5) ZH7.nd) ZEi))))) (ZDp (ZDz (ZDu ZHa (ZDu ZFG (qv 0) (ZDu ZED (qv 3) (qv 1))) (ZDu ZED (qv 4) (qv 1)))))), ?_⟩
  walk_at "s"
  walk_at "w"
  refine ZHe (ZHA hb1 hbd (by decide)) ?_
  walk_at "w"
  refine ZHe (ZHA hb2 hbd (by decide)) ?_
  refine ZHe ((hb2.mul hbd).divB (Int.mul_pos ht hd) (by decide)) ?_
  exact q
def ZWG (K : W.Frag) : Sp := fun vs H Q _ => ∃ (c1 c2 : Addr) (u v : Int × Int) (t : Int) (p : Addr) (low tall rows : Int), vs = [.ref c1, .ref c2, .int t, .ref p] /\ H c1 = some (.tup [.int u.1, .int u.2]) /\ H c2 = some (.tup [.int v.1, .int v.2]) /\
 Hts H p low tall rows /\ u.1 < v.1 /\ Bn 200 u.1 /\ Bn 200 u.2 /\ Bn 200 v.1 /\ Bn 200 v.2 /\ Bn 200 t /\ Q (.int (fl low tall (frP u v t))) H
theorem ZMX : ZDw ["one", "other", "t", "heights", "parts"] ["one", "other", "t", "heights"] (ZDo ZKi) := ZEB
theorem ZMY (T : Txt K mg a) : ZD2 P w K mg base CX0 2 a.ZAC a.ZAR ["one", "other", "t", "heights"] (ZWG K) := by
 refine T.ZAM.ok ZMX (by walk_at "l") (fun cdv A outer s H vs Q E hr h => ?_)
 ·obtain ⟨c1, c2, u, v, t, p, low, tall, rows, rfl, h1, h2, hh, hlt, b1, b2, b3, b4, b5, q⟩ := h
  refine ⟨_, QB.h (ZDm (qsS (i := 4) ZMX.nd (ZDu ZFG (ZD1 (ZD6 K rfl) (qv 1) ZDn) (ZD1 (ZD6 K rfl) (qv 0) ZDn))) (ZDp (ZDz (qcS (ZMW T) hr T.ZBV T.ZAW.kp T.ZBc (ZDk (ZDu ZEU (ZDu ZED (ZD1 (ZD6 K rfl) (qv 0) ZDn) (qv 4)) (ZDu ZED (ZDu ZFG (ZD1 (ZD6 K rfl) (qv 1) ZDn) (ZD1 (ZD6 K rfl) (qv 0) ZDn)) (ZDu ZFG (qv 2) (ZD1 (ZD6 K rfl) (qv 0) ZDn)))) (ZDk (qv 4) (ZDk (qv 3) ZDl))))))), ?_⟩
  walk_at "s"
  walk_at "w"
  refine ZHe (ZHA b2 (b3.sub b1) (by decide)) ?_
  walk_at "w"
  refine ZHe (ZHA (b4.sub b2) (b5.sub b1) (by decide)) ?_
  walk_at "w"
  exact ⟨_, _, p, low, tall, rows, rfl, hh, by omega, b3.sub b1, q⟩
theorem ZGC {H H' : Hp} {l q : Addr} {xs ys : List V} (k : Kp l H H') (hl : H l = some (.lst xs)) (h : H q = some (.tup ys)) : H' q = some (.tup ys) := k _ _ h (fun z => by subst z; rw [hl] at h; cases h)
def ZYE (K : W.Frag) : Sp := fun vs H Q _ => ∃ (t u p : Addr) (cv : PL) (x z low tall rows : Int), vs = [.ref t, .ref u, .ref p] /\ PrT H t cv /\ H u = some (.tup [.int x, .int z]) /\ Hts H p low tall rows /\ Asc cv /\ BP cv /\ cv.length <= 100 /\ Bn 200 x /\ Bn 200 z /\
 ∀ (l : Addr) (H' : Hp), H l = none -> H' l = some (.lst (((ZFF cv x z).map (fl low tall)).map V.int)) -> ZDq H H' -> Q (.ref l) H'
theorem ZQN {x y : Int} {n : Nat} (h : Bn n x) (g : Bn n y) : Bn n (if y > x then y else x) := by split; exact g; exact h
theorem ZQO {x y : Int} {n : Nat} (h : Bn n x) (g : Bn n y) : Bn n (if y < x then y else x) := by split; exact g; exact h
theorem ZMZ {cv : PL} {b e : Int} {p : Int × Int} (h : p ∈ inCol cv b e) : p ∈ cv := (List.mem_filter.mp h).1
theorem ZFq : ZDw ["samples", "times", "heights", "first", "behind", "met", "one", "other"] ["samples", "times", "heights"] (ZDo ZHP) := ZEB
theorem ZOp (T : Txt K mg a) : ZD2 P w K mg base CX0 3 a.Yo a.Yr ["samples", "times", "heights"] (ZYE K) := by
 refine T.ZAf.ok ZFq (by walk_at "l") (fun cdv A outer s H vs Q E hr h => ?_)
 ·obtain ⟨t, u, p, cv, x, z, low, tall, rows, rfl, hT, hu, hh, hasc, hbp, hlen, bx, bz, k⟩ := h
  refine ⟨_, QB.h (ZDm (ZFZ (qv 1) (ZEz (n := 2) K rfl rfl (ZDy (qgN (i := 3) ZFq.nd) (ZDy (qgN (i := 4) ZFq.nd) ZEi)))) (ZDm (ZHX (N := ["samples", "times", "heights", "first", "behind", "met", "one", "other"]) (sc := ZDo ZHP) (own := ["t", "h"]) (caps := ["heights"]) (ks := [2]) (i := 5) rfl rfl rfl ⟨rfl, by decide +kernel, by decide +kernel, by decide +kernel, by decide +kernel, rfl, by decide +kernel⟩ ZFq.nd rfl (by walk_at "o") (ZIV K rfl (qcS (ZLT T) hr.m T.ZAz T.Je.kp T.ZA2 (ZDk (qv 0) (ZDk (qv 3) (ZDk (qv 4) ZDl))))) (fun _ _ _ _ _ => ZEz (n := 2) K rfl rfl (ZDy (ZEa (i := 0) (show List.Nodup (α := Str) ["t", "h", "heights"] from by decide +kernel) rfl (by walk_at "o") (.inr rfl)) (ZDy (ZEa (i := 1) (show List.Nodup (α := Str) ["t", "h", "heights"] from by decide +kernel) rfl (by walk_at "o") (.inr rfl)) ZEi))) (fun _ _ _ _ _ => ZFD) (fun _ _ _ _ _ => qcS (ZMW T) hr.m T.ZBV T.ZAW.kp T.ZBc (ZDk (qv 1) (ZDk ZDn (ZDk (qv 2) ZDl))))) (ZDm (ZFB PassesOwn.never rfl (ZRK K rfl rfl T.ZBI (ZDk (qv 0) (ZDk (ZNO (ZVa K rfl) (qv 0) (ZO6 ZDn) ZO5) ZDl))) (ZEz (n := 2) K rfl rfl (ZDy (qgN (i := 6) ZFq.nd) (ZDy (qgN (i := 7) ZFq.nd) ZEi))) (ZDp (ZEw (QW.pt (ZLE (ZEC (ZGZ) (ZD1 (ZD6 K rfl) (qv 6) ZDn) (qv 4) (ZEL _)) (ZJ3 (ZEC (ZGZ) (qv 3) (ZD1 (ZD6 K rfl) (qv 7) ZDn) (ZEL _))))) (ZDm (ZEH (ZGL PySem.F.plainAttrs_list PySem.F.slot_list_append PySem.F.type_list_append ZFK (qv 5) (ZDk (qcS (ZMY T) hr T.ZBL T.ZAM.kp T.ZBb (ZDk (qv 6) (ZDk (qv 7) (ZDk (ZEA (ZLA rfl) rfl T.YN ZIR (ZDk (qv 3) (ZDk (ZD1 (ZD6 K rfl) (qv 6) ZDn) ZDl))) (ZDk (qv 2) ZDl))))) ZDl))) (ZDp (ZEH (ZGL PySem.F.plainAttrs_list PySem.F.slot_list_append PySem.F.type_list_append ZFK (qv 5) (ZDk (qcS (ZMY T) hr T.ZBL T.ZAM.kp T.ZBb (ZDk (qv 6) (ZDk (qv 7) (ZDk (ZEA (ZLB rfl) rfl T.YM ZIS (ZDk (qv 4) (ZDk (ZD1 (ZD6 K rfl) (qv 7) ZDn) ZDl))) (ZDk (qv 2) ZDl))))) ZDl))))) ZEX))) (ZDp (ZDz (qv 5)))))), ?_⟩
  walk_at "s"
  walk_at "w"
  refine ⟨t, cv, x, z, rfl, hT, by omega, fun w1 H1 hw S1 => ?_⟩
  obtain ⟨us1, g1, pw⟩ := id hw
  have hcl : (inCol cv x z).length <= 100 := Uz (UX _ _) hlen
  walk_at "w"
  intro l n1
  have nl : H l = none := S1.free n1
  refine ZEu (inCol cv x z).length (fun i U' H' => (∃ o1 o2, U' = [o1, o2, some (.ref p)]) /\ ZDq H1 H' /\ H' l = some (.lst (((((inCol cv x z).take i).map (fun q => (q.2, (1 : Int)))).map (fl low tall)).map V.int))) ?_ ?_ ?_
  ·exact ⟨⟨none, none, rfl⟩, ZDq.new n1, ZDr⟩
  ·rintro U H2 ⟨_, S2, f2⟩
   refine ⟨⟨_, SqT.of (S2 _ _ g1), by rw [pw.length]; exact Ud _⟩, ?_⟩
   rw [UQ] at f2
   have S02 := S1.trans S2
   walk_at "w"
   refine PrT.sl (hT.same S02) fun w3 H3 h3 S3 => ?_
   obtain ⟨us, gT, pT⟩ := hT.same (S02.trans S3)
   obtain ⟨us3, g3, p3⟩ := id h3
   have ec : ZJS cv (some 1) none = cv.drop 1 := by
    unfold ZJS
    rw [show HT.sIx cv.length 0 (some 1) = min 1 cv.length from HT.sIx_nat cv.length 0 1, show HT.sIx cv.length cv.length none = cv.length from rfl]
    by_cases hz : cv.length = 0
    ·have : cv = [] := List.length_eq_zero_iff.mp hz
     subst this
     rfl
    ·rw [show min 1 cv.length = 1 by omega]
     exact List.take_of_length_le (by simp)
   rw [ec] at p3
   walk_at "w"
   refine ZRL (SqB.ofT gT) (SqB.ofT g3) ?_
   have f3 := S3 _ _ f2
   refine ZPC (xs := us) (ys := us3) (b1 := false) (b2 := false) (l1 := t) (l2 := w3) (cv.length - 1) (by rw [pT.length, p3.length, List.length_drop]; omega) (fun i U H' => Kp l H3 H' /\ (∃ v6 v7, U = [some (.ref t), some (.ref u), some (.ref p), some (.int x), some (.int z), some (.ref l), v6, v7]) /\ ∃ ns : List Int, H' l = some (.lst (ns.map V.int)) /\
    ns = (((inCol cv x z).map (fun q => (q.2, (1 : Int)))) ++ ((cv.zip (cv.drop 1)).take i).flatMap (ZEN x z)).map (fl low tall) /\ ns.length <= 100 + 2 * i) ?_ ?_ ?_ ?_
   ·refine ⟨Kp.same (ZDq.refl _), ⟨_, _, rfl⟩, _, f3, ?_, ?_⟩
    ·rw [List.take_zero, List.flatMap_nil, UJ]
    ·rw [Uf, Uf]; omega
   ·rintro i U H4 ⟨K4, _, _⟩
    exact ⟨SqB.ofT (ZGC K4 f3 gT), SqB.ofT (ZGC K4 f3 g3)⟩
   ·rintro i U H4 T H5 a b hi ⟨K4, ⟨v6, v7, rfl⟩, ns, f4, ens, hns⟩ ha hb nT fT S5
    obtain ⟨c1, q1, rfl, hq1, hc1⟩ := pT.at ha
    obtain ⟨c2, q2, rfl, hq2, hc2⟩ := p3.at hb
    have hlt := ZJY hasc hq1 hq2
    have hz := ZLp hq1 hq2
    have K5 : Kp l H3 H5 := K4.then S5
    have f5 := S5 _ _ f4
    have g1' := ZGC K5 f3 hc1
    have g2' := ZGC K5 f3 hc2
    have hh5 : Hts H5 p low tall rows := ⟨ZGC K5 f3 ((hh.same (S02.trans S3)).1), hh.2⟩
    have hb1 := hbp q1 (Uv hq1)
    have hb2 := hbp q2 (List.mem_of_mem_drop (Uv hq2))
    have e3 : (cv.zip (cv.drop 1)).take (i + 1) = (cv.zip (cv.drop 1)).take i ++ [(q1, q2)] := by rw [US, hz]; rfl
    have hnl : ∀ k : Nat, k <= 400 -> k < sizeLine := fun k hk => Um hk (by decide)
    have e4 : (((inCol cv x z).map (fun q => (q.2, (1 : Int)))) ++ ((cv.zip (cv.drop 1)).take (i + 1)).flatMap (ZEN x z)).map (fl low tall) = ns ++ (ZEN x z (q1, q2)).map (fl low tall) := by
     rw [ens, e3, List.flatMap_append, <- List.append_assoc, Us]
     simp only [List.flatMap_cons, List.flatMap_nil, UJ]
    walk_at "w"
    refine ZEc (fun h1 => ?_) (fun h1 => ?_)
    ·walk_at "w"
     refine ZEc (fun h2 => ?_) (fun h2 => ?_)
     ·have e5 : (ZEN x z (q1, q2)).map (fl low tall) = [fl low tall (frP q1 q2 (mx x q1.1)), fl low tall (frP q1 q2 (mn z q2.1))] := by
       unfold ZEN
       rw [if_pos ⟨h1, h2⟩]
       rfl
      walk_at "w"
      refine ⟨tyL f5, ?_⟩
      walk_at "w"
      refine ⟨c1, c2, q1, q2, _, p, low, tall, rows, rfl, g1', g2', hh5, hlt, hb1.1, hb1.2, hb2.1, hb2.2, ZQN bx hb1.1, ?_⟩
      walk_at "w"
      refine ZFV f5 (by rw [Uf]; exact hnl _ (by omega)) fun H6 f6 K6 => ?_
      have g1'' := ZGC K6 f5 g1'
      have g2'' := ZGC K6 f5 g2'
      walk_at "w"
      refine ⟨tyL f6, ?_⟩
      walk_at "w"
      refine ⟨c1, c2, q1, q2, _, p, low, tall, rows, rfl, g1'', g2'', ⟨ZGC K6 f5 hh5.1, hh5.2⟩, hlt, hb1.1, hb1.2, hb2.1, hb2.2, ZQO bz hb2.1, ?_⟩
      walk_at "w"
      refine ZFV f6 (by rw [UN, Uf]; exact hnl _ (by simp only [UZ, List.length_nil]; omega)) fun H7 f7 K7 => ?_
      walk_at "w"
      refine ⟨(K5.trans K6).trans K7, ⟨_, _, rfl⟩, ns ++ [fl low tall (frP q1 q2 (mx x q1.1)), fl low tall (frP q1 q2 (mn z q2.1))], ?_, ?_, ?_⟩
      ·rw [f7, Us, List.append_assoc]
       rfl
      ·rw [e4, e5]
      ·rw [UN]
       show ns.length + 2 <= _
       omega
     ·have e5 : (ZEN x z (q1, q2)).map (fl low tall) = [] := by
       unfold ZEN
       rw [if_neg (fun g => h2 g.2)]
       rfl
      walk_at "w"
      exact ⟨K5, ⟨_, _, rfl⟩, ns, f5, by rw [e4, e5, UJ], by omega⟩
    ·have e5 : (ZEN x z (q1, q2)).map (fl low tall) = [] := by
      unfold ZEN
      rw [if_neg (fun g => h1 g.1)]
      rfl
     walk_at "w"
     refine ZEs ?_
     walk_at "w"
     exact ⟨K5, ⟨_, _, rfl⟩, ns, f5, by rw [e4, e5, UJ], by omega⟩
   ·rintro U H4 ⟨K4, ⟨v6, v7, rfl⟩, ns, f4, ens, hns⟩
    walk_at "w"
    refine k l H4 nl ?_ ((S02.trans S3).kpN nl K4)
    rw [f4, ens, List.take_of_length_le (by rw [List.length_zip, List.length_drop]; omega)]
    rfl
  ·rintro i U H2 hi ⟨⟨o1, o2, rfl⟩, S2, f2⟩
   have hi2 : i < us1.length := by rw [pw.length]; exact hi
   refine ⟨⟨_, _, SqT.of (S2 _ _ g1), Uc hi2⟩, ?_⟩
   rintro v H'' ⟨rfl, hv⟩
   have hv := hv _ (SqT.of (S2 _ _ g1))
   obtain ⟨c, q, rfl, hq, hc⟩ := (pw.same S2).at hv
   have e3 : (inCol cv x z).take (i + 1) = (inCol cv x z).take i ++ [q] := by rw [US, hq]; rfl
   walk_at "w"
   refine ZFR ?_
   walk_at "w"
   refine ⟨_, _, p, low, tall, rows, rfl, hh.same (S1.trans S2), by decide, by unfold Bn; decide, ?_⟩
   refine ⟨_, f2, ?_, ⟨_, _, rfl⟩, S2.kpN n1 Kp.upd, ?_⟩
   ·rw [Uf, Uf, Uf, UR]
    exact Um (Uz (Nat.min_le_right _ _) hcl) (by decide)
   ·rw [ZDr, e3, Us, Us, Us]
    rfl
def ZYr (K : W.Frag) : Sp := fun vs H Q _ => ∃ (t u p : Addr) (cv : PL) (x z low tall rows : Int), vs = [.ref t, .ref u, .ref p] /\ PrT H t cv /\ H u = some (.tup [.int x, .int z]) /\ Hts H p low tall rows /\ Asc cv /\ BP cv /\ cv.length <= 100 /\ Bn 200 x /\ Bn 200 z /\
 ∀ (v : V) (o : Option (Int × Int)) (H' : Hp), ZFh H' v o -> ZGA ((ZFF cv x z).map (fl low tall)) rows o -> ZDq H H' -> Q v H'
theorem ZGD : ZDw ["samples", "times", "heights", "met", "least", "greatest"] ["samples", "times", "heights"] (ZDo ZHG) := ZEB
theorem ZLy (T : Txt K mg a) : ZD2 P w K mg base CX0 4 a.Z1 a.Z6 ["samples", "times", "heights"] (ZYr K) := by
 refine T.JE.ok ZGD (by walk_at "l") (fun cdv A outer s H vs Q E hr h => ?_)
 ·obtain ⟨t, u, p, cv, x, z, low, tall, rows, rfl, hT, hu, hh, hasc, hbp, hlen, bx, bz, k⟩ := h
  refine ⟨_, QB.h (ZDm (qsS (i := 3) ZGD.nd (qcS (ZOp T) hr T.ZCA T.ZAf.kp T.ZBy (ZDk (qv 0) (ZDk (qv 1) (ZDk (qv 2) ZDl))))) (ZDm (ZEw (ZEC (ZJy) (ZEA (ZIU K rfl) rfl T.Z7 ZHc (ZDk (qv 3) ZDl)) ZDn (ZEL _)) (ZDp (ZDz ZFw)) ZEX) (ZDm (qsS (i := 4) ZGD.nd (ZEA (ZLA rfl) rfl T.YN ZIR (ZDk (ZEA (ZVk K rfl rfl) rfl T.YM ZIS (ZDk (qv 3) ZDl)) (ZDk ZDn ZDl)))) (ZDm (qsS (i := 5) ZGD.nd (ZEA (ZLB rfl) rfl T.YM ZIS (ZDk (ZEA (ZVl K rfl rfl) rfl T.YN ZIR (ZDk (qv 3) ZDl)) (ZDk (ZDu ZFG (ZD1 (ZD6 K rfl) (qv 2) ZDn) ZDn) ZDl)))) (ZDp (ZDz (ZIg (ZEC (ZF4) (qv 4) (qv 5) (ZEL _)) (ZEh (ZDk (qv 4) (ZDk (qv 5) ZDl))) ZFw))))))), ?_⟩
  walk_at "s"
  walk_at "w"
  refine ⟨t, u, p, cv, x, z, low, tall, rows, rfl, hT, hu, hh, hasc, hbp, hlen, bx, bz, fun l H1 n1 f1 S1 => ?_⟩
  have g1 := (hh.same S1).1
  generalize hfs : (ZFF cv x z).map (fl low tall) = fs at f1 k
  walk_at "w"
  refine ZEc (fun h => ?_) (fun h => ?_)
  ·walk_at "w"
   have : fs = [] := List.length_eq_zero_iff.mp (by have h := V.int.inj h; rw [Uf] at h; omega)
   exact k _ _ H1 .non (.inl ⟨this, rfl⟩) S1
  ·have hne : fs ≠ [] := fun z => h (by rw [z]; rfl)
   walk_at "w"
   refine ZVm (SqL.of f1) hne fun m hm1 hm2 => ?_
   walk_at "w"
   refine ZVn (SqL.of f1) hne fun M hM1 hM2 => ?_
   walk_at "w"
   have e1 : (if (0 : Int) > m then 0 else m) = max m 0 := by split <;> omega
   have e2 : (if rows - 1 < M then rows - 1 else M) = min M (rows - 1) := by split <;> omega
   rw [e1, e2]
   refine ZEc (fun h2 => ?_) (fun h2 => ?_)
   ·walk_at "w"
    refine ZD9 (by show 2 <= sizeLine; decide) fun c H2 n2 f2 S2 => ?_
    refine k _ (some (max m 0, min M (rows - 1))) H2 (.pr f2) (.inr ⟨m, M, hm1, hm2, hM1, hM2, ?_⟩) (S1.trans S2)
    rw [if_pos h2]
   ·walk_at "w"
    refine k _ none H1 .non (.inr ⟨m, M, hm1, hm2, hM1, hM2, ?_⟩) S1
    rw [if_neg h2]
def Win (H : Hp) (q : Addr) (b y m : Int) : Prop := H q = some (.tup [.int b, .int y, .int m]) /\ Bn 190 b /\ 0 < y /\ Bn 150 y /\ 1 <= m /\ m <= 100
theorem Win.same {H H' : Hp} {q : Addr} {b y m : Int} (h : Win H q b y m) (s : ZDq H H') : Win H' q b y m := ⟨s _ _ h.1, h.2⟩
theorem ZYF {k : Int} (h0 : 0 <= k) (h1 : k <= 100) : Bn 7 k := by unfold Bn; omega
theorem ZRp {b y k : Int} (h1 : Bn 190 b) (h2 : Bn 150 y) (h0 : 0 <= k) (h3 : k <= 100) : Bn 191 (b + k * y) := h1.add (((ZYF h0 h3).mul h2).mono (by decide))
def ZOI (cv : PL) (b y m low tall rows : Int) (os : List (Option (Int × Int))) : Prop := os.length = m.toNat /\ ∀ (k : Nat) o, os[k]? = some o -> ZGA ((ZFF (inCol cv b (b + m * y)) (b + (k : Int) * y) (b + (k : Int) * y + y)).map (fl low tall)) rows o
theorem Asc.inCol {cv : PL} {b e : Int} (h : Asc cv) : Asc (inCol cv b e) := List.Pairwise.filter _ h
theorem BP.inCol {cv : PL} {b e : Int} (h : BP cv) : BP (inCol cv b e) := fun p hp => h p (ZMZ hp)
def ZYG (K : W.Frag) : Sp := fun vs H Q _ => ∃ (t q p : Addr) (cv : PL) (b y m low tall rows : Int), vs = [.ref t, .ref q, .ref p] /\ PrT H t cv /\ Win H q b y m /\ Hts H p low tall rows /\ Asc cv /\ BP cv /\ cv.length <= 100 /\
 ∀ (u : Addr) (vs : List V) (os : List (Option (Int × Int))) (H' : Hp), H' u = some (.tup vs) -> ZFJ H' vs os -> ZOI cv b y m low tall rows os -> ZDq H H' -> Q (.ref u) H'
theorem ZGj : ZDw ["curve", "window", "heights", "begin", "wide", "many", "counting"] ["curve", "window", "heights"] (ZDo ZH3) := ZEB
theorem ZQP (T : Txt K mg a) : ZD2 P w K mg base CX0 5 a.JT a.Ja ["curve", "window", "heights"] (ZYG K) := by
 refine T.ZAx.ok ZGj (by walk_at "l") (fun cdv A outer s H vs Q E hr h => ?_)
 ·obtain ⟨t, q, p, cv, b, y, m, low, tall, rows, rfl, hT, ⟨hq, hb, hy, hby, hm1, hm2⟩, hh, hasc, hbp, hlen, k⟩ := h
  refine ⟨_, QB.h (ZDm (ZFZ (qv 1) (ZEz (n := 3) K rfl rfl (ZDy (qgN (i := 3) ZGj.nd) (ZDy (qgN (i := 4) ZGj.nd) (ZDy (qgN (i := 5) ZGj.nd) ZEi))))) (ZDm (qsS (i := 6) ZGj.nd (qcS (ZLT T) hr.m T.ZAz T.Je.kp T.ZA2 (ZDk (qv 0) (ZDk (qv 3) (ZDk (ZDu ZEU (qv 3) (ZDu ZED (qv 5) (qv 4))) ZDl))))) (ZDp (ZDz (ZFU (ZGt K rfl) rfl T.Za ZGr (ZDk (ZFY (N := ["curve", "window", "heights", "begin", "wide", "many", "counting"]) (sc := ZDo ZH3) (own := ["times"]) (caps := ["counting", "heights"]) (ks := [6, 2]) rfl rfl rfl ⟨rfl, by decide +kernel, by decide +kernel, by decide +kernel, by decide +kernel, rfl, by decide +kernel⟩ (ZFp K rfl (qcS (ZJH T) hr.m T.Ju T.YH.kp T.Jh (ZDk (qv 1) ZDl))) (fun _ _ _ _ _ => ZEa (i := 0) (show List.Nodup (α := Str) ["times", "counting", "heights"] from by decide +kernel) rfl (by walk_at "o") (.inr rfl)) (fun _ _ _ _ _ => ZFD) (fun _ _ _ _ _ => qcS (ZLy T) hr T.ZBD T.JE.kp T.ZA9 (ZDk (qv 1) (ZDk (qv 0) (ZDk (qv 2) ZDl))))) ZDl)))))), ?_⟩
  walk_at "s"
  walk_at "w"
  refine ⟨t, cv, _, _, rfl, hT, by omega, fun w1 H1 hw S1 => ?_⟩
  walk_at "w"
  refine ⟨q, b, y, m, rfl, S1 _ _ hq, by omega, by omega, fun l0 us0 H1' n1' f1' hP' S1' => ?_⟩
  have S01 := S1.trans S1'
  walk_at "w"
  intro l n1
  have nl : H l = none := S01.free n1
  refine ZEu m.toNat (fun i U' H' => (∃ o, U' = [o, some (.ref w1), some (.ref p)]) /\ ZDq H1' H' /\ ∃ vs os, H' l = some (.lst vs) /\ ZFJ H' vs os /\ os.length = i /\ ∀ (k : Nat) o, os[k]? = some o -> ZGA ((ZFF (inCol cv b (b + m * y)) (b + (k : Int) * y) (b + (k : Int) * y + y)).map (fl low tall)) rows o) ?_ ?_ ?_
  ·exact ⟨⟨none, rfl⟩, ZDq.new n1, [], [], ZDr, .nil, rfl, fun k o h => by simp at h⟩
  ·rintro U H2 ⟨_, S2, vs, os, f2, hD, ho, hI⟩
   refine ⟨⟨_, SqL.of (S2 _ _ f1'), by rw [hP'.length, ZHC]; exact Ud _⟩, ?_⟩
   walk_at "w"
   refine ZHU (SqL.of f2) fun u H4 n4 f4 S4 => ?_
   exact k u vs os H4 f4 (hD.same S4) ⟨ho, hI⟩ (S01.trans (S2.trans S4))
  ·rintro i U H2 hi ⟨⟨o, rfl⟩, S2, vs, os, f2, hD, ho, hI⟩
   have hi2 : i < us0.length := by rw [hP'.length, ZHC]; exact hi
   refine ⟨⟨_, _, SqL.of (S2 _ _ f1'), Uc hi2⟩, ?_⟩
   rintro x H'' ⟨rfl, hx⟩
   have hx := hx _ (SqL.of (S2 _ _ f1'))
   obtain ⟨u, pr, rfl, hpr, f3⟩ := (hP'.same S2).at hx
   have hpr := ZOD hpr
   subst hpr
   have S02 := S01.trans S2
   walk_at "w"
   refine ZFR ?_
   walk_at "w"
   have hbx := ZRp hb hby (k := (i : Int)) (by omega) (by omega)
   refine ⟨w1, u, p, _, _, _, low, tall, rows, rfl, hw.same (S1'.trans S2), f3, hh.same S02, Asc.inCol hasc, BP.inCol hbp, Uz (UX _ _) hlen, hbx.mono (by decide), (hbx.add (hby.mono (by decide))).mono (by decide), fun v o2 H5 hd5 hI5 S25 => ?_⟩
   have f5 := S25 _ _ f2
   refine ⟨vs, f5, ?_, ⟨_, rfl⟩, (S2.trans S25).kpN n1 Kp.upd, vs ++ [v], os ++ [o2], ZDr, ?_, by simp [ho], ?_⟩
   ·rw [hD.len, ho]
    exact Ue hi (Uz (show m.toNat <= 1000 by omega) (by decide))
   ·exact ((hD.same S25).snoc hd5).mapP fun _ _ d => d.kpL Kp.upd f5
   ·intro k' o' h'
    rw [List.getElem?_append] at h'
    split at h'
    ·exact hI k' o' h'
    ·have : k' = i := by
      have := (Ui.mp h').1
      simp at this
      omega
     subst this
     rw [ho, Nat.sub_self] at h'
     have : o2 = o' := by simpa using h'
     subst this
     exact hI5
end
theorem ZWH {cv ps : PL} {p : Int × Int} (hasc : Asc cv) (hnd : (ps.map (·.1)).Nodup) (hs : ∀ q ∈ ps, q ∈ cv) (hp : p ∈ cv) (q : Int × Int) : q ∈ ZEI ps p.1 p.2 ↔ q ∈ ps \/ q = p := by
 obtain ⟨t, h⟩ := q
 rw [<- ZEj (ZE9 hnd), ZKZ, <- ZEj hnd]
 by_cases e : t = p.1
 ·rw [if_pos e]
  constructor
  ·intro z
   refine .inr ?_
   rw [e, <- Option.some.inj z]
  ·rintro (z | z)
   ·have := ZLq hasc (hs _ ((ZEj hnd).mp z)) hp e
    rw [<- this]
   ·rw [<- z]
 ·rw [if_neg e]
  constructor
  ·exact .inl
  ·rintro (z | z)
   ·exact z
   ·rw [<- z] at e
    exact absurd rfl e
theorem ZPM {cv : PL} (hasc : Asc cv) : ∀ (prs acc : PL), (acc.map (·.1)).Nodup -> (∀ q ∈ acc, q ∈ cv) -> (∀ q ∈ prs, q ∈ cv) -> ∀ q, q ∈ prs.foldl (fun m p => ZEI m p.1 p.2) acc ↔ q ∈ acc \/ q ∈ prs
 | [], acc, _, _, _, q => by simp
 | p :: prs, acc, hn, ha, hp, q => by
  have hpm := ZWH hasc hn ha (hp p UA)
  rw [List.foldl_cons, ZPM hasc prs _ (ZE9 hn) (fun z hz => by
   rcases (hpm z).mp hz with hz | rfl
   ·exact ha z hz
   ·exact hp z UA) (fun z hz => hp z (Ur _ hz)), hpm, Ul, or_assoc]
def ZGk (fs : List (Option (PL))) : PL := fs.flatMap fun o => o.getD []
theorem ZMa {fs : List (Option (PL))} {r : Int × Int} : r ∈ ZGk fs ↔ ∃ qs, some qs ∈ fs /\ r ∈ qs := by
 unfold ZGk
 rw [List.mem_flatMap]
 constructor
 ·rintro ⟨o, ho, hr⟩
  cases o with
  | none => cases hr
  | some qs => exact ⟨qs, ho, hr⟩
 ·rintro ⟨qs, ho, hr⟩
  exact ⟨some qs, ho, hr⟩
section
variable {P : Program} {w : World} {K : W.Frag} {mg : Str -> Option Value} {base : Heap} {a : Ad}
def ZT6 (K : W.Frag) : Sp := fun vs H Q _ => ∃ (t : Addr) (us : List V) (fs : List (Option (PL))) (cv : PL), vs = [.ref t] /\ H t = some (.tup us) /\ ZEl H us fs /\ fs.length <= 15 /\ Asc cv /\ (∀ qs, some qs ∈ fs -> ∀ r ∈ qs, r ∈ cv) /\
 ∀ (t' : Addr) (kp : PL) (H' : Hp), PrT H' t' kp -> Asc kp -> kp.length <= 100 -> (∀ r, r ∈ kp ↔ ∃ qs, some qs ∈ fs /\ r ∈ qs) -> ZDq H H' -> Q (.ref t') H'
theorem ZI9 : ZDw ["fours", "samples", "four"] ["fours"] (ZDo ZJf) := ZEB
theorem ZQQ (T : Txt K mg a) : ZD2 P w K mg base CX0 2 a.Jn a.Jb ["fours"] (ZT6 K) := by
 refine T.ZAy.ok ZI9 (by walk_at "l") (fun cdv A outer s H vs Q E hr h => ?_)
 ·obtain ⟨t, us, fs, cv, rfl, hT, hF, hlen, hasc, hin, k⟩ := h
  have hul : us.length = fs.length := hF.len
  refine ⟨_, QB.h (ZDm (qsS (i := 1) ZI9.nd (ZFN ZDl)) (ZDm (ZFB PassesOwn.never rfl (ZIV K rfl (qv 0)) (qgN (i := 2) ZI9.nd) (ZDp (ZEw (ZEC (ZLe) (qv 2) ZFw (ZEL _)) (ZDp (ZEH (ZGL PySem.F.plainAttrs_list PySem.F.slot_list_extend PySem.F.type_list_extend ZPx (qv 1) (ZDk (qv 2) ZDl)))) ZEX))) (ZDp (ZDz (qcS (ZOi T) hr T.ZBz T.ZAe.kp T.ZB0 (ZDk (qv 1) ZDl)))))), ?_⟩
  walk_at "s"
  walk_at "w"
  refine ZD9 (by show 0 <= sizeLine; decide) fun l H1 n1 f1 S1 => ?_
  have hT1 := S1 _ _ hT
  walk_at "w"
  refine ZJ1 (xs := us) (fun i U H' => (∃ v2, U = [some (.ref t), some (.ref l), v2]) /\ ZDq H H' /\ ∃ vs, H' l = some (.lst vs) /\ ZDv H' vs (ZGk (fs.take i)) /\ (ZGk (fs.take i)).length <= 4 * i) ?_ ?_ ?_ ?_
  ·exact ⟨⟨_, rfl⟩, S1, [], f1, .nil, UO _⟩
  ·rintro i U H2 _ ⟨_, S2, _⟩
   exact SqT.of (S2 _ _ hT)
  ·rintro i xv U H2 hx ⟨⟨v2, rfl⟩, S2, vs, f2, hP2, hl2⟩
   obtain ⟨o, ho, hd⟩ := (hF.same S2).at hx
   have hi : i < fs.length := by have := (Ui.mp ho).1; exact this
   have e3 : ZGk (fs.take (i + 1)) = ZGk (fs.take i) ++ o.getD [] := by
    unfold ZGk
    rw [US, ho, List.flatMap_append]
    simp
   walk_at "w"
   cases hd with
   | non =>
    refine ZIf (fun h => absurd rfl h) (fun _ => ?_)
    walk_at "w"
    refine ⟨⟨_, rfl⟩, S2, vs, f2, ?_, ?_⟩
    ·rw [e3]; simpa using hP2
    ·rw [e3]; simp; omega
   | @pr c qs hq hl4 =>
    obtain ⟨ws, gq, pq⟩ := hq
    refine ZIf (fun _ => ?_) (fun h => by cases h)
    walk_at "w"
    refine ⟨tyL f2, ?_⟩
    walk_at "w"
    refine ZPy f2 gq ?_ ?_ fun H3 f3 K3 => ?_
    ·intro j z
     cases pq with
     | nil => cases z
     | cons a t =>
      obtain ⟨c', e, _⟩ := a
      rw [List.head?_cons, e] at z
      cases z
    ·rw [hP2.length, pq.length, hl4]
     exact Uz (show _ <= 1000 by omega) (by decide)
    walk_at "w"
    refine ⟨⟨_, rfl⟩, S2.kpN n1 K3, _, f3, ?_, ?_⟩
    ·rw [e3]
     exact (ZDv.kpL K3 f2 hP2).app (ZDv.kpL K3 f2 pq)
    ·rw [e3, UN]
     show _ + qs.length <= _
     omega
  ·rintro U H2 ⟨⟨v2, rfl⟩, S2, vs, f2, hP2, hl2⟩
   rw [hul, UQ] at hP2 hl2
   walk_at "w"
   refine ⟨true, l, vs, _, rfl, f2, hP2, by omega, fun t' kp H3 hT3 hC hlk S3 => ?_⟩
   refine k t' kp H3 hT3 hC.1 (by omega) (fun r => ?_) (S2.trans S3)
   have hm : ∀ q ∈ ZGk fs, q ∈ cv := fun q hq => by
    obtain ⟨qs, h1, h2⟩ := ZMa.mp hq
    exact hin qs h1 q h2
   rw [<- ZMa]
   obtain ⟨t0, h0⟩ := r
   rw [hC.2, ZEj (ZLI _)]
   have := ZPM hasc (ZGk fs) [] List.nodup_nil (fun q hq => by cases hq) hm (t0, h0)
   rw [show ZFs (ZGk fs) = (ZGk fs).foldl (fun m p => ZEI m p.1 p.2) [] from rfl, this]
   simp
def ZRq (cv : PL) (x z : Int) (o : Option (PL)) : Prop := (o = none /\ inCol cv x z = []) \/ ∃ q0 q1 q2 q3, o = some [q0, q1, q2, q3] /\ (∀ r ∈ [q0, q1, q2, q3], r ∈ inCol cv x z) /\ ∀ p ∈ inCol cv x z, q0.1 <= p.1 /\ p.1 <= q1.1 /\ q2.2 <= p.2 /\ p.2 <= q3.2
def ZHY (cv : PL) (b y m : Int) (fs : List (Option (PL))) : Prop := fs.length = m.toNat /\ ∀ (k : Nat) o, fs[k]? = some o -> ZRq cv (b + (k : Int) * y) (b + (k : Int) * y + y) o
theorem ZHY.mem {cv : PL} {b y m : Int} {fs : List (Option (PL))} (h : ZHY cv b y m fs) {qs : PL} (hq : some qs ∈ fs) : ∃ k : Nat, (k : Int) < m /\ ∀ r ∈ qs, r ∈ cv /\ b + (k : Int) * y <= r.1 /\ r.1 < b + (k : Int) * y + y := by
 obtain ⟨k, hk, e⟩ := UP hq
 refine ⟨k, by rw [h.1] at hk; omega, fun r hr => ?_⟩
 rcases h.2 k _ (by rw [Uc hk, e]) with ⟨z, _⟩ | ⟨q0, q1, q2, q3, e4, h4, _⟩
 ·cases z
 ·obtain rfl := Option.some.inj e4
  exact ZDx.mp (h4 r hr)
theorem ZHY.kept {cv kp : PL} {b y m : Int} {fs : List (Option (PL))} (hy : 0 < y) (h : ZHY cv b y m fs) (hm : ∀ r, r ∈ kp ↔ ∃ qs, some qs ∈ fs /\ r ∈ qs) : L2.Kept cv kp b y m := by
 constructor
 ·intro p hp
  obtain ⟨qs, hq, hr⟩ := (hm p).mp hp
  obtain ⟨k, hk, hall⟩ := h.mem hq
  obtain ⟨g1, g2, g3⟩ := hall p hr
  have h1 : (0 : Int) <= (k : Int) * y := Int.mul_nonneg (by omega) (by omega)
  have h2 : ((k : Int) + 1) * y <= m * y := Va (by omega) (by omega)
  rw [Int.add_mul, Int.one_mul] at h2
  exact ⟨g1, by omega, by omega⟩
 ·intro k hk0 hk1 p hp g1 g2
  obtain ⟨n, rfl⟩ : ∃ n : Nat, k = (n : Int) := ⟨k.toNat, by omega⟩
  have hn : n < fs.length := by rw [h.1]; omega
  have hpc : p ∈ inCol cv (b + (n : Int) * y) (b + (n : Int) * y + y) := ZDx.mpr ⟨hp, g1, g2⟩
  rcases h.2 n _ (Uc hn) with ⟨_, z⟩ | ⟨q0, q1, q2, q3, e4, h4, hle⟩
  ·rw [z] at hpc
   cases hpc
  ·obtain ⟨l0, l1, l2, l3⟩ := hle p hpc
   have mem : ∀ r ∈ [q0, q1, q2, q3], r ∈ kp := fun r hr => (hm r).mpr ⟨_, by rw [<- e4]; exact Vb hn, hr⟩
   have c0 := (ZDx.mp (h4 q0 (by simp))).2
   have c1 := (ZDx.mp (h4 q1 (by simp))).2
   have c2 := (ZDx.mp (h4 q2 (by simp))).2
   have c3 := (ZDx.mp (h4 q3 (by simp))).2
   exact ⟨⟨q0, mem _ (by simp), c0.1, l0⟩, ⟨q1, mem _ (by simp), l1, c1.2⟩, ⟨q2, mem _ (by simp), c2.1, c2.2, l2⟩, ⟨q3, mem _ (by simp), c3.1, c3.2, l3⟩⟩
def ZT7 (K : W.Frag) : Sp := fun vs H Q _ => ∃ (t q p : Addr) (us : List V) (fs : List (Option (PL))) (cv : PL) (b y m low tall rows : Int), vs = [.ref t, .ref q, .ref p] /\ H t = some (.tup us) /\ ZEl H us fs /\ ZHY cv b y m fs /\ m <= 15 /\ Win H q b y m /\ Hts H p low tall rows /\ Asc cv /\ BP cv /\
 ∀ (u : Addr) (vs : List V) (os : List (Option (Int × Int))) (kp : PL) (H' : Hp), H' u = some (.tup vs) -> ZFJ H' vs os -> Asc kp -> L2.Kept cv kp b y m -> ZOI kp b y m low tall rows os -> ZDq H H' -> Q (.ref u) H'
theorem ZQR : ZDw ["fours", "window", "heights"] ["fours", "window", "heights"] (ZDo ZJg) := ZEB
theorem ZQS (T : Txt K mg a) : ZD2 P w K mg base CX0 6 a.JJ a.Jo ["fours", "window", "heights"] (ZT7 K) := by
 refine T.ZA7.ok ZQR (by walk_at "l") (fun cdv A outer s H vs Q E hr h => ?_)
 ·obtain ⟨t, q, p, us, fs, cv, b, y, m, low, tall, rows, rfl, hT, hF, hO, hm, hW, hh, hasc, hbp, k⟩ := h
  refine ⟨_, QB.h (ZDp (ZDz (qcS (ZQP T) hr T.ZCN T.ZAx.kp T.ZCU (ZDk (qcS (ZQQ T) hr.m T.ZCT T.ZAy.kp T.ZCV (ZDk (qv 0) ZDl)) (ZDk (qv 1) (ZDk (qv 2) ZDl)))))), ?_⟩
  walk_at "s"
  walk_at "w"
  refine ⟨t, us, fs, cv, rfl, hT, hF, by rw [hO.1]; omega, hasc, fun qs hq r hr => ?_, fun t' kp H1 hT1 hak hlk hmk S1 => ?_⟩
  ·obtain ⟨_, _, hall⟩ := hO.mem hq
   exact (hall r hr).1
  have hkept := hO.kept hW.2.2.1 hmk
  walk_at "w"
  refine ⟨t', q, p, kp, b, y, m, low, tall, rows, rfl, hT1, hW.same S1, hh.same S1, hak, fun r hr => hbp r (hkept.1 r hr).1, hlk, fun u vs os H2 f2 hD2 hO2 S2 => ?_⟩
  exact k u vs os kp H2 f2 hD2 hak hkept hO2 (S1.trans S2)
end
abbrev Lyr := Str × List (Option (Int × Int))
def ZLU (H : Hp) (v : V) (q : Lyr) : Prop := ∃ c t us, v = .ref c /\ H c = some (.tup [.str q.1, .ref t]) /\ H t = some (.tup us) /\ ZFJ H us q.2
theorem ZLU.tups {H H' : Hp} {v : V} {q : Lyr} (h : ZLU H v q) (f : ∀ b xs, H b = some (.tup xs) -> H' b = some (.tup xs)) : ZLU H' v q := by
 obtain ⟨c, t, us, e, h1, h2, h3⟩ := h
 refine ⟨c, t, us, e, f _ _ h1, f _ _ h2, h3.mapP fun v o h => ?_⟩
 cases h with
 | non => exact .non
 | pr e => exact .pr (f _ _ e)
def ZLz (H : Hp) (l : Addr) (qs : List Lyr) : Prop := ∃ vs, H l = some (.lst vs) /\ Paired (ZLU H) vs qs
theorem ZLz.same {H H' : Hp} {l : Addr} {qs : List Lyr} (h : ZLz H l qs) (s : ZDq H H') : ZLz H' l qs := by
 obtain ⟨vs, h1, h2⟩ := h
 exact ⟨vs, s _ _ h1, Paired.mapP h2 fun _ _ z => z.tups fun b xs e => s _ _ e⟩
def ZHM (o : Option (Int × Int)) (r : Int) : Bool := match o with
 | none => false
 | some p => decide (p.1 <= r) && decide (r <= p.2)
def ZF0 (qs : List Lyr) (k : Nat) (r : Int) : Str := match qs with
 | [] => "."
 | q :: qs => if ZHM ((q.2[k]?).getD none) r = true then q.1 else ZF0 qs k r
def LOk (qs : List Lyr) (m : Nat) : Prop := ∀ q ∈ qs, q.1.length = 1 /\ q.2.length = m
theorem ZLV {m : Nat} : ∀ {qs : List Lyr}, LOk qs m -> ∀ (k : Nat) (r : Int), (ZF0 qs k r).length = 1
 | [], _, _, _ => rfl
 | q :: qs, h, k, r => by
  unfold ZF0
  split
  ·exact (h q UA).1
  ·exact ZLV (fun z hz => h z (Ur _ hz)) k r
def lineL (qs : List Lyr) (m : Nat) (r : Int) : List Str := (UM m).map fun k => ZF0 qs k r
theorem ZJu {qs : List Lyr} {n : Nat} (h : LOk qs n) (r : Int) : ∀ m : Nat, ((lineL qs m r).map (·.length)).sum = m
 | 0 => rfl
 | m + 1 => by
  have := ZJu h r m
  unfold lineL at this ⊢
  rw [Vk, Us, Us, List.sum_append, this]
  simp only [UD, Vs, List.sum_cons, List.sum_nil]
  rw [ZLV h, Nat.add_zero]
def ZHR (qs : List Lyr) (m : Nat) (r : Int) : Str := ZGd (lineL qs m r)
theorem ZMb {qs : List Lyr} {n : Nat} (h : LOk qs n) (m : Nat) (r : Int) : (ZHR qs m r).length = m := by
 unfold ZHR
 rw [ZKa, ZJu h]
section
variable {P : Program} {w : World} {K : W.Frag} {mg : Str -> Option Value} {base : Heap} {a : Ad}
def ZYs : Sp := fun vs H Q _ => ∃ (v : V) (o : Option (Int × Int)) (r : Int), vs = [v, .int r] /\ ZFh H v o /\ Q (.bl (ZHM o r)) H
theorem ZQT : ZDw ["pair", "row"] ["pair", "row"] (ZDo ZJi) := ZEB
theorem ZQU (T : Txt K mg a) : ZD2 P w K mg base CX0 1 a.Jg a.Jj ["pair", "row"] ZYs := by
 refine T.ZA5.ok ZQT (by walk_at "l") (fun cdv A outer s H vs Q E hr h => ?_)
 ·obtain ⟨v, o, r, rfl, hd, q⟩ := h
  refine ⟨_, QB.h (ZDp (ZDz (ZJO (ZLh (ZLe) (qv 0) ZFw (ZEL _)) (ZLD (ZKX ZF4 ZF4 (ZD1 (ZD6 K rfl) (qv 0) ZDn) (qv 1) (ZD1 (ZD6 K rfl) (qv 0) ZDn)))))), ?_⟩
  walk_at "s"
  walk_at "w"
  cases hd with
  | non =>
   refine ZIf (fun h => absurd rfl h) (fun _ => ?_)
   exact q
  | @pr c p e =>
   refine ZIf (fun _ => ?_) (fun h => by cases h)
   walk_at "w"
   refine ZEc (fun h => ?_) (fun h => ?_)
   ·walk_at "w"
    have e2 : ZHM (some p) r = decide (r <= p.2) := by simp [ZHM, h]
    rw [<- e2]
    exact q
   ·have e2 : ZHM (some p) r = false := by simp [ZHM, h]
    rw [e2] at q
    exact q
def ZYH (K : W.Frag) : Sp := fun vs H Q _ => ∃ (l : Addr) (qs : List Lyr) (k m : Nat) (r : Int), vs = [.ref l, .int k, .int r] /\ ZLz H l qs /\ LOk qs m /\ k < m /\ Q (.str (ZF0 qs k r)) H
theorem ZIN (qs : List Lyr) (k : Nat) (r : Int) : ∀ i : Nat, (∀ j q, j < i -> qs[j]? = some q -> ZHM ((q.2[k]?).getD none) r = false) -> ZF0 qs k r = ZF0 (qs.drop i) k r
 | 0, _ => rfl
 | i + 1, h => by
  rw [ZIN qs k r i fun j q hj => h j q (by omega)]
  by_cases hi : i < qs.length
  ·rw [Vo hi]
   have := h i _ (by omega) (Uc hi)
   conv => lhs; unfold ZF0
   rw [this]
   rfl
  ·rw [Vi (by omega), Vi (by omega)]
theorem ZJA : ZDw ["layers", "k", "row", "sign", "dots"] ["layers", "k", "row"] (ZDo ZJh) := ZEB
theorem ZQV (T : Txt K mg a) : ZD2 P w K mg base CX0 2 a.JQ a.JO ["layers", "k", "row"] (ZYH K) := by
 refine T.ZAw.ok ZJA (by walk_at "l") (fun cdv A outer s H vs Q E hr h => ?_)
 ·obtain ⟨l, qs, n, m, r, rfl, ⟨vs, hl, hp⟩, hok, hn, q⟩ := h
  have hvl : vs.length = qs.length := Paired.length hp
  refine ⟨_, QB.h (ZDm (ZFB PassesOwn.never rfl (ZFp K rfl (qv 0)) (ZEz (n := 2) K rfl rfl (ZDy (qgN (i := 3) ZJA.nd) (ZDy (qgN (i := 4) ZJA.nd) ZEi))) (ZDp (ZEw (ZG9 (qcS (ZQU T) hr T.ZCf T.ZA5.kp T.ZCe (ZDk (ZD1 (ZD6 K rfl) (qv 4) (qv 1)) (ZDk (qv 2) ZDl)))) (ZDp (ZDz (qv 3))) ZEX))) (ZDp (ZDz ZEy))), ?_⟩
  walk_at "s"
  walk_at "w"
  refine ZLf (xs := vs) (fun i U H' => H' = H /\ (∃ v3 v4, U = [some (.ref l), some (.int n), some (.int r), v3, v4]) /\ ∀ j q, j < i -> qs[j]? = some q -> ZHM ((q.2[n]?).getD none) r = false) ⟨rfl, ⟨_, _, rfl⟩, fun j q hj => absurd hj (by omega)⟩ (fun i U H' _ h => by rw [h.1]; exact SqL.of hl) ?_ ?_
  ·rintro i x U H1 hx ⟨rfl, ⟨v3, v4, rfl⟩, hno⟩
   obtain ⟨qq, hq, c, t, us, rfl, hc, ht, hD⟩ := Paired.get hp hx
   have hlen := (hok qq (Uv hq)).2
   have hi2 : n < us.length := by rw [hD.len]; omega
   obtain ⟨o, ho, hd⟩ := hD.at (Uc hi2)
   walk_at "w"
   refine ZLC (SqT.of ht) (ZF5 (Uc hi2)) ?_
   walk_at "w"
   refine ⟨_, o, r, rfl, hd, ?_⟩
   walk_at "w"
   have eo : (qq.2[n]?).getD none = o := by rw [ho]; rfl
   cases hh : ZHM o r with
   | true =>
    refine ZFR ?_
    walk_at "w"
    have hi : i < qs.length := (Ui.mp hq).1
    rw [ZIN qs n r i hno, Vo hi] at q
    have eq : qs[i] = qq := (Ui.mp hq).2
    rw [eq] at q
    unfold ZF0 at q
    rw [eo, hh, if_pos rfl] at q
    exact q
   | false =>
    refine ZEs ?_
    walk_at "w"
    refine ⟨rfl, ⟨_, _, rfl⟩, fun j q' hj hq' => ?_⟩
    rcases Nat.lt_or_eq_of_le (Nat.le_of_lt_succ hj) with hj | rfl
    ·exact hno j q' hj hq'
    ·rw [hq] at hq'
     cases hq'
     rw [eo]
     exact hh
  ·rintro U H1 ⟨rfl, ⟨v3, v4, rfl⟩, hno⟩
   walk_at "w"
   rw [ZIN qs n r vs.length hno, Vi (by omega)] at q
   exact q
def ZYI (K : W.Frag) : Sp := fun vs H Q _ => ∃ (l : Addr) (qs : List Lyr) (m r : Int), vs = [.ref l, .int m, .int r] /\ ZLz H l qs /\ LOk qs m.toNat /\ 0 <= m /\ m <= 1000 /\ ∀ H', ZDq H H' -> Q (.str (ZHR qs m.toNat r ++ "\n")) H'
theorem ZOJ : ZDw ["layers", "many", "row"] ["layers", "many", "row"] (ZDo ZG4) := ZEB
theorem ZOK (T : Txt K mg a) : ZD2 P w K mg base CX0 3 a.YS a.Yb ["layers", "many", "row"] (ZYI K) := by
 refine T.J6.ok ZOJ (by walk_at "l") (fun cdv A outer s H vs Q E hr h => ?_)
 ·obtain ⟨l0, qs, m, r, rfl, hL, hok, hm0, hlen, k⟩ := h
  refine ⟨_, QB.h (ZDp (ZDz (ZDu ZLl (ZGL PySem.F.plainAttrs_str PySem.F.slot_str_join PySem.F.type_str_join (ZLj K rfl) ZEy (ZDk (ZFY (N := ["layers", "many", "row"]) (sc := ZDo ZG4) (own := ["k"]) (caps := ["layers", "row"]) (ks := [0, 2]) rfl rfl rfl ⟨rfl, by decide +kernel, by decide +kernel, by decide +kernel, by decide +kernel, rfl, by decide +kernel⟩ (ZFL rfl T.ZI (ZDk (qv 1) ZDl)) (fun _ _ _ _ _ => ZEa (i := 0) (show List.Nodup (α := Str) ["k", "layers", "row"] from by decide +kernel) rfl (by walk_at "o") (.inr rfl)) (fun _ _ _ _ _ => ZFD) (fun _ _ _ _ _ => qcS (ZQV T) hr T.ZCb T.ZAw.kp T.ZCd (ZDk (qv 1) (ZDk (qv 0) (ZDk (qv 2) ZDl))))) ZDl)) ZEy))), ?_⟩
  walk_at "s"
  walk_at "w"
  refine ⟨tyS, ?_⟩
  walk_at "w"
  refine ZGF (by omega) (by omega) ?_
  intro l hl
  refine ZEu m.toNat (fun i U' H' => (∃ o, U' = [o, some (.ref l0), some (.int r)]) /\ ZDq H H' /\ H' l = some (.lst ((lineL qs i r).map V.str))) ?_ ?_ ?_
  ·exact ⟨⟨none, rfl⟩, ZDq.new hl, ZDr⟩
  ·rintro U H' ⟨_, s, f⟩
   refine ⟨Ud _, ?_⟩
   walk_at "w"
   refine ZLk (SqL.of f) ?_ ?_
   ·rw [ZJu hok]
    show m.toNat + _ * 0 <= _
    omega
   rw [ZIn]
   walk_at "w"
   refine ZLm ?_ (k H' s)
   show (ZHR qs m.toNat r).length + 1 <= sizeLine
   rw [ZMb hok]
   exact Uz (show m.toNat + 1 <= 1001 by omega) (by decide)
  ·rintro i U H' hi ⟨⟨o, rfl⟩, s, f⟩
   refine ⟨hi, ?_⟩
   rintro x H'' ⟨rfl, rfl⟩
   have e0 : (0 + (i : Int)) = (i : Int) := by omega
   walk_at "w"
   refine ZFR ?_
   walk_at "w"
   rw [e0]
   refine ⟨l0, qs, i, m.toNat, r, rfl, hL.same s, hok, hi, ?_⟩
   refine ⟨_, f, ?_, ⟨_, rfl⟩, s.kpN hl Kp.upd, ?_⟩
   ·rw [Uf, lineL, Uf, Vw]
    exact Ue hi (Uz (show m.toNat <= 1000 by omega) (by decide))
   ·rw [ZDr, lineL, lineL, Vk, Us, Us]
    rfl
def ZFW (qs : List Lyr) (m : Nat) (x : Int) (n : Nat) : List Str := (UM n).map fun (i : Nat) => ZHR qs m (x + (i : Int) * (-1)) ++ "\n"
theorem ZQW {qs : List Lyr} {j : Nat} (h : LOk qs j) (m : Nat) (x : Int) (n : Nat) : ((ZFW qs m x n).map (·.length)).sum = n * (m + 1) := by
 induction n with
 | zero => simp [ZFW]
 | succ n ih =>
  have : ZFW qs m x (n + 1) = ZFW qs m x n ++ [ZHR qs m (x + (n : Int) * (-1)) ++ "\n"] := by simp [ZFW, Vk]
  rw [this, Us, List.sum_append, ih]
  simp only [UD, Vs, List.sum_cons, List.sum_nil]
  rw [ZIY, ZMb h]
  show n * (m + 1) + (m + 1 + 0) = _
  rw [Nat.succ_mul]
def textL (qs : List Lyr) (m rows : Int) : Str := ZGd (ZFW qs m.toNat (rows - 1) rows.toNat)
def ZYJ (K : W.Frag) : Sp := fun vs H Q _ => ∃ (l : Addr) (qs : List Lyr) (m r : Int), vs = [.ref l, .int m, .int r] /\ ZLz H l qs /\ LOk qs m.toNat /\ 0 <= m /\ m <= 1000 /\ 0 <= r /\ r <= 1000 /\ ∀ H', ZDq H H' -> Q (.str (textL qs m r)) H'
theorem ZL0 : ZDw ["layers", "many", "rows"] ["layers", "many", "rows"] (ZDo ZGM) := ZEB
theorem ZL1 (T : Txt K mg a) : ZD2 P w K mg base CX0 4 a.Zx a.Z4 ["layers", "many", "rows"] (ZYJ K) := by
 refine T.JH.ok ZL0 (by walk_at "l") (fun cdv A outer s H vs Q E hr h => ?_)
 ·obtain ⟨l0, qs, m, r, rfl, hL, hok, hm0, hlen, hr0, hr1, k⟩ := h
  refine ⟨_, QB.h (ZDp (ZDz (ZGL PySem.F.plainAttrs_str PySem.F.slot_str_join PySem.F.type_str_join (ZLj K rfl) ZEy (ZDk (ZFY (N := ["layers", "many", "rows"]) (sc := ZDo ZGM) (own := ["row"]) (caps := ["layers", "many"]) (ks := [0, 1]) rfl rfl rfl ⟨rfl, by decide +kernel, by decide +kernel, by decide +kernel, by decide +kernel, rfl, by decide +kernel⟩ (ZRE rfl T.ZI (ZDk (ZDu ZFG (qv 2) ZDn) (ZDk (ZM0 ZKw ZDn) (ZDk (ZM0 ZKw ZDn) ZDl)))) (fun _ _ _ _ _ => ZEa (i := 0) (show List.Nodup (α := Str) ["row", "layers", "many"] from by decide +kernel) rfl (by walk_at "o") (.inr rfl)) (fun _ _ _ _ _ => ZFD) (fun _ _ _ _ _ => qcS (ZOK T) hr T.ZBk T.J6.kp T.ZBi (ZDk (qv 1) (ZDk (qv 2) (ZDk (qv 0) ZDl))))) ZDl)))), ?_⟩
  walk_at "s"
  walk_at "w"
  refine ⟨tyS, ?_⟩
  walk_at "w"
  refine ZTU (by omega) (by omega) (by decide) (by decide) ?_
  intro l hl
  have en : (r - 1 - -1).toNat = r.toNat := by congr 1; omega
  rw [en]
  refine ZEu r.toNat (fun i U' H' => (∃ o, U' = [o, some (.ref l0), some (.int m)]) /\ ZDq H H' /\ H' l = some (.lst ((ZFW qs m.toNat (r - 1) i).map V.str))) ?_ ?_ ?_
  ·exact ⟨⟨none, rfl⟩, ZDq.new hl, ZDr⟩
  ·rintro U H' ⟨_, s, f⟩
   refine ⟨Ud _, ?_⟩
   walk_at "w"
   refine ZLk (SqL.of f) ?_ ?_
   ·rw [ZQW hok]
    show r.toNat * (m.toNat + 1) + _ * 0 <= _
    have h1 : r.toNat * (m.toNat + 1) <= 1000 * 1001 := Nat.mul_le_mul (by omega) (by omega)
    omega
   rw [ZIn]
   exact k H' s
  ·rintro i U H' hi ⟨⟨o, rfl⟩, s, f⟩
   refine ⟨hi, ?_⟩
   rintro x H'' ⟨rfl, rfl⟩
   walk_at "w"
   refine ZFR ?_
   walk_at "w"
   refine ⟨l0, qs, m, _, rfl, hL.same s, hok, hm0, hlen, fun H5 S5 => ?_⟩
   refine ⟨_, S5 _ _ f, ?_, ⟨_, rfl⟩, (s.trans S5).kpN hl Kp.upd, ?_⟩
   ·rw [Uf, ZFW, Uf, Vw]
    exact Ue hi (Uz (show r.toNat <= 1000 by omega) (by decide))
   ·rw [ZDr, ZFW, ZFW, Vk, Us, Us]
    rfl
end
def bfl (d : Addr) : List (Str × V) := [("stores", V.ref d)]
theorem ZLW {d : Addr} : (bfl d).lookup ("stores" : Str) = some (.ref d) := by
 unfold bfl
 rw [Uu, beq_self_eq_true]
theorem ZHD {d : Addr} {m : Str} (h1 : (m == ("stores" : Str)) = false) : (bfl d).lookup m = none := by
 unfold bfl
 rw [Uu, h1]
 rfl
structure SS where
 S : SA
 sm : PL
 c : Nat
 ds : List (Int × Option Int)
 ts : List Int
 ws : List V
def SS.At (a : Ad) (H : Hp) (q : SS) : Prop := ∃ n, ZD7 a H q.S n q.sm q.c q.ds q.ts q.ws
def SS.all (q : SS) : List Addr := q.S.p :: q.S.own
def ZFl (m : List (Str × SS)) : List (Str × V) := m.map fun q => (q.1, V.ref q.2.S.p)
theorem ZRr (m : List (Str × SS)) : (ZFl m).length = m.length := by simp [ZFl]
theorem ZQX (m : List (Str × SS)) : (ZFl m).map (·.1) = m.map (·.1) := by simp [ZFl, UV, Function.comp_def]
theorem ZHE (m : List (Str × SS)) (k : Str) : ZDs (ZFl m) k = (ZDs m k).map fun q => V.ref q.S.p := ZHj (fun q : SS => V.ref q.S.p) m k
structure BIn (a : Ad) (H : Hp) (p d : Addr) (m : List (Str × SS)) : Prop where
 nd : (m.map (·.1)).Nodup
 st : ∀ q ∈ m, q.2.At a H
 pw : m.Pairwise fun x y => ∀ b ∈ x.2.all, b ∉ y.2.all
 ap : ∀ q ∈ m, p ∉ q.2.all /\ d ∉ q.2.all
def ZD5 (a : Ad) (H : Hp) (p d : Addr) (m : List (Str × SS)) : Prop := (∃ dx, H p = some (.ins a.ZF dx (bfl d))) /\ H d = some (.dK (dkS (ZFl m))) /\ BIn a H p d m
def BL (p d : Addr) (m : List (Str × SS)) : List Addr := p :: d :: m.flatMap fun q => q.2.all
def trs (m : List (Str × SS)) : List Addr := m.map fun q => q.2.S.tr
theorem ZEO {p d b : Addr} {m : List (Str × SS)} : b ∈ BL p d m ↔ b = p \/ b = d \/ ∃ q ∈ m, b ∈ q.2.all := by simp [BL, List.mem_flatMap]
theorem ZUc {α : Type} {R : α -> α -> Prop} (sy : ∀ x y, R x y -> R y x) : ∀ {l : List α}, l.Pairwise R -> ∀ {x y : α}, x ∈ l -> y ∈ l -> x ≠ y -> R x y
 | [], _, _, _, h, _, _ => by cases h
 | z :: l, h, x, y, hx, hy, n => by
  rw [List.pairwise_cons] at h
  rcases Ul.mp hx with e1 | hx <;> rcases Ul.mp hy with e2 | hy
  ·exact absurd (e1.trans e2.symm) n
  ·rw [e1]; exact h.1 y hy
  ·rw [e2]; exact sy _ _ (h.1 x hx)
  ·exact ZUc sy h.2 hx hy n
section
variable {a : Ad} {H H' : Hp} {p d : Addr} {m : List (Str × SS)} {l : List Addr}
theorem SS.At.frL {q : SS} (h : q.At a H) (f : FrL l H H') (n : ∀ b ∈ l, b ∉ q.all) (nt : ∀ b ∈ l, ∀ xs, H b ≠ some (.tup xs)) : q.At a H' := by
 obtain ⟨x, h⟩ := h
 exact ⟨x, h.frL f n nt⟩
theorem SS.At.same {q : SS} (h : q.At a H) (s : ZDq H H') : q.At a H' := by
 obtain ⟨x, h⟩ := h
 exact ⟨x, h.same s⟩
theorem BIn.frL (h : BIn a H p d m) (f : FrL l H H') (n : ∀ q ∈ m, ∀ b ∈ l, b ∉ q.2.all) (nt : ∀ b ∈ l, ∀ xs, H b ≠ some (.tup xs)) : BIn a H' p d m := ⟨h.nd, fun q hq => (h.st q hq).frL f (n q hq) nt, h.pw, h.ap⟩
theorem BIn.same (h : BIn a H p d m) (s : ZDq H H') : BIn a H' p d m := ⟨h.nd, fun q hq => (h.st q hq).same s, h.pw, h.ap⟩
theorem BIn.apart (h : BIn a H p d m) {x y : Str × SS} (hx : x ∈ m) (hy : y ∈ m) (n : x ≠ y) : ∀ b ∈ x.2.all, b ∉ y.2.all := ZUc (fun _ _ h b hb z => h b z hb) h.pw hx hy n
theorem BIn.look (h : BIn a H p d m) {q : Str × SS} (hq : q ∈ m) (g : q.2.At a H') (k : Kp q.2.S.tr H H') : BIn a H' p d m := by
 refine ⟨h.nd, fun x hx => ?_, h.pw, h.ap⟩
 by_cases e : x = q
 ·rw [e]; exact g
 ·have hA := h.apart hq hx (Ne.symm e)
  obtain ⟨n, hS⟩ := h.st q hq
  refine (h.st x hx).frL (l := [q.2.S.tr]) (FrL.kp k (by simp)) (fun b hb => ?_) fun b hb xs => ?_
  ·rw [Uj.mp hb]
   exact hA _ (by simp [SS.all, SA.own])
  ·rw [Uj.mp hb]
   exact hS.noTup _ (by simp [SA.own]) xs
theorem ZD5.bin (h : ZD5 a H p d m) : BIn a H p d m := h.2.2
theorem ZD5.frL (h : ZD5 a H p d m) (f : FrL l H H') (n : ∀ b ∈ l, b ∉ BL p d m) (nt : ∀ b ∈ l, ∀ xs, H b ≠ some (.tup xs)) : ZD5 a H' p d m := by
 obtain ⟨⟨dx, h1⟩, h2, h3⟩ := h
 exact ⟨⟨dx, f _ _ h1 fun z => n _ z (ZEO.mpr (.inl rfl))⟩, f _ _ h2 fun z => n _ z (ZEO.mpr (.inr (.inl rfl))), h3.frL f (fun q hq b hb z => n b hb (ZEO.mpr (.inr (.inr ⟨q, hq, z⟩)))) nt⟩
theorem ZD5.same (h : ZD5 a H p d m) (s : ZDq H H') : ZD5 a H' p d m := by
 obtain ⟨⟨dx, h1⟩, h2, h3⟩ := h
 exact ⟨⟨dx, s _ _ h1⟩, s _ _ h2, h3.same s⟩
theorem ZD5.live (h : ZD5 a H p d m) : ∀ b ∈ BL p d m, ∃ o, H b = some o := fun b hb => by
 obtain ⟨⟨dx, h1⟩, h2, h3⟩ := h
 rcases ZEO.mp hb with rfl | rfl | ⟨q, hq, z⟩
 ·exact ⟨_, h1⟩
 ·exact ⟨_, h2⟩
 ·obtain ⟨n, hS⟩ := h3.st q hq
  exact hS.live b z
theorem ZD5.fresh (h : ZD5 a H p d m) {b : Addr} (e : H b = none) : b ∉ BL p d m := fun z => by
 obtain ⟨o, e2⟩ := h.live b z
 rw [e] at e2; cases e2
theorem ZD5.kpL (h : ZD5 a H p d m) {q : Addr} {xs : List V} (k : Kp q H H') (hq : H q = some (.lst xs)) (nq : q ∉ BL p d m) : ZD5 a H' p d m :=
 h.frL (l := [q]) (FrL.kp k (by simp)) (fun b hb => by rw [Uj.mp hb]; exact nq) fun b hb ys => by rw [Uj.mp hb, hq]; intro z; cases z
theorem ZD5.pur (h : ZD5 a H p d m) {q : Addr} (hp : Pur H q) (k : Kp q H H') (nq : q ∉ BL p d m) : ZD5 a H' p d m := by
 obtain ⟨x, n, c, e, _⟩ := hp
 exact h.kpL k e nq
theorem ZD5.looked (h : ZD5 a H p d m) (g : BIn a H' p d m) (f : FrL (trs m) H H') : ZD5 a H' p d m := by
 obtain ⟨⟨dx, h1⟩, h2, h3⟩ := h
 have nt : ∀ b, (∀ q ∈ m, b ∉ q.2.all) -> b ∉ trs m := fun b n z => by
  obtain ⟨q, hq, rfl⟩ := Ux.mp z
  exact n q hq (by simp [SS.all, SA.own])
 exact ⟨⟨dx, f _ _ h1 (nt _ fun q hq => (h3.ap q hq).1)⟩, f _ _ h2 (nt _ fun q hq => (h3.ap q hq).2), g⟩
theorem ZRs {k : Str} {q q' : SS} (nd : (m.map (·.1)).Nodup) (hg : ZDs m k = some q) (e : q'.S = q.S) : ZFl (ZD8 m k q') = ZFl m /\ (ZD8 m k q').map (·.1) = m.map (·.1) := by
 have ha : (m.any fun p => decide (p.1 = k)) = true := by
  rw [UL]
  exact ⟨_, ZEJ hg, by simp⟩
 unfold ZD8
 rw [if_pos ha]
 unfold ZFl
 constructor
 ·rw [UV]
  refine UK fun x hx => ?_
  simp only [Function.comp]
  split
  ·rename_i c
   have h1 : ZDs m k = some x.2 := ZE7 nd (by rw [<- c]; exact hx)
   rw [hg] at h1
   rw [e, Option.some.inj h1]
  ·rfl
 ·rw [UV]
  refine UK fun x hx => ?_
  simp only [Function.comp]
  split <;> rfl
theorem ZOL {k : Str} {q q' : SS} (n : (m.map (·.1)).Nodup) (hg : ZDs m k = some q) {x : Str × SS} (hx : x ∈ ZD8 m k q') : x = (k, q') \/ (x ∈ m /\ x.1 ≠ k) := by
 have ha : (m.any fun p => decide (p.1 = k)) = true := by
  rw [UL]
  exact ⟨_, ZEJ hg, by simp⟩
 unfold ZD8 at hx
 rw [if_pos ha] at hx
 obtain ⟨z, hz, e⟩ := Ux.mp hx
 by_cases c : z.1 = k
 ·rw [if_pos c] at e
  left; rw [<- e, c]
 ·rw [if_neg c] at e
  right; rw [<- e]; exact ⟨hz, c⟩
theorem ZWI {k : Str} {q q' : SS} (nd : (m.map (·.1)).Nodup) (hg : ZDs m k = some q) (e : q'.S = q.S) (h : m.Pairwise fun x y => ∀ b ∈ x.2.all, b ∉ y.2.all) : (ZD8 m k q').Pairwise fun x y => ∀ b ∈ x.2.all, b ∉ y.2.all := by
 have ha : (m.any fun p => decide (p.1 = k)) = true := by
  rw [UL]
  exact ⟨_, ZEJ hg, by simp⟩
 have hal : ∀ x ∈ m, (if x.1 = k then (x.1, q') else x).2.all = x.2.all := fun x hx => by
  split
  ·rename_i c
   have h1 : ZDs m k = some x.2 := ZE7 nd (by rw [<- c]; exact hx)
   rw [hg] at h1
   unfold SS.all
   rw [e, Option.some.inj h1]
  ·rfl
 unfold ZD8
 rw [if_pos ha, Vv]
 exact h.imp_of_mem fun {x y} hx hy g b hb => by
  rw [hal x hx] at hb
  rw [hal y hy]
  exact g b hb
theorem ZD5.deed (h : ZD5 a H p d m) {k : Str} {q q' : SS} (hg : ZDs m k = some q) (e : q'.S = q.S) (g : q'.At a H') (f : FrS q.S H H') : ZD5 a H' p d (ZD8 m k q') := by
 obtain ⟨⟨dx, h1⟩, h2, h3⟩ := h
 have hq := ZEJ hg
 obtain ⟨n, hS⟩ := h3.st _ hq
 have apq := h3.ap _ hq
 obtain ⟨e1, e2⟩ := ZRs h3.nd hg e
 refine ⟨⟨dx, f _ _ h1 fun z => apq.1 (Ur _ z)⟩, by rw [e1]; exact f _ _ h2 fun z => apq.2 (Ur _ z), by rw [e2]; exact h3.nd, fun x hx => ?_, ZWI h3.nd hg e h3.pw, fun x hx => ?_⟩
 ·rcases ZOL h3.nd hg hx with rfl | ⟨hx, nx⟩
  ·exact g
  ·have hA := h3.apart hq hx fun z => nx (by rw [<- z])
   exact (h3.st x hx).frL (l := q.S.own) (fun b o eb nb => f _ _ eb nb) (fun b hb => hA b (Ur _ hb)) hS.noTup
 ·rcases ZOL h3.nd hg hx with rfl | ⟨hx, nx⟩
  ·unfold SS.all
   rw [e]
   exact apq
  ·exact h3.ap x hx
theorem ZWJ {k : Str} {q q' : SS} (hg : ZDs m k = some q) (j : Str) : ZDs (ZD8 m k q') j = if j = k then some q' else ZDs m j := by
 have ha : (m.any fun p => decide (p.1 = k)) = true := by
  rw [UL]
  exact ⟨_, ZEJ hg, by simp⟩
 unfold ZD8
 rw [if_pos ha]
 clear ha
 induction m with
 | nil => simp [ZDs] at hg
 | cons x m ih =>
  by_cases c : x.1 = k
  ·by_cases cj : j = k
   ·simp [ZDs, Uw, c, cj]
   ·have cj' : ¬ k = j := fun z => cj z.symm
    simp only [UD, if_pos c, if_neg cj]
    rw [show ZDs ((x.1, q') :: m.map fun p => if p.1 = k then (p.1, q') else p) j = ZDs (m.map fun p => if p.1 = k then (p.1, q') else p) j by simp [ZDs, Uw, c, cj'], show ZDs (x :: m) j = ZDs m j by simp [ZDs, Uw, c, cj']]
    unfold ZDs
    rw [List.find?_map, Option.map_map]
    have : ((fun p : Str × SS => decide (p.1 = j)) ∘ fun p : Str × SS => if p.1 = k then (p.1, q') else p) = fun p => decide (p.1 = j) := by
     funext p
     simp only [Function.comp]
     split <;> rfl
    rw [this]
    cases hf : m.find? (fun p => decide (p.1 = j)) with
    | none => rfl
    | some z =>
     have := List.find?_some hf
     simp only [decide_eq_true_eq] at this
     simp [this, cj]
  ·have hg' : ZDs m k = some q := by
    rw [show ZDs (x :: m) k = ZDs m k by simp [ZDs, Uw, c]] at hg
    exact hg
   have ih := ih hg'
   simp only [UD, if_neg c]
   by_cases cj : x.1 = j
   ·have : ¬ j = k := fun z => c (cj.trans z)
    rw [if_neg this]
    simp [ZDs, Uw, cj]
   ·rw [show ZDs (x :: m.map fun p => if p.1 = k then (p.1, q') else p) j = ZDs (m.map fun p => if p.1 = k then (p.1, q') else p) j by simp [ZDs, Uw, cj], ih, show ZDs (x :: m) j = ZDs m j by simp [ZDs, Uw, cj]]
theorem ZD5.more (h : ZD5 a H p d m) {k : Str} {S : SA} (hg : ZDs m k = none) {H1 : Hp} (hfr : ∀ b ∈ S.p :: S.own, H b = none) (s : ZDq H H1) (g : (SS.mk S [] 0 [] [] []).At a H1) (kp : Kp d H1 H') (f : H' d = some (.dK (dkS (ZFl (m ++ [(k, ⟨S, [], 0, [], [], []⟩)]))))) : ZD5 a H' p d (m ++ [(k, ⟨S, [], 0, [], [], []⟩)]) := by
 have hl := h.live
 obtain ⟨⟨dx, h1⟩, h2, h3⟩ := h
 have npd : p ≠ d := fun z => by rw [z, h2] at h1; cases h1
 have nt : ∀ xs, H1 d ≠ some (.tup xs) := fun xs z => by rw [s _ _ h2] at z; cases z
 have fa : ∀ b ∈ BL p d m, b ∉ S.p :: S.own := fun b hb z => by
  obtain ⟨o, e⟩ := hl b hb
  rw [hfr b z] at e; cases e
 have nd' : d ∉ S.p :: S.own := fa d (ZEO.mpr (.inr (.inl rfl)))
 refine ⟨⟨dx, kp _ _ (s _ _ h1) npd⟩, f, ?_, fun x hx => ?_, ?_, fun x hx => ?_⟩
 ·rw [Us, Vg]
  refine ⟨h3.nd, by simp, fun y hy z hz e => ?_⟩
  simp only [UD, Vs, Uj] at hz
  rw [ZEv] at hg
  exact hg (by rw [<- hz, <- e]; exact hy)
 ·have aux : ∀ q : SS, q.At a H1 -> d ∉ q.all -> q.At a H' := fun q hq nq => hq.frL (l := [d]) (FrL.kp kp (by simp)) (fun b hb => by rw [Uj.mp hb]; exact nq) fun b hb => by rw [Uj.mp hb]; exact nt
  rcases UI.mp hx with hx | hx
  ·exact aux _ ((h3.st x hx).same s) (h3.ap x hx).2
  ·rw [Uj.mp hx]
   exact aux _ g nd'
 ·rw [List.pairwise_append]
  refine ⟨h3.pw, List.pairwise_singleton _ _, fun x hx y hy b hb => ?_⟩
  rw [Uj.mp hy]
  exact fa b (ZEO.mpr (.inr (.inr ⟨x, hx, hb⟩)))
 ·rcases UI.mp hx with hx | hx
  ·exact h3.ap x hx
  ·rw [Uj.mp hx]
   exact ⟨fa p (ZEO.mpr (.inl rfl)), nd'⟩
end
def ZEt (k : Str) : Bool := decide (1 <= k.length) && decide (k.length <= 8) && k.cps.toList.all fun c => decide (c ∈ ("abcdefghijklmnopqrstuvwxyz" : Str).cps.toList)
theorem ZRt (K : W.Frag) : W.kitOne K (.type "str") (.type "str") = some true := by kernel_rfl
section
variable {P : Program} {w : World} {K : W.Frag} {mg : Str -> Option Value} {base : Heap} {a : Ad}
local macro_rules | `(tactic| walk_at "rd") => `(tactic| first
 | with_reducible refine ZFH (by assumption) (‹Txt _ _ _›).ZM (‹Txt _ _ _›).Zr ZLW ?_)
inductive ZL2 (H : Hp) : V -> Prop where
 | non : ZL2 H .non
 | bl (b : Bool) : ZL2 H (.bl b)
 | int (i : Int) : ZL2 H (.int i)
 | tup {p : Addr} {xs : List V} (e : H p = some (.tup xs)) : ZL2 H (.ref p)
 | lst {p : Addr} {xs : List V} (e : H p = some (.lst xs)) : ZL2 H (.ref p)
theorem ZRu (K : W.Frag) : W.kitOne K (.type "NoneType") (.type "str") = some false := by kernel_rfl
theorem ZT8 (K : W.Frag) : W.kitOne K (.type "bool") (.type "str") = some false := by kernel_rfl
theorem ZRv (K : W.Frag) : W.kitOne K (.type "int") (.type "str") = some false := by kernel_rfl
theorem ZRw (K : W.Frag) : W.kitOne K (.type "tuple") (.type "str") = some false := by kernel_rfl
theorem ZRx (K : W.Frag) : W.kitOne K (.type "list") (.type "str") = some false := by kernel_rfl
def ZT9 : Sp := fun vs H Q _ => ∃ v : V, vs = [v] /\ ((∃ k : Str, v = .str k /\ k.length <= 1000 /\ ∀ H', ZDq H H' -> Q (.bl (ZEt k)) H') \/ (ZL2 H v /\ Q (.bl false) H))
theorem ZQY : ZDw ["thing"] ["thing"] (ZDo ZH4) := ZEB
theorem ZQZ (T : Txt K mg a) : ZD2 P w K mg base CX0 1 a.JU a.Jl ["thing"] ZT9 := by
 refine T.ZA6.ok ZQY (by walk_at "l") (fun cdv A outer s H vs Q E hr h => ?_)
 ·obtain ⟨v, rfl, hv⟩ := h
  refine ⟨_, QB.h (ZDp (ZDz (ZJO (ZEA (ZNR K rfl) rfl T.ZS ZHF (ZDk (qv 0) (ZDk (ZLg (v := .ty "str") rfl T.ZCH ZW8 rfl) ZDl))) (ZJO (ZKX ZF4 ZF4 ZDn (ZEA ZVt rfl T.Z7 ZHc (ZDk (qv 0) ZDl)) (ZHW (v := .int 8) rfl T.ZAv ⟨_, rfl⟩)) (ZLD (ZEA (ZXi K rfl rfl) rfl T.ZB7 ZXA (ZDk (ZFY (N := ["thing"]) (sc := ZDo ZH4) (own := ["sign"]) (caps := []) (ks := []) rfl rfl rfl ⟨rfl, by decide +kernel, by decide +kernel, by decide +kernel, by decide +kernel, rfl, by decide +kernel⟩ (ZX0 (qv 0)) (fun _ _ _ _ _ => ZEa (i := 0) (show List.Nodup (α := Str) ["sign"] from by decide +kernel) rfl (by walk_at "o") (.inr rfl)) (fun _ _ _ _ _ => ZFD) (fun _ _ _ _ _ => ZLh (ZXx) (qv 0) (ZHW (v := .str "abcdefghijklmnopqrstuvwxyz") rfl T.ZCL ⟨_, rfl⟩) (by with_unfolding_all rfl))) ZDl))))))), ?_⟩
  walk_at "s"
  walk_at "w"
  rcases hv with ⟨z, rfl, hl, k⟩ | ⟨hv, q⟩
  case inr =>
   cases hv with
   | non => exact ZG8 .non (ZRu _) (ZKW (ZEs q))
   | bl b => exact ZG8 (.bl b) (ZT8 _) (ZKW (ZEs q))
   | int i => exact ZG8 (.int i) (ZRv _) (ZKW (ZEs q))
   | tup e => exact ZG8 (.tup e) (ZRw _) (ZKW (ZEs q))
   | lst e => exact ZG8 (.lst e) (ZRx _) (ZKW (ZEs q))
  have hzl : z.length = z.cps.toList.length := by rw [UF]; rfl
  refine ZG8 (.str z) (ZRt _) ?_
  walk_at "w"
  refine ZFR ?_
  walk_at "w"
  refine ZVu (Uz hl (by decide)) ?_
  walk_at "w"
  have e1 : ZEt z = (decide (1 <= z.length) && (decide (z.length <= 8) && z.cps.toList.all fun c => decide (c ∈ ("abcdefghijklmnopqrstuvwxyz" : Str).cps.toList))) := by unfold ZEt; rw [Bool.and_assoc]
  refine ZEc (fun h1 => ?_) (fun h1 => ?_)
  ·walk_at "w"
   refine ZEc (fun h2 => ?_) (fun h2 => ?_)
   ·walk_at "w"
    intro l hl1
    refine ZEu z.cps.toList.length (fun i U' H' => (∃ o, U' = [o]) /\ ZDq H H' /\ H' l = some (.lst (((z.cps.toList.take i).map fun c => decide (c ∈ ("abcdefghijklmnopqrstuvwxyz" : Str).cps.toList)).map V.bl))) ?_ ?_ ?_
    ·exact ⟨⟨none, rfl⟩, ZDq.new hl1, ZDr⟩
    ·rintro U H' ⟨_, s, f⟩
     refine ⟨by show z.cps.size <= _; rw [UF]; exact Ud _, ?_⟩
     rw [UQ] at f
     walk_at "w"
     refine ZXX (SqL.of f) ?_
     have e2 : ((z.cps.toList.map fun c => decide (c ∈ ("abcdefghijklmnopqrstuvwxyz" : Str).cps.toList)).all id) = ZEt z := by
      rw [e1, decide_eq_true (by omega), decide_eq_true (by omega), Bool.true_and, Bool.true_and, List.all_map]
      rfl
     rw [e2]
     exact k H' s
    ·rintro i U H' hi ⟨⟨o, rfl⟩, s, f⟩
     refine ⟨by show i < z.cps.size; rw [UF] at hi; exact hi, ?_⟩
     rintro x H'' ⟨rfl, c, hc, rfl⟩
     walk_at "w"
     refine ZFR ?_
     walk_at "w"
     refine ZXy ?_
     refine ⟨_, f, ?_, ⟨_, rfl⟩, s.kpN hl1 Kp.upd, ?_⟩
     ·rw [Uf, Uf, UR]
      exact Um (Nat.min_le_right _ _) (Um (show z.cps.toList.length <= 1000 by omega) (by decide))
     ·rw [ZDr, US, hc, Us, Us]
      rfl
   ·have := k H (ZDq.refl _)
    rw [e1, decide_eq_false (show ¬ z.length <= 8 by simp at h2; omega), Vu, Bool.and_false] at this
    exact this
  ·refine ⟨_, rfl, ZEs ?_⟩
   have := k H (ZDq.refl _)
   rw [e1, decide_eq_false (show ¬ 1 <= z.length by simp at h1; omega), Vu] at this
   exact this
def ZWK (a : Ad) : Sp := fun vs H Q _ => ∃ p dx : Addr, vs = [.ref p] /\ H p = some (.ins a.ZF dx []) /\ ∀ (d : Addr) (H' : Hp), H d = none -> ZD5 a H' p d [] -> Kp p H H' -> Q .non H'
theorem ZKC : ZDw ["self"] ["self"] (ZDo ZGQ) := ZEB
theorem ZKD (T : Txt K mg a) : ZD2 P w K mg base CX0 1 a.ZZ a.ZY ["self"] (ZWK a) := by
 refine T.ZAP.ok ZKC (by walk_at "l") (fun cdv A outer s H vs Q E hr h => ?_)
 ·obtain ⟨p, dx, rfl, hp, k⟩ := h
  refine ⟨_, QB.h (ZDp (ZHB K rfl (qv 0) ZGP)), ?_⟩
  walk_at "s"
  walk_at "w"
  refine ZKg fun d H1 n1 f1 S1 => ?_
  have nd : d ≠ p := fun z => by rw [z, hp] at n1; cases n1
  walk_at "w"
  refine ZGW (S1 _ _ hp) T.ZM T.Zr (by show 0 < 1000; decide) fun H2 f2 K2 => ?_
  walk_at "w"
  exact k d H2 n1 ⟨⟨dx, f2⟩, K2 _ _ f1 nd, by simp, fun q hq => (by cases hq), .nil, fun q hq => by cases hq⟩ ((Kp.same S1).trans K2)
def ZOM (a : Ad) : Sp := fun vs H Q _ => ∃ (p d : Addr) (m : List (Str × SS)) (k : Str), vs = [.ref p, .str k] /\ ZEt k = true /\ ZD5 a H p d m /\ m.length <= 60 /\
 (∀ q, ZDs m k = some q -> ∀ H', ZDq H H' -> Q (.ref q.S.p) H') /\
 (ZDs m k = none -> ∀ (S : SA) (H' : Hp), (∀ b ∈ S.p :: S.own, H b = none) -> ZD5 a H' p d (m ++ [(k, ⟨S, [], 0, [], [], []⟩)]) -> Kp d H H' -> Q (.ref S.p) H')
theorem ZL3 : ZDw ["self", "name"] ["self", "name"] (ZDo ZHJ) := ZEB
theorem ZIc (T : Txt K mg a) : ZD2 P w K mg base CX0 9 a.Zt a.Z2 ["self", "name"] (ZOM a) := by
 refine T.ZBA.ok ZL3 (by walk_at "l") (fun cdv A outer s H vs Q E hr h => ?_)
 ·obtain ⟨p, d, m, z, rfl, hz, hB, hml, k1, k2⟩ := h
  have hu := ZF6 hr
  have hzl : z.length <= 1000 := by
   unfold ZEt at hz
   simp only [UH, decide_eq_true_eq] at hz
   omega
  refine ⟨_, QB.h (ZDm (ZEw (ZHf (ZG9 (qcS (ZQZ T) hr.m T.ZCa T.ZA6.kp T.ZCM (ZDk (qv 1) ZDl)))) (ZDp ZIi) ZEX) (ZDm (ZEw (ZEC (ZQA hu) (qv 1) (ZEq K rfl (qv 0)) (by with_unfolding_all rfl)) (ZDp (ZF9 hu (ZNl (dvs := [V.non]) T.ZCs (ZKB T) hr rfl T.ZCx T.Jy (.cons rfl .nil) ZEk) (ZEq K rfl (qv 0)) (qv 1))) ZEX) (ZDp (ZDz (ZF8 hu (ZEq K rfl (qv 0)) (qv 1)))))), ?_⟩
  walk_at "s"
  walk_at "w"
  refine ⟨_, rfl, .inl ⟨z, rfl, hzl, fun H1 S1 => ?_⟩⟩
  rw [hz]
  have hB1 := hB.same S1
  obtain ⟨⟨dx, hp1⟩, hd1, hI1⟩ := id hB1
  walk_at "w"
  refine ZEs ?_
  walk_at "w"
  refine ZQD hd1 ?_
  rw [ZHE]
  walk_at "w"
  cases hg : ZDs m z with
  | some q =>
   refine ZEs ?_
   walk_at "w"
   refine ZHk (v := .ref q.S.p) hd1 (by rw [ZHE, hg]; rfl) ?_
   exact k1 q hg H1 S1
  | none =>
   refine ZFR ?_
   walk_at "w"
   refine ZLo fun x dx2 H2 n2 f2 S2 => ?_
   refine ⟨x, dx2, .non, [], rfl, f2, .inl ⟨rfl, rfl⟩, List.nodup_nil, (fun q hq => by cases hq), UO _, fun S sm H3 eS hfr hSt hsm hsl K3 => ⟨rfl, ?_⟩⟩
   subst eS
   obtain rfl : sm = [] := List.eq_nil_iff_forall_not_mem.mpr fun r hr => by have := (hsm r).mp hr; cases this
   have S13 : ZDq H1 H3 := S2.kpN n2 K3
   have hB3 := hB1.same S13
   obtain ⟨⟨dx3, hp3⟩, hd3, hI3⟩ := id hB3
   walk_at "w"
   refine ZKf hd3 (Um (show (ZFl m).length <= 60 by simpa [ZFl] using hml) (by decide)) fun H4 f4 K4 => ?_
   have e4 : ZD8 (ZFl m) z (.ref S.p) = ZFl (m ++ [(z, ⟨S, [], 0, [], [], []⟩)]) := by
    rw [ZFk (by rw [ZHE, hg]; rfl)]
    simp [ZFl]
   rw [e4] at f4
   have fr1 : ∀ b ∈ S.p :: S.own, H1 b = none := fun b hb => by
    rcases Ul.mp hb with rfl | hb
    ·exact n2
    ·exact ZGv S2 (hfr b hb)
   have hB4 := hB1.more hg fr1 S13 ⟨0, hSt⟩ K4 f4
   obtain ⟨⟨dx4, hp4⟩, hd4, hI4⟩ := id hB4
   walk_at "w"
   refine ZHk (v := .ref S.p) hd4 ?_ ?_
   ·rw [ZHE, ZE7 hI4.nd (v := ⟨S, [], 0, [], [], []⟩) (by simp)]
    rfl
   ·exact k2 hg S H4 (fun b hb => ZGv S1 (fr1 b hb)) hB4 (((Kp.same S1).trans (Kp.same S13)).trans K4)
def ZUA (a : Ad) : Sp := fun vs H Q _ => ∃ (p d : Addr) (m : List (Str × SS)), vs = [.ref p] /\ ZD5 a H p d m /\ m.length <= 60 /\ ∀ (l : Addr) (ss : List Str) (H' : Hp), H l = none -> H' l = some (.lst (ss.map V.str)) -> ss.Perm (m.map (·.1)) -> ss.Pairwise leS -> ZDq H H' -> Q (.ref l) H'
theorem ZL4 : ZDw ["self"] ["self"] (ZDo ZHK) := ZEB
theorem ZGz (T : Txt K mg a) : ZD2 P w K mg base CX0 1 a.Zu a.Zy ["self"] (ZUA a) := by
 refine T.ZBH.ok ZL4 (by walk_at "l") (fun cdv A outer s H vs Q E hr h => ?_)
 ·obtain ⟨p, d, m, rfl, hB, hml, k⟩ := h
  refine ⟨_, QB.h (ZDp (ZDz (ZEA (ZG3 rfl) rfl T.ZT ZGU (ZDk (ZEq K rfl (qv 0)) ZDl)))), ?_⟩
  walk_at "s"
  obtain ⟨⟨dx, hp⟩, hd, hI⟩ := id hB
  walk_at "w"
  refine ZHN hd (by rw [ZRr]; omega) fun l H1 ss n1 f1 hp1 hs1 S1 => ?_
  rw [ZQX] at hp1
  exact k l ss H1 n1 f1 hp1 hs1 S1
def ZRy (a : Ad) : Sp := fun vs H Q _ => ∃ (p d : Addr) (m : List (Str × SS)) (k : Str), vs = [.ref p, .str k] /\ ZEt k = true /\ ZD5 a H p d m /\ m.length <= 60 /\
 ∀ (q : SS) (m' : List (Str × SS)) (H' : Hp), ZDs m' k = some q -> ((m' = m /\ ZDq H H') \/ (ZDs m k = none /\ q = ⟨q.S, [], 0, [], [], []⟩ /\ m' = m ++ [(k, q)] /\ ∀ b ∈ q.all, H b = none)) -> ZD5 a H' p d m' -> Kp d H H' -> Q (.ref q.S.p) H'
theorem ZRz {a : Ad} {vs : List V} {H : Hp} {Q : VK} {E : XK} (h : ZRy a vs H Q E) : ZOM a vs H Q E := by
 obtain ⟨p, d, m, k, e, hk, hB, hl, h⟩ := h
 refine ⟨p, d, m, k, e, hk, hB, hl, fun q hq H' s => h q m H' hq (.inl ⟨rfl, s⟩) (hB.same s) (Kp.same s), fun hn S H' hf hB' K' => ?_⟩
 refine h ⟨S, [], 0, [], [], []⟩ _ H' (ZE7 hB'.bin.nd (by simp)) (.inr ⟨hn, rfl, rfl, hf⟩) hB' K'
end
section
variable {P : Program} {w : World} {K : W.Frag} {mg : Str -> Option Value} {base : Heap} {a : Ad}
local macro_rules | `(tactic| walk_at "rd") => `(tactic| first
 | with_reducible refine ZFH (by assumption) (‹Txt _ _ _›).ZM (‹Txt _ _ _›).Zr ZLW ?_)
theorem ZUB {sm cv : PL} {x z : Int} {o : Option (PL)} (hm : ∀ r, r ∈ cv ↔ r ∈ sm) (h : Is4 (inCol sm x z) o) : ZRq cv x z o := by
 have e : ∀ r, r ∈ inCol cv x z ↔ r ∈ inCol sm x z := fun r => by rw [ZDx, ZDx, hm]
 rcases h with ⟨h1, h2⟩ | ⟨q0, q1, q2, q3, h0, m0, m1, m2, m3, hb⟩
 ·refine .inl ⟨h1, List.eq_nil_iff_forall_not_mem.mpr fun r hr => ?_⟩
  have := (e r).mp hr
  rw [h2] at this
  cases this
 ·refine .inr ⟨q0, q1, q2, q3, h0, fun r hr => (e r).mpr ?_, fun r hr => ?_⟩
  ·simp only [Ul, UC, or_false] at hr
   rcases hr with rfl | rfl | rfl | rfl <;> assumption
  ·have := hb r ((e r).mp hr)
   exact ⟨this.1, this.2.1, by omega, by omega⟩
theorem ZUC {sm : PL} (n : (sm.map (·.1)).Nodup) : ∃ cv, Asc cv /\ ∀ r, r ∈ cv ↔ r ∈ sm := by
 have h := ZIm n (List.mergeSort_perm (sm.map (·.1)) (fun a b => decide (a <= b))) (by
  have := List.pairwise_mergeSort (le := fun a b : Int => decide (a <= b)) (fun a b c h1 h2 => by simp at *; omega) (fun a b => by simp; omega) (sm.map (·.1))
  exact this.imp fun h => by simpa using h)
 exact ⟨_, h.1, fun r => by obtain ⟨t, x⟩ := r; rw [h.2, ZEj n]⟩
def ZPN (sm : PL) (b y w low tall rows : Int) (os : List (Option (Int × Int))) : Prop := ∃ cv kp, Asc cv /\ (∀ r, r ∈ cv ↔ r ∈ sm) /\ Asc kp /\ L2.Kept cv kp b y w /\ ZOI kp b y w low tall rows os
def ZM5 (m : List (Str × SS)) (b y w low tall rows : Int) (k : Str) (q : Lyr) : Prop := ∃ st c, ZDs m k = some st /\ k.cps.toList.head? = some c /\ q.1 = ⟨#[c]⟩ /\ ZPN st.sm b y w low tall rows q.2
def ZQa (a : Ad) : Sp := fun vs H Q _ => ∃ (p d q h : Addr) (m : List (Str × SS)) (b y w low tall rows : Int), vs = [.ref p, .ref q, .ref h] /\ ZD5 a H p d m /\ m.length <= 60 /\ (∀ x ∈ m, ZEt x.1 = true /\ BP x.2.sm) /\ ZIM H q b y w /\ w <= 15 /\ Hts H h low tall rows /\
 ∀ (ss : List Str) (qs : List Lyr) (H' : Hp), ss.Perm (m.map (·.1)) -> ss.Pairwise leS -> Paired (ZM5 m b y w low tall rows) ss qs -> ZD5 a H' p d m -> FrL (trs m) H H' -> Q (.str (textL qs w rows)) H'
theorem FrL.tup {l : List Addr} {H H' : Hp} {b : Addr} {xs : List V} (f : FrL l H H') (nt : ∀ b ∈ l, ∀ xs, H b ≠ some (.tup xs)) (e : H b = some (.tup xs)) : H' b = some (.tup xs) := f _ _ e fun z => nt b z xs e
theorem BIn.noTup {a : Ad} {H : Hp} {p d : Addr} {m : List (Str × SS)} (h : BIn a H p d m) : ∀ b ∈ trs m, ∀ xs, H b ≠ some (.tup xs) := fun b hb xs => by
 obtain ⟨q, hq, rfl⟩ := Ux.mp hb
 obtain ⟨n, hS⟩ := h.st q hq
 exact hS.noTup _ (by simp [SA.own]) xs
theorem ZIM.win {H : Hp} {q : Addr} {b y w : Int} (h : ZIM H q b y w) : Win H q b y w := by
 obtain ⟨h1, h2, h3, h4, h5, h6⟩ := h
 unfold InT at h5 h6
 have : 1 * y <= w * y := Va h3 (by omega)
 exact ⟨h1, by unfold Bn; omega, h2, by unfold Bn; omega, h3, h4⟩
theorem ZHt : ZDw ["self", "window", "heights", "layers"] ["self", "window", "heights"] (ZDo ZFu) := ZEB
theorem ZGS (T : Txt K mg a) : ZD2 P w K mg base CX0 8 a.Zb a.Zc ["self", "window", "heights"] (ZQa a) := by
 refine T.ZAk.ok ZHt (by walk_at "l") (fun cdv A outer s H vs Q E hr h => ?_)
 ·obtain ⟨p, d, q, h, m, b, y, w, low, tall, rows, rfl, hB, hml, hnm, hW, hw15, hH, k⟩ := h
  have hu := ZF6 hr
  refine ⟨_, QB.h (ZDm (ZEH (qcS (ZH6 T) hr.m T.Yl T.Zl.kp T.Ym (ZDk (qv 1) ZDl))) (ZDm (ZHX (N := ["self", "window", "heights", "layers"]) (sc := ZDo ZFu) (own := ["name"]) (caps := ["window", "heights", "self"]) (ks := [1, 2, 0]) (i := 3) rfl rfl rfl ⟨rfl, by decide +kernel, by decide +kernel, by decide +kernel, by decide +kernel, rfl, by decide +kernel⟩ ZHt.nd rfl (by walk_at "o") (ZFp K rfl (ZIr (qv 0) T.ZM T.Zv (ZGz T) hr.m T.Z0 .nil ZEk)) (fun _ _ _ _ _ => ZEa (i := 0) (show List.Nodup (α := Str) ["name", "window", "heights", "self"] from by decide +kernel) rfl (by walk_at "o") (.inr rfl)) (fun _ _ _ _ _ => ZFD) (fun _ _ _ _ _ => ZEh (ZDk (ZD1 ZQv (qv 0) ZDn) (ZDk (qcS (ZQS T) hr.m T.ZCZ T.ZA7.kp T.ZCX (ZDk (ZEo (ZF8 hu (ZEq K rfl (qv 3)) (qv 0)) T.ZH T.ZBF (ZLx T) hr T.ZBB .nil ZEk (ZDk (qv 1) ZDl)) (ZDk (qv 1) (ZDk (qv 2) ZDl)))) ZDl)))) (ZDp (ZDz (qcS (ZL1 T) hr.m T.ZA8 T.JH.kp T.ZBC (ZDk (qv 3) (ZDk (ZD1 (ZD6 K rfl) (qv 1) ZDn) (ZDk (ZD1 (ZD6 K rfl) (qv 2) ZDn) ZDl)))))))), ?_⟩
  walk_at "s"
  walk_at "w"
  refine ⟨q, b, y, w, rfl, hW.1, by have := hW.2.2.1; omega, by omega, hW.2.2.2.2.1, hW.2.2.2.2.2, ?_⟩
  obtain ⟨⟨dx, hp⟩, hd, hI⟩ := id hB
  walk_at "w"
  refine ZES hp (ZHD (by decide +kernel)) ?_
  walk_at "w"
  refine ⟨p, d, m, rfl, hB, hml, fun l1 ss H1 n1 f1 hp1 hs1 S1 => ?_⟩
  walk_at "w"
  intro l hl
  have hB1 := hB.same S1
  have nl1 : l1 ∉ trs m := fun z => by
   obtain ⟨x, hx, e⟩ := Ux.mp z
   exact hB.fresh n1 (ZEO.mpr (.inr (.inr ⟨x, hx, by rw [<- e]; simp [SS.all, SA.own]⟩)))
  have nlB := hB1.fresh hl
  have nll : l ∉ trs m := fun z => by
   obtain ⟨x, hx, e⟩ := Ux.mp z
   exact nlB (ZEO.mpr (.inr (.inr ⟨x, hx, by rw [<- e]; simp [SS.all, SA.own]⟩)))
  have nll1 : l1 ≠ l := fun z => by rw [z, hl] at f1; cases f1
  refine ZEu ss.length (fun i U' H' => (∃ o, U' = [o, some (.ref q), some (.ref h), some (.ref p)]) /\ ZD5 a H' p d m /\ FrL (trs m) H1 H' /\ ∃ vs qs, H' l = some (.lst vs) /\ Paired (ZLU H') vs qs /\ Paired (ZM5 m b y w low tall rows) (ss.take i) qs) ?_ ?_ ?_
  ·exact ⟨⟨none, rfl⟩, hB1.same (ZDq.new hl), FrL.same (ZDq.new hl), [], [], ZDr, .nil, .nil⟩
  ·rintro U H2 ⟨_, hB2, F2, vs, qs, f2, hL2, hO2⟩
   refine ⟨⟨_, SqL.of (F2 _ _ f1 nl1), by simp⟩, ?_⟩
   rw [UQ] at hO2
   have hq2 := FrL.tup F2 hB1.bin.noTup (S1 _ _ hW.1)
   have hh2 := FrL.tup F2 hB1.bin.noTup (S1 _ _ hH.1)
   walk_at "w"
   refine ⟨l, qs, w, rows, rfl, ⟨vs, f2, hL2⟩, fun x hx => ?_, by have := hW.2.2.1; omega, by omega, hH.2.2.2.2.1, hH.2.2.2.2.2, fun H3 S3 => k ss qs H3 hp1 hs1 hO2 (hB2.same S3) (((FrL.same S1).trans F2).trans (FrL.same S3))⟩
   obtain ⟨i, hi, e⟩ := UP hx
   have hi2 : i < ss.length := by rw [Paired.length hO2]; exact hi
   obtain ⟨y', e2, st, c, _, _, g1, cv, kp, _, _, _, _, hDO⟩ := Paired.get hO2 (Uc hi2)
   rw [Uc hi, e] at e2
   cases e2
   exact ⟨by rw [g1]; rfl, hDO.1⟩
  ·rintro i U H2 hi ⟨⟨o, rfl⟩, hB2, F2, vs, qs, f2, hL2, hO2⟩
   have f12 := F2 _ _ f1 nl1
   refine ⟨⟨_, _, SqL.of f12, by rw [UB, Uc hi]; rfl⟩, ?_⟩
   rintro u H3 ⟨eh, hu'⟩
   obtain rfl : H2 = H3 := eh.symm
   have hu' := hu' _ (SqL.of f12)
   rw [UB, Uc hi] at hu'
   obtain rfl := Option.some.inj hu'
   generalize hkk : ss[i] = kk at *
   have hkm : kk ∈ m.map (·.1) := hp1.mem_iff.mp (by rw [<- hkk]; exact Vb hi)
   obtain ⟨⟨k', st⟩, hst, ek⟩ := Ux.mp hkm
   dsimp only at ek
   subst ek
   have hg := ZE7 hB.bin.nd hst
   obtain ⟨hn1, hbp⟩ := hnm _ hst
   dsimp only at hn1 hbp
   obtain ⟨c, hc⟩ : ∃ c, k'.cps.toList.head? = some c := by
    unfold ZEt at hn1
    simp only [UH, decide_eq_true_eq] at hn1
    have h0 : 0 < k'.cps.toList.length := by
     have : k'.length = k'.cps.toList.length := by rw [UF]; rfl
     omega
    exact ⟨k'.cps.toList[0], by rw [List.head?_eq_getElem?, Uc h0]⟩
   have hkl : k'.length <= sizeLine := by
    unfold ZEt at hn1
    simp only [UH, decide_eq_true_eq] at hn1
    exact Uz hn1.1.2 (by decide)
   obtain ⟨⟨dx2, hp2⟩, hd2, hI2⟩ := id hB2
   obtain ⟨n2, hS2⟩ := hI2.st _ hst
   dsimp only at hS2
   obtain ⟨dxS, vsS, hpS, _⟩ := id hS2
   have hW2 : ZIM H2 q b y w := ⟨FrL.tup F2 hB1.bin.noTup (S1 _ _ hW.1), hW.2⟩
   have hh2 : Hts H2 h low tall rows := ⟨FrL.tup F2 hB1.bin.noTup (S1 _ _ hH.1), hH.2⟩
   walk_at "w"
   refine ZFR ?_
   walk_at "w"
   refine ZRS (c := c) hkl (by rw [List.head?_eq_getElem?] at hc; exact ZF5 (j := 0) hc) ?_
   walk_at "w"
   refine ZHk (v := .ref st.S.p) hd2 (by rw [ZHE, hg]; rfl) ?_
   walk_at "w"
   refine ZES hpS ZHs ?_
   walk_at "w"
   refine ⟨st.S, q, n2, b, y, w, st.sm, st.c, st.ds, st.ts, st.ws, rfl, hS2, hW2, fun u5 us5 fs n5 H5 f5 hF5 h45 hS5 K5 => ?_⟩
   have ktup : ∀ b xs, H2 b = some (.tup xs) -> H5 b = some (.tup xs) := fun b xs e => K5 _ _ e fun z => by rw [z] at e; exact hS2.noTup _ (by simp [SA.own]) xs e
   have hB5 := hB2.looked (hI2.look hst ⟨n5, hS5⟩ K5) (FrL.kp K5 (Ux.mpr ⟨_, hst, rfl⟩))
   obtain ⟨cv, hcv, hcm⟩ := ZUC hS2.nd
   have hFO : ZHY cv b y w fs := ⟨h45.1, fun k' o hk => ZUB hcm (h45.2 k' o hk)⟩
   walk_at "w"
   refine ⟨u5, q, h, us5, fs, cv, b, y, w, low, tall, rows, rfl, f5, hF5, hFO, hw15, ZIM.win ⟨ktup _ _ hW2.1, hW2.2⟩, ⟨ktup _ _ hh2.1, hh2.2⟩, hcv, fun r hr => hbp r ((hcm r).mp hr), fun u6 vs6 os kp H6 f6 hD6 hak hkept hDO S6 => ?_⟩
   walk_at "w"
   refine ZD9 (by show 2 <= sizeLine; decide) fun c7 H7 n7 f7 S7 => ?_
   have S57 := S6.trans S7
   have f27 : H7 l = some (.lst vs) := S57 _ _ (K5 _ _ f2 fun z => nll (by rw [z]; exact Ux.mpr ⟨_, hst, rfl⟩))
   have kt7 : ∀ b xs, H7 b = some (.tup xs) -> upd H7 l (.lst (vs ++ [.ref c7])) b = some (.tup xs) := fun b xs e => by
    rw [ZD4 (fun z => by rw [z, f27] at e; cases e)]
    exact e
   refine ⟨vs, f27, ?_, ⟨_, rfl⟩, (hB5.same S57).kpL Kp.upd f27 nlB, ?_, vs ++ [.ref c7], qs ++ [(⟨#[c]⟩, os)], ZDr, ?_, ?_⟩
   ·have h1 := Paired.length hL2
    have h2 := Paired.length hO2
    rw [UR] at h2
    have h3 := hp1.length_eq
    rw [Uf] at h3
    exact Um (show vs.length <= 60 by omega) (by decide)
   ·intro b' o' e' nb
    rw [ZD4 (fun z => by rw [z, hl] at e'; cases e')]
    exact S57 _ _ (K5 _ _ (F2 _ _ e' nb) fun z => nb (by rw [z]; exact Ux.mpr ⟨_, hst, rfl⟩))
   ·exact Paired.snocP (Paired.mapP hL2 fun _ _ z => z.tups fun b xs e => kt7 _ _ (S57 _ _ (ktup _ _ e))) ⟨c7, u6, vs6, rfl, kt7 _ _ f7, kt7 _ _ (S7 _ _ f6), (hD6.same S7).mapP fun v o hd => by
     cases hd with
     | non => exact .non
     | pr e => exact .pr (kt7 _ _ e)⟩
   ·rw [US, Uc hi, hkk]
    exact Paired.snocP hO2 ⟨st, c, hg, hc, rfl, cv, kp, hcv, hcm, hak, hkept, hDO⟩
end
section
variable {P : Program} {w : World} {K : W.Frag} {mg : Str -> Option Value} {base : Heap} {a : Ad}
def ZYK (K : W.Frag) : Sp := fun vs H Q _ => ∃ (c1 c2 : Addr) (u v : Int × Int), vs = [.ref c1, .ref c2] /\ H c1 = some (.tup [.int u.1, .int u.2]) /\ H c2 = some (.tup [.int v.1, .int v.2]) /\ Bn 600 u.1 /\ Bn 600 u.2 /\ Bn 600 v.1 /\ Bn 600 v.2 /\ Q (.bl (decide (u.1 * v.2 < v.1 * u.2))) H
theorem ZR0 : ZDw ["_law_one", "_law_other"] ["_law_one", "_law_other"] (ZDo ZKm) := ZEB
theorem ZMc (T : Txt K mg a) : ZD2 P w K mg base CX0 1 a.ZAU a.ZAX ["_law_one", "_law_other"] (ZYK K) := by
 refine T.ZAH.ok ZR0 (by walk_at "l") (fun cdv A outer s H vs Q E hr h => ?_)
 ·obtain ⟨c1, c2, u, v, rfl, h1, h2, b1, b2, b3, b4, q⟩ := h
  refine ⟨_, QB.h (ZDp (ZDz (ZLh (ZGZ) (ZDu ZED (ZD1 (ZD6 K rfl) (qv 0) ZDn) (ZD1 (ZD6 K rfl) (qv 1) ZDn)) (ZDu ZED (ZD1 (ZD6 K rfl) (qv 1) ZDn) (ZD1 (ZD6 K rfl) (qv 0) ZDn)) (ZEL _)))), ?_⟩
  walk_at "s"
  walk_at "w"
  refine ZHe (ZHA b1 b4 (by decide)) ?_
  walk_at "w"
  refine ZHe (ZHA b3 b2 (by decide)) ?_
  walk_at "w"
  exact q
def ZR1 (K : W.Frag) : Sp := fun vs H Q _ => ∃ (c1 c2 : Addr) (u v : Int × Int) (t : Int), vs = [.ref c1, .ref c2, .int t] /\ H c1 = some (.tup [.int u.1, .int u.2]) /\ H c2 = some (.tup [.int v.1, .int v.2]) /\
 Bn 200 u.1 /\ Bn 200 u.2 /\ Bn 200 v.1 /\ Bn 200 v.2 /\ Bn 200 t /\ ∀ (r : Addr) (H' : Hp), H r = none -> H' r = some (.tup [.int (frP u v t).1, .int (frP u v t).2]) -> ZDq H H' -> Q (.ref r) H'
theorem ZKN : ZDw ["_law_one", "_law_other", "_law_time", "_law_apart"] ["_law_one", "_law_other", "_law_time"] (ZDo ZI6) := ZEB
theorem ZKO (T : Txt K mg a) : ZD2 P w K mg base CX0 1 a.Y0 a.Y3 ["_law_one", "_law_other", "_law_time"] (ZR1 K) := by
 refine T.Yn.ok ZKN (by walk_at "l") (fun cdv A outer s H vs Q E hr h => ?_)
 ·obtain ⟨c1, c2, u, v, t, rfl, h1, h2, b1, b2, b3, b4, b5, k⟩ := h
  refine ⟨_, QB.h (ZDm (qsS (i := 3) ZKN.nd (ZDu ZFG (ZD1 (ZD6 K rfl) (qv 1) ZDn) (ZD1 (ZD6 K rfl) (qv 0) ZDn))) (ZDp (ZDz (ZEh (ZDk (ZDu ZEU (ZDu ZED (ZD1 (ZD6 K rfl) (qv 0) ZDn) (qv 3)) (ZDu ZED (ZDu ZFG (ZD1 (ZD6 K rfl) (qv 1) ZDn) (ZD1 (ZD6 K rfl) (qv 0) ZDn)) (ZDu ZFG (qv 2) (ZD1 (ZD6 K rfl) (qv 0) ZDn)))) (ZDk (qv 3) ZDl)))))), ?_⟩
  walk_at "s"
  walk_at "w"
  refine ZHe (ZHA b2 (b3.sub b1) (by decide)) ?_
  walk_at "w"
  refine ZHe (ZHA (b4.sub b2) (b5.sub b1) (by decide)) ?_
  walk_at "w"
  exact ZD9 (by show 2 <= sizeLine; decide) fun r H2 n2 f2 S2 => k r H2 n2 f2 S2
theorem ints_dats {H : Hp} : ∀ ns : List Int, ZFg K H (ns.map V.int) (ns.map PyData.int)
 | [] => .nil
 | n :: ns => .cons (.int n) (ints_dats ns)
def ZYL (K : W.Frag) : Sp := fun vs H Q _ => ∃ (t : Addr) (cv : PL) (x z : Int), vs = [.ref t, .int x, .int z] /\ PrL H t cv /\ Asc cv /\ BP cv /\ cv.length <= 100 /\ Bn 200 x /\ Bn 200 z /\
 ∀ (l : Addr) (H' : Hp), H l = none -> PrL H' l (ZFF cv x z) -> (ZFF cv x z).length <= 400 -> ZDq H H' -> Q (.ref l) H'
theorem ZJB : ZDw ["_law_samples", "_law_x", "_law_z", "_law_found", "_law_one", "_law_other"] ["_law_samples", "_law_x", "_law_z"] (ZDo ZJ6) := ZEB
theorem ZUD (T : Txt K mg a) : ZD2 P w K mg base CX0 2 a.ZAs a.ZAu ["_law_samples", "_law_x", "_law_z"] (ZYL K) := by
 refine T.ZBx.ok ZJB (by walk_at "l") (fun cdv A outer s H vs Q E hr h => ?_)
 ·obtain ⟨t, cv, x, z, rfl, hT, hasc, hbp, hlen, bx, bz, k⟩ := h
  obtain ⟨us1, g1, pw⟩ := id hT
  have hcl : (inCol cv x z).length <= 100 := Uz (UX _ _) hlen
  refine ⟨_, QB.h (ZDm (ZHX (N := ["_law_samples", "_law_x", "_law_z", "_law_found", "_law_one", "_law_other"]) (sc := ZDo ZJ6) (own := ["_law_time", "_law_height_here"]) (caps := ["_law_x", "_law_z"]) (ks := [1, 2]) (i := 3) rfl rfl rfl ⟨rfl, by decide +kernel, by decide +kernel, by decide +kernel, by decide +kernel, rfl, by decide +kernel⟩ ZJB.nd rfl (by walk_at "o") (ZFp K rfl (qv 0)) (fun _ _ _ _ _ => ZEz (n := 2) K rfl rfl (ZDy (ZEa (i := 0) (show List.Nodup (α := Str) ["_law_time", "_law_height_here", "_law_x", "_law_z"] from by decide +kernel) rfl (by walk_at "o") (.inr rfl)) (ZDy (ZEa (i := 1) (show List.Nodup (α := Str) ["_law_time", "_law_height_here", "_law_x", "_law_z"] from by decide +kernel) rfl (by walk_at "o") (.inr rfl)) ZEi))) (fun _ _ _ _ _ => ZHg (ZIh ZF4 ZGZ (qv 2) (qv 0) (qv 3))) (fun _ _ _ _ _ => ZEh (ZDk (qv 1) (ZDk ZDn ZDl)))) (ZDm (ZFB PassesOwn.never rfl (ZRK K rfl rfl T.ZBI (ZDk (qv 0) (ZDk (ZNO (ZVV K rfl) (qv 0) (ZO6 ZDn) ZO5) ZDl))) (ZEz (n := 2) K rfl rfl (ZDy (qgN (i := 4) ZJB.nd) (ZDy (qgN (i := 5) ZJB.nd) ZEi))) (ZDp (ZEw (QW.pt (ZLE (ZEC (ZGZ) (ZD1 (ZD6 K rfl) (qv 4) ZDn) (qv 2) (ZEL _)) (ZJ3 (ZEC (ZGZ) (qv 1) (ZD1 (ZD6 K rfl) (qv 5) ZDn) (ZEL _))))) (ZDm (ZEH (ZGL PySem.F.plainAttrs_list PySem.F.slot_list_append PySem.F.type_list_append ZFK (qv 3) (ZDk (qcS (ZKO T) hr T.ZAp T.Yn.kp T.ZAr (ZDk (qv 4) (ZDk (qv 5) (ZDk (ZEA (ZLA rfl) rfl T.YN ZIR (ZDk (qv 1) (ZDk (ZD1 (ZD6 K rfl) (qv 4) ZDn) ZDl))) ZDl)))) ZDl))) (ZDp (ZEH (ZGL PySem.F.plainAttrs_list PySem.F.slot_list_append PySem.F.type_list_append ZFK (qv 3) (ZDk (qcS (ZKO T) hr T.ZAp T.Yn.kp T.ZAr (ZDk (qv 4) (ZDk (qv 5) (ZDk (ZEA (ZLB rfl) rfl T.YM ZIS (ZDk (qv 2) (ZDk (ZD1 (ZD6 K rfl) (qv 5) ZDn) ZDl))) ZDl)))) ZDl))))) ZEX))) (ZDp (ZDz (qv 3))))), ?_⟩
  walk_at "s"
  walk_at "w"
  intro l n1
  refine ZEu cv.length (fun i U' H' => (∃ o1 o2, U' = [o1, o2, some (.int x), some (.int z)]) /\ ZDq H H' /\ ∃ vs, H' l = some (.lst vs) /\ ZDv H' vs ((inCol (cv.take i) x z).map (fun q => (q.2, (1 : Int))))) ?_ ?_ ?_
  ·exact ⟨⟨none, none, rfl⟩, ZDq.new n1, [], ZDr, .nil⟩
  ·rintro U H2 ⟨_, S2, vs2, f2, hP2⟩
   refine ⟨⟨_, SqL.of (S2 _ _ g1), by rw [pw.length]; exact Ud _⟩, ?_⟩
   rw [UQ] at hP2
   walk_at "w"
   refine PrL.sl (hT.same S2) fun w3 H3 n3 h3 S3 => ?_
   have S23 := S2.trans S3
   obtain ⟨us, gT, pT⟩ := hT.same S23
   obtain ⟨us3, g3, p3⟩ := id h3
   have ec : ZJS cv (some 1) none = cv.drop 1 := by
    unfold ZJS
    rw [show HT.sIx cv.length 0 (some 1) = min 1 cv.length from HT.sIx_nat cv.length 0 1, show HT.sIx cv.length cv.length none = cv.length from rfl]
    by_cases hz : cv.length = 0
    ·have : cv = [] := List.length_eq_zero_iff.mp hz
     subst this
     rfl
    ·rw [show min 1 cv.length = 1 by omega]
     exact List.take_of_length_le (by simp)
   rw [ec] at p3
   have f3 := S3 _ _ f2
   have hP3 := hP2.same S3
   have ntl : t ≠ l := ZET g1 n1
   have nwl : w3 ≠ l := (ZET f2 n3).symm
   walk_at "w"
   refine ZRL (SqB.ofL gT) (SqB.ofL g3) ?_
   refine ZPC (xs := us) (ys := us3) (b1 := true) (b2 := true) (l1 := t) (l2 := w3) (cv.length - 1) (by rw [pT.length, p3.length, List.length_drop]; omega) (fun i U H' => Kp l H3 H' /\ (∃ v6 v7, U = [some (.ref t), some (.int x), some (.int z), some (.ref l), v6, v7]) /\ ∃ (vs : List V) (ns : PL), H' l = some (.lst vs) /\ ZDv H' vs ns /\
    ns = (((inCol cv x z).map (fun q => (q.2, (1 : Int)))) ++ ((cv.zip (cv.drop 1)).take i).flatMap (ZEN x z)) /\ ns.length <= 100 + 2 * i) ?_ ?_ ?_ ?_
   ·refine ⟨Kp.same (ZDq.refl _), ⟨_, _, rfl⟩, _, _, f3, hP3, ?_, ?_⟩
    ·rw [List.take_zero, List.flatMap_nil, UJ]
    ·rw [Uf]; omega
   ·rintro i U H4 ⟨K4, _, _⟩
    exact ⟨SqB.ofL (K4 _ _ gT ntl), SqB.ofL (K4 _ _ g3 nwl)⟩
   ·rintro i U H4 T H5 a b hi ⟨K4, ⟨v6, v7, rfl⟩, vs4, ns, f4, hP4, ens, hns⟩ ha hb nT fT S5
    obtain ⟨c1, q1, rfl, hq1, hc1⟩ := pT.at ha
    obtain ⟨c2, q2, rfl, hq2, hc2⟩ := p3.at hb
    have hz := ZLp hq1 hq2
    have K5 : Kp l H3 H5 := K4.then S5
    have f5 := S5 _ _ f4
    have hP5 := hP4.same S5
    have g1' := ZGC K5 f3 hc1
    have g2' := ZGC K5 f3 hc2
    have hb1 := hbp q1 (Uv hq1)
    have hb2 := hbp q2 (List.mem_of_mem_drop (Uv hq2))
    have e3 : (cv.zip (cv.drop 1)).take (i + 1) = (cv.zip (cv.drop 1)).take i ++ [(q1, q2)] := by rw [US, hz]; rfl
    have hnl : ∀ k : Nat, k <= 400 -> k < sizeLine := fun k hk => Um hk (by decide)
    have e4 : (((inCol cv x z).map (fun q => (q.2, (1 : Int)))) ++ ((cv.zip (cv.drop 1)).take (i + 1)).flatMap (ZEN x z)) = ns ++ (ZEN x z (q1, q2)) := by
     rw [ens, e3, List.flatMap_append, <- List.append_assoc]
     simp only [List.flatMap_cons, List.flatMap_nil, UJ]
    walk_at "w"
    refine ZEc (fun h1 => ?_) (fun h1 => ?_)
    ·walk_at "w"
     refine ZEc (fun h2 => ?_) (fun h2 => ?_)
     ·have e5 : (ZEN x z (q1, q2)) = [(frP q1 q2 (mx x q1.1)), (frP q1 q2 (mn z q2.1))] := by
       unfold ZEN
       rw [if_pos ⟨h1, h2⟩]
      walk_at "w"
      refine ⟨tyL f5, ?_⟩
      walk_at "w"
      refine ⟨c1, c2, q1, q2, _, rfl, g1', g2', hb1.1, hb1.2, hb2.1, hb2.2, ZQN bx hb1.1, fun r6 H6 n6 f6 S6 => ?_⟩
      have fl6 := S6 _ _ f5
      walk_at "w"
      refine ZFV fl6 (by rw [hP4.length]; exact hnl _ (by omega)) fun H7 f7 K7 => ?_
      have hP7 := ZDv.kpL K7 fl6 ((hP5.same S6).snoc f6)
      have g1'' := ZGC K7 fl6 (S6 _ _ g1')
      have g2'' := ZGC K7 fl6 (S6 _ _ g2')
      walk_at "w"
      refine ⟨tyL f7, ?_⟩
      walk_at "w"
      refine ⟨c1, c2, q1, q2, _, rfl, g1'', g2'', hb1.1, hb1.2, hb2.1, hb2.2, ZQO bz hb2.1, fun r8 H8 n8 f8 S8 => ?_⟩
      have fl8 := S8 _ _ f7
      walk_at "w"
      refine ZFV fl8 (by rw [UN, hP4.length]; exact hnl _ (by simp only [UZ, List.length_nil]; omega)) fun H9 f9 K9 => ?_
      have hP9 := ZDv.kpL K9 fl8 ((hP7.same S8).snoc f8)
      walk_at "w"
      refine ⟨(((K5.then S6).trans K7).then S8).trans K9, ⟨_, _, rfl⟩, _, _, f9, hP9, ?_, ?_⟩
      ·rw [e4, e5, List.append_assoc]
       rfl
      ·rw [UN, UN]
       show ns.length + 1 + 1 <= _
       omega
     ·have e5 : (ZEN x z (q1, q2)) = [] := by
       unfold ZEN
       rw [if_neg (fun g => h2 g.2)]
      walk_at "w"
      exact ⟨K5, ⟨_, _, rfl⟩, vs4, ns, f5, hP5, by rw [e4, e5, UJ], by omega⟩
    ·have e5 : (ZEN x z (q1, q2)) = [] := by
      unfold ZEN
      rw [if_neg (fun g => h1 g.1)]
     walk_at "w"
     refine ZEs ?_
     walk_at "w"
     exact ⟨K5, ⟨_, _, rfl⟩, vs4, ns, f5, hP5, by rw [e4, e5, UJ], by omega⟩
   ·rintro U H4 ⟨K4, ⟨v6, v7, rfl⟩, vs4, ns, f4, hP4, ens, hns⟩
    walk_at "w"
    have em : ns = ZFF cv x z := by
     rw [ens, List.take_of_length_le (by rw [List.length_zip, List.length_drop]; omega)]
     rfl
    subst em
    exact k l H4 n1 ⟨vs4, f4, hP4⟩ (by omega) (S23.kpN n1 K4)
  ·rintro i U H2 hi ⟨⟨o1, o2, rfl⟩, S2, vs, f, hPc⟩
   have hi2 : i < us1.length := by rw [pw.length]; exact hi
   refine ⟨⟨_, _, SqL.of (S2 _ _ g1), Uc hi2⟩, ?_⟩
   rintro v H'' ⟨rfl, hv⟩
   have hv := hv _ (SqL.of (S2 _ _ g1))
   obtain ⟨c, p, rfl, hp, hc⟩ := (pw.same S2).at hv
   have e3 : cv.take (i + 1) = cv.take i ++ [p] := by
    rw [US, hp]
    rfl
   have e4 : inCol (cv.take (i + 1)) x z = inCol (cv.take i) x z ++ (if (decide (x <= p.1) && decide (p.1 < z)) = true then [p] else []) := by
    rw [e3, inCol, List.filter_append]
    congr 1
    simp only [List.filter_cons, List.filter_nil]
   walk_at "w"
   refine ZEc (fun h1 => ?_) (fun h1 => ?_)
   ·walk_at "w"
    refine ZEc (fun h2 => ?_) (fun h2 => ?_)
    ·walk_at "w"
     refine ZD9 (by show 2 <= sizeLine; decide) fun t4 H4 n4 f4 S4 => ?_
     have f34 := S4 _ _ f
     refine ⟨vs, f34, ?_, ⟨_, _, rfl⟩, ?_, ?_⟩
     ·have e := hPc.length
      rw [e, Uf]
      refine Um (UX _ _) ?_
      rw [UR]
      exact Um (Nat.min_le_left _ _) (Ue (Ue hi hlen) (by decide))
     ·exact (S2.trans S4).kpN n1 Kp.upd
     ·refine ⟨_, ZDr, ?_⟩
      rw [e4, decide_eq_true h1, decide_eq_true h2, Bool.and_self, if_pos rfl, Us]
      exact ZDv.kpL Kp.upd f34 ((hPc.same S4).snoc (p := (p.2, 1)) f4)
    ·refine ⟨⟨_, _, rfl⟩, S2, vs, f, ?_⟩
     rw [e4, decide_eq_false h2, Bool.and_false, if_neg (by decide), UJ]
     exact hPc
   ·walk_at "w"
    refine ZEs ?_
    refine ⟨⟨_, _, rfl⟩, S2, vs, f, ?_⟩
    rw [e4, decide_eq_false h1, Vu, if_neg (by decide), UJ]
    exact hPc
theorem ZR2 {low tall k : Int} (h1 : Bn 200 low) (h2 : Bn 200 tall) (h0 : 0 <= k) (h3 : k <= 1001) : Bn 600 (low + k * tall) := by
 have hk : Bn 11 k := by unfold Bn; omega
 exact ((h1.mono (show 200 <= 250 by decide)).add ((hk.mul h2).mono (by decide))).mono (by decide)
def ZUd (mt : PL) : Prop := ∀ q ∈ mt, 0 < q.2 /\ Bn 600 q.1 /\ Bn 600 q.2
theorem ZYM {cv : PL} {x z : Int} (hasc : Asc cv) (hbp : BP cv) (bx : Bn 200 x) (bz : Bn 200 z) : ZUd (ZFF cv x z) := by
 intro q hq
 refine ⟨ZVs hasc q hq, ?_⟩
 rcases UI.mp hq with hq | hq
 ·obtain ⟨p, hp, rfl⟩ := Ux.mp hq
  exact ⟨(hbp p (ZMZ hp)).2.mono (by decide), bn1.mono (by decide)⟩
 ·unfold ZLN at hq
  obtain ⟨ab, hab, hq⟩ := List.mem_flatMap.mp hq
  have ha := hbp ab.1 (List.of_mem_zip (a := ab.1) (b := ab.2) hab).1
  have hb := hbp ab.2 (List.mem_of_mem_drop (List.of_mem_zip (a := ab.1) (b := ab.2) hab).2)
  have key : ∀ t, Bn 200 t -> Bn 600 (frP ab.1 ab.2 t).1 /\ Bn 600 (frP ab.1 ab.2 t).2 := fun t ht =>
   ⟨(Bn.add ((ha.2.mul (hb.1.sub ha.1)).mono (show 200 + (200 + 1) <= 500 by decide)) (((hb.2.sub ha.2).mul (ht.sub ha.1)).mono (by decide))).mono (by decide), (hb.1.sub ha.1).mono (by decide)⟩
  unfold ZEN at hq
  split at hq
  ·simp only [Ul, UC, or_false] at hq
   rcases hq with rfl | rfl
   ·exact key _ (ZQN bx ha.1)
   ·exact key _ (ZQO bz hb.1)
  ·cases hq
end
def ZJv (fs : List Int) (rows : Int) (rs : List Int) : Prop := (fs = [] /\ rs = []) \/ ∃ m M, m ∈ fs /\ (∀ f ∈ fs, m <= f) /\ M ∈ fs /\ (∀ f ∈ fs, f <= M) /\ rs = ZLO m M rows.toNat
theorem ZLX : ∀ {fs : List Int}, fs ≠ [] -> ∃ m ∈ fs, ∀ f ∈ fs, m <= f
 | [], h => absurd rfl h
 | [x], _ => ⟨x, by simp, fun f hf => by rw [Uj.mp hf]; exact Int.le_refl _⟩
 | x :: y :: r, _ => by
  obtain ⟨m, h1, h2⟩ := ZLX (fs := y :: r) (by simp)
  by_cases h : x <= m
  ·exact ⟨x, by simp, fun f hf => by
    rcases Ul.mp hf with rfl | hf
    ·exact Int.le_refl _
    ·exact Int.le_trans h (h2 f hf)⟩
  ·exact ⟨m, Ur _ h1, fun f hf => by
    rcases Ul.mp hf with rfl | hf
    ·omega
    ·exact h2 f hf⟩
theorem ZR3 {fs : List Int} (h : fs ≠ []) : ∃ m ∈ fs, ∀ f ∈ fs, f <= m := by
 obtain ⟨m, h1, h2⟩ := ZLX (fs := fs.map fun x => -x) (by simpa using h)
 obtain ⟨x, hx, rfl⟩ := Ux.mp h1
 exact ⟨x, hx, fun f hf => by have := h2 (-f) (Ux.mpr ⟨f, hf, rfl⟩); omega⟩
def ZKr (fs : List Int) (n : Nat) : List Int := ((UM n).map fun (i : Nat) => (0 + (i : Int))).filter fun r => fs.any (fun f => decide (f <= r)) && fs.any (fun f => decide (r <= f))
theorem ZR4 (fs : List Int) (n : Nat) : ZKr fs (n + 1) = ZKr fs n ++ (if (fs.any (fun f => decide (f <= 0 + (n : Int))) && fs.any (fun f => decide (0 + (n : Int) <= f))) = true then [0 + (n : Int)] else []) := by
 unfold ZKr
 rw [Vk, Us, List.filter_append]
 congr 1
 simp only [UD, Vs, List.filter_cons, List.filter_nil]
theorem ZWL (fs : List Int) (rows : Int) : ZJv fs rows (ZKr fs rows.toNat) := by
 by_cases h : fs = []
 ·refine .inl ⟨h, ?_⟩
  rw [h]
  unfold ZKr
  rw [List.filter_eq_nil_iff]
  intro r _
  simp
 ·obtain ⟨m, h1, h2⟩ := ZLX h
  obtain ⟨M, h3, h4⟩ := ZR3 h
  refine .inr ⟨m, M, h1, h2, h3, h4, ?_⟩
  unfold ZKr ZLO
  apply List.filter_congr
  intro r _
  rw [Vm, UH, UH, UL, UL, decide_eq_true_iff, decide_eq_true_iff]
  constructor
  ·rintro ⟨⟨f, g1, g2⟩, f', g3, g4⟩
   rw [decide_eq_true_iff] at g2 g4
   exact ⟨Int.le_trans (h2 f g1) g2, Int.le_trans g4 (h4 f' g3)⟩
  ·rintro ⟨g1, g2⟩
   exact ⟨⟨m, h1, by simpa using g1⟩, M, h3, by simpa using g2⟩
section
variable {P : Program} {w : World} {K : W.Frag} {mg : Str -> Option Value} {base : Heap} {a : Ad}
def ZWM (K : W.Frag) : Sp := fun vs H Q _ => ∃ (t p : Addr) (mt : PL) (low tall rows : Int), vs = [.ref t, .ref p] /\ PrL H t mt /\ ZUd mt /\ mt.length <= 400 /\ Hts H p low tall rows /\
 ∀ (l : Addr) (rs : List Int) (H' : Hp), H l = none -> H' l = some (.lst (rs.map V.int)) -> ZJv (mt.map (fl low tall)) rows rs -> ZDq H H' -> Q (.ref l) H'
theorem ZFe : ZDw ["_law_met_here", "_law_heights_here", "_law_low", "_law_tall", "_law_rows_here", "_law_found", "_law_r", "_law_under", "_law_over"] ["_law_met_here", "_law_heights_here"] (ZDo ZHo) := ZEB
theorem ZR5 (T : Txt K mg a) : ZD2 P w K mg base CX0 2 a.ZAT a.ZAa ["_law_met_here", "_law_heights_here"] (ZWM K) := by
 refine T.ZBU.ok ZFe (by walk_at "l") (fun cdv A outer s H vs Q E hr h => ?_)
 ·obtain ⟨t, p, mt, low, tall, rows, rfl, ⟨us, gT, pT⟩, hok, hlen, hh, k⟩ := h
  have hu := ZF6 hr
  have hul : us.length = mt.length := pT.length
  obtain ⟨ht, hlow, hta, htb, hr0, hr1⟩ := hh.2 |> fun x => (⟨hh.1, x.1, x.2.1, x.2.2.1, x.2.2.2.1, x.2.2.2.2⟩ : _ /\ _ /\ _ /\ _ /\ _ /\ _)
  refine ⟨_, QB.h (ZDm (ZFZ (qv 1) (ZEz (n := 3) K rfl rfl (ZDy (qgN (i := 2) ZFe.nd) (ZDy (qgN (i := 3) ZFe.nd) (ZDy (qgN (i := 4) ZFe.nd) ZEi))))) (ZDm (qsS (i := 5) ZFe.nd (ZFN ZDl)) (ZDm (ZFB PassesOwn.never rfl (ZFL rfl T.ZI (ZDk (qv 4) ZDl)) (qgN (i := 6) ZFe.nd) (ZDm (ZHX (N := ["_law_met_here", "_law_heights_here", "_law_low", "_law_tall", "_law_rows_here", "_law_found", "_law_r", "_law_under", "_law_over"]) (sc := ZDo ZHo) (own := ["_law_height_here"]) (caps := ["_law_low", "_law_tall", "_law_r"]) (ks := [2, 3, 6]) (i := 7) rfl rfl rfl ⟨rfl, by decide +kernel, by decide +kernel, by decide +kernel, by decide +kernel, rfl, by decide +kernel⟩ ZFe.nd rfl (by walk_at "o") (ZFp K rfl (qv 0)) (fun _ _ _ _ _ => ZEa (i := 0) (show List.Nodup (α := Str) ["_law_height_here", "_law_low", "_law_tall", "_law_r"] from by decide +kernel) rfl (by walk_at "o") (.inr rfl)) (fun _ _ _ _ _ => ZHg (ZG9 (qcS (ZMc T) hr T.ZBM T.ZAH.kp T.ZBS (ZDk (qv 0) (ZDk (ZEh (ZDk (ZDu ZEU (qv 1) (ZDu ZED (ZDu ZEU (qv 3) ZDn) (qv 2))) (ZDk ZDn ZDl))) ZDl))))) (fun _ _ _ _ _ => qv 0)) (ZDm (ZHX (N := ["_law_met_here", "_law_heights_here", "_law_low", "_law_tall", "_law_rows_here", "_law_found", "_law_r", "_law_under", "_law_over"]) (sc := ZDo ZHo) (own := ["_law_height_here"]) (caps := ["_law_low", "_law_r", "_law_tall"]) (ks := [2, 6, 3]) (i := 8) rfl rfl rfl ⟨rfl, by decide +kernel, by decide +kernel, by decide +kernel, by decide +kernel, rfl, by decide +kernel⟩ ZFe.nd rfl (by walk_at "o") (ZFp K rfl (qv 0)) (fun _ _ _ _ _ => ZEa (i := 0) (show List.Nodup (α := Str) ["_law_height_here", "_law_low", "_law_r", "_law_tall"] from by decide +kernel) rfl (by walk_at "o") (.inr rfl)) (fun _ _ _ _ _ => ZHg (ZHf (ZG9 (qcS (ZMc T) hr T.ZBM T.ZAH.kp T.ZBS (ZDk (qv 0) (ZDk (ZEh (ZDk (ZDu ZEU (qv 1) (ZDu ZED (qv 2) (qv 3))) (ZDk ZDn ZDl))) ZDl)))))) (fun _ _ _ _ _ => qv 0)) (ZDp (ZEw (QW.pt (ZLE (ZEC (ZN0 K rfl hu) (qv 7) (ZFN ZDl) (ZEL _)) (ZJ3 (ZEC (ZN0 K rfl hu) (qv 8) (ZFN ZDl) (ZEL _))))) (ZDp (ZEH (ZGL PySem.F.plainAttrs_list PySem.F.slot_list_append PySem.F.type_list_append ZFK (qv 5) (ZDk (qv 6) ZDl)))) ZEX))))) (ZDp (ZDz (qv 5)))))), ?_⟩
  walk_at "s"
  walk_at "w"
  refine ZD9 (by show 0 <= sizeLine; decide) fun l1 H1 n1 f1 S1 => ?_
  have nlt : t ≠ l1 := ZET gT n1
  have gT1 := S1 _ _ gT
  have pT1 := pT.same S1
  walk_at "w"
  refine ZGF (by omega) (by omega) (ZHV (fun i U H' => (∃ v6 v7 v8, U = [some (.ref t), some (.ref p), some (.int low), some (.int tall), some (.int rows), some (.ref l1), v6, v7, v8]) /\ Kp l1 H1 H' /\ H' l1 = some (.lst ((ZKr (mt.map (fl low tall)) i).map V.int))) ?_ ?_ ?_)
  ·exact ⟨⟨_, _, _, rfl⟩, Kp.refl _ _, f1⟩
  ·rintro i U H2 hi ⟨⟨v6, v7, v8, rfl⟩, K2, f2⟩
   have hir : (i : Int) < rows := by omega
   have e5 := ZR4 (mt.map (fl low tall)) i
   have gT2 : H2 t = some (.lst us) := K2 _ _ gT1 nlt
   have pT2 : ZDv H2 us mt := Paired.mapP pT1 fun _ _ ⟨b, e, z⟩ => ⟨b, e, ZGC K2 f1 z⟩
   walk_at "w"
   intro l3 n3
   have n30 : H l3 = none /\ l3 ≠ l1 := by
    have h1 : l3 ≠ l1 := fun z => by rw [z, f2] at n3; cases n3
    refine ⟨?_, h1⟩
    cases hh : H l3 with
    | none => rfl
    | some o => rw [K2 _ _ (S1 _ _ hh) h1] at n3; cases n3
   refine ZEu mt.length (fun i' U' H' => (∃ o, U' = [o, some (.int low), some (.int tall), some (.int (0 + (i : Int)))]) /\ ZDq H2 H' /\ ∃ vs, H' l3 = some (.lst vs) /\ vs.length <= i' /\ (!vs.isEmpty) = (mt.take i').any fun q => decide (fl low tall q <= 0 + (i : Int))) ?_ ?_ ?_
   ·exact ⟨⟨none, rfl⟩, ZDq.new n3, [], ZDr, Ud _, rfl⟩
   ·rintro U' H3 ⟨_, S3, vs3, f3, hl3, hE3⟩
    refine ⟨⟨_, SqL.of (S3 _ _ gT2), by rw [hul]; exact Ud _⟩, ?_⟩
    rw [UQ] at hE3
    have gT3 := S3 _ _ gT2
    have pT3 := pT2.same S3
    walk_at "w"
    intro l4 n4
    refine ZEu mt.length (fun i' U' H' => (∃ o, U' = [o, some (.int low), some (.int (0 + (i : Int))), some (.int tall)]) /\ ZDq H3 H' /\ ∃ vs, H' l4 = some (.lst vs) /\ vs.length <= i' /\ (!vs.isEmpty) = (mt.take i').any fun q => decide (0 + (i : Int) <= fl low tall q)) ?_ ?_ ?_
    ·exact ⟨⟨none, rfl⟩, ZDq.new n4, [], ZDr, Ud _, rfl⟩
    ·rintro U'' H4 ⟨_, S4, vs4, f4, hl4, hE4⟩
     refine ⟨⟨_, SqL.of (S4 _ _ gT3), by rw [hul]; exact Ud _⟩, ?_⟩
     rw [UQ] at hE4
     have a1 : (mt.map (fl low tall)).any (fun f => decide (f <= 0 + (i : Int))) = !vs3.isEmpty := by rw [hE3, List.any_map]; rfl
     have a2 : (mt.map (fl low tall)).any (fun f => decide (0 + (i : Int) <= f)) = !vs4.isEmpty := by rw [hE4, List.any_map]; rfl
     rw [a1, a2] at e5
     have S24 := S3.trans S4
     walk_at "w"
     refine ZD9 (by show 0 <= sizeLine; decide) fun l5 H5 n5 f5 S5 => ?_
     refine ZN1 (SqL.of (S5 _ _ (S4 _ _ f3))) (SqL.of f5) ?_
     walk_at "w"
     cases hb1 : vs3.isEmpty with
     | true =>
      rw [hb1, Bool.not_true, Vu, if_neg (by decide), UJ] at e5
      refine ZEs ?_
      walk_at "w"
      refine ZEs ?_
      walk_at "w"
      refine ⟨⟨_, _, _, rfl⟩, K2.then (S24.trans S5), ?_⟩
      rw [e5]
      exact S5 _ _ (S24 _ _ f2)
     | false =>
      refine ZFR ?_
      walk_at "w"
      refine ZD9 (by show 0 <= sizeLine; decide) fun l6 H6 n6 f6 S6 => ?_
      refine ZN1 (SqL.of (S6 _ _ (S5 _ _ f4))) (SqL.of f6) ?_
      walk_at "w"
      have S26 := (S24.trans S5).trans S6
      have fl6 := S26 _ _ f2
      cases hb2 : vs4.isEmpty with
      | true =>
       rw [hb1, hb2, Bool.not_true, Bool.and_false, if_neg (by decide), UJ] at e5
       refine ZEs ?_
       walk_at "w"
       refine ⟨⟨_, _, _, rfl⟩, K2.then S26, ?_⟩
       rw [e5]
       exact fl6
      | false =>
       rw [hb1, hb2, Bool.not_false, Bool.and_self, if_pos rfl] at e5
       refine ZFR ?_
       walk_at "w"
       refine ⟨tyL fl6, ?_⟩
       walk_at "w"
       refine ZFV fl6 ?_ fun H7 f7 K7 => ?_
       ·rw [Uf]
        refine Um (UX _ _) ?_
        rw [Uf, Vw]
        exact Ue hi (Uz (show rows.toNat <= 1000 by omega) (by decide))
       walk_at "w"
       refine ⟨⟨_, _, _, rfl⟩, (K2.then S26).trans K7, ?_⟩
       rw [f7, e5, Us]
       rfl
    ·rintro i' U'' H4 hi' ⟨⟨o, rfl⟩, S4, vs4, f4, hl4, hE4⟩
     have hi2 : i' < us.length := by rw [hul]; exact hi'
     refine ⟨⟨_, _, SqL.of (S4 _ _ gT3), Uc hi2⟩, ?_⟩
     rintro v H'' ⟨rfl, hv⟩
     have hv := hv _ (SqL.of (S4 _ _ gT3))
     obtain ⟨c, q, rfl, hq, hc⟩ := (pT3.same S4).at hv
     have oq := hok q (Uv hq)
     have e3 : mt.take (i' + 1) = mt.take i' ++ [q] := by rw [US, hq]; rfl
     have q2 : ¬ (q.1 * 1 < (low + (0 + (i : Int)) * tall) * q.2) ↔ 0 + (i : Int) <= fl low tall q := by rw [Int.mul_one, ZM3 hta oq.1]; omega
     walk_at "w"
     refine ZD9 (by show 2 <= sizeLine; decide) fun t5 H5 n5 f5 S5 => ?_
     walk_at "w"
     refine ⟨c, t5, q, (_, _), rfl, S5 _ _ hc, f5, oq.2.1, oq.2.2, ZR2 hlow htb (by omega) (by omega), bn1.mono (by decide), ?_⟩
     walk_at "w"
     have f45 := S5 _ _ f4
     refine ZIf (fun h2 => ?_) (fun h2 => ?_)
     ·have h2 := q2.mp h2
      walk_at "w"
      refine ⟨vs4, f45, Um hl4 (Ue (show i' < 1000 by omega) (by decide)), ⟨_, rfl⟩, (S4.trans S5).kpN n4 Kp.upd, _, ZDr, by rw [UN]; simp only [UZ, List.length_nil]; omega, ?_⟩
      rw [e3, List.any_append, Vt, decide_eq_true h2]
      cases vs4 <;> simp
     ·have h2 : ¬ (0 + (i : Int) <= fl low tall q) := fun z => q2.mpr z h2
      refine ⟨⟨_, rfl⟩, S4.trans S5, vs4, f45, by omega, ?_⟩
      rw [e3, List.any_append, Vt, decide_eq_false h2, List.any_nil, Bool.or_false, Bool.or_false]
      exact hE4
   ·rintro i' U' H3 hi' ⟨⟨o, rfl⟩, S3, vs3, f3, hl3, hE3⟩
    have hi2 : i' < us.length := by rw [hul]; exact hi'
    refine ⟨⟨_, _, SqL.of (S3 _ _ gT2), Uc hi2⟩, ?_⟩
    rintro v H'' ⟨rfl, hv⟩
    have hv := hv _ (SqL.of (S3 _ _ gT2))
    obtain ⟨c, q, rfl, hq, hc⟩ := (pT2.same S3).at hv
    have oq := hok q (Uv hq)
    have e3 : mt.take (i' + 1) = mt.take i' ++ [q] := by rw [US, hq]; rfl
    have q1 : (q.1 * 1 < (low + (0 + (i : Int) + 1) * tall) * q.2) ↔ fl low tall q <= 0 + (i : Int) := by rw [Int.mul_one]; exact (ZYn hta oq.1).symm
    walk_at "w"
    refine ZD9 (by show 2 <= sizeLine; decide) fun t5 H5 n5 f5 S5 => ?_
    walk_at "w"
    refine ⟨c, t5, q, (_, _), rfl, S5 _ _ hc, f5, oq.2.1, oq.2.2, ZR2 hlow htb (by omega) (by omega), bn1.mono (by decide), ?_⟩
    walk_at "w"
    have f35 := S5 _ _ f3
    refine ZEc (fun h2 => ?_) (fun h2 => ?_)
    ·have h2 := q1.mp h2
     walk_at "w"
     refine ⟨vs3, f35, Um hl3 (Ue (show i' < 1000 by omega) (by decide)), ⟨_, rfl⟩, (S3.trans S5).kpN n3 Kp.upd, _, ZDr, by rw [UN]; simp only [UZ, List.length_nil]; omega, ?_⟩
     rw [e3, List.any_append, Vt, decide_eq_true h2]
     cases vs3 <;> simp
    ·have h2 : ¬ (fl low tall q <= 0 + (i : Int)) := fun z => h2 (q1.mpr z)
     refine ⟨⟨_, rfl⟩, S3.trans S5, vs3, f35, by omega, ?_⟩
     rw [e3, List.any_append, Vt, decide_eq_false h2, List.any_nil, Bool.or_false, Bool.or_false]
     exact hE3
  ·rintro U H2 ⟨⟨v6, v7, v8, rfl⟩, K2, f2⟩
   walk_at "w"
   exact k l1 _ H2 n1 f2 (ZWL _ _) (S1.kpN n1 K2)
def ZE3 (H : Hp) (vs : List V) (rss : List (List Int)) : Prop := Paired (fun v (rs : List Int) => ∃ b, v = .ref b /\ H b = some (.lst (rs.map V.int))) vs rss
theorem ZE3.same {H H' : Hp} {vs : List V} {rss : List (List Int)} (h : ZE3 H vs rss) (s : ZDq H H') : ZE3 H' vs rss := Paired.mapP h fun _ _ ⟨b, e, z⟩ => ⟨b, e, s _ _ z⟩
theorem ZE3.snoc {H : Hp} : ∀ {vs : List V} {rss : List (List Int)}, ZE3 H vs rss -> ∀ {b : Addr} {rs : List Int}, H b = some (.lst (rs.map V.int)) -> ZE3 H (vs ++ [.ref b]) (rss ++ [rs])
 | _, _, .nil, _, _, e => .cons ⟨_, rfl, e⟩ .nil
 | _, _, .cons h t, _, _, e => .cons h (ZE3.snoc t e)
theorem ZE3.at {H : Hp} : ∀ {vs : List V} {rss : List (List Int)}, ZE3 H vs rss -> ∀ {i : Nat} {v : V}, vs[i]? = some v -> ∃ b rs, v = .ref b /\ rss[i]? = some rs /\ H b = some (.lst (rs.map V.int))
 | _, _, .nil, _, _, e => by simp at e
 | _, _, .cons ⟨b, e1, e2⟩ t, i, v, e => by
  cases i with
  | zero => exact ⟨b, _, by simpa [e1] using e.symm, rfl, e2⟩
  | succ i => exact ZE3.at t (by simpa using e)
def ZQb (cv : PL) (b y m low tall rows : Int) (rss : List (List Int)) : Prop := rss.length = m.toNat /\ ∀ (k : Nat) rs, rss[k]? = some rs -> ZJv ((ZFF (inCol cv b (b + m * y)) (b + (k : Int) * y) (b + (k : Int) * y + y)).map (fl low tall)) rows rs
theorem ZON {H : Hp} {l : Addr} {o : HO} : ∀ {vs : List V} {rss : List (List Int)}, ZE3 H vs rss -> (∀ v ∈ vs, v ≠ .ref l) -> ZE3 (upd H l o) vs rss
 | _, _, .nil, _ => .nil
 | _, _, .cons ⟨b, e1, e2⟩ t, hn => .cons ⟨b, e1, by rw [ZD4 (fun z => hn _ (UA ..) (by rw [e1, z]))]; exact e2⟩ (ZON t fun v hv => hn v (Ur _ hv))
def ZWN (K : W.Frag) : Sp := fun vs H Q _ => ∃ (t q p : Addr) (cv : PL) (b y m low tall rows : Int), vs = [.ref t, .ref q, .ref p] /\ PrT H t cv /\ Win H q b y m /\ Hts H p low tall rows /\ Asc cv /\ BP cv /\ cv.length <= 100 /\
 ∀ (u : Addr) (vs : List V) (rss : List (List Int)) (H' : Hp), H' u = some (.lst vs) -> ZE3 H' vs rss -> ZQb cv b y m low tall rows rss -> ZDq H H' -> Q (.ref u) H'
theorem ZGX : ZDw ["_law_curve", "_law_window_here", "_law_heights_here", "_law_begin", "_law_wide", "_law_many", "_law_samples", "_law_ends"] ["_law_curve", "_law_window_here", "_law_heights_here"] (ZDo ZGy) := ZEB
theorem ZR6 (T : Txt K mg a) : ZD2 P w K mg base CX0 3 a.ZAJ a.ZAc ["_law_curve", "_law_window_here", "_law_heights_here"] (ZWN K) := by
 refine T.ZBa.ok ZGX (by walk_at "l") (fun cdv A outer s H vs Q E hr h => ?_)
 ·obtain ⟨t, q, p, cv, b, y, m, low, tall, rows, rfl, hT, ⟨hq, hb, hy, hby, hm1, hm2⟩, hh, hasc, hbp, hlen, k⟩ := h
  obtain ⟨us, gT, pT⟩ := id hT
  have hul : us.length = cv.length := pT.length
  refine ⟨_, QB.h (ZDm (ZFZ (qv 1) (ZEz (n := 3) K rfl rfl (ZDy (qgN (i := 3) ZGX.nd) (ZDy (qgN (i := 4) ZGX.nd) (ZDy (qgN (i := 5) ZGX.nd) ZEi))))) (ZDm (ZVc (i := 6) ZGX.nd rfl (by walk_at "o") (ZFY (N := ["_law_curve", "_law_window_here", "_law_heights_here", "_law_begin", "_law_wide", "_law_many", "_law_samples", "_law_ends"]) (sc := ZDo ZGy) (own := ["_law_sample"]) (caps := ["_law_begin", "_law_wide", "_law_many"]) (ks := [3, 4, 5]) rfl rfl rfl ⟨rfl, by decide +kernel, by decide +kernel, by decide +kernel, by decide +kernel, rfl, by decide +kernel⟩ (ZIV K rfl (qv 0)) (fun _ _ _ _ _ => ZEa (i := 0) (show List.Nodup (α := Str) ["_law_sample", "_law_begin", "_law_wide", "_law_many"] from by decide +kernel) rfl (by walk_at "o") (.inr rfl)) (fun _ _ _ _ _ => ZHg (ZIh ZF4 ZGZ (qv 1) (ZD1 (ZD6 K rfl) (qv 0) ZDn) (ZDu ZEU (qv 1) (ZDu ZED (qv 2) (qv 3))))) (fun _ _ _ _ _ => qv 0))) (ZDm (ZHX (N := ["_law_curve", "_law_window_here", "_law_heights_here", "_law_begin", "_law_wide", "_law_many", "_law_samples", "_law_ends"]) (sc := ZDo ZGy) (own := ["_law_k"]) (caps := ["_law_begin", "_law_wide"]) (ks := [3, 4]) (i := 7) rfl rfl rfl ⟨rfl, by decide +kernel, by decide +kernel, by decide +kernel, by decide +kernel, rfl, by decide +kernel⟩ ZGX.nd rfl (by walk_at "o") (ZFL rfl T.ZI (ZDk (qv 5) ZDl)) (fun _ _ _ _ _ => ZEa (i := 0) (show List.Nodup (α := Str) ["_law_k", "_law_begin", "_law_wide"] from by decide +kernel) rfl (by walk_at "o") (.inr rfl)) (fun _ _ _ _ _ => ZFD) (fun _ _ _ _ _ => ZDu ZEU (qv 1) (ZDu ZED (qv 0) (qv 2)))) (ZDp (ZDz (ZFY (N := ["_law_curve", "_law_window_here", "_law_heights_here", "_law_begin", "_law_wide", "_law_many", "_law_samples", "_law_ends"]) (sc := ZDo ZGy) (own := ["_law_x"]) (caps := ["_law_heights_here", "_law_samples", "_law_wide"]) (ks := [2, 6, 4]) rfl rfl rfl ⟨rfl, by decide +kernel, by decide +kernel, by decide +kernel, by decide +kernel, rfl, by decide +kernel⟩ (ZFp K rfl (qv 7)) (fun _ _ _ _ _ => ZEa (i := 0) (show List.Nodup (α := Str) ["_law_x", "_law_heights_here", "_law_samples", "_law_wide"] from by decide +kernel) rfl (by walk_at "o") (.inr rfl)) (fun _ _ _ _ _ => ZFD) (fun _ _ _ _ _ => qcS (ZR5 T) hr T.ZCm T.ZBU.kp T.ZCj (ZDk (qcS (ZUD T) hr T.ZCw T.ZBx.kp T.ZC0 (ZDk (qv 2) (ZDk (qv 0) (ZDk (ZDu ZEU (qv 0) (qv 3)) ZDl)))) (ZDk (qv 1) ZDl))))))))), ?_⟩
  walk_at "s"
  walk_at "w"
  intro l n1
  refine ZEu cv.length (fun i U' H' => (∃ o, U' = [o, some (.int b), some (.int y), some (.int m)]) /\ ZDq H H' /\ ∃ vs, H' l = some (.lst vs) /\ ZDv H' vs (inCol (cv.take i) b (b + y * m))) ?_ ?_ ?_
  ·exact ⟨⟨none, rfl⟩, ZDq.new n1, [], ZDr, .nil⟩
  ·rintro U H1 ⟨_, S1, vs1, f1, hP1⟩
   refine ⟨⟨_, SqT.of (S1 _ _ gT), by rw [hul]; exact Ud _⟩, ?_⟩
   rw [UQ, Int.mul_comm y m] at hP1
   walk_at "w"
   refine ZGF (by omega) (by omega) ?_
   intro l2 n2
   refine ZEu m.toNat (fun i U' H' => (∃ o, U' = [o, some (.int b), some (.int y)]) /\ ZDq H1 H' /\ H' l2 = some (.lst (((UM i).map fun (j : Nat) => b + (j : Int) * y).map V.int))) ?_ ?_ ?_
   ·exact ⟨⟨none, rfl⟩, ZDq.new n2, ZDr⟩
   ·rintro U H2 ⟨_, S2, f2⟩
    refine ⟨Ud _, ?_⟩
    have f12 := S2 _ _ f1
    have S02 := S1.trans S2
    walk_at "w"
    intro l3 n3
    refine ZEu m.toNat (fun i U' H' => (∃ o, U' = [o, some (.ref p), some (.ref l), some (.int y)]) /\ ZDq H2 H' /\ ∃ vs rss, H' l3 = some (.lst vs) /\ ZE3 H' vs rss /\ rss.length = i /\ (∀ v ∈ vs, v ≠ .ref l3) /\ ∀ (k : Nat) rs, rss[k]? = some rs -> ZJv ((ZFF (inCol cv b (b + m * y)) (b + (k : Int) * y) (b + (k : Int) * y + y)).map (fl low tall)) rows rs) ?_ ?_ ?_
    ·exact ⟨⟨none, rfl⟩, ZDq.new n3, [], [], ZDr, .nil, rfl, fun v hv => (by cases hv), fun k o h => by simp at h⟩
    ·rintro U H3 ⟨_, S3, vs, os, f3, hD, ho, _, hI⟩
     refine ⟨⟨_, SqL.of (S3 _ _ f2), by simp⟩, ?_⟩
     walk_at "w"
     exact k l3 vs os H3 f3 hD ⟨ho, hI⟩ (S02.trans S3)
    ·rintro i U H3 hi ⟨⟨o, rfl⟩, S3, vs, os, f3, hD, ho, hne, hI⟩
     have hx0 : (((UM m.toNat).map fun (j : Nat) => b + (j : Int) * y).map V.int)[i]? = some (.int (b + (i : Int) * y)) := by
      rw [UB, UB, List.getElem?_range hi]
      rfl
     refine ⟨⟨_, _, SqL.of (S3 _ _ f2), hx0⟩, ?_⟩
     rintro x H'' ⟨rfl, hx⟩
     have hx := hx _ (SqL.of (S3 _ _ f2))
     rw [hx0] at hx
     obtain rfl := Option.some.inj hx
     have hbx := ZRp hb hby (k := (i : Int)) (by omega) (by omega)
     have b1 : Bn 200 (b + (i : Int) * y) := hbx.mono (by decide)
     have b2 : Bn 200 (b + (i : Int) * y + y) := (hbx.add (hby.mono (by decide))).mono (by decide)
     walk_at "w"
     refine ZFR ?_
     walk_at "w"
     refine ⟨l, _, _, _, rfl, ⟨vs1, S3 _ _ f12, (hP1.same S2).same S3⟩, Asc.inCol hasc, BP.inCol hbp, Uz (UX _ _) hlen, b1, b2, fun l4 H4 n4 hL4 hl4 S4 => ?_⟩
     walk_at "w"
     refine ⟨l4, p, _, low, tall, rows, rfl, hL4, ZYM (Asc.inCol hasc) (BP.inCol hbp) b1 b2, hl4, hh.same (S02.trans (S3.trans S4)), fun v o2 H5 nv5 hd5 hI5 S5 => ?_⟩
     have S35 := S4.trans S5
     have f5 := S35 _ _ f3
     have nv3 : v ≠ l3 := fun z => by rw [z, S4 _ _ f3] at nv5; cases nv5
     have hvl : vs.length = os.length := Paired.length hD
     refine ⟨vs, f5, ?_, ⟨_, rfl⟩, (S3.trans S35).kpN n3 Kp.upd, vs ++ [.ref v], os ++ [o2], ZDr, ?_, by simp [ho], ?_, ?_⟩
     ·rw [hvl, ho]
      exact Ue hi (Uz (show m.toNat <= 1000 by omega) (by decide))
     ·refine ZE3.snoc ?_ (by rw [ZD4 nv3]; exact hd5)
      exact ZON (hD.same S35) hne
     ·intro x hx
      rcases UI.mp hx with hx | hx
      ·exact hne x hx
      ·rw [Uj.mp hx]
       exact fun z => nv3 (by cases z; rfl)
     ·intro k' o' h'
      rw [List.getElem?_append] at h'
      split at h'
      ·exact hI k' o' h'
      ·have : k' = i := by
        have := (Ui.mp h').1
        simp at this
        omega
       subst this
       rw [ho, Nat.sub_self] at h'
       have : o2 = o' := by simpa using h'
       subst this
       exact hI5
   ·rintro i U H2 hi ⟨⟨o, rfl⟩, S2, f2⟩
    refine ⟨hi, ?_⟩
    rintro x H'' ⟨rfl, rfl⟩
    walk_at "w"
    refine ZFR ?_
    walk_at "w"
    refine ⟨_, f2, ?_, ⟨_, rfl⟩, S2.kpN n2 Kp.upd, ?_⟩
    ·rw [Uf, Uf, Vw]
     exact Ue hi (Uz (show m.toNat <= 1000 by omega) (by decide))
    ·rw [ZDr, Vk, Us, Us]
     simp only [UD, Vs, Int.zero_add]
  ·rintro i U H1 hi ⟨⟨o, rfl⟩, S1, vs, f, hPc⟩
   have hi2 : i < us.length := by rw [hul]; exact hi
   refine ⟨⟨_, _, SqT.of (S1 _ _ gT), Uc hi2⟩, ?_⟩
   rintro v H'' ⟨rfl, hv⟩
   have hv := hv _ (SqT.of (S1 _ _ gT))
   obtain ⟨c, q1, rfl, hq1, hc⟩ := (pT.same S1).at hv
   have e3 : cv.take (i + 1) = cv.take i ++ [q1] := by
    rw [US, hq1]
    rfl
   have e4 : inCol (cv.take (i + 1)) b (b + y * m) = inCol (cv.take i) b (b + y * m) ++ (if (decide (b <= q1.1) && decide (q1.1 < b + y * m)) = true then [q1] else []) := by
    rw [e3, inCol, List.filter_append]
    congr 1
    simp only [List.filter_cons, List.filter_nil]
   walk_at "w"
   refine ZEc (fun h1 => ?_) (fun h1 => ?_)
   ·walk_at "w"
    refine ZEc (fun h2 => ?_) (fun h2 => ?_)
    ·walk_at "w"
     refine ⟨vs, f, ?_, ⟨_, rfl⟩, ?_, ?_⟩
     ·have e := hPc.length
      rw [e]
      refine Um (UX _ _) ?_
      rw [UR]
      exact Um (Nat.min_le_left _ _) (Ue (Ue hi hlen) (by decide))
     ·exact S1.kpN n1 Kp.upd
     ·refine ⟨_, ZDr, ?_⟩
      rw [e4, decide_eq_true h1, decide_eq_true h2, Bool.and_self, if_pos rfl]
      exact ZDv.kpL Kp.upd f (hPc.snoc hc)
    ·refine ⟨⟨_, rfl⟩, S1, vs, f, ?_⟩
     rw [e4, decide_eq_false h2, Bool.and_false, if_neg (by decide), UJ]
     exact hPc
   ·walk_at "w"
    refine ZEs ?_
    refine ⟨⟨_, rfl⟩, S1, vs, f, ?_⟩
    rw [e4, decide_eq_false h1, Vu, if_neg (by decide), UJ]
    exact hPc
end
def hit (fs : List Int) (r : Int) : Bool := fs.any (fun f => decide (f <= r)) && fs.any (fun f => decide (r <= f))
theorem ZR7 {fs : List Int} {m M r : Int} (h1 : m ∈ fs) (h2 : ∀ f ∈ fs, m <= f) (h3 : M ∈ fs) (h4 : ∀ f ∈ fs, f <= M) : hit fs r = (decide (m <= r) && decide (r <= M)) := by
 unfold hit
 congr 1
 ·rw [Vm, UL, decide_eq_true_iff]
  constructor
  ·rintro ⟨f, hf, e⟩
   have := h2 f hf
   have := of_decide_eq_true e
   omega
  ·exact fun e => ⟨m, h1, decide_eq_true e⟩
 ·rw [Vm, UL, decide_eq_true_iff]
  constructor
  ·rintro ⟨f, hf, e⟩
   have := h4 f hf
   have := of_decide_eq_true e
   omega
  ·exact fun e => ⟨M, h3, decide_eq_true e⟩
theorem ZUE {fs : List Int} {rows r : Int} {rs : List Int} (h : ZJv fs rows rs) (h0 : 0 <= r) (h1 : r < rows) : decide (r ∈ rs) = hit fs r := by
 rcases h with ⟨rfl, rfl⟩ | ⟨m, M, g1, g2, g3, g4, rfl⟩
 ·rfl
 ·rw [ZR7 g1 g2 g3 g4, Vm, decide_eq_true_iff, ZP7, UH, decide_eq_true_iff, decide_eq_true_iff]
  constructor
  ·exact fun z => z.2
  ·exact fun z => ⟨⟨h0, by omega⟩, z⟩
theorem ZWO {fs : List Int} {rows r : Int} {o : Option (Int × Int)} (h : ZGA fs rows o) (h0 : 0 <= r) (h1 : r < rows) : ZHM o r = hit fs r := by
 rcases h with ⟨rfl, rfl⟩ | ⟨m, M, g1, g2, g3, g4, rfl⟩
 ·rfl
 ·rw [ZR7 g1 g2 g3 g4]
  by_cases c : max m 0 <= min M (rows - 1)
  ·rw [if_pos c]
   show (decide (max m 0 <= r) && decide (r <= min M (rows - 1))) = _
   rw [Vm, UH, UH, decide_eq_true_iff, decide_eq_true_iff, decide_eq_true_iff, decide_eq_true_iff]
   omega
  ·rw [if_neg c]
   show false = _
   rw [eq_comm, Bool.eq_false_iff]
   intro z
   rw [UH, decide_eq_true_iff, decide_eq_true_iff] at z
   omega
theorem ZYN (fs : List Int) (rows : Int) : ∃ o, ZGA fs rows o := by
 by_cases e : fs = []
 ·exact ⟨none, .inl ⟨e, rfl⟩⟩
 ·obtain ⟨m, h1, h2⟩ := ZLX e
  obtain ⟨M, h3, h4⟩ := ZR3 e
  exact ⟨_, .inr ⟨m, M, h1, h2, h3, h4, rfl⟩⟩
def ZJC (sm : PL) : PL := ZFM sm ((sm.map (·.1)).mergeSort fun a b => decide (a <= b))
theorem ZJ7 {sm : PL} (n : (sm.map (·.1)).Nodup) : Asc (ZJC sm) /\ ∀ r, r ∈ ZJC sm ↔ r ∈ sm := by
 have h := ZIm n (List.mergeSort_perm (sm.map (·.1)) (fun a b => decide (a <= b))) (by
  have := List.pairwise_mergeSort (le := fun a b : Int => decide (a <= b)) (fun a b c h1 h2 => by simp at *; omega) (fun a b => by simp; omega) (sm.map (·.1))
  exact this.imp fun h => by simpa using h)
 exact ⟨h.1, fun r => by obtain ⟨t, x⟩ := r; rw [ZJC, h.2, ZEj n]⟩
theorem ZL5 {sm cv : PL} (n : (sm.map (·.1)).Nodup) (h : Asc cv) (g : ∀ r, r ∈ cv ↔ r ∈ sm) : cv = ZJC sm := ZO8 h (ZJ7 n).1 fun r => (g r).trans ((ZJ7 n).2 r).symm
theorem ZUF {sm sm' : PL} (n : (sm.map (·.1)).Nodup) (n' : (sm'.map (·.1)).Nodup) (h : Eqv sm sm') : ZJC sm = ZJC sm' := ZL5 n' (ZJ7 n).1 fun r => ((ZJ7 n).2 r).trans (h r)
def ZE0 (sm : PL) (b y w low tall : Int) (j : Nat) (r : Int) : Bool := hit ((ZFF (inCol (ZJC sm) b (b + w * y)) (b + (j : Int) * y) (b + (j : Int) * y + y)).map (fl low tall)) r
theorem ZR8 {sm sm' : PL} {b y w low tall : Int} (n : (sm.map (·.1)).Nodup) (n' : (sm'.map (·.1)).Nodup) (h : Eqv sm sm') : ZE0 sm b y w low tall = ZE0 sm' b y w low tall := by
 unfold ZE0
 rw [ZUF n n' h]
theorem ZR9 (b y w low tall : Int) (j : Nat) (r : Int) : ZE0 [] b y w low tall j r = false := by
 have : ZJC [] = [] := by simp [ZJC, ZFM]
 unfold ZE0
 rw [this]
 rfl
theorem ZWP {sm cv : PL} {b y w low tall rows r : Int} {rss : List (List Int)} {j : Nat} (n : (sm.map (·.1)).Nodup) (h : Asc cv) (g : ∀ r, r ∈ cv ↔ r ∈ sm) (hr : ZQb cv b y w low tall rows rss) (hj : (j : Int) < w) (h0 : 0 <= r) (h1 : r < rows) :
  ∃ rs, rss[j]? = some rs /\ decide (r ∈ rs) = ZE0 sm b y w low tall j r := by
 have hl : j < rss.length := by rw [hr.1]; omega
 refine ⟨rss[j], Uc hl, ?_⟩
 have := ZUE (hr.2 j _ (Uc hl)) h0 h1
 rw [this, ZL5 n h g]
 rfl
theorem ZSA {sm : PL} {b y w low tall rows r : Int} {os : List (Option (Int × Int))} {j : Nat} (n : (sm.map (·.1)).Nodup) (hy : 0 < y) (ht : 0 < tall) (h : ZPN sm b y w low tall rows os) (hj : (j : Int) < w) (h0 : 0 <= r) (h1 : r < rows) : ZHM ((os[j]?).getD none) r = ZE0 sm b y w low tall j r := by
 obtain ⟨cv, kp, hc, hm, hk, hK, hD⟩ := h
 have hl : j < os.length := by rw [hD.1]; omega
 have h2 := hD.2 j _ (Uc hl)
 obtain ⟨o, ho⟩ := ZYN ((ZFF (inCol cv b (b + w * y)) (b + (j : Int) * y) (b + (j : Int) * y + y)).map (fl low tall)) rows
 have h3 := (ZRT hy ht hc hk hK (by omega) hj ho).unique h2
 rw [Uc hl]
 show ZHM os[j] r = _
 rw [<- h3, ZWO ho h0 h1, ZL5 n hc hm]
 rfl
def ZJw (k : Str) : Str := match k.cps.toList.head? with
 | some c => ⟨#[c]⟩
 | none => ""
def sgn (f : Str -> Bool) : List Str -> Str
 | [] => "."
 | k :: ss => if f k = true then ZJw k else sgn f ss
theorem ZH8 {f g : Str -> Bool} : ∀ {ss : List Str}, (∀ k ∈ ss, f k = g k) -> sgn f ss = sgn g ss
 | [], _ => rfl
 | k :: ss, h => by
  unfold sgn
  rw [h k UA, ZH8 fun j hj => h j (Ur _ hj)]
theorem ZJD {f : Str -> Bool} {k0 : Str} (h : f k0 = false) : ∀ ss : List Str, sgn f (ss.filter fun k => decide (k ≠ k0)) = sgn f ss
 | [] => rfl
 | k :: ss => by
  by_cases e : k = k0
  ·rw [List.filter_cons_of_neg (by simpa using e), ZJD h ss]
   conv => rhs; unfold sgn
   rw [e, h]
   rfl
  ·rw [List.filter_cons_of_pos (by simpa using e)]
   unfold sgn
   rw [ZJD h ss]
def ZFo (f : Str -> Nat -> Int -> Bool) (ss : List Str) (w : Nat) (r : Int) : List Str := (UM w).map fun j => sgn (fun k => f k j r) ss
def ZFX (f : Str -> Nat -> Int -> Bool) (ss : List Str) (w : Nat) : Nat -> Str
 | 0 => ""
 | n + 1 => ZGd (ZFo f ss w n) ++ "\n" ++ ZFX f ss w n
theorem ZG7 {f g : Str -> Nat -> Int -> Bool} {ss ss' : List Str} {w : Nat} : ∀ n : Nat, (∀ (r : Nat) j, r < n -> j < w -> sgn (fun k => f k j r) ss = sgn (fun k => g k j r) ss') -> ZFX f ss w n = ZFX g ss' w n
 | 0, _ => rfl
 | n + 1, h => by
  unfold ZFX
  rw [ZG7 n fun r j hr => h r j (by omega)]
  have : ZFo f ss w n = ZFo g ss' w n := UK fun j hj => h n j (by omega) (List.mem_range.mp hj)
  rw [this]
theorem ZPO {f : Str -> Bool} : ∀ {ss : List Str}, (∀ k ∈ ss, ZEt k = true) -> (sgn f ss).length = 1
 | [], _ => rfl
 | k :: ss, h => by
  unfold sgn
  split
  ·have := h k UA
   unfold ZEt at this
   simp only [UH, decide_eq_true_eq] at this
   unfold ZJw
   cases e : k.cps.toList with
   | nil =>
    have h1 : k.length = k.cps.toList.length := by rw [UF]; rfl
    rw [e] at h1
    simp at h1
    omega
   | cons c l => rfl
  ·exact ZPO fun j hj => h j (Ur _ hj)
theorem ZHS {f : Str -> Nat -> Int -> Bool} {ss : List Str} (h : ∀ k ∈ ss, ZEt k = true) (r : Int) : ∀ w : Nat, ((ZFo f ss w r).map (·.length)).sum = w
 | 0 => rfl
 | w + 1 => by
  have := ZHS (f := f) h r w
  unfold ZFo at this ⊢
  rw [Vk, Us, Us, List.sum_append, this]
  simp only [UD, Vs, List.sum_cons, List.sum_nil]
  rw [ZPO h, Nat.add_zero]
theorem ZMd {f : Str -> Nat -> Int -> Bool} {ss : List Str} {w : Nat} (h : ∀ k ∈ ss, ZEt k = true) : ∀ n : Nat, (ZFX f ss w n).length = n * (w + 1)
 | 0 => by simp [ZFX]; rfl
 | n + 1 => by
  unfold ZFX
  rw [ZIY, ZIY, ZKa, ZHS h, ZMd h n, Nat.succ_mul]
  show w + 1 + n * (w + 1) = _
  omega
theorem ZLY {m : List (Str × SS)} {b y w low tall rows : Int} (hs : ∀ x ∈ m, (x.2.sm.map (·.1)).Nodup) (hy : 0 < y) (ht : 0 < tall) {j : Nat} {r : Int} (hj : (j : Int) < w) (h0 : 0 <= r) (h1 : r < rows) : ∀ {ss : List Str} {qs : List Lyr}, Paired (ZM5 m b y w low tall rows) ss qs ->
  ZF0 qs j r = sgn (fun k => ZE0 (((ZDs m k).map SS.sm).getD []) b y w low tall j r) ss
 | _, _, .nil => rfl
 | _, _, @Paired.cons _ _ _ k q ss qs ⟨st, c, hg, hc, e1, hD⟩ t => by
  unfold ZF0 sgn
  have h2 := ZSA (hs _ (ZEJ hg)) hy ht hD hj h0 h1
  have h3 : ZJw k = q.1 := by unfold ZJw; rw [hc, e1]
  rw [h2, hg]
  simp only [UY, Option.getD_some]
  rw [h3, ZLY hs hy ht hj h0 h1 t]
theorem ZSB (x y z : Str) : x ++ y ++ z = x ++ (y ++ z) := by
 obtain ⟨x⟩ := x
 obtain ⟨y⟩ := y
 obtain ⟨z⟩ := z
 show Str.mk ((x ++ y) ++ z) = Str.mk (x ++ (y ++ z))
 rw [Array.append_assoc]
theorem foldS : ∀ (l : List Str) (x y : Str), l.foldl (· ++ ·) (x ++ y) = x ++ l.foldl (· ++ ·) y
 | [], _, _ => rfl
 | z :: l, x, y => by
  rw [List.foldl_cons, List.foldl_cons, ZSB, foldS l]
theorem ZSC (x : Str) (l : List Str) : ZGd (x :: l) = x ++ ZGd l := by
 show l.foldl (· ++ ·) (Str.empty ++ x) = x ++ l.foldl (· ++ ·) Str.empty
 rw [<- foldS]
 congr 1
 obtain ⟨⟨x⟩⟩ := x
 show Str.mk (#[] ++ _) = Str.mk (_ ++ #[])
 simp
theorem ZJE {m : List (Str × SS)} {b y w low tall rows : Int} (hs : ∀ x ∈ m, (x.2.sm.map (·.1)).Nodup) (hy : 0 < y) (ht : 0 < tall) {ss : List Str} {qs : List Lyr} (hP : Paired (ZM5 m b y w low tall rows) ss qs) (hr : 0 <= rows) :
  textL qs w rows = ZFX (fun k j r => ZE0 (((ZDs m k).map SS.sm).getD []) b y w low tall j r) ss w.toNat rows.toNat := by
 have key : ∀ n : Nat, (n : Int) <= rows -> ZGd (ZFW qs w.toNat ((n : Int) - 1) n) = ZFX (fun k j r => ZE0 (((ZDs m k).map SS.sm).getD []) b y w low tall j r) ss w.toNat n := fun n => by
  induction n with
  | zero => exact fun _ => rfl
  | succ n ih =>
   intro hn
   have e : ZFW qs w.toNat (((n + 1 : Nat) : Int) - 1) (n + 1) = (ZHR qs w.toNat n ++ "\n") :: ZFW qs w.toNat ((n : Int) - 1) n := by
    unfold ZFW
    rw [List.range_succ_eq_map, UD, UV]
    congr 1
    ·congr 2
     omega
    ·refine UK fun i _ => ?_
     show ZHR qs w.toNat (((n + 1 : Nat) : Int) - 1 + ((i + 1 : Nat) : Int) * -1) ++ "\n" = _
     congr 2
     omega
   rw [e, ZSC, ih (by omega)]
   show _ = ZGd (ZFo _ ss w.toNat n) ++ "\n" ++ ZFX _ ss w.toNat n
   congr 2
   unfold ZHR
   congr 1
   exact UK fun j hj => ZLY hs hy ht (by have := List.mem_range.mp hj; omega) (by omega) (by omega) hP
 unfold textL
 have := key rows.toNat (by omega)
 rw [show ((rows.toNat : Nat) : Int) = rows by omega] at this
 exact this
abbrev Cv := Str × Addr × PL
def cvR (cs : List Cv) : List (Str × V) := cs.map fun c => (c.1, V.ref c.2.1)
theorem ZOO (cs : List Cv) : (cvR cs).map (·.1) = cs.map (·.1) := by simp [cvR, UV, Function.comp_def]
theorem ZJ8 (cs : List Cv) : (cvR cs).length = cs.length := by simp [cvR]
theorem ZFr (cs : List Cv) (k : Str) : ZDs (cvR cs) k = (ZDs cs k).map fun c => V.ref c.1 := ZHj (fun c : Addr × PL => V.ref c.1) cs k
structure ZFO (H : Hp) (cs : List Cv) : Prop where
 nd : (cs.map (·.1)).Nodup
 na : (cs.map (·.2.1)).Nodup
 hd : ∀ c ∈ cs, H c.2.1 = some (.dK (ZEF c.2.2))
 nk : ∀ c ∈ cs, (c.2.2.map (·.1)).Nodup
 nm : ∀ c ∈ cs, ZEt c.1 = true
section
variable {H H' : Hp} {cs : List Cv} {l : List Addr}
theorem ZFO.frL (h : ZFO H cs) (f : FrL l H H') (n : ∀ c ∈ cs, c.2.1 ∉ l) : ZFO H' cs := ⟨h.nd, h.na, fun c hc => f _ _ (h.hd c hc) (n c hc), h.nk, h.nm⟩
theorem ZFO.same (h : ZFO H cs) (s : ZDq H H') : ZFO H' cs := ⟨h.nd, h.na, fun c hc => s _ _ (h.hd c hc), h.nk, h.nm⟩
theorem ZFO.pur (h : ZFO H cs) {p : Addr} (hp : Pur H p) (k : Kp p H H') : ZFO H' cs := ⟨h.nd, h.na, fun c hc => k _ _ (h.hd c hc) (hp.ne_dk (h.hd c hc)), h.nk, h.nm⟩
theorem ZFO.live (h : ZFO H cs) {c : Cv} (hc : c ∈ cs) {b : Addr} (e : H b = none) : c.2.1 ≠ b := fun z => by rw [<- z, h.hd c hc] at e; cases e
end
theorem ZId {α β : Type} {f : α -> β} : ∀ {l : List α}, (l.map f).Nodup -> ∀ {x y : α}, x ∈ l -> y ∈ l -> f x = f y -> x = y
 | [], _, _, _, h, _, _ => by cases h
 | z :: l, n, x, y, hx, hy, e => by
  rw [UD, List.nodup_cons] at n
  rcases Ul.mp hx with e1 | hx <;> rcases Ul.mp hy with e2 | hy
  ·rw [e1, e2]
  ·exact absurd (Ux.mpr ⟨y, hy, by rw [<- e, e1]⟩) n.1
  ·exact absurd (Ux.mpr ⟨x, hx, by rw [e, e2]⟩) n.1
  ·exact ZId n.2 hx hy e
theorem ZFO.more {H : Hp} {cs : List Cv} (h : ZFO H cs) {k : Str} {b : Addr} (hk : ZEt k = true) (hg : ZDs cs k = none) (f : H b = some (.dK (ZEF []))) (n : ∀ c ∈ cs, c.2.1 ≠ b) : ZFO H (cs ++ [(k, b, [])]) := by
 refine ⟨?_, ?_, fun c hc => ?_, fun c hc => ?_, fun c hc => ?_⟩
 ·rw [Us, Vg]
  refine ⟨h.nd, by simp, fun y hy z hz e => ?_⟩
  simp only [UD, Vs, Uj] at hz
  exact (ZEv.mp hg) (by rw [<- hz, <- e]; exact hy)
 ·rw [Us, Vg]
  refine ⟨h.na, by simp, fun y hy z hz e => ?_⟩
  simp only [UD, Vs, Uj] at hz
  obtain ⟨c, hc, rfl⟩ := Ux.mp hy
  exact n c hc (e.trans hz)
 all_goals rcases UI.mp hc with hc | hc
 ·exact h.hd c hc
 ·rw [Uj.mp hc]; exact f
 ·exact h.nk c hc
 ·rw [Uj.mp hc]; exact List.nodup_nil
 ·exact h.nm c hc
 ·rw [Uj.mp hc]; exact hk
section
variable {α : Type} {m : List (Str × α)}
theorem ZG0 {k : Str} {q' : α} {x : Str × α} (hx : x ∈ ZD8 m k q') : x = (k, q') \/ (x ∈ m /\ x.1 ≠ k) := by
 unfold ZD8 at hx
 split at hx
 ·obtain ⟨z, hz, e⟩ := Ux.mp hx
  by_cases c : z.1 = k
  ·rw [if_pos c] at e
   left; rw [<- e, c]
  ·rw [if_neg c] at e
   right; rw [<- e]; exact ⟨hz, c⟩
 ·rename_i ha
  rcases UI.mp hx with hx | hx
  ·refine .inr ⟨hx, fun e => ha ?_⟩
   rw [UL]
   exact ⟨x, hx, by simpa using e⟩
  ·exact .inl (Uj.mp hx)
theorem ZF1 {k : Str} {q q' : α} (hg : ZDs m k = some q) : (ZD8 m k q').map (·.1) = m.map (·.1) := by
 have ha : (m.any fun p => decide (p.1 = k)) = true := by
  rw [UL]
  exact ⟨_, ZEJ hg, by simp⟩
 unfold ZD8
 rw [if_pos ha, UV]
 refine UK fun x hx => ?_
 simp only [Function.comp]
 split <;> rfl
theorem ZHu {β : Type} {f : α -> β} {k : Str} {q' : α} (m : List (Str × α)) : (ZD8 m k q').map (fun x => (x.1, f x.2)) = ZD8 (m.map fun x => (x.1, f x.2)) k (f q') := by
 unfold ZD8
 have : ((m.map fun x => (x.1, f x.2)).any fun p => decide (p.1 = k)) = m.any fun p => decide (p.1 = k) := by rw [List.any_map]; rfl
 rw [this]
 split
 ·rw [UV, UV]
  refine UK fun x hx => ?_
  simp only [Function.comp]
  split <;> rfl
 ·simp
theorem ZSD {k : Str} {q : α} (hg : ZDs m k = some q) (n : (m.map (·.1)).Nodup) : ZD8 m k q = m := by
 have ha : (m.any fun p => decide (p.1 = k)) = true := by
  rw [UL]
  exact ⟨_, ZEJ hg, by simp⟩
 unfold ZD8
 rw [if_pos ha]
 conv => rhs; rw [<- List.map_id m]
 refine UK fun x hx => ?_
 split
 ·rename_i c
  have : x = (k, q) := ZId n hx (ZEJ hg) c
  rw [this]; rfl
 ·rfl
end
theorem ZFO.put {H H' : Hp} {cs : List Cv} (h : ZFO H cs) {k : Str} {b : Addr} {sm : PL} {t v : Int} (hg : ZDs cs k = some (b, sm)) (K1 : Kp b H H') (f : H' b = some (.dK (ZEF (ZEI sm t v)))) : ZFO H' (ZD8 cs k (b, ZEI sm t v)) := by
 have hq := ZEJ hg
 have ek : (ZD8 cs k (b, ZEI sm t v)).map (·.2.1) = cs.map (·.2.1) := by
  have ha : (cs.any fun p => decide (p.1 = k)) = true := by
   rw [UL]
   exact ⟨_, hq, by simp⟩
  unfold ZD8
  rw [if_pos ha, UV]
  refine UK fun x hx => ?_
  simp only [Function.comp]
  split
  ·rename_i c
   have : x = (k, b, sm) := ZId h.nd hx hq c
   rw [this]
  ·rfl
 refine ⟨by rw [ZF1 hg]; exact h.nd, by rw [ek]; exact h.na, fun c hc => ?_, fun c hc => ?_, fun c hc => ?_⟩
 all_goals rcases ZG0 hc with rfl | ⟨hc, nc⟩
 ·exact f
 ·exact K1 _ _ (h.hd c hc) fun z => nc (by have := ZId h.na hc hq z; rw [this])
 ·exact ZE9 (h.nk _ hq)
 ·exact h.nk c hc
 ·exact h.nm (k, b, sm) hq
 ·exact h.nm c hc
theorem ZWQ {cs : List Cv} {k : Str} {b : Addr} {sm sm' : PL} (n : (cs.map (·.1)).Nodup) (hg : ZDs cs k = some (b, sm)) : cvR (ZD8 cs k (b, sm')) = cvR cs := by
 unfold cvR
 have e := ZHu (f := fun c : Addr × PL => V.ref c.1) (k := k) (q' := (b, sm')) cs
 rw [e]
 exact ZSD (by have := ZFr cs k; unfold cvR at this; rw [this, hg]; rfl) (by rw [UV]; exact n)
section
variable {P : Program} {w : World} {K : W.Frag} {mg : Str -> Option Value} {base : Heap} {a : Ad}
local macro_rules | `(tactic| walk_at "rd") => `(tactic| first
 | with_reducible first | refine ZIy ?_ | refine ZIz ?_ | refine ZIx ?_)
theorem ZKs {H : Hp} {Q : VK} {l : Addr} {ns : List Int} {d : Int} (h : H l = some (.lst (ns.map V.int))) (h0 : 0 <= d) (h1 : d < (ns.length : Int)) (q : ∀ n ∈ ns, Q (.int n) H) : ZPg K (.ref l) (.int d) H Q := by
 obtain ⟨j, rfl⟩ : ∃ j : Nat, d = (j : Int) := ⟨d.toNat, by omega⟩
 have hj : j < ns.length := by omega
 exact ZIT (SqL.of h) (ZF5 (by rw [UB, Uc hj]; rfl)) (q _ (Vb hj))
def ZKt (b y w : Int) : Prop := -1099511627776 + 180 <= b /\ b <= 1099511627776 - 180 /\ 1 <= y /\ y <= 9 /\ 1 <= w /\ w <= 7
theorem ZKt.mul {b y w : Int} (h : ZKt b y w) : 1 <= w * y /\ w * y <= 63 := by
 obtain ⟨_, _, h1, h2, h3, h4⟩ := h
 constructor
 ·have : 1 * 1 <= w * y := Int.mul_le_mul h3 h1 (by decide) (by omega)
  omega
 ·have : w * y <= 7 * 9 := Int.mul_le_mul h4 h2 (by omega) (by decide)
  omega
theorem ZKt.winT {H : Hp} {q : Addr} {b y w : Int} (h : ZKt b y w) (e : H q = some (.tup [.int b, .int y, .int w])) : ZIM H q b y w := by
 have := h.mul
 obtain ⟨h1, h2, h3, h4, h5, h6⟩ := h
 exact ⟨e, by omega, by omega, by omega, ⟨by omega, by omega⟩, ⟨by omega, by omega⟩⟩
def ZYO : Sp := fun vs H Q _ => ∃ p : Addr, vs = [.ref p] /\ Pur H p /\ ∀ (q : Addr) (b y w : Int) (H' : Hp), H' q = some (.tup [.int b, .int y, .int w]) -> ZKt b y w -> Pur H' p -> Kp p H H' -> Q (.ref q) H'
theorem ZIO : ZDw ["_law_purse_here", "_law_begin"] ["_law_purse_here"] (ZDo ZI4) := ZEB
theorem ZOq (T : Txt K mg a) : ZD2 P w K mg base CX0 2 a.Yz a.Y6 ["_law_purse_here"] ZYO := by
 refine T.ZAj.ok ZIO (by walk_at "l") (fun cdv A outer s H vs Q E hr h => ?_)
 ·obtain ⟨p, rfl, hp, k⟩ := h
  refine ⟨_, QB.h (ZDm (qsS (i := 1) ZIO.nd (ZDu ZFG (qcS (ZER T) hr T.ZD T.ZC.kp T.ZE (ZDk (qv 0) (ZDk ZDn ZDl))) ZDn)) (ZDm (ZEw (ZEC (ZJy) (qcS (ZER T) hr T.ZD T.ZC.kp T.ZE (ZDk (qv 0) (ZDk ZDn ZDl))) ZDn (ZEL _)) (ZDp (qsS (i := 1) ZIO.nd (ZDu ZEU (qv 1) (ZDu ZED (qcS (ZER T) hr T.ZD T.ZC.kp T.ZE (ZDk (qv 0) (ZDk (ZDu ZFG (ZDu ZNB ZDn ZDn) ZDn) ZDl))) (ZDu ZFG ZDn (ZDu ZED ZDn (qcS (ZER T) hr T.ZD T.ZC.kp T.ZE (ZDk (qv 0) (ZDk ZDn ZDl))))))))) ZEX) (ZDp (ZDz (ZEh (ZDk (qv 1) (ZDk (ZDu ZEU ZDn (qcS (ZER T) hr T.ZD T.ZC.kp T.ZE (ZDk (qv 0) (ZDk (ZD1 (ZE4 K rfl) (ZFN (ZDk ZDn (ZDk ZDn (ZDk ZDn ZDl)))) (qcS (ZER T) hr T.ZD T.ZC.kp T.ZE (ZDk (qv 0) (ZDk ZDn ZDl)))) ZDl)))) (ZDk (ZDu ZEU ZDn (qcS (ZER T) hr T.ZD T.ZC.kp T.ZE (ZDk (qv 0) (ZDk ZDn ZDl)))) ZDl)))))))), ?_⟩
  walk_at "s"
  walk_at "w"
  refine ⟨p, _, rfl, hp, by decide, by decide, fun d1 H1 h1 h1' P1 K1 => ?_⟩
  repeat walk_at "ri"
  refine ZVy (fun U H' => ∃ b : Int, U = [some (.ref p), some (.int b)] /\ -1099511627776 + 180 <= b /\ b <= 1099511627776 - 180 /\ Pur H' p /\ Kp p H H') ?_ ?_
  ·rintro U H3 ⟨b, rfl, hb1, hb2, P3, K3⟩
   walk_at "w"
   refine ZD9 (by show 3 <= sizeLine; decide) fun l4 H4 n4 f4 S4 => ?_
   walk_at "w"
   refine ⟨p, _, rfl, P3.same S4, by decide, by decide, fun d5 H5 h5 h5' P5 K5 => ?_⟩
   walk_at "w"
   refine ZKs (ns := [_, _, _]) (K5 _ _ f4 (P3.neN n4)) h5 (by simpa using h5') fun n hn => ?_
   have hn2 : 0 < n /\ n <= 9 := by
    simp only [Ul, UC, or_false] at hn
    rcases hn with rfl | rfl | rfl <;> decide
   walk_at "w"
   refine ⟨p, _, rfl, P5, hn2.1, Int.lt_of_le_of_lt hn2.2 (by decide), fun d6 H6 h6 h6' P6 K6 => ?_⟩
   walk_at "w"
   refine ⟨p, _, rfl, P6, by decide, by decide, fun d7 H7 h7 h7' P7 K7 => ?_⟩
   walk_at "w"
   refine ZD9 (by show 3 <= sizeLine; decide) fun t8 H8 n8 f8 S8 => ?_
   exact k t8 _ _ _ H8 f8 ⟨hb1, hb2, by omega, by omega, by omega, by omega⟩ (P7.same S8) (((((K3.then S4).trans K5).trans K6).trans K7).then S8)
  ·intro D' _ hD
   walk_at "w"
   refine ⟨p, _, rfl, P1, by decide, by decide, fun d2 H2 h2 h2' P2 K2 => ?_⟩
   walk_at "w"
   rw [ZMy]
   refine ZEc (fun _ => ?_) (fun _ => ?_)
   ·walk_at "w"
    refine ⟨p, _, rfl, P2, by decide, by decide, fun d3 H3 h3 h3' P3 K3 => ?_⟩
    walk_at "w"
    refine ⟨p, _, rfl, P3, by decide, by decide, fun d4 H4 h4 h4' P4 K4 => ?_⟩
    walk_at "w"
    have : d4 = 0 \/ d4 = 1 := by omega
    refine hD _ _ ⟨_, rfl, ?_, ?_, P4, ((K1.trans K2).trans K3).trans K4⟩
    ·rcases this with rfl | rfl <;> omega
    ·rcases this with rfl | rfl <;> omega
   ·walk_at "w"
    exact hD _ _ ⟨_, rfl, by omega, by omega, P2, K1.trans K2⟩
def ZYP : Sp := fun vs H Q _ => ∃ p : Addr, vs = [.ref p] /\ Pur H p /\ ∀ (q : Addr) (low tall rows : Int) (H' : Hp), Hts H' q low tall rows -> 1 <= rows -> rows <= 7 -> Pur H' p -> Kp p H H' -> Q (.ref q) H'
theorem ZOP : ZDw ["_law_purse_here"] ["_law_purse_here"] (ZDo ZIL) := ZEB
theorem ZOQ (T : Txt K mg a) : ZD2 P w K mg base CX0 2 a.Yc a.YZ ["_law_purse_here"] ZYP := by
 refine T.ZAA.ok ZOP (by walk_at "l") (fun cdv A outer s H vs Q E hr h => ?_)
 ·obtain ⟨p, rfl, hp, k⟩ := h
  refine ⟨_, QB.h (ZDp (ZDz (ZEh (ZDk (ZDu ZFG (qcS (ZER T) hr T.ZD T.ZC.kp T.ZE (ZDk (qv 0) (ZDk ZDn ZDl))) ZDn) (ZDk (ZDu ZEU ZDn (qcS (ZER T) hr T.ZD T.ZC.kp T.ZE (ZDk (qv 0) (ZDk (ZD1 (ZE4 K rfl) (ZFN (ZDk ZDn (ZDk ZDn ZDl))) (qcS (ZER T) hr T.ZD T.ZC.kp T.ZE (ZDk (qv 0) (ZDk ZDn ZDl)))) ZDl)))) (ZDk (ZDu ZEU ZDn (qcS (ZER T) hr T.ZD T.ZC.kp T.ZE (ZDk (qv 0) (ZDk ZDn ZDl)))) ZDl)))))), ?_⟩
  walk_at "s"
  walk_at "w"
  refine ⟨p, _, rfl, hp, by decide, by decide, fun d1 H1 h1 h1' P1 K1 => ?_⟩
  walk_at "w"
  refine ZD9 (by show 2 <= sizeLine; decide) fun l4 H4 n4 f4 S4 => ?_
  walk_at "w"
  refine ⟨p, _, rfl, P1.same S4, by decide, by decide, fun d5 H5 h5 h5' P5 K5 => ?_⟩
  walk_at "w"
  refine ZKs (ns := [_, _]) (K5 _ _ f4 (P1.neN n4)) h5 (by simpa using h5') fun n hn => ?_
  have hn2 : 0 < n /\ n <= 5 := by
   simp only [Ul, UC, or_false] at hn
   rcases hn with rfl | rfl <;> decide
  walk_at "w"
  refine ⟨p, _, rfl, P5, hn2.1, Int.lt_of_le_of_lt hn2.2 (by decide), fun d6 H6 h6 h6' P6 K6 => ?_⟩
  walk_at "w"
  refine ⟨p, _, rfl, P6, by decide, by decide, fun d7 H7 h7 h7' P7 K7 => ?_⟩
  walk_at "w"
  refine ZD9 (by show 3 <= sizeLine; decide) fun t8 H8 n8 f8 S8 => ?_
  exact k t8 _ _ _ H8 ⟨f8, by unfold Bn; omega, by omega, by unfold Bn; omega, by omega, by omega⟩ (by omega) (by omega) (P7.same S8) (((((K1.then S4).trans K5).trans K6).trans K7).then S8)
end
structure CI (Hb H : Hp) (p cd : Addr) (cs : List Cv) (b y w : Int) (i j : Nat) : Prop where
 fc : H cd = some (.dK (dkS (cvR cs)))
 cv : ZFO H cs
 nc : ∀ c ∈ cs, c.2.1 ≠ cd /\ Hb c.2.1 = none
 n0 : Hb cd = none
 ln : cs.length <= i
 bs : ∀ c ∈ cs, c.2.2.length <= j /\ ∀ r ∈ c.2.2, b - 3 <= r.1 /\ r.1 <= b + w * y + 2 /\ -12 <= r.2 /\ r.2 <= 12
 pu : Pur H p
 kp : Kp p Hb H
section
variable {Hb H H' H1 H2 : Hp} {p cd hd0 b0 : Addr} {cs : List Cv} {b y w : Int} {i j : Nat} {kk : Str} {sm : PL} {t v : Int}
theorem CI.pur (h : CI Hb H p cd cs b y w i j) (k : Kp p H H') (P' : Pur H' p) : CI Hb H' p cd cs b y w i j := ⟨k _ _ h.fc (h.pu.ne_dk h.fc), h.cv.pur h.pu k, h.nc, h.n0, h.ln, h.bs, P', h.kp.trans k⟩
theorem CI.same (h : CI Hb H p cd cs b y w i j) (s : ZDq H H') : CI Hb H' p cd cs b y w i j := ⟨s _ _ h.fc, h.cv.same s, h.nc, h.n0, h.ln, h.bs, h.pu.same s, h.kp.then s⟩
theorem CI.mono (h : CI Hb H p cd cs b y w i j) {i' j' : Nat} (hi : i <= i') (hj : j <= j') : CI Hb H p cd cs b y w i' j' := ⟨h.fc, h.cv, h.nc, h.n0, Uz h.ln hi, fun c hc => ⟨Uz (h.bs c hc).1 hj, (h.bs c hc).2⟩, h.pu, h.kp⟩
theorem CI.asked (h : CI Hb H p cd cs b y w i j) (hk : ZEt kk = true) (n1 : H hd0 = none) (f1 : H1 hd0 = some (.dK (ZEF []))) (S1 : ZDq H H1) (f2 : H2 cd = some (.dK (dkS (ZJc (cvR cs) kk (.ref hd0))))) (K2 : Kp cd H1 H2) :
  ∃ cs' b0 sm, CI Hb H2 p cd cs' b y w (i + 1) j /\ ZDs cs' kk = some (b0, sm) /\ (ZDs (cvR cs) kk).getD (.ref hd0) = .ref b0 := by
 have h1 := h.same S1
 cases hg : ZDs cs kk with
 | some c =>
  obtain ⟨b0, sm⟩ := c
  have e2 : ZJc (cvR cs) kk (.ref hd0) = cvR cs := by unfold ZJc; rw [ZFr, hg]; rfl
  rw [e2] at f2
  refine ⟨cs, b0, sm, (h1.same ?_).mono (Nat.le_succ _) (Ud _), hg, by rw [ZFr, hg]; rfl⟩
  intro c o e
  by_cases z : c = cd
  ·rw [z] at e ⊢
   rw [f2, <- h1.fc, e]
  ·exact K2 _ _ e z
 | none =>
  have e2 : ZJc (cvR cs) kk (.ref hd0) = cvR (cs ++ [(kk, hd0, [])]) := by unfold ZJc; rw [ZFr, hg]; simp [cvR]
  rw [e2] at f2
  have nh : hd0 ≠ cd := fun z => by rw [z, h.fc] at n1; cases n1
  have hc2 : ZFO H2 cs := h1.cv.frL (l := [cd]) (FrL.kp K2 (by simp)) fun c hc z => (h.nc c hc).1 (Uj.mp z)
  have nb0 : Hb hd0 = none := by
   cases e : Hb hd0 with
   | none => rfl
   | some o => rw [h.kp _ _ e (h.pu.neN n1)] at n1; cases n1
  refine ⟨cs ++ [(kk, hd0, [])], hd0, [], ⟨f2, hc2.more hk hg (K2 _ _ f1 nh) fun c hc => h.cv.live hc n1, fun c hc => ?_, h.n0, ?_, fun c hc => ?_, ?_, fun b o e nb => ?_⟩, ?_, by rw [ZFr, hg]; rfl⟩
  ·rcases UI.mp hc with hc | hc
   ·exact h.nc c hc
   ·rw [Uj.mp hc]; exact ⟨nh, nb0⟩
  ·rw [UN]; have := h.ln; simp; omega
  ·rcases UI.mp hc with hc | hc
   ·exact h.bs c hc
   ·rw [Uj.mp hc]; exact ⟨UO _, fun r hr => by cases hr⟩
  ·exact h1.pu.kp K2 fun z => h1.pu.ne_dk h1.fc z.symm
  ·exact K2 _ _ (h1.kp _ _ e nb) fun z => by rw [z, h.n0] at e; cases e
  ·exact ZE7 (by rw [Us, Vg]; exact ⟨h.cv.nd, by simp, fun y hy z hz e => (ZEv.mp hg) (by simp at hz; rw [<- hz, <- e]; exact hy)⟩) (by simp)
theorem CI.put (h : CI Hb H p cd cs b y w i j) (hg : ZDs cs kk = some (b0, sm)) (K1 : Kp b0 H H1) (f1 : H1 b0 = some (.dK (ZEF (ZEI sm t v)))) (ht : b - 3 <= t /\ t <= b + w * y + 2) (hv : -12 <= v /\ v <= 12) : CI Hb H1 p cd (ZD8 cs kk (b0, ZEI sm t v)) b y w i (j + 1) := by
 have hq := ZEJ hg
 have hn := h.nc _ hq
 refine ⟨by rw [ZWQ h.cv.nd hg]; exact K1 _ _ h.fc (Ne.symm hn.1), h.cv.put hg K1 f1, fun c hc => ?_, h.n0, ?_, fun c hc => ?_, h.pu.kp K1 fun z => h.pu.ne_dk (h.cv.hd _ hq) z.symm, fun b o e nb => K1 _ _ (h.kp _ _ e nb) fun z => by rw [z, hn.2] at e; cases e⟩
 ·rcases ZG0 hc with rfl | ⟨hc, _⟩
  ·exact hn
  ·exact h.nc c hc
 ·have := congrArg Vl (ZF1 (q' := (b0, ZEI sm t v)) hg)
  simp only [Uf] at this
  rw [this]; exact h.ln
 ·rcases ZG0 hc with rfl | ⟨hc, _⟩
  ·have hb := h.bs _ hq
   refine ⟨Uz (ZHi sm t v) (Nat.succ_le_succ hb.1), fun r hr => ?_⟩
   rcases (ZFj (h.cv.nk _ hq)).mp hr with z | z
   ·exact hb.2 r z.2
   ·rw [z]; exact ⟨ht.1, ht.2, hv.1, hv.2⟩
  ·exact ⟨Nat.le_succ_of_le (h.bs c hc).1, (h.bs c hc).2⟩
end
section
variable {P : Program} {w : World} {K : W.Frag} {mg : Str -> Option Value} {base : Heap} {a : Ad}
local macro_rules | `(tactic| walk_at "rd") => `(tactic| first
 | with_reducible first | refine ZIy ?_ | refine ZIz ?_ | refine ZIx ?_)
def ZSE : Sp := fun vs H Q _ => ∃ (p q : Addr) (b y w : Int), vs = [.ref p, .ref q] /\ Pur H p /\ H q = some (.tup [.int b, .int y, .int w]) /\ ZKt b y w /\
 ∀ (cd : Addr) (cs : List Cv) (H' : Hp), CI H H' p cd cs b y w 4 28 -> Q (.ref cd) H'
theorem ZFA : ZDw ["_law_purse_here", "_law_window_here", "_law_begin", "_law_wide", "_law_many", "_law_curves_here", "_law_k", "_law_name", "_law_held", "_law_j"] ["_law_purse_here", "_law_window_here"] (ZDo ZI5) := ZEB
theorem ZOr (T : Txt K mg a) : ZD2 P w K mg base CX0 2 a.Yx a.Yv ["_law_purse_here", "_law_window_here"] ZSE := by
 refine T.ZAd.ok ZFA (by walk_at "l") (fun cdv A outer s H vs Q E hr h => ?_)
 ·obtain ⟨p, q, b, y, w, rfl, hp, hq, hW, k⟩ := h
  have hu := ZF6 hr
  have hwy := hW.mul
  have hcm : y * w = w * y := Int.mul_comm _ _
  obtain ⟨hb1, hb2, hy1, hy2, hw1, hw2⟩ := id hW
  refine ⟨_, QB.h (ZDm (ZFZ (qv 1) (ZEz (n := 3) K rfl rfl (ZDy (qgN (i := 2) ZFA.nd) (ZDy (qgN (i := 3) ZFA.nd) (ZDy (qgN (i := 4) ZFA.nd) ZEi))))) (ZDm (qsS (i := 5) ZFA.nd ZGP) (ZDm (ZFB PassesOwn.never rfl (ZFL rfl T.ZI (ZDk (qcS (ZER T) hr T.ZD T.ZC.kp T.ZE (ZDk (qv 0) (ZDk ZDn ZDl))) ZDl)) (qgN (i := 6) ZFA.nd) (ZDm (qsS (i := 7) ZFA.nd (ZD1 (ZE4 K rfl) (ZFN (ZDk ZEy (ZDk ZEy (ZDk ZEy (ZDk ZEy (ZDk ZEy (ZDk ZEy (ZDk ZEy ZDl)))))))) (qcS (ZER T) hr T.ZD T.ZC.kp T.ZE (ZDk (qv 0) (ZDk ZDn ZDl))))) (ZDm (qsS (i := 8) ZFA.nd (ZVz (qv 5) (qv 7) ZGP)) (ZDp (ZFB PassesOwn.never rfl (ZFL rfl T.ZI (ZDk (qcS (ZER T) hr T.ZD T.ZC.kp T.ZE (ZDk (qv 0) (ZDk (ZD1 (ZE4 K rfl) (ZFN (ZDk ZDn (ZDk ZDn ZDl))) (qcS (ZER T) hr T.ZD T.ZC.kp T.ZE (ZDk (qv 0) (ZDk ZDn ZDl)))) ZDl))) ZDl)) (qgN (i := 9) ZFA.nd) (ZDp (ZF9 hu (ZDu ZFG (qcS (ZER T) hr T.ZD T.ZC.kp T.ZE (ZDk (qv 0) (ZDk ZDn ZDl))) ZDn) (qv 8) (ZDu ZEU (ZDu ZFG (qv 2) ZDn) (qcS (ZER T) hr T.ZD T.ZC.kp T.ZE (ZDk (qv 0) (ZDk (ZDu ZEU (ZDu ZED (qv 3) (qv 4)) ZDn) ZDl))))))))))) (ZDp (ZDz (qv 5)))))), ?_⟩
  walk_at "s"
  walk_at "w"
  refine ZKg fun cd H1 n1 f1 S1 => ?_
  have C1 : CI H H1 p cd [] b y w 0 0 := ⟨f1, ⟨by simp, by simp, (fun c hc => by cases hc), (fun c hc => by cases hc), (fun c hc => by cases hc)⟩, (fun c hc => by cases hc), n1, Ud _, (fun c hc => by cases hc), hp.same S1, Kp.same S1⟩
  walk_at "w"
  refine ⟨p, _, rfl, C1.pu, by decide, by decide, fun cnt H2 h2 h2' P2 K2 => ?_⟩
  have C2 := C1.pur K2 P2
  walk_at "w"
  refine ZGF (by omega) (by omega) (ZHV (fun i U H' => (∃ v6 v7 v8 v9, U = [some (.ref p), some (.ref q), some (.int b), some (.int y), some (.int w), some (.ref cd), v6, v7, v8, v9]) /\ ∃ cs, CI H H' p cd cs b y w i (7 * i)) ?_ ?_ ?_)
  ·exact ⟨⟨_, _, _, _, rfl⟩, [], C2⟩
  ·rintro i U H3 hi ⟨⟨v6, v7, v8, v9, rfl⟩, cs, C3⟩
   have hi4 : i < 4 := by omega
   walk_at "w"
   refine ZD9 (by show 7 <= sizeLine; decide) fun l4 H4 n4 f4 S4 => ?_
   have C4 := C3.same S4
   walk_at "w"
   refine ⟨p, _, rfl, C4.pu, by decide, by decide, fun d5 H5 h5 h5' P5 K5 => ?_⟩
   have C5 := C4.pur K5 P5
   have f5 := K5 _ _ f4 (C3.pu.neN n4)
   walk_at "w"
   obtain ⟨n5, rfl⟩ : ∃ n : Nat, d5 = (n : Int) := ⟨d5.toNat, by omega⟩
   have h7 : n5 < 7 := by omega
   have hx : ∃ x : Str, [V.str "a", .str "ab", .str "b", .str "c", .str "ca", .str "z", .str "zz"][n5]? = some (.str x) /\ ZEt x = true := by
    match n5, h7 with
    | 0, _ => exact ⟨_, rfl, by decide +kernel⟩
    | 1, _ => exact ⟨_, rfl, by decide +kernel⟩
    | 2, _ => exact ⟨_, rfl, by decide +kernel⟩
    | 3, _ => exact ⟨_, rfl, by decide +kernel⟩
    | 4, _ => exact ⟨_, rfl, by decide +kernel⟩
    | 5, _ => exact ⟨_, rfl, by decide +kernel⟩
    | 6, _ => exact ⟨_, rfl, by decide +kernel⟩
   obtain ⟨kk, hx, hk⟩ := hx
   refine ZIT (SqL.of f5) (ZF5 hx) ?_
   walk_at "w"
   refine ZTt C5.fc ?_
   walk_at "w"
   refine ZIl fun hd0 H6 n6 f6 S6 => ?_
   walk_at "w"
   refine ZTu (S6 _ _ C5.fc) (Um (show (cvR cs).length <= 60 by rw [ZJ8]; have := C5.ln; omega) (by decide)) fun H7 f7 K7 => ?_
   obtain ⟨cs', b0, sm0, C7, hg7, eb0⟩ := C5.asked hk n6 f6 S6 f7 K7
   rw [eb0]
   walk_at "w"
   refine ZD9 (by show 2 <= sizeLine; decide) fun l8 H8 n8 f8 S8 => ?_
   have C8 := C7.same S8
   walk_at "w"
   refine ⟨p, _, rfl, C8.pu, by decide, by decide, fun d9 H9 h9 h9' P9 K9 => ?_⟩
   have C9 := C8.pur K9 P9
   walk_at "w"
   refine ZKs (ns := [_, _]) (K9 _ _ f8 (C7.pu.neN n8)) h9 (by simpa using h9') fun n hn => ?_
   have hn2 : 0 < n /\ n <= 8 := by
    simp only [Ul, UC, or_false] at hn
    rcases hn with rfl | rfl <;> decide
   walk_at "w"
   refine ⟨p, _, rfl, C9.pu, hn2.1, Int.lt_of_le_of_lt hn2.2 (by decide), fun cn H10 h10 h10' P10 K10 => ?_⟩
   have C10 := C9.pur K10 P10
   walk_at "w"
   refine ZGF (by omega) (by omega) (ZHV (fun i' U H' => (∃ v9, U = [some (.ref p), some (.ref q), some (.int b), some (.int y), some (.int w), some (.ref cd), some (.int (0 + (i : Int))), some (.str kk), some (.ref b0), v9]) /\ ∃ cs sm, CI H H' p cd cs b y w (i + 1) (7 * i + i') /\ ZDs cs kk = some (b0, sm)) ?_ ?_ ?_)
   ·exact ⟨⟨_, rfl⟩, cs', sm0, C10, hg7⟩
   ·rintro i' U H11 hi' ⟨⟨v9, rfl⟩, cs1, sm1, C11, hg11⟩
    walk_at "w"
    refine ⟨p, _, rfl, C11.pu, by decide, by decide, fun vv H12 h12 h12' P12 K12 => ?_⟩
    have C12 := C11.pur K12 P12
    walk_at "w"
    refine ⟨p, _, rfl, C12.pu, by omega, Int.lt_of_le_of_lt (show y * w + 6 <= 100 by omega) (by decide), fun tt H13 h13 h13' P13 K13 => ?_⟩
    have C13 := C12.pur K13 P13
    have hq13 := ZEJ hg11
    walk_at "w"
    refine ZIk (C13.cv.hd _ hq13) (Um (show sm1.length <= 100 by have := (C13.bs _ hq13).1; dsimp only at this; omega) (by decide)) fun H14 f14 K14 => ?_
    walk_at "w"
    refine ⟨⟨_, rfl⟩, _, ZEI sm1 (b - 3 + tt) (vv - 12), C13.put hg11 K14 f14 ⟨by omega, by omega⟩ ⟨by omega, by omega⟩, ?_⟩
    exact ZE7 (by rw [ZF1 hg11]; exact C13.cv.nd) (by
     unfold ZD8
     rw [if_pos (by rw [UL]; exact ⟨_, hq13, by simp⟩)]
     exact Ux.mpr ⟨_, hq13, by simp⟩)
   ·rintro U H11 ⟨⟨v9, rfl⟩, cs1, sm1, C11, hg11⟩
    walk_at "w"
    exact ⟨⟨_, _, _, _, rfl⟩, cs1, C11.mono (Ud _) (by omega)⟩
  ·rintro U H3 ⟨⟨v6, v7, v8, v9, rfl⟩, cs, C3⟩
   walk_at "w"
   exact k cd cs H3 (C3.mono (by omega) (by omega))
end
theorem ZMe {α : Type} {m : List (Str × α)} {k : Str} {q q' : α} (hn : ZDs m k = none) : ZD8 (m ++ [(k, q)]) k q' = m ++ [(k, q')] := by
 unfold ZD8
 rw [if_pos (by rw [UL]; exact ⟨(k, q), by simp, by simp⟩), Us]
 congr 1
 ·conv => rhs; rw [<- List.map_id m]
  refine UK fun x hx => ?_
  rw [if_neg fun e => (ZEv.mp hn) (Ux.mpr ⟨x, hx, e⟩)]
  rfl
 ·simp
theorem ZL6 {α β : Type} {f : α -> β} {l : List α} (n : (l.map f).Nodup) {i : Nat} (hi : i < l.length) : f l[i] ∉ (l.take i).map f := fun z => by
 rw [<- List.take_append_drop i l, Us, Vg] at n
 exact n.2.2 _ z _ (Ux.mpr ⟨l[i], by rw [Vo hi]; exact UA, rfl⟩) rfl
def ZGE (m : List (Str × SS)) (cs : List Cv) : Prop := m.map (fun q => (q.1, q.2.sm)) = cs.map fun c => (c.1, c.2.2)
theorem ZGE.keys {m : List (Str × SS)} {cs : List Cv} (h : ZGE m cs) : m.map (·.1) = cs.map (·.1) := by
 have := congrArg (List.map fun x : Str × PL => x.1) h
 simpa [UV, Function.comp_def] using this
def Few (m : List (Str × SS)) (n : Nat) : Prop := ∀ q ∈ m, q.2.c <= n /\ q.2.ts.length <= n /\ q.2.ds.length <= n
section
variable {P : Program} {w : World} {K : W.Frag} {mg : Str -> Option Value} {base : Heap} {a : Ad}
local macro_rules | `(tactic| walk_at "rd") => `(tactic| first
 | with_reducible first | refine ZIy ?_ | refine ZIz ?_ | refine ZIx ?_)
def ZUG (a : Ad) : Sp := fun vs H Q _ => ∃ (cd : Addr) (cs : List Cv), vs = [.ref cd] /\ H cd = some (.dK (dkS (cvR cs))) /\ ZFO H cs /\ (∀ c ∈ cs, c.2.1 ≠ cd) /\ cs.length <= 10 /\ (∀ c ∈ cs, c.2.2.length <= 100 /\ ∀ r ∈ c.2.2, Tm r.1) /\
 ∀ (x d : Addr) (m : List (Str × SS)) (H' : Hp), ZD5 a H' x d m -> ZGE m cs -> Few m 100 -> (∀ b ∈ BL x d m, H b = none) -> ZDq H H' -> Q (.ref x) H'
theorem ZGl : ZDw ["_law_curves_here", "_law_board_here", "_law_name", "_law_store", "_law_time"] ["_law_curves_here"] (ZDo ZJq) := ZEB
theorem ZQc (T : Txt K mg a) : ZD2 P w K mg base CX0 10 a.JS a.Jv ["_law_curves_here"] (ZUG a) := by
 refine T.ZA0.ok ZGl (by walk_at "l") (fun cdv A outer s H vs Q E hr h => ?_)
 ·obtain ⟨cd, cs, rfl, fc, hC, hne, hcl, hbs, k⟩ := h
  have hu := ZF6 hr
  refine ⟨_, QB.h (ZDm (qsS (i := 1) ZGl.nd (ZNl T.ZCk (ZKD T) hr.m rfl T.ZCz T.ZAB .nil ZEk)) (ZDm (ZLu (ZFB PassesOwn.never rfl (ZLr (qv 0)) (qgN (i := 2) ZGl.nd) (ZDm (qsS (i := 3) ZGl.nd (ZEo (qv 1) T.ZM T.Y8 (ZIc T) hr T.Y9 .nil ZEk (ZDk (qv 2) ZDl))) (ZDp (ZLu (ZFB PassesOwn.never rfl (ZLr (ZF8 hu (qv 0) (qv 2))) (qgN (i := 4) ZGl.nd) (ZDp (ZEH (ZEo (qv 3) T.ZH T.J9 (ZJt T) hr.m T.J5 .nil ZEk (ZDk (qv 4) (ZDk (ZF8 hu (ZF8 hu (qv 0) (qv 2)) (qv 4)) ZDl))))))))))) (ZDp (ZDz (qv 1))))), ?_⟩
  walk_at "s"
  walk_at "w"
  refine ZLo fun x dx H1 n1 f1 S1 => ?_
  refine ⟨x, dx, rfl, f1, fun d H2 n2 hB2 K2 => ⟨rfl, ?_⟩⟩
  have S02 : ZDq H H2 := S1.kpN n1 K2
  have n0d : H d = none := ZGv S1 n2
  walk_at "w"
  refine ZPJ (S02 _ _ fc) fun ob H3 nf f3 K3 => ?_
  have cdB : ∀ {m : List (Str × SS)}, (∀ b ∈ BL x d m, H b = none) -> cd ∉ BL x d m := fun h z => by rw [h cd z] at fc; cases fc
  have hdB : ∀ {c : Cv}, c ∈ cs -> ∀ {m : List (Str × SS)}, (∀ b ∈ BL x d m, H b = none) -> c.2.1 ∉ BL x d m := fun {c} hc {m} h z => by have := hC.hd c hc; rw [h _ z] at this; cases this
  have fr0 : ∀ b ∈ BL x d [], H b = none := fun b hb => by
   rcases ZEO.mp hb with rfl | rfl | ⟨_, h, _⟩
   ·exact n1
   ·exact n0d
   ·cases h
  have hB3 : ZD5 a H3 x d [] := hB2.frL (l := [cd]) (FrL.kp K3 (by simp)) (fun b hb => by rw [Uj.mp hb]; exact cdB fr0) fun b hb xs => by rw [Uj.mp hb, S02 _ _ fc]; intro z; cases z
  refine ZLt (fun i U H' => (∃ v2 v3 v4, U = [some (.ref cd), some (.ref x), v2, v3, v4]) /\ Kp cd H H' /\ H' cd = some (.frz ob (.dK (dkS (cvR cs)))) /\ ∃ m, ZD5 a H' x d m /\ ZGE m (cs.take i) /\ Few m 100 /\ ∀ b ∈ BL x d m, H b = none) ⟨⟨_, _, _, rfl⟩, (Kp.same S02).trans K3, f3, [], hB3, rfl, (fun q hq => by cases hq), fr0⟩ (fun i' U H' _ h => h.2.2.1) ?_ ?_
  ·rintro i pr U H4 hpr ⟨⟨v2, v3, v4, rfl⟩, K4, f4, m, hB4, hR4, hF4, hfr4⟩
   have hi : i < cs.length := by
    have := (Ui.mp hpr).1
    simpa [dkS, cvR] using this
   have epr : pr = (.inr cs[i].1, .ref cs[i].2.1) := by
    unfold dkS cvR at hpr
    rw [UB, UB, Uc hi] at hpr
    exact (Option.some.inj hpr).symm
   rw [epr]
   have hc : cs[i] ∈ cs := Vb hi
   have htk : cs.take (i + 1) = cs.take i ++ [cs[i]] := by rw [US, Uc hi]; rfl
   have hmk : ZDs m cs[i].1 = none := by
    rw [ZEv, hR4.keys]
    exact ZL6 hC.nd hi
   generalize hcc : cs[i] = c at *
   obtain ⟨kk, hd, sm⟩ := c
   dsimp only at *
   have hml : m.length <= 60 := by
    have := congrArg Vl hR4.keys
    simp only [Uf, UR] at this
    omega
   have hgc := ZE7 hC.nd hc
   have fhd := K4 _ _ (hC.hd _ hc) (hne _ hc)
   have hsmb := hbs _ hc
   have hnk := hC.nk _ hc
   dsimp only at fhd hsmb hnk
   obtain ⟨⟨dx4, hp4⟩, _⟩ := id hB4
   walk_at "w"
   refine ZES hp4 (ZHD (by decide +kernel)) ?_
   walk_at "w"
   refine ⟨x, d, m, kk, rfl, hC.nm _ hc, hB4, hml, (fun q hq => by rw [hmk] at hq; cases hq), fun _ S H5 hfS hB5 K5 => ?_⟩
   have n4 : ∀ b, H4 b = none -> H b = none := fun b e => by
    cases e2 : H b with
    | none => rfl
    | some o =>
     by_cases z : b = cd
     ·rw [z, f4] at e; cases e
     ·rw [K4 _ _ e2 z] at e; cases e
   have hfr5 : ∀ b ∈ BL x d (m ++ [(kk, (⟨S, [], 0, [], [], []⟩ : SS))]), H b = none := fun b hb => by
    rcases ZEO.mp hb with h | h | ⟨q, hq, h⟩
    ·exact hfr4 b (ZEO.mpr (.inl h))
    ·exact hfr4 b (ZEO.mpr (.inr (.inl h)))
    ·rcases UI.mp hq with hq | hq
     ·exact hfr4 b (ZEO.mpr (.inr (.inr ⟨q, hq, h⟩)))
     ·rw [Uj.mp hq] at h
      exact n4 b (hfS b h)
   have cdd : cd ≠ d := fun z => cdB hfr4 (by rw [z]; exact ZEO.mpr (.inr (.inl rfl)))
   have hdd : hd ≠ d := fun z => hdB hc hfr4 (by show hd ∈ _; rw [z]; exact ZEO.mpr (.inr (.inl rfl)))
   have f5 := K5 _ _ f4 cdd
   have fhd5 := K5 _ _ fhd hdd
   walk_at "w"
   refine ZJa (v := .ref hd) f5 (by rw [ZFr, hgc]; rfl) ?_
   refine ZX4 fhd5 fun ob2 H6 nf2 f6 K6 => ?_
   have hB6 : ZD5 a H6 x d (m ++ [(kk, ⟨S, [], 0, [], [], []⟩)]) := hB5.frL (l := [hd]) (FrL.kp K6 (by simp)) (fun b hb => by rw [Uj.mp hb]; exact hdB hc hfr5) fun b hb xs => by rw [Uj.mp hb, fhd5]; intro z; cases z
   have F06 : FrL [cd, hd] H H6 := fun b o e nb => by
    simp only [Ul, UC, or_false, not_or] at nb
    exact K6 _ _ (K5 _ _ (K4 _ _ e nb.1) fun z => by rw [z, n0d] at e; cases e) nb.2
   refine ZLt (fun j U H' => (∃ v4, U = [some (.ref cd), some (.ref x), some (.str kk), some (.ref S.p), v4]) /\ FrL [cd, hd] H H' /\ H' cd = some (.frz ob (.dK (dkS (cvR cs)))) /\ H' hd = some (.frz ob2 (.dK (ZEF sm))) /\ ∃ st : SS, st.S = S /\ st.sm = sm.take j /\ st.c <= j /\ st.ts.length <= j /\ st.ds.length <= j /\ ZD5 a H' x d (m ++ [(kk, st)]))
    ⟨⟨_, rfl⟩, F06, K6 _ _ f5 (Ne.symm (hne _ hc)), f6, _, rfl, rfl, Ud _, Ud _, Ud _, hB6⟩ (fun j U H' _ h => h.2.2.2.1) ?_ ?_
   ·rintro j pr2 U H7 hpr2 ⟨⟨v4, rfl⟩, F7, f7, fh7, st, eS, esm, hc7, ht7, hd7, hB7⟩
    have hj : j < sm.length := by
     have := (Ui.mp hpr2).1
     simpa [ZEF] using this
    rw [ZYp hj] at hpr2
    obtain rfl := Option.some.inj hpr2
    have hr := Vb hj
    have hgt : ZEE sm sm[j].1 = some sm[j].2 := (ZEj hnk).mpr hr
    have htk2 : sm.take (j + 1) = sm.take j ++ [sm[j]] := by rw [US, Uc hj]; rfl
    have hno : ZEE (sm.take j) sm[j].1 = none := by
     rw [ZFx]
     exact ZL6 hnk hj
    have hg7 : ZDs (m ++ [(kk, st)]) kk = some st := ZE7 hB7.bin.nd (by simp)
    obtain ⟨n7, hS7⟩ := hB7.bin.st _ (ZEJ hg7)
    dsimp only at hS7
    rw [eS] at hS7
    obtain ⟨dxS, vsS, hpS, _⟩ := id hS7
    show ZGJ 4 (V.int sm[j].1) _ _ _
    walk_at "w"
    refine ZES hpS ZHs ?_
    walk_at "w"
    refine ZJa (v := .ref hd) f7 (by rw [ZFr, hgc]; rfl) ?_
    walk_at "w"
    refine ZTq fh7 hgt ?_
    walk_at "w"
    have hsl : st.sm.length <= 900 := by rw [esm, UR]; omega
    refine ⟨S, n7, _, _, _, _, _, _, _, rfl, hS7, hsmb.2 _ hr, by omega, hsl, by omega, by omega, fun H8 hS8 F8 => ?_⟩
    have own7 : ∀ b ∈ S.own, H b = none \/ b ∈ S.own := fun b hb => .inr hb
    have hl5 : ∀ b ∈ S.own, b ≠ cd /\ b ≠ hd /\ H b = none := fun b hb => by
     have hm : b ∈ BL x d (m ++ [(kk, (⟨S, [], 0, [], [], []⟩ : SS))]) := ZEO.mpr (.inr (.inr ⟨(kk, ⟨S, [], 0, [], [], []⟩), by simp, Ur _ hb⟩))
     refine ⟨fun z => cdB hfr5 (by rw [<- z]; exact hm), fun z => hdB hc hfr5 (by show hd ∈ _; rw [<- z]; exact hm), hfr5 b hm⟩
    have hB8 := hB7.deed hg7 (q' := ⟨S, ZEI st.sm sm[j].1 sm[j].2, st.c + 1, st.ds ++ [(sm[j].1, ZEE st.sm sm[j].1)], st.ts ++ [sm[j].1], st.ws⟩) eS.symm ⟨n7, hS8⟩ (by rw [eS]; exact F8)
    rw [ZMe hmk] at hB8
    walk_at "w"
    refine ⟨⟨_, rfl⟩, (fun b o e nb => F8 _ _ (F7 _ _ e nb) fun z => by rw [(hl5 b z).2.2] at e; cases e), F8 _ _ f7 fun z => (hl5 _ z).1 rfl, F8 _ _ fh7 fun z => (hl5 _ z).2.1 rfl, _, rfl, ?_, ?_, ?_, ?_, hB8⟩
    ·show ZEI st.sm sm[j].1 sm[j].2 = _
     rw [esm, ZTp hno, htk2]
    ·show st.c + 1 <= j + 1
     omega
    ·simp; omega
    ·simp; omega
   ·rintro U H7 ⟨⟨v4, rfl⟩, F7, f7, fh7, st, eS, esm, hc7, ht7, hd7, hB7⟩
    have el : (ZEF sm).length = sm.length := by simp [ZEF]
    rw [el] at hc7 ht7 hd7
    have esm' : st.sm = sm := by rw [esm, el, UQ]
    have hfr7 : ∀ b ∈ BL x d (m ++ [(kk, st)]), H b = none := fun b hb => by
     rcases ZEO.mp hb with h | h | ⟨q, hq, h⟩
     ·exact hfr5 b (ZEO.mpr (.inl h))
     ·exact hfr5 b (ZEO.mpr (.inr (.inl h)))
     ·rcases UI.mp hq with hq | hq
      ·exact hfr4 b (ZEO.mpr (.inr (.inr ⟨q, hq, h⟩)))
      ·rw [Uj.mp hq] at h
       refine hfr5 b (ZEO.mpr (.inr (.inr ⟨(kk, ⟨S, [], 0, [], [], []⟩), by simp, ?_⟩)))
       unfold SS.all at h ⊢
       rw [eS] at h
       exact h
    refine ZJd nf2 fh7 True.intro fun H8 f8 K8 => ?_
    have hB8 : ZD5 a H8 x d (m ++ [(kk, st)]) := hB7.frL (l := [hd]) (FrL.kp K8 (by simp)) (fun b hb => by rw [Uj.mp hb]; exact hdB hc hfr7) fun b hb xs => by rw [Uj.mp hb, fh7]; intro z; cases z
    refine ⟨⟨_, _, _, rfl⟩, fun b o e nb => ?_, K8 _ _ f7 (Ne.symm (hne _ hc)), _, hB8, ?_, ?_, hfr7⟩
    ·by_cases z : b = hd
     ·rw [z] at e ⊢
      rw [f8, <- hC.hd _ hc, e]
     ·exact K8 _ _ (F7 _ _ e (by simp [nb, z])) z
    ·unfold ZGE at hR4 ⊢
     rw [Us, hR4, htk, Us]
     simp [esm']
    ·intro q hq
     rcases UI.mp hq with hq | hq
     ·exact hF4 q hq
     ·rw [Uj.mp hq]
      exact ⟨by show st.c <= 100; omega, by show st.ts.length <= 100; omega, by show st.ds.length <= 100; omega⟩
  ·rintro U H4 ⟨⟨v2, v3, v4, rfl⟩, K4, f4, m, hB4, hR4, hF4, hfr4⟩
   have el : (dkS (cvR cs)).length = cs.length := by simp [dkS, cvR]
   rw [el, UQ] at hR4
   refine ZJd nf f4 True.intro fun H5 f5 K5 => ?_
   have hB5 : ZD5 a H5 x d m := hB4.frL (l := [cd]) (FrL.kp K5 (by simp)) (fun b hb => by rw [Uj.mp hb]; exact cdB hfr4) fun b hb xs => by rw [Uj.mp hb, f4]; intro z; cases z
   walk_at "w"
   refine k x d m H5 hB5 hR4 hF4 hfr4 fun b o e => ?_
   by_cases z : b = cd
   ·rw [z] at e ⊢
    rw [f5, <- fc, e]
   ·exact K5 _ _ (K4 _ _ e z) z
end
instance leS_dec (a b : Str) : Decidable (leS a b) := inferInstanceAs (Decidable (¬ _))
def srt (l : List Str) : List Str := l.mergeSort fun a b => decide (leS a b)
theorem ZG1 (l : List Str) : (srt l).Perm l := List.mergeSort_perm l _
theorem ZSF (l : List Str) : (srt l).Pairwise leS := by
 have := List.pairwise_mergeSort (le := fun a b : Str => decide (leS a b)) (fun a b c h1 h2 => by simp only [decide_eq_true_eq] at *; exact ZMP h1 h2) (fun a b => by
  simp only [Bool.or_eq_true, decide_eq_true_eq]
  by_cases h : leS a b
  ·exact .inl h
  ·refine .inr fun z => ?_
   unfold leS at h
   rw [Classical.not_not] at h
   exact List.lt_irrefl _ (List.lt_trans h z)) l
 exact this.imp fun h => by simpa using h
theorem ZGm {l ss : List Str} (hp : ss.Perm l) (h : ss.Pairwise leS) : ss = srt l := ZN3 (hp.trans (ZG1 l).symm) h (ZSF l)
theorem ZOR (k : Int) : ∀ l : List Int, inV (.int k) (l.map V.int) = decide (k ∈ l)
 | [] => rfl
 | x :: l => by
  have ih := ZOR k l
  unfold inV at ih ⊢
  rw [UD, Vt, ih]
  by_cases e : x = k
  ·subst e; simp [eqV]
  ·simp [eqV, e, Ne.symm e]
theorem ZSG (l : List Int) : (l.map V.int).all ZG2 = true := by
 rw [List.all_map]
 simp [List.all_eq_true, ZG2, Function.comp]
theorem ZYQ {K : W.Frag} {H : Hp} {Q : VK} {p : Addr} {l : List Int} {i : Int} (h1 : H p = some (.lst (l.map V.int))) (q : Q (.bl (decide (i ∈ l))) H) : rIn K false (.int i) (.ref p) H Q :=
 ⟨p, _, rfl, .inl (SqL.of h1), rfl, ZSG l, by rw [if_neg (by decide), ZOR]; exact q⟩
abbrev Rw := Str × Addr × List (List Int)
def rwR (rm : List Rw) : List (Str × V) := rm.map fun x => (x.1, V.ref x.2.1)
theorem ZWR (rm : List Rw) (k : Str) : ZDs (rwR rm) k = (ZDs rm k).map fun x => V.ref x.1 := ZHj (fun x : Addr × List (List Int) => V.ref x.1) rm k
theorem ZOS (rm : List Rw) : (rwR rm).map (·.1) = rm.map (·.1) := by simp [rwR, UV, Function.comp_def]
theorem ZPP (rm : List Rw) : (rwR rm).length = rm.length := by simp [rwR]
def ZL7 (H : Hp) (rm : List Rw) (w : Nat) : Prop := ∀ x ∈ rm, ZEt x.1 = true /\ x.2.2.length = w /\ ∃ vs, H x.2.1 = some (.lst vs) /\ ZE3 H vs x.2.2
theorem ZL7.same {H H' : Hp} {rm : List Rw} {w : Nat} (h : ZL7 H rm w) (s : ZDq H H') : ZL7 H' rm w := fun x hx => by
 obtain ⟨h1, h2, vs, h3, h4⟩ := h x hx
 exact ⟨h1, h2, vs, s _ _ h3, h4.same s⟩
def ZGn (rm : List Rw) (k : Str) (j : Nat) (r : Int) : Bool := decide (r ∈ ((((ZDs rm k).map (·.2)).getD [])[j]?).getD [])
section
variable {P : Program} {w : World} {K : W.Frag} {mg : Str -> Option Value} {base : Heap} {a : Ad}
local macro_rules | `(tactic| walk_at "rd") => `(tactic| first
 | with_reducible first | refine ZIy ?_ | refine ZIz ?_ | refine ZIx ?_)
def ZWS : Sp := fun vs H Q _ => ∃ (d : Addr) (r : Int) (j w : Nat) (rm : List Rw), vs = [.ref d, .int r, .int j] /\ H d = some (.dK (dkS (rwR rm))) /\ ZL7 H rm w /\ (rm.map (·.1)).Nodup /\ j < w /\ rm.length <= 60 /\
 ∀ H', ZDq H H' -> Q (.str (sgn (fun k => ZGn rm k j r) (srt (rm.map (·.1))))) H'
theorem ZKu {f : Str -> Bool} (ss : List Str) : ∀ i : Nat, (∀ j q, j < i -> ss[j]? = some q -> f q = false) -> sgn f ss = sgn f (ss.drop i)
 | 0, _ => rfl
 | i + 1, h => by
  rw [ZKu ss i fun j q hj => h j q (by omega)]
  by_cases hi : i < ss.length
  ·rw [Vo hi]
   have := h i _ (by omega) (Uc hi)
   conv => lhs; unfold sgn
   rw [this]
   rfl
  ·rw [Vi (by omega), Vi (by omega)]
theorem ZMf : ZDw ["_law_rows_here", "_law_row", "_law_k", "_law_name"] ["_law_rows_here", "_law_row", "_law_k"] (ZDo ZKn) := ZEB
theorem ZSH (T : Txt K mg a) : ZD2 P w K mg base CX0 1 a.ZAV a.ZAO ["_law_rows_here", "_law_row", "_law_k"] ZWS := by
 refine T.ZBJ.ok ZMf (by walk_at "l") (fun cdv A outer s H vs Q E hr h => ?_)
 ·obtain ⟨d, r, j, w, rm, rfl, hd, hR, hnd, hj, hl, k⟩ := h
  have hu := ZF6 hr
  refine ⟨_, QB.h (ZDm (ZFB PassesOwn.never rfl (ZFp K rfl (ZEA (ZG3 rfl) rfl T.ZT ZGU (ZDk (qv 0) ZDl))) (qgN (i := 3) ZMf.nd) (ZDp (ZEw (ZEC (ZX5 K rfl) (qv 1) (ZD1 (ZE4 K rfl) (ZF8 hu (qv 0) (qv 3)) (qv 2)) (by with_unfolding_all rfl)) (ZDp (ZDz (ZD1 ZQv (qv 3) ZDn))) ZEX))) (ZDp (ZDz ZEy))), ?_⟩
  walk_at "s"
  walk_at "w"
  refine ZHN hd (by rw [ZPP]; omega) fun l1 H1 ss n1 f1 hp1 hs1 S1 => ?_
  rw [ZOS] at hp1
  obtain rfl := ZGm hp1 hs1
  have hd1 := S1 _ _ hd
  have hR1 := hR.same S1
  walk_at "w"
  refine ZLf (xs := (srt (rm.map (·.1))).map V.str) (fun i U H' => H' = H1 /\ (∃ v3, U = [some (.ref d), some (.int r), some (.int j), v3]) /\ ∀ i' q, i' < i -> (srt (rm.map (·.1)))[i']? = some q -> ZGn rm q j r = false) ⟨rfl, ⟨_, rfl⟩, fun i' q h => absurd h (by omega)⟩ (fun i U H' _ h => by rw [h.1]; exact SqL.of f1) ?_ ?_
  ·rintro i x U H2 hx ⟨eh, ⟨v3, rfl⟩, hno⟩
   obtain rfl : H1 = H2 := eh.symm
   rw [UB] at hx
   obtain ⟨kk, hkk, rfl⟩ := Option.map_eq_some_iff.mp hx
   have hkm : kk ∈ rm.map (·.1) := hp1.mem_iff.mp (Uv hkk)
   obtain ⟨⟨k', l2, rss⟩, hrm, e⟩ := Ux.mp hkm
   dsimp only at e
   subst e
   have hg := ZE7 hnd hrm
   obtain ⟨hn1, hw1, vs, fv, hRw⟩ := hR1 _ hrm
   dsimp only at hn1 hw1 fv hRw
   have hjl : j < vs.length := by rw [Paired.length hRw]; omega
   obtain ⟨b, rs, e2, hrs, fb⟩ := hRw.at (Uc hjl)
   have erow : ZGn rm k' j r = decide (r ∈ rs) := by
    unfold ZGn
    rw [hg]
    simp only [UY, Option.getD_some, hrs]
   have hlt : k'.length <= 8 /\ 1 <= k'.length := by
    unfold ZEt at hn1
    simp only [UH, decide_eq_true_eq] at hn1
    exact ⟨hn1.1.2, hn1.1.1⟩
   walk_at "w"
   refine ZHk (v := .ref l2) hd1 (by rw [ZWR, hg]; rfl) ?_
   walk_at "w"
   refine ZIT (v := .ref b) (SqL.of fv) (ZF5 (by rw [<- e2]; exact Uc hjl)) ?_
   walk_at "w"
   refine ZYQ fb ?_
   walk_at "w"
   cases hh : decide (r ∈ rs) with
   | true =>
    refine ZFR ?_
    obtain ⟨c, hc⟩ : ∃ c, k'.cps.toList.head? = some c := by
     have h0 : 0 < k'.cps.toList.length := by
      have : k'.length = k'.cps.toList.length := by rw [UF]; rfl
      omega
     exact ⟨k'.cps.toList[0], by rw [List.head?_eq_getElem?, Uc h0]⟩
    walk_at "w"
    refine ZRS (c := c) (Uz hlt.1 (by decide)) (by rw [List.head?_eq_getElem?] at hc; exact ZF5 (j := 0) hc) ?_
    have hi : i < (srt (rm.map (·.1))).length := (Ui.mp hkk).1
    have := k H1 S1
    rw [ZKu _ i hno, Vo hi, (Ui.mp hkk).2] at this
    unfold sgn at this
    rw [erow, hh, if_pos rfl] at this
    unfold ZJw at this
    rw [hc] at this
    exact this
   | false =>
    refine ZEs ?_
    walk_at "w"
    refine ⟨rfl, ⟨_, rfl⟩, fun i' q hi' hq => ?_⟩
    rcases Nat.lt_or_eq_of_le (Nat.le_of_lt_succ hi') with hi' | rfl
    ·exact hno i' q hi' hq
    ·rw [hkk] at hq
     cases hq
     rw [erow]
     exact hh
  ·rintro U H2 ⟨eh, ⟨v3, rfl⟩, hno⟩
   obtain rfl : H1 = H2 := eh.symm
   walk_at "w"
   have := k H1 S1
   rw [Uf] at hno
   rw [ZKu _ _ hno, Vi (Ud _)] at this
   exact this
def smC (cs : List Cv) (k : Str) : PL := ((ZDs cs k).map (·.2)).getD []
def ZWT : Sp := fun vs H Q _ => ∃ (cd q h : Addr) (cs : List Cv) (b y w low tall rows : Int), vs = [.ref cd, .ref q, .ref h] /\ H cd = some (.dK (dkS (cvR cs))) /\ ZFO H cs /\ (∀ c ∈ cs, c.2.1 ≠ cd) /\ cs.length <= 10 /\ (∀ c ∈ cs, c.2.2.length < 64 /\ BP c.2.2) /\ H q = some (.tup [.int b, .int y, .int w]) /\ ZKt b y w /\ Hts H h low tall rows /\ rows <= 7 /\
 ∀ H', ZDq H H' -> Q (.str (ZFX (fun k j r => ZE0 (smC cs k) b y w low tall j r) (srt (cs.map (·.1))) w.toNat rows.toNat)) H'
theorem ZF2 : ZDw ["_law_curves_here", "_law_window_here", "_law_heights_here", "_law_rows_here", "_law_name", "_law_text_here", "_law_row", "_law_line"] ["_law_curves_here", "_law_window_here", "_law_heights_here"] (ZDo ZI7) := ZEB
theorem ZMg (T : Txt K mg a) : ZD2 P w K mg base CX0 4 a.ZAQ a.ZAG ["_law_curves_here", "_law_window_here", "_law_heights_here"] ZWT := by
 refine T.ZAK.ok ZF2 (by walk_at "l") (fun cdv A outer s H vs Q E hr h => ?_)
 ·obtain ⟨cd, q, h, cs, b, y, w, low, tall, rows, rfl, fc, hC, hne, hcl, hbs, hq, hW, hH, hrw, k⟩ := h
  have hu := ZF6 hr
  obtain ⟨hb1, hb2, hy1, hy2, hw1, hw2⟩ := id hW
  have hr0 := hH.2.2.2.2.1
  refine ⟨_, QB.h (ZDm (qsS (i := 3) ZF2.nd ZGP) (ZDm (ZLu (ZFB PassesOwn.never rfl (ZLr (qv 0)) (qgN (i := 4) ZF2.nd) (ZDp (ZF9 hu (qcS (ZR6 T) hr T.ZCi T.ZBa.kp T.ZCq (ZDk (ZFU (ZGt K rfl) rfl T.Za ZGr (ZDk (ZOd rfl rfl T.ZT (ZF8 hu (qv 0) (qv 4))) ZDl)) (ZDk (qv 1) (ZDk (qv 2) ZDl)))) (qv 3) (qv 4))))) (ZDm (qsS (i := 5) ZF2.nd ZEy) (ZDm (ZFB PassesOwn.never rfl (ZFL rfl T.ZI (ZDk (ZD1 (ZD6 K rfl) (qv 2) ZDn) ZDl)) (qgN (i := 6) ZF2.nd) (ZDm (qsS (i := 7) ZF2.nd (ZGL PySem.F.plainAttrs_str PySem.F.slot_str_join PySem.F.type_str_join (ZLj K rfl) ZEy (ZDk (ZFY (N := ["_law_curves_here", "_law_window_here", "_law_heights_here", "_law_rows_here", "_law_name", "_law_text_here", "_law_row", "_law_line"]) (sc := ZDo ZI7) (own := ["_law_j"]) (caps := ["_law_rows_here", "_law_row"]) (ks := [3, 6]) rfl rfl rfl ⟨rfl, by decide +kernel, by decide +kernel, by decide +kernel, by decide +kernel, rfl, by decide +kernel⟩ (ZFL rfl T.ZI (ZDk (ZD1 (ZD6 K rfl) (qv 1) ZDn) ZDl)) (fun _ _ _ _ _ => ZEa (i := 0) (show List.Nodup (α := Str) ["_law_j", "_law_rows_here", "_law_row"] from by decide +kernel) rfl (by walk_at "o") (.inr rfl)) (fun _ _ _ _ _ => ZFD) (fun _ _ _ _ _ => qcS (ZSH T) hr.m T.ZCl T.ZBJ.kp T.ZCn (ZDk (qv 1) (ZDk (qv 2) (ZDk (qv 0) ZDl))))) ZDl))) (ZDp (qsS (i := 5) ZF2.nd (ZDu ZLl (ZDu ZLl (qv 7) ZEy) (qv 5)))))) (ZDp (ZDz (qv 5))))))), ?_⟩
  walk_at "s"
  walk_at "w"
  refine ZKg fun rd H1 n1 f1 S1 => ?_
  walk_at "w"
  refine ZPJ (S1 _ _ fc) fun ob H2 nf f2 K2 => ?_
  have rdc : rd ≠ cd := fun z => by rw [z, fc] at n1; cases n1
  refine ZLt (fun i U H' => (∃ v4 v5 v6 v7, U = [some (.ref cd), some (.ref q), some (.ref h), some (.ref rd), v4, v5, v6, v7]) /\ Kp cd H H' /\ H' cd = some (.frz ob (.dK (dkS (cvR cs)))) /\ ∃ rm : List Rw, H' rd = some (.dK (dkS (rwR rm))) /\ ZL7 H' rm w.toNat /\ rm.map (·.1) = (cs.take i).map (·.1) /\ ∀ x ∈ rm, ∃ c ∈ cs, c.1 = x.1 /\ ∃ cv, Asc cv /\ (∀ r, r ∈ cv ↔ r ∈ c.2.2) /\ ZQb cv b y w low tall rows x.2.2) ⟨⟨_, _, _, _, rfl⟩, (Kp.same S1).trans K2, f2, [], K2 _ _ f1 rdc, (fun x hx => by cases hx), rfl, fun x hx => by cases hx⟩ (fun i' U H' _ h => h.2.2.1) ?_ ?_
  ·rintro i pr U H3 hpr ⟨⟨v4, v5, v6, v7, rfl⟩, K3, f3, rm, f3r, hR3, hk3, hO3⟩
   have hi : i < cs.length := by
    have := (Ui.mp hpr).1
    simpa [dkS, cvR] using this
   have epr : pr = (.inr cs[i].1, .ref cs[i].2.1) := by
    unfold dkS cvR at hpr
    rw [UB, UB, Uc hi] at hpr
    exact (Option.some.inj hpr).symm
   rw [epr]
   have hc : cs[i] ∈ cs := Vb hi
   have htk : cs.take (i + 1) = cs.take i ++ [cs[i]] := by rw [US, Uc hi]; rfl
   have hnew := ZL6 hC.nd hi
   generalize hcc : cs[i] = c at *
   obtain ⟨kk, hd, sm⟩ := c
   dsimp only at *
   have hgc := ZE7 hC.nd hc
   have fhd := K3 _ _ (hC.hd _ hc) (hne _ hc)
   have hsb := hbs _ hc
   have hnk := hC.nk _ hc
   dsimp only at fhd hsb hnk
   walk_at "w"
   refine ZJa (v := .ref hd) f3 (by rw [ZFr, hgc]; rfl) ?_
   walk_at "w"
   refine ZOe fhd hnk hsb.1 fun l4 H4 cv4 n4 hL4 hC4 hlc S4 => ?_
   obtain ⟨us4, f4, hP4⟩ := hL4
   walk_at "w"
   refine ZHU (SqL.of f4) fun t5 H5 n5 f5 S5 => ?_
   have S35 := S4.trans S5
   have hcm : ∀ r, r ∈ cv4 ↔ r ∈ sm := fun r => by
    obtain ⟨t0, x0⟩ := r
    rw [hC4.2, ZEj hnk]
   have tk : ∀ b xs, H b = some (.tup xs) -> H5 b = some (.tup xs) := fun b xs e => S35 _ _ (K3 _ _ e fun z => by rw [z, fc] at e; cases e)
   have hWn : Win H5 q b y w := (hW.winT (tk _ _ hq)).win
   walk_at "w"
   refine ⟨t5, q, h, cv4, b, y, w, low, tall, rows, rfl, ⟨us4, f5, hP4.same S5⟩, hWn, ⟨tk _ _ hH.1, hH.2⟩, hC4.1, fun r hr => hsb.2 r ((hcm r).mp hr), by omega, fun u6 vs6 rss6 H6 f6 hR6 hO6 S6 => ?_⟩
   have f6r := S6 _ _ (S35 _ _ f3r)
   have hrl : rm.length <= 60 := by
    have := congrArg Vl hk3
    simp only [Uf, UR] at this
    omega
   walk_at "w"
   refine ZKf f6r (Um (show (rwR rm).length <= 60 by rw [ZPP]; exact hrl) (by decide)) fun H7 f7 K7 => ?_
   have e7 : ZD8 (rwR rm) kk (.ref u6) = rwR (rm ++ [(kk, u6, rss6)]) := by
    rw [ZFk (by rw [ZEv, ZOS, hk3]; exact hnew)]
    simp [rwR]
   rw [e7] at f7
   have lk : ∀ b vs, H6 b = some (.lst vs) -> H7 b = some (.lst vs) := fun b vs e => K7 _ _ e fun z => by rw [z, f6r] at e; cases e
   have rk : ∀ vs rss, ZE3 H6 vs rss -> ZE3 H7 vs rss := fun vs rss hR => Paired.mapP hR fun v rs ⟨b, e, z⟩ => ⟨b, e, lk _ _ z⟩
   have hR6' := hR3.same (S35.trans S6)
   walk_at "w"
   refine ⟨⟨_, _, _, _, rfl⟩, (fun b o e nb => K7 _ _ (S6 _ _ (S35 _ _ (K3 _ _ e nb))) fun z => by rw [z, n1] at e; cases e), K7 _ _ (S6 _ _ (S35 _ _ f3)) (Ne.symm rdc), _, f7, fun x hx => ?_, ?_, fun x hx => ?_⟩
   ·rcases UI.mp hx with hx | hx
    ·obtain ⟨g1, g2, vs, g3, g4⟩ := hR6' x hx
     exact ⟨g1, g2, vs, lk _ _ g3, rk _ _ g4⟩
    ·rw [Uj.mp hx]
     exact ⟨hC.nm _ hc, hO6.1, vs6, lk _ _ f6, rk _ _ hR6⟩
   ·rw [Us, hk3, htk, Us]; rfl
   ·rcases UI.mp hx with hx | hx
    ·exact hO3 x hx
    ·rw [Uj.mp hx]
     exact ⟨_, hc, rfl, cv4, hC4.1, hcm, hO6⟩
  ·rintro U H3 ⟨⟨v4, v5, v6, v7, rfl⟩, K3, f3, rm, f3r, hR3, hk3, hO3⟩
   have el : (dkS (cvR cs)).length = cs.length := by simp [dkS, cvR]
   rw [el, UQ] at hk3
   refine ZJd nf f3 True.intro fun H4 f4 K4 => ?_
   have S04 : ZDq H H4 := fun b o e => by
    by_cases z : b = cd
    ·rw [z] at e ⊢
     rw [f4, <- fc, e]
    ·exact K4 _ _ (K3 _ _ e z) z
   have f4r := K4 _ _ f3r rdc
   have lk : ∀ b vs, H3 b = some (.lst vs) -> H4 b = some (.lst vs) := fun b vs e => K4 _ _ e fun z => by rw [z, f3] at e; cases e
   have hR4 : ZL7 H4 rm w.toNat := fun x hx => by
    obtain ⟨g1, g2, vs, g3, g4⟩ := hR3 x hx
    exact ⟨g1, g2, vs, lk _ _ g3, Paired.mapP g4 fun v rs ⟨b, e, z⟩ => ⟨b, e, lk _ _ z⟩⟩
   have hndr : (rm.map (·.1)).Nodup := by rw [hk3]; exact hC.nd
   have hrl : rm.length <= 60 := by
    have := congrArg Vl hk3
    simp only [Uf] at this
    omega
   have hnm : ∀ kx ∈ srt (rm.map (·.1)), ZEt kx = true := fun kx hkx => by
    obtain ⟨x, hx, rfl⟩ := Ux.mp ((ZG1 _).mem_iff.mp hkx)
    exact (hR4 x hx).1
   have hq4 := S04 _ _ hq
   have hh4 := S04 _ _ hH.1
   walk_at "w"
   refine ZGF (by omega) (by omega) (ZHV (fun i U H' => (∃ v4 v6 v7, U = [some (.ref cd), some (.ref q), some (.ref h), some (.ref rd), v4, some (.str (ZFX (ZGn rm) (srt (rm.map (·.1))) w.toNat i)), v6, v7]) /\ ZDq H4 H') ⟨⟨_, _, _, rfl⟩, ZDq.refl _⟩ ?_ ?_)
   ·rintro i U H5 hi ⟨⟨v4', v6', v7', rfl⟩, S5⟩
    have hq5 := S5 _ _ hq4
    walk_at "w"
    refine ⟨tyS, ?_⟩
    walk_at "w"
    refine ZGF (by omega) (by omega) ?_
    intro l hl
    refine ZEu w.toNat (fun j U' H' => (∃ o, U' = [o, some (.ref rd), some (.int (0 + (i : Int)))]) /\ ZDq H5 H' /\ H' l = some (.lst ((ZFo (ZGn rm) (srt (rm.map (·.1))) j i).map V.str))) ?_ ?_ ?_
    ·exact ⟨⟨none, rfl⟩, ZDq.new hl, ZDr⟩
    ·rintro U' H6 ⟨_, S6, f6⟩
     refine ⟨Ud _, ?_⟩
     walk_at "w"
     refine ZLk (SqL.of f6) ?_ ?_
     ·rw [ZHS hnm]
      show w.toNat + _ * 0 <= _
      omega
     rw [ZIn]
     have hl1 : (ZGd (ZFo (ZGn rm) (srt (rm.map (·.1))) w.toNat i)).length = w.toNat := by rw [ZKa, ZHS hnm]
     have hl2 : (ZGd (ZFo (ZGn rm) (srt (rm.map (·.1))) w.toNat i) ++ ("\n" : Str)).length = w.toNat + 1 := by rw [ZIY, hl1]; rfl
     have hl3 := ZMd (f := ZGn rm) (w := w.toNat) hnm i
     have hl4 : i * (w.toNat + 1) <= 7 * 8 := Nat.mul_le_mul (by omega) (by omega)
     walk_at "w"
     refine ZLm (by rw [hl1, sizeLine_eq]; show w.toNat + 1 <= _; omega) ?_
     walk_at "w"
     refine ZLm (by rw [hl2, hl3, sizeLine_eq]; omega) ?_
     walk_at "w"
     exact ⟨⟨_, _, _, rfl⟩, S5.trans S6⟩
    ·rintro j U' H6 hj ⟨⟨o, rfl⟩, S6, f6⟩
     refine ⟨hj, ?_⟩
     rintro x H7 ⟨eh, rfl⟩
     obtain rfl : H6 = H7 := eh.symm
     have e0 : (0 + (j : Int)) = (j : Int) := by omega
     have e1 : (0 + (i : Int)) = (i : Int) := by omega
     walk_at "w"
     refine ZFR ?_
     walk_at "w"
     rw [e0, e1]
     refine ⟨rd, i, j, w.toNat, rm, rfl, (S5.trans S6) _ _ f4r, hR4.same (S5.trans S6), hndr, hj, hrl, fun H7 S7 => ?_⟩
     refine ⟨_, S7 _ _ f6, ?_, ⟨_, rfl⟩, (S6.trans S7).kpN hl Kp.upd, ?_⟩
     ·rw [Uf, ZFo, Uf, Vw]
      exact Ue hj (Uz (show w.toNat <= 1000 by omega) (by decide))
     ·rw [ZDr, ZFo, ZFo, Vk, Us, Us]
      rfl
   ·rintro U H5 ⟨⟨v4', v6', v7', rfl⟩, S5⟩
    walk_at "w"
    have := k H5 (S04.trans S5)
    rw [<- hk3] at this
    rw [ZG7 (g := fun k j r => ZE0 (smC cs k) b y w low tall j r) (ss' := srt (rm.map (·.1))) rows.toNat fun r j hr hj => ZH8 fun kx hkx => ?_]
    ·exact this
    ·obtain ⟨x, hx, rfl⟩ := Ux.mp ((ZG1 _).mem_iff.mp hkx)
     obtain ⟨c, hc, e, cv, g1, g2, g3⟩ := hO3 x hx
     obtain ⟨rs, g4, g5⟩ := ZWP (j := j) (hC.nk c hc) g1 g2 g3 (by omega) (show (0 : Int) <= r by omega) (by omega)
     have hgx := ZE7 (k := x.1) (v := x.2) hndr hx
     have hgc := ZE7 (k := c.1) (v := c.2) hC.nd hc
     show ZGn rm x.1 j r = ZE0 (smC cs x.1) b y w low tall j r
     unfold ZGn smC
     rw [hgx, <- e, hgc]
     simp only [UY, Option.getD_some, g4]
     exact g5
end
theorem ZOT {m : PL} (n : (m.map (·.1)).Nodup) (t : Int) (o : Option Int) : ((ZFn m t o).map (·.1)).Nodup := by
 cases o with
 | none => exact ZIE n
 | some v => exact ZE9 n
theorem ZQd {m : PL} (n : (m.map (·.1)).Nodup) (t : Int) (o : Option Int) (ho : o = none -> (ZEE m t).isSome = true) : Eqv (ZFn (ZFn m t o) t (ZEE m t)) m := by
 cases o with
 | none =>
  obtain ⟨v, hv⟩ := Option.isSome_iff_exists.mp (ho rfl)
  rw [hv]
  exact ZRW n hv
 | some v =>
  cases hg : ZEE m t with
  | none => exact ZRX n hg
  | some u => exact ZTj n hg
theorem ZYR {k : Str} (h : ZEt k = true) : 1 <= k.length /\ k.length <= 8 /\ ∀ c ∈ k.cps.toList, c ∈ ("abcdefghijklmnopqrstuvwxyz" : Str).cps.toList := by
 unfold ZEt at h
 simp only [UH, List.all_eq_true, decide_eq_true_eq] at h
 exact ⟨h.1.1, h.1.2, h.2⟩
theorem ZYS {k : Str} (h : ZEt k = true) : PyData.canLay0 (.str k) = true := by
 show PyData.strOk k = true
 have h2 := (ZYR h).2.2
 unfold PyData.strOk
 rw [Array.all_eq_true_iff_forall_mem]
 intro c hc
 have : ∀ c ∈ ("abcdefghijklmnopqrstuvwxyz" : Str).cps.toList, c < 0x110000 := by decide +kernel
 simpa using this c (h2 c (Array.mem_toList_iff.mpr hc))
theorem ZOU {α : Type} {m : List (Str × α)} {k j : Str} {v : α} : ZDs (m ++ [(k, v)]) j = (match ZDs m j with | some u => some u | none => if j = k then some v else none) := by
 induction m with
 | nil =>
  by_cases e : j = k
  ·simp [ZDs, e]
  ·have : ¬ k = j := fun z => e z.symm
   simp [ZDs, e, this]
 | cons x m ih =>
  by_cases e : x.1 = j
  ·simp [ZDs, Uw, e]
  ·have h1 : ZDs (x :: m) j = ZDs m j := by simp [ZDs, Uw, e]
   have h2 : ZDs (x :: m ++ [(k, v)]) j = ZDs (m ++ [(k, v)]) j := by simp [ZDs, Uw, e]
   rw [h1, h2, ih]
theorem ZGE.sm {m : List (Str × SS)} {cs : List Cv} (h : ZGE m cs) (k : Str) : ((ZDs m k).map SS.sm).getD [] = smC cs k := by
 have h1 := ZHj SS.sm m k
 have h2 := ZHj (fun c : Addr × PL => c.2) cs k
 unfold ZGE at h
 unfold smC
 rw [<- h1, <- h2, h]
theorem ZGE.mem {m : List (Str × SS)} {cs : List Cv} (h : ZGE m cs) {x : Str × SS} (hx : x ∈ m) : ∃ c ∈ cs, c.1 = x.1 /\ c.2.2 = x.2.sm := by
 have : (x.1, x.2.sm) ∈ m.map fun q => (q.1, q.2.sm) := Ux.mpr ⟨x, hx, rfl⟩
 unfold ZGE at h
 rw [h] at this
 obtain ⟨c, hc, e⟩ := Ux.mp this
 exact ⟨c, hc, congrArg Prod.fst e, congrArg Prod.snd e⟩
theorem ZGE.put {m : List (Str × SS)} {cs : List Cv} (h : ZGE m cs) {k : Str} {q : SS} {c : Addr × PL} (e : q.sm = c.2) : ZGE (ZD8 m k q) (ZD8 cs k c) := by
 unfold ZGE at h ⊢
 have h1 := ZHu (f := SS.sm) (k := k) (q' := q) m
 have h2 := ZHu (f := fun c : Addr × PL => c.2) (k := k) (q' := c) cs
 rw [h1, h2, h, e]
theorem ZUH {m : List (Str × SS)} {k : Str} {q q' : SS} : ZD8 (ZD8 m k q) k q' = ZD8 m k q' := by
 unfold ZD8
 by_cases c : (m.any fun p => decide (p.1 = k)) = true
 ·have : ((m.map fun p => if p.1 = k then (p.1, q) else p).any fun p => decide (p.1 = k)) = true := by
   rw [List.any_map]
   rw [<- c]
   congr 1
   funext p
   simp only [Function.comp]
   split <;> simp [*]
  rw [if_pos c, if_pos this, if_pos c, UV]
  refine UK fun p _ => ?_
  simp only [Function.comp]
  by_cases e : p.1 = k
  ·simp [e]
  ·simp [e]
 ·have hn : ZDs m k = none := by
   rw [ZEv]
   intro z
   obtain ⟨p, hp, e⟩ := Ux.mp z
   exact c (by rw [UL]; exact ⟨p, hp, by simpa using e⟩)
  rw [if_neg c, if_neg c, if_pos (by rw [UL]; exact ⟨(k, q), by simp, by simp⟩), Us]
  congr 1
  ·conv => rhs; rw [<- List.map_id m]
   refine UK fun x hx => ?_
   rw [if_neg fun e => (ZEv.mp hn) (Ux.mpr ⟨x, hx, e⟩)]
   rfl
  ·simp
theorem ZOV {m : List (Str × SS)} {k : Str} {v : SS} (j : Str) : ZDs (ZD8 m k v) j = if j = k then some v else ZDs m j := by
 cases hg : ZDs m k with
 | some q => exact ZWJ hg j
 | none =>
  rw [ZFk hg, ZOU]
  by_cases e : j = k
  ·subst e
   rw [hg, if_pos rfl]
  ·cases ZDs m j <;> simp [e]
theorem ZSI {f g : Str -> Nat -> Int -> Bool} {l : List Str} {k0 : Str} {w n : Nat} (hn : k0 ∉ l) (h0 : ∀ j r, g k0 j r = false) (h : ∀ k ∈ l, ∀ j r, f k j r = g k j r) : ZFX g (srt (l ++ [k0])) w n = ZFX f (srt l) w n := by
 refine ZG7 n fun r j _ _ => ?_
 rw [<- ZJD (h0 j r)]
 have e : (srt (l ++ [k0])).filter (fun k => decide (k ≠ k0)) = srt l := by
  refine ZGm ?_ ((ZSF _).filter _)
  refine ((ZG1 (l ++ [k0])).filter _).trans ?_
  rw [List.filter_append, List.filter_cons_of_neg (by simp), List.filter_nil, UJ]
  rw [List.filter_eq_self.mpr fun k hk => by simpa using fun e => hn (by rw [<- e]; exact hk)]
 rw [e]
 exact ZH8 fun k hk => (h k ((ZG1 l).mem_iff.mp hk) j r).symm
section
variable {P : Program} {w : World} {K : W.Frag} {mg : Str -> Option Value} {base : Heap} {a : Ad}
local macro_rules | `(tactic| walk_at "rd") => `(tactic| first
 | with_reducible refine ZRd ?_)
def ZM6 (K : W.Frag) : Sp := fun vs H Q _ => ∃ (s : Addr) (ns : List Int), vs = [.ref s] /\ SqL K H s (ns.map V.int) /\ ns.length <= 63 /\ ∀ H', Q (.bl true) H'
theorem ZFd : ZDw ["_law_script", "_law_k", "_law_purse_here", "_law_window_here", "_law_curves_here", "_law_heights_here", "_law_first", "_law_board_here", "_law_name", "_law_time", "_law_height_here", "_law_more", "_law_store"] ["_law_script"] (ZDo ZGN) := ZEB
theorem ZYT (T : Txt K mg a) : ZD2 P w K mg base CX0 11 a.ZB5 a.ZB4 ["_law_script"] (ZM6 K) := by
 refine T.ZDX.ok ZFd (by walk_at "l") (fun cdv A outer s H vs Q E hr h => ?_)
 ·obtain ⟨s, ns, rfl, hS, hn, k⟩ := h
  have hu := ZF6 hr
  have hu64 := hr.units
  refine ⟨_, QB.h (ZDm (ZFB PassesOwn.never rfl (ZFL rfl T.ZI (ZDk (ZEA (ZLA rfl) rfl T.YN ZIR (ZDk ZDn (ZDk (ZEA (ZLB rfl) rfl T.YM ZIS (ZDk (ZEA (ZIU K rfl) rfl T.Z7 ZHc (ZDk (qv 0) ZDl)) (ZDk ZDn ZDl))) ZDl))) ZDl)) (qgN (i := 1) ZFd.nd) (ZDm (qsS (i := 2) ZFd.nd (qcS (ZQH T) hr.m T.ZCS T.ZA3.kp T.ZCR (ZDk (qcS (ZRj T) hr.m T.ZCt T.ZBW.kp T.ZCr (ZDk (qv 0) (ZDk (qv 1) ZDl))) (ZDk (qv 1) ZDl)))) (ZDm (qsS (i := 3) ZFd.nd (qcS (ZOq T) hr.m T.ZCK T.ZAj.kp T.ZCG (ZDk (qv 2) ZDl))) (ZDm (qsS (i := 4) ZFd.nd (qcS (ZOr T) hr.m T.ZCC T.ZAd.kp T.ZB1 (ZDk (qv 2) (ZDk (qv 3) ZDl)))) (ZDm (qsS (i := 5) ZFd.nd (qcS (ZOQ T) hr.m T.ZBj T.ZAA.kp T.ZBq (ZDk (qv 2) ZDl))) (ZDm (qsS (i := 6) ZFd.nd (qcS (ZMg T) hr.m T.ZBd T.ZAK.kp T.ZBQ (ZDk (qv 4) (ZDk (qv 3) (ZDk (qv 5) ZDl))))) (ZDm (qsS (i := 7) ZFd.nd (qcS (ZQc T) hr T.ZCO T.ZA0.kp T.ZCg (ZDk (qv 4) ZDl))) (ZDm (ZEw (QW.pt (ZLF (ZEC (ZPZ) (ZEo (qv 7) T.ZM T.Zd (ZGS T) hr.m T.Zg .nil ZEk (ZDk (qv 3) (ZDk (qv 5) ZDl))) (qv 6) (ZEL _)) (ZJP (ZEC (ZQ5 K rfl hu64) (ZIr (qv 7) T.ZM T.Zv (ZGz T) hr.m T.Z0 .nil ZEk) (ZEA (ZG3 rfl) rfl T.ZT ZGU (ZDk (qv 4) ZDl)) (ZEL _))))) (ZDp (ZDz ZJ2)) ZEX) (ZDm (qsS (i := 8) ZFd.nd (ZD1 (ZE4 K rfl) (ZFN (ZDk ZEy (ZDk ZEy (ZDk ZEy (ZDk ZEy ZDl))))) (qcS (ZER T) hr.m T.ZD T.ZC.kp T.ZE (ZDk (qv 2) (ZDk ZDn ZDl))))) (ZDm (qsS (i := 9) ZFd.nd (ZDu ZEU (ZD1 (ZD6 K rfl) (qv 3) ZDn) (qcS (ZER T) hr.m T.ZD T.ZC.kp T.ZE (ZDk (qv 2) (ZDk (ZDu ZED (ZD1 (ZD6 K rfl) (qv 3) ZDn) (ZD1 (ZD6 K rfl) (qv 3) ZDn)) ZDl))))) (ZDm (qsS (i := 10) ZFd.nd (ZDu ZFG (qcS (ZER T) hr.m T.ZD T.ZC.kp T.ZE (ZDk (qv 2) (ZDk ZDn ZDl))) ZDn)) (ZDm (qsS (i := 11) ZFd.nd (ZFU ZLQ rfl T.ZAm ZO9 (ZDk (qv 4) ZDl))) (ZDm (ZF9 hu (ZFU ZLQ rfl T.ZAm ZO9 (ZDk (ZTs hu (qv 4) (qv 8) ZGP) ZDl)) (qv 11) (qv 8)) (ZDm (ZF9 hu (qv 10) (ZF8 hu (qv 11) (qv 8)) (qv 9)) (ZDm (qsS (i := 12) ZFd.nd (ZEo (qv 7) T.ZM T.Y8 (ZIc T) hr.m T.Y9 .nil ZEk (ZDk (qv 8) ZDl))) (ZDm (ZEH (ZEo (qv 12) T.ZH T.J9 (ZJt T) hr.m T.J5 .nil ZEk (ZDk (qv 9) (ZDk (qv 10) ZDl)))) (ZDm (ZEw (ZEC (ZPZ) (ZEo (qv 7) T.ZM T.Zd (ZGS T) hr.m T.Zg .nil ZEk (ZDk (qv 3) (ZDk (qv 5) ZDl))) (qcS (ZMg T) hr.m T.ZBd T.ZAK.kp T.ZBQ (ZDk (qv 11) (ZDk (qv 3) (ZDk (qv 5) ZDl)))) (ZEL _)) (ZDp (ZDz ZJ2)) ZEX) (ZDm (ZEH (ZIr (qv 12) T.ZH T.ZBP (ZMt T) hr.m T.ZBK .nil ZEk)) (ZDp (ZEw (QW.pt (ZLF (ZEC (ZPZ) (ZEo (qv 7) T.ZM T.Zd (ZGS T) hr.m T.Zg .nil ZEk (ZDk (qv 3) (ZDk (qv 5) ZDl))) (qv 6) (ZEL _)) (ZJP (ZEC (ZQ5 K rfl hu64) (ZIr (qv 7) T.ZM T.Zv (ZGz T) hr.m T.Z0 .nil ZEk) (ZEA (ZG3 rfl) rfl T.ZT ZGU (ZDk (qv 11) ZDl)) (ZEL _))))) (ZDp (ZDz ZJ2)) ZEX)))))))))))))))))))) (ZDp (ZDz ZJ2))), ?_⟩
  walk_at "s"
  walk_at "w"
  generalize hj : (if (if (8 : Int) < ((ns.map V.int).length : Int) then (8 : Int) else ((ns.map V.int).length : Int)) > 1 then (if (8 : Int) < ((ns.map V.int).length : Int) then (8 : Int) else ((ns.map V.int).length : Int)) else 1) = j
  have hj1 : 1 <= j := by rw [<- hj]; split <;> omega
  have hj2 : j <= 8 := by rw [<- hj]; split <;> (try split) <;> omega
  refine ZGF (by omega) (by omega) (ZHV (fun i U H' => (∃ v1 v2 v3 v4 v5 v6 v7 v8 v9 v10 v11 v12, U = [some (.ref s), v1, v2, v3, v4, v5, v6, v7, v8, v9, v10, v11, v12]) /\ ZDq H H') ⟨⟨_, _, _, _, _, _, _, _, _, _, _, _, rfl⟩, ZDq.refl H⟩ ?_ ?_)
  ·rintro i U H1 hi ⟨⟨v1, v2, v3, v4, v5, v6, v7, v8, v9, v10, v11, v12, rfl⟩, S1⟩
   have hi2 : (i : Int) < 8 := by omega
   walk_at "w"
   refine ⟨s, ns, _, rfl, S1.seq hS, by omega, ?_⟩
   walk_at "w"
   refine ⟨_, _, rfl, by omega, by omega, fun p H2 n2 P2 S2 => ?_⟩
   walk_at "w"
   refine ⟨p, rfl, P2, fun q b y w H3 hq3 hW P3 K3 => ?_⟩
   have hwy := hW.mul
   have hcm : y * w = w * y := Int.mul_comm _ _
   obtain ⟨hb1, hb2, hy1, hy2, hw1, hw2⟩ := id hW
   walk_at "w"
   refine ⟨p, q, b, y, w, rfl, P3, hq3, hW, fun cd cs H4 C4 => ?_⟩
   have hq4 := C4.kp _ _ hq3 (P3.ne_tup hq3)
   walk_at "w"
   refine ⟨p, rfl, C4.pu, fun h low tall rows H5 hH5 hr1 hr7 P5 K5 => ?_⟩
   have C5 := C4.pur K5 P5
   have hq5 := K5 _ _ hq4 (C4.pu.ne_tup hq4)
   have S15 : ZDq H1 H5 := ((S2.kpN n2 K3).kpN n2 C4.kp).kpN n2 K5
   have ht0 := hH5.2.2.1
   have bpc : ∀ c ∈ cs, BP c.2.2 := fun c hc r hr => by
    have := (C5.bs c hc).2 r hr
    exact ⟨by unfold Bn; omega, by unfold Bn; omega⟩
   walk_at "w"
   refine ⟨cd, q, h, cs, b, y, w, low, tall, rows, rfl, C5.fc, C5.cv, fun c hc => (C5.nc c hc).1, by have := C5.ln; omega, fun c hc => ⟨by have := (C5.bs c hc).1; omega, bpc c hc⟩, hq5, hW, hH5, hr7, fun H6 S6 => ?_⟩
   have C6 := C5.same S6
   walk_at "w"
   refine ⟨cd, cs, rfl, C6.fc, C6.cv, fun c hc => (C6.nc c hc).1, by have := C6.ln; omega, fun c hc => ⟨by have := (C6.bs c hc).1; omega, fun r hr => ?_⟩, fun x d m H7 hB7 hR7 hF7 hfr7 S7 => ?_⟩
   ·have := (C6.bs c hc).2 r hr
    exact ⟨by omega, by omega⟩
   have S17 := S15.trans (S6.trans S7)
   have C7 := C6.same S7
   have hq7 := S7 _ _ (S6 _ _ hq5)
   have hH7 := hH5.same (S6.trans S7)
   have hml : m.length <= 4 := by
    have := congrArg Vl hR7.keys
    simp only [Uf] at this
    have := C7.ln
    omega
   have hnm : ∀ z ∈ m, ZEt z.1 = true /\ BP z.2.sm := fun z hz => by
    obtain ⟨c, hc, e1, e2⟩ := hR7.mem hz
    rw [<- e1, <- e2]
    exact ⟨C7.cv.nm c hc, bpc c hc⟩
   have hndm : ∀ z ∈ m, (z.2.sm.map (·.1)).Nodup := fun z hz => by
    obtain ⟨c, hc, e1, e2⟩ := hR7.mem hz
    rw [<- e2]
    exact C7.cv.nk c hc
   have fr1 : ∀ b ∈ BL x d m, H1 b = none := fun b hb => ZGv (S15.trans S6) (hfr7 b hb)
   have trin : ∀ {m : List (Str × SS)} {b : Addr}, b ∈ trs m -> b ∈ BL x d m := fun hb => by
    obtain ⟨z, hz, e⟩ := Ux.mp hb
    exact ZEO.mpr (.inr (.inr ⟨z, hz, by rw [<- e]; simp [SS.all, SA.own]⟩))
   obtain ⟨⟨dx7, hp7⟩, _⟩ := id hB7
   walk_at "w"
   refine ZES hp7 (ZHD (by decide +kernel)) ?_
   walk_at "w"
   refine ⟨x, d, q, h, m, b, y, w, low, tall, rows, rfl, hB7, by omega, hnm, hW.winT hq7, by omega, hH7, fun ss8 qs8 H8 hp8 hs8 hL8 hB8 F8 => ?_⟩
   obtain rfl := ZGm hp8 hs8
   have e8 := ZJE hndm (by omega) ht0 hL8 (by omega)
   rw [e8]
   have ef : (fun k j r => ZE0 (((ZDs m k).map SS.sm).getD []) b y w low tall j r) = fun k j r => ZE0 (smC cs k) b y w low tall j r := by
    funext k j r
    rw [hR7.sm]
   rw [ef, hR7.keys]
   have S18 : ZDq H1 H8 := F8.fresh S17 fun b hb => fr1 b (trin hb)
   have live : ∀ {b o}, H6 b = some o -> b ∉ BL x d m := fun e z => by rw [hfr7 _ z] at e; cases e
   have C8 : CI H3 H8 p cd cs b y w 4 28 := ⟨F8 _ _ C7.fc fun z => live C6.fc (trin z), C7.cv.frL F8 fun c hc z => live (C6.cv.hd c hc) (trin z), C7.nc, C7.n0, C7.ln, C7.bs, by
    obtain ⟨xx, nn, cc, e, r⟩ := C7.pu
    obtain ⟨_, _, _, e6, _⟩ := C6.pu
    exact ⟨xx, nn, cc, F8 _ _ e fun z => live e6 (trin z), r⟩, fun b o e nb => F8 _ _ (C7.kp _ _ e nb) fun z => by
     have := C6.kp _ _ e nb
     exact live this (trin z)⟩
   have hq8 := FrL.tup F8 hB7.bin.noTup hq7
   have hH8 : Hts H8 h low tall rows := ⟨FrL.tup F8 hB7.bin.noTup hH7.1, hH7.2⟩
   walk_at "w"
   refine ZNd ?_
   rw [decide_eq_true rfl]
   walk_at "w"
   refine ZEs ?_
   obtain ⟨⟨dx8, hp8'⟩, _⟩ := id hB8
   walk_at "w"
   refine ZES hp8' (ZHD (by decide +kernel)) ?_
   walk_at "w"
   refine ⟨x, d, m, rfl, hB8, by omega, fun l9 ss9 H9 n9 f9 hp9 hs9 S9 => ?_⟩
   obtain rfl := ZGm hp9 hs9
   have C9 := C8.same S9
   walk_at "w"
   refine ZHN C9.fc (by rw [ZJ8]; have := C9.ln; omega) fun l10 H10 ss10 n10 f10 hp10 hs10 S10 => ?_
   rw [ZOO, <- hR7.keys] at hp10
   obtain rfl := ZGm hp10 hs10
   have layN : ∀ (l : List Str), (∀ z ∈ l, ZEt z = true) -> ∀ z ∈ srt l, PyData.canLay0 (.str z) = true := fun l hl z hz => ZYS (hl z ((ZG1 l).mem_iff.mp hz))
   have hkm : ∀ z ∈ m.map (·.1), ZEt z = true := fun z hz => by
    obtain ⟨t, ht, rfl⟩ := Ux.mp hz
    exact (hnm t ht).1
   walk_at "w"
   refine ZPK (SqL.of (S10 _ _ f9)) (SqL.of f10) (layN _ hkm) (layN _ hkm) ?_
   rw [decide_eq_true rfl]
   walk_at "w"
   refine ZEs ?_
   have C10 := C9.same S10
   have S810 := S9.trans S10
   walk_at "w"
   refine ZD9 (by show 4 <= sizeLine; decide) fun l11 H11 n11 f11 S11 => ?_
   walk_at "w"
   have C11 := C10.same S11
   refine ⟨p, _, rfl, C11.pu, by decide, by decide, fun d12 H12 h12 h12' P12 K12 => ?_⟩
   have f12 := K12 _ _ f11 (C10.pu.neN n11)
   walk_at "w"
   obtain ⟨n12, rfl⟩ : ∃ n : Nat, d12 = (n : Int) := ⟨d12.toNat, by omega⟩
   have hlt4 : n12 < 4 := by omega
   have hx : ∃ x : Str, [V.str "a", .str "ab", .str "c", .str "y"][n12]? = some (.str x) /\ ZEt x = true := by
    match n12, hlt4 with
    | 0, _ => exact ⟨_, rfl, by decide +kernel⟩
    | 1, _ => exact ⟨_, rfl, by decide +kernel⟩
    | 2, _ => exact ⟨_, rfl, by decide +kernel⟩
    | 3, _ => exact ⟨_, rfl, by decide +kernel⟩
   obtain ⟨k0, hx, hk0⟩ := hx
   refine ZIT (SqL.of f12) (ZF5 hx) ?_
   have C12 := C11.pur K12 P12
   have hq12 := K12 _ _ ((S810.trans S11) _ _ hq8) (C11.pu.ne_tup ((S810.trans S11) _ _ hq8))
   have hh12 := K12 _ _ ((S810.trans S11) _ _ hH8.1) (C11.pu.ne_tup ((S810.trans S11) _ _ hH8.1))
   walk_at "w"
   refine ⟨p, _, rfl, C12.pu, by omega, Int.lt_of_le_of_lt (show y * w <= 100 by omega) (by decide), fun d13 H13 h13 h13' P13 K13 => ?_⟩
   have C13 := C12.pur K13 P13
   have htb : b <= b + d13 /\ b + d13 < b + w * y := by omega
   walk_at "w"
   refine ⟨p, _, rfl, C13.pu, by decide, by decide, fun d14 H14 h14 h14' P14 K14 => ?_⟩
   have C14 := C13.pur K14 P14
   have hhb : -12 <= d14 - 12 /\ d14 - 12 <= 12 := by omega
   have pB : p ∉ BL x d m := by
    obtain ⟨_, _, _, e6, _⟩ := C6.pu
    exact live e6
   have hB14 : ZD5 a H14 x d m := (((hB8.same (S810.trans S11)).pur C11.pu K12 pB).pur C12.pu K13 pB).pur C13.pu K14 pB
   have hq14 := K14 _ _ (K13 _ _ hq12 (C12.pu.ne_tup hq12)) (C13.pu.ne_tup (K13 _ _ hq12 (C12.pu.ne_tup hq12)))
   have hh14 := K14 _ _ (K13 _ _ hh12 (C12.pu.ne_tup hh12)) (C13.pu.ne_tup (K13 _ _ hh12 (C12.pu.ne_tup hh12)))
   have S114 : ZDq H1 H14 := (((S18.trans (S810.trans S11)).kpN n2 K12).kpN n2 K13).kpN n2 K14
   walk_at "w"
   refine ZRf C14.fc fun md H15 n15 f15 S15' => ?_
   walk_at "w"
   refine ZQE (S15' _ _ C14.fc) ?_
   walk_at "w"
   refine ZIl fun e0 H16 n16 f16 S16 => ?_
   have C16 := C14.same (S15'.trans S16)
   walk_at "w"
   refine ZRg C16.fc ?_
   have hold : ∃ b1, (ZDs (cvR cs) k0).getD (.ref e0) = .ref b1 /\ H16 b1 = some (.dK (ZEF (smC cs k0))) := by
    rw [ZFr]
    unfold smC
    cases hg : ZDs cs k0 with
    | none => exact ⟨e0, rfl, f16⟩
    | some c => exact ⟨c.1, rfl, C16.cv.hd _ (ZEJ hg)⟩
   obtain ⟨b1, eb1, fb1⟩ := hold
   rw [eb1]
   walk_at "w"
   refine ZTo fb1 fun nd0 H17 n17 f17 S17' => ?_
   have f1617 := (S16.trans S17') _ _ f15
   walk_at "w"
   refine ZKf f1617 (Um (show (cvR cs).length <= 60 by rw [ZJ8]; have := C14.ln; omega) (by decide)) fun H18 f18 K18 => ?_
   have e18 : ZD8 (cvR cs) k0 (.ref nd0) = cvR (ZD8 cs k0 (nd0, smC cs k0)) := (ZHu (f := fun c : Addr × PL => V.ref c.1) (k := k0) (q' := (nd0, smC cs k0)) cs).symm
   rw [e18] at f18
   have ndm : nd0 ≠ md := fun z => by rw [z, (S16 _ _ f15)] at n17; cases n17
   have f1718 := K18 _ _ f17 ndm
   have hgp : ∀ v : Addr × PL, ZDs (ZD8 cs k0 v) k0 = some v := fun v => by
    cases hg : ZDs cs k0 with
    | some c => exact ZE7 (by rw [ZF1 hg]; exact C14.cv.nd) (by
      unfold ZD8
      rw [if_pos (by rw [UL]; exact ⟨_, ZEJ hg, by simp⟩)]
      exact Ux.mpr ⟨_, ZEJ hg, by simp⟩)
    | none =>
     rw [ZFk hg, ZOU, hg]
     simp
   walk_at "w"
   refine ZHk (v := .ref nd0) f18 (by rw [ZFr, hgp]; rfl) ?_
   walk_at "w"
   refine ZIk f1718 (Um (show (smC cs k0).length <= 100 by
    unfold smC
    cases hg : ZDs cs k0 with
    | none => exact UO _
    | some c => have := (C14.bs _ (ZEJ hg)).1; exact Uz this (by decide)) (by decide)) fun H19 f19 K19 => ?_
   generalize ht0x : b + d13 = t0 at *
   generalize hh0 : d14 - 12 = h0 at *
   -- the curves with one sample more
   generalize hc2 : ZD8 cs k0 (nd0, ZEI (smC cs k0) t0 h0) = cs2
   have n1619 : H16 nd0 = none := n17
   have f1819 := K19 _ _ f18 (Ne.symm ndm)
   have e19 : cvR (ZD8 cs k0 (nd0, smC cs k0)) = cvR cs2 := by
    rw [<- hc2, <- e18]
    exact (ZHu (f := fun c : Addr × PL => V.ref c.1) (k := k0) (q' := (nd0, ZEI (smC cs k0) t0 h0)) cs).symm
   rw [e19] at f1819
   have keys2 : (cs2.map (·.1) = cs.map (·.1) /\ (ZDs cs k0).isSome = true) \/ (cs2.map (·.1) = cs.map (·.1) ++ [k0] /\ ZDs cs k0 = none) := by
    rw [<- hc2]
    cases hg : ZDs cs k0 with
    | some c => exact .inl ⟨ZF1 hg, rfl⟩
    | none => exact .inr ⟨by rw [ZFk hg]; simp, rfl⟩
   have nds : (smC cs k0).map (·.1) |>.Nodup := by
    unfold smC
    cases hg : ZDs cs k0 with
    | none => exact List.nodup_nil
    | some c => exact C14.cv.nk _ (ZEJ hg)
   have bps : (smC cs k0).length <= 28 /\ ∀ r ∈ smC cs k0, b - 3 <= r.1 /\ r.1 <= b + w * y + 2 /\ -12 <= r.2 /\ r.2 <= 12 := by
    unfold smC
    cases hg : ZDs cs k0 with
    | none => exact ⟨UO _, fun r hr => by cases hr⟩
    | some c => exact C14.bs _ (ZEJ hg)
   have mem2 : ∀ c ∈ cs2, c = (k0, nd0, ZEI (smC cs k0) t0 h0) \/ (c ∈ cs /\ c.1 ≠ k0) := fun c hc => by
    rw [<- hc2] at hc
    exact ZG0 hc
   have oldA : ∀ c ∈ cs, c.2.1 ≠ nd0 /\ c.2.1 ≠ md := fun c hc => ⟨C16.cv.live hc n17, C14.cv.live hc n15⟩
   have CV2 : ZFO H19 cs2 := by
    refine ⟨?_, ?_, fun c hc => ?_, fun c hc => ?_, fun c hc => ?_⟩
    ·rcases keys2 with ⟨e, _⟩ | ⟨e, hg⟩
     ·rw [e]; exact C14.cv.nd
     ·rw [e, Vg]
      exact ⟨C14.cv.nd, by simp, fun y hy z hz ez => (ZEv.mp hg) (by simp at hz; rw [<- hz, <- ez]; exact hy)⟩
    ·rw [UU, Vv]
     have hnd2 : cs2.Pairwise fun x y => x.1 ≠ y.1 := by
      rw [<- Vv (f := fun c : Cv => c.1) (R := fun a b => a ≠ b), <- UU]
      rcases keys2 with ⟨e, _⟩ | ⟨e, hg⟩
      ·rw [e]; exact C14.cv.nd
      ·rw [e, Vg]
       exact ⟨C14.cv.nd, by simp, fun y hy z hz ez => (ZEv.mp hg) (by simp at hz; rw [<- hz, <- ez]; exact hy)⟩
     refine hnd2.imp_of_mem fun {x y} hx hy hne e => ?_
     rcases mem2 x hx with rfl | ⟨hx, nx⟩ <;> rcases mem2 y hy with rfl | ⟨hy, ny⟩
     ·exact hne rfl
     ·exact (oldA y hy).1 e.symm
     ·exact (oldA x hx).1 e
     ·exact hne (by rw [ZId C14.cv.na hx hy e])
    all_goals rcases mem2 c hc with rfl | ⟨hc, nc⟩
    ·exact f19
    ·exact K19 _ _ (K18 _ _ (S17' _ _ (C16.cv.hd c hc)) (oldA c hc).2) (oldA c hc).1
    ·exact ZE9 nds
    ·exact C14.cv.nk c hc
    ·exact hk0
    ·exact C14.cv.nm c hc
   have md2 : ∀ c ∈ cs2, c.2.1 ≠ md := fun c hc => by
    rcases mem2 c hc with rfl | ⟨hc, _⟩
    ·exact ndm
    ·exact (oldA c hc).2
   have bs2 : ∀ c ∈ cs2, c.2.2.length < 64 /\ BP c.2.2 := fun c hc => by
    rcases mem2 c hc with rfl | ⟨hc, _⟩
    ·refine ⟨Um (ZHi _ _ _) (by show (smC cs k0).length + 1 < 64; omega), fun r hr => ?_⟩
     rcases (ZFj nds).mp hr with z | z
     ·have := bps.2 r z.2
      exact ⟨by unfold Bn; omega, by unfold Bn; omega⟩
     ·rw [z]
      exact ⟨by unfold Bn; show t0.natAbs < _; omega, by unfold Bn; show h0.natAbs < _; omega⟩
    ·exact ⟨by have := (C14.bs c hc).1; omega, bpc c hc⟩
   have cs2l : cs2.length <= 10 := by
    have h1 : cs2.length = (cs2.map (·.1)).length := by rw [Uf]
    rw [h1]
    have := C14.ln
    rcases keys2 with ⟨e, _⟩ | ⟨e, _⟩ <;> rw [e] <;> simp <;> omega
   have S1417 := S15'.trans (S16.trans S17')
   have mdB : md ∉ BL x d m := hB14.fresh n15
   have ndB : nd0 ∉ BL x d m := (hB14.same (S15'.trans S16)).fresh n17
   have hB19 : ZD5 a H19 x d m := by
    have h1 := (hB14.same S1417).frL (l := [md]) (FrL.kp K18 (by simp)) (fun b hb => by rw [Uj.mp hb]; exact mdB) fun b hb xs => by rw [Uj.mp hb, f1617]; intro z; cases z
    exact h1.frL (l := [nd0]) (FrL.kp K19 (by simp)) (fun b hb => by rw [Uj.mp hb]; exact ndB) fun b hb xs => by rw [Uj.mp hb, f1718]; intro z; cases z
   have n1m : H1 md = none := ZGv S114 n15
   have n1n : H1 nd0 = none := ZGv (S114.trans (S15'.trans S16)) n17
   have S119 : ZDq H1 H19 := ((S114.trans S1417).kpN n1m K18).kpN n1n K19
   have tup19 : ∀ {b : Addr} {xs : List V}, H14 b = some (.tup xs) -> H19 b = some (.tup xs) := fun e => by
    have e17 := S1417 _ _ e
    have e18 := K18 _ _ e17 fun z => by rw [z, f1617] at e17; cases e17
    exact K19 _ _ e18 fun z => by rw [z, f1718] at e18; cases e18
   have hq19 := tup19 hq14
   have hh19 := tup19 hh14
   obtain ⟨⟨dx19, hp19⟩, _⟩ := id hB19
   walk_at "w"
   refine ZES hp19 (ZHD (by decide +kernel)) ?_
   walk_at "w"
   refine ZRz ⟨x, d, m, k0, rfl, hk0, hB19, by omega, fun st m' H20 hg20 hm20 hB20 K20 => ?_⟩
   have esm : st.sm = smC cs k0 := by
    rcases hm20 with ⟨rfl, _⟩ | ⟨hn, e, _⟩
    ·rw [<- hR7.sm, hg20]; rfl
    ·rw [<- hR7.sm, hn, e]; rfl
   have few : st.c <= 100 /\ st.ts.length <= 100 /\ st.ds.length <= 100 := by
    rcases hm20 with ⟨rfl, _⟩ | ⟨hn, e, _⟩
    ·exact hF7 _ (ZEJ hg20)
    ·rw [e]; exact ⟨UO _, UO _, UO _⟩
   have stfr : ∀ b ∈ st.all, H1 b = none := fun b hb => by
    rcases hm20 with ⟨rfl, _⟩ | ⟨hn, e, _, hf⟩
    ·exact fr1 b (ZEO.mpr (.inr (.inr ⟨_, ZEJ hg20, hb⟩)))
    ·exact ZGv S119 (hf b hb)
   have stno : ∀ {b o}, H19 b = some o -> b ∉ BL x d m -> b ∉ st.all := fun {b o} e n hb => by
    rcases hm20 with ⟨rfl, _⟩ | ⟨hn, _, _, hf⟩
    ·exact n (ZEO.mpr (.inr (.inr ⟨_, ZEJ hg20, hb⟩)))
    ·rw [hf b hb] at e; cases e
   have mput : ∀ v : SS, ZD8 m' k0 v = ZD8 m k0 v := fun v => by
    rcases hm20 with ⟨rfl, _⟩ | ⟨hn, _, rfl, _⟩
    ·rfl
    ·rw [ZMe hn, ZFk hn]
   have BLs : ∀ {v : SS}, v.S = st.S -> ∀ b ∈ BL x d (ZD8 m k0 v), b ∈ BL x d m \/ b ∈ st.all := fun {v} e b hb => by
    rcases ZEO.mp hb with h | h | ⟨z, hz, h⟩
    ·exact .inl (ZEO.mpr (.inl h))
    ·exact .inl (ZEO.mpr (.inr (.inl h)))
    ·rcases ZG0 hz with rfl | ⟨hz, _⟩
     ·unfold SS.all at h ⊢
      dsimp only at h
      rw [e] at h
      exact .inr h
     ·exact .inl (ZEO.mpr (.inr (.inr ⟨z, hz, h⟩)))
   have fr2 : ∀ {v : SS}, v.S = st.S -> ∀ b ∈ BL x d (ZD8 m k0 v), H1 b = none := fun e b hb => (BLs e b hb).elim (fr1 b) (stfr b)
   have n1d : H1 d = none := fr1 d (ZEO.mpr (.inr (.inl rfl)))
   have sown : ∀ {b o}, H19 b = some o -> b ∉ BL x d m -> b ∉ st.S.own := fun e n z => stno e n (Ur _ z)
   obtain ⟨n20, hS20⟩ := hB20.bin.st _ (ZEJ hg20)
   dsimp only at hS20
   obtain ⟨dxS, vsS, hpS, _⟩ := id hS20
   walk_at "w"
   refine ZES hpS ZHs ?_
   walk_at "w"
   refine ⟨st.S, n20, t0, h0, st.sm, _, _, _, _, rfl, hS20, ⟨by omega, by omega⟩, by omega, by rw [esm]; omega, by omega, by omega, fun H21 hS21 F21 => ?_⟩
   generalize hst2 : (⟨st.S, ZEI st.sm t0 h0, st.c + 1, st.ds ++ [(t0, ZEE st.sm t0)], st.ts ++ [t0], st.ws⟩ : SS) = st2
   have eS2 : st2.S = st.S := by rw [<- hst2]
   have hB21 : ZD5 a H21 x d (ZD8 m k0 st2) := by
    rw [<- mput]
    exact hB20.deed hg20 eS2 (by rw [<- hst2]; exact ⟨n20, hS21⟩) F21
   have hR2 : ZGE (ZD8 m k0 st2) cs2 := by
    rw [<- hc2]
    exact hR7.put (by rw [<- hst2]; show ZEI st.sm t0 h0 = _; rw [esm])
   have S121 : ZDq H1 H21 := fun b o e => F21 _ _ ((S119.kpN n1d K20) _ _ e) fun z => by rw [stfr b (Ur _ z)] at e; cases e
   have kp21 : ∀ {b o}, H19 b = some o -> b ∉ BL x d m -> H21 b = some o := fun {b o} e n => F21 _ _ (K20 _ _ e fun z => n (by rw [z]; exact ZEO.mpr (.inr (.inl rfl)))) (sown e n)
   have qB : q ∉ BL x d m := live (S6 _ _ hq5)
   have hB' : h ∉ BL x d m := live (S6 _ _ hH5.1)
   have cB : ∀ c ∈ cs2, c.2.1 ∉ BL x d m := fun c hc => by
    rcases mem2 c hc with rfl | ⟨hc, _⟩
    ·exact ndB
    ·exact live (C6.cv.hd c hc)
   have hnm2 : ∀ z ∈ ZD8 m k0 st2, ZEt z.1 = true /\ BP z.2.sm := fun z hz => by
    obtain ⟨c, hc, e1, e2⟩ := hR2.mem hz
    rw [<- e1, <- e2]
    exact ⟨CV2.nm c hc, (bs2 c hc).2⟩
   have hndm2 : ∀ z ∈ ZD8 m k0 st2, (z.2.sm.map (·.1)).Nodup := fun z hz => by
    obtain ⟨c, hc, e1, e2⟩ := hR2.mem hz
    rw [<- e2]
    exact CV2.nk c hc
   have hml2 : (ZD8 m k0 st2).length <= 60 := by
    have := congrArg Vl hR2.keys
    simp only [Uf] at this
    omega
   have hq21 := kp21 hq19 qB
   have hh21 := kp21 hh19 hB'
   obtain ⟨⟨dx21, hp21⟩, _⟩ := id hB21
   walk_at "w"
   refine ZES hp21 (ZHD (by decide +kernel)) ?_
   walk_at "w"
   refine ⟨x, d, q, h, ZD8 m k0 st2, b, y, w, low, tall, rows, rfl, hB21, hml2, hnm2, hW.winT hq21, by omega, ⟨hh21, hH5.2⟩, fun ss22 qs22 H22 hp22 hs22 hL22 hB22 F22 => ?_⟩
   obtain rfl := ZGm hp22 hs22
   rw [ZJE hndm2 (by omega) ht0 hL22 (by omega)]
   have ef2 : (fun k j r => ZE0 (((ZDs (ZD8 m k0 st2) k).map SS.sm).getD []) b y w low tall j r) = fun k j r => ZE0 (smC cs2 k) b y w low tall j r := by
    funext k j r
    rw [hR2.sm]
   rw [ef2, hR2.keys]
   have S122 : ZDq H1 H22 := F22.fresh S121 fun b hb => fr2 eS2 b (trin hb)
   have kp22 : ∀ {b o}, H19 b = some o -> b ∉ BL x d m -> H22 b = some o := fun {b o} e n => F22 _ _ (kp21 e n) fun z => (BLs eS2 b (trin z)).elim n (stno e n)
   have CV22 : ZFO H22 cs2 := ⟨CV2.nd, CV2.na, fun c hc => kp22 (CV2.hd c hc) (cB c hc), CV2.nk, CV2.nm⟩
   have fm22 := kp22 f1819 mdB
   walk_at "w"
   refine ⟨md, q, h, cs2, b, y, w, low, tall, rows, rfl, fm22, CV22, md2, cs2l, bs2, kp22 hq19 qB, hW, ⟨kp22 hh19 hB', hH5.2⟩, hr7, fun H23 S23 => ?_⟩
   walk_at "w"
   refine ZNd ?_
   rw [decide_eq_true rfl]
   walk_at "w"
   refine ZEs ?_
   have hB23 := hB22.same S23
   have hg23 : ZDs (ZD8 m k0 st2) k0 = some st2 := by rw [ZOV, if_pos rfl]
   obtain ⟨n23, hS23⟩ := hB23.bin.st _ (ZEJ hg23)
   rw [<- hst2] at hS23
   dsimp only at hS23
   obtain ⟨dxS3, vsS3, hpS3, _⟩ := id hS23
   walk_at "w"
   refine ZES hpS3 ZHs ?_
   have hpl := ZHi st.sm t0 h0
   refine ⟨st.S, n23, _, _, _, _, _, rfl, hS23, .inr ⟨st.ds, t0, ZEE st.sm t0, rfl, ⟨by omega, by omega⟩, fun _ => by rw [ZKZ, if_pos rfl]; rfl, by omega, by rw [esm] at hpl ⊢; omega, by simp; omega, fun H24 hS24 F24 => ?_⟩⟩
   have nds' : (st.sm.map (·.1)).Nodup := by rw [esm]; exact nds
   have heb : Eqv (ZFn (ZEI st.sm t0 h0) t0 (ZEE st.sm t0)) st.sm := ZQd nds' t0 (some h0) (fun z => by cases z)
   have ndb : ((ZFn (ZEI st.sm t0 h0) t0 (ZEE st.sm t0)).map (·.1)).Nodup := ZOT (ZE9 nds') t0 _
   generalize hst3 : (⟨st.S, ZFn (ZEI st.sm t0 h0) t0 (ZEE st.sm t0), st.c + 1 + 1, st.ds, st.ts ++ [t0] ++ [t0], st.ws⟩ : SS) = st3
   have eS3 : st3.S = st.S := by rw [<- hst3]
   have esm3 : st3.sm = ZFn (ZEI st.sm t0 h0) t0 (ZEE st.sm t0) := by rw [<- hst3]
   have hB24 : ZD5 a H24 x d (ZD8 m k0 st3) := by
    have := hB23.deed hg23 (q' := st3) (eS3.trans eS2.symm) (by rw [<- hst3]; exact ⟨n23, hS24⟩) (by rw [eS2]; exact F24)
    rw [ZUH] at this
    exact this
   have S124 : ZDq H1 H24 := fun b o e => F24 _ _ ((S122.trans S23) _ _ e) fun z => by rw [stfr b (Ur _ z)] at e; cases e
   have kp24 : ∀ {b o}, H19 b = some o -> b ∉ BL x d m -> H24 b = some o := fun {b o} e n => F24 _ _ (S23 _ _ (kp22 e n)) (sown e n)
   have keys3 : (ZD8 m k0 st3).map (·.1) = cs2.map (·.1) := by
    rw [<- hR2.keys]
    cases hg : ZDs m k0 with
    | some z => rw [ZF1 hg, ZF1 hg]
    | none => rw [ZFk hg, ZFk hg]; simp
   have mem3 : ∀ z ∈ ZD8 m k0 st3, z = (k0, st3) \/ (z ∈ m /\ z.1 ≠ k0) := fun z hz => ZG0 hz
   have hnm3 : ∀ z ∈ ZD8 m k0 st3, ZEt z.1 = true /\ BP z.2.sm := fun z hz => by
    rcases mem3 z hz with rfl | ⟨hz, _⟩
    ·refine ⟨hk0, fun r hr => ?_⟩
     have hr' : r ∈ st3.sm := hr
     rw [esm3, heb r, esm] at hr'
     have := bps.2 r hr'
     exact ⟨by unfold Bn; omega, by unfold Bn; omega⟩
    ·exact hnm z hz
   have hndm3 : ∀ z ∈ ZD8 m k0 st3, (z.2.sm.map (·.1)).Nodup := fun z hz => by
    rcases mem3 z hz with rfl | ⟨hz, _⟩
    ·show (st3.sm.map (·.1)).Nodup
     rw [esm3]; exact ndb
    ·exact hndm z hz
   have hml3 : (ZD8 m k0 st3).length <= 60 := by
    have := congrArg Vl keys3
    simp only [Uf] at this
    omega
   obtain ⟨⟨dx24, hp24⟩, _⟩ := id hB24
   walk_at "w"
   refine ZES hp24 (ZHD (by decide +kernel)) ?_
   walk_at "w"
   refine ⟨x, d, q, h, ZD8 m k0 st3, b, y, w, low, tall, rows, rfl, hB24, hml3, hnm3, hW.winT (kp24 hq19 qB), by omega, ⟨kp24 hh19 hB', hH5.2⟩, fun ss25 qs25 H25 hp25 hs25 hL25 hB25 F25 => ?_⟩
   obtain rfl := ZGm hp25 hs25
   rw [ZJE hndm3 (by omega) ht0 hL25 (by omega)]
   have ef3 : ∀ kx j r, ZE0 (((ZDs (ZD8 m k0 st3) kx).map SS.sm).getD []) b y w low tall j r = ZE0 (smC cs kx) b y w low tall j r := fun kx j r => by
    rw [ZOV]
    by_cases e : kx = k0
    ·rw [if_pos e, e, <- esm]
     show ZE0 st3.sm b y w low tall j r = _
     rw [esm3, ZR8 ndb nds' heb]
    ·rw [if_neg e, hR7.sm]
   have etx : ZFX (fun k j r => ZE0 (((ZDs (ZD8 m k0 st3) k).map SS.sm).getD []) b y w low tall j r) (srt ((ZD8 m k0 st3).map (·.1))) w.toNat rows.toNat = ZFX (fun k j r => ZE0 (smC cs k) b y w low tall j r) (srt (cs.map (·.1))) w.toNat rows.toNat := by
    rw [keys3]
    rcases keys2 with ⟨e, _⟩ | ⟨e, hg⟩
    ·rw [e]
     exact ZG7 _ fun r j _ _ => ZH8 fun kx _ => ef3 kx j r
    ·rw [e]
     refine ZSI (ZEv.mp hg) (fun j r => ?_) fun kx _ j r => (ef3 kx j r).symm
     show ZE0 (((ZDs (ZD8 m k0 st3) k0).map SS.sm).getD []) b y w low tall j r = false
     rw [ef3]
     unfold smC
     rw [hg]
     exact ZR9 b y w low tall j r
   rw [etx]
   have S125 : ZDq H1 H25 := F25.fresh S124 fun b hb => fr2 eS3 b (trin hb)
   have fm25 : H25 md = some (.dK (dkS (cvR cs2))) := F25 _ _ (kp24 f1819 mdB) fun z => (BLs eS3 md (trin z)).elim mdB (stno f1819 mdB)
   walk_at "w"
   refine ZNd ?_
   rw [decide_eq_true rfl]
   walk_at "w"
   refine ZEs ?_
   obtain ⟨⟨dx25, hp25'⟩, _⟩ := id hB25
   walk_at "w"
   refine ZES hp25' (ZHD (by decide +kernel)) ?_
   walk_at "w"
   refine ⟨x, d, ZD8 m k0 st3, rfl, hB25, hml3, fun l26 ss26 H26 n26 f26 hp26 hs26 S26 => ?_⟩
   obtain rfl := ZGm hp26 hs26
   walk_at "w"
   refine ZHN (S26 _ _ fm25) (by rw [ZJ8]; omega) fun l27 H27 ss27 n27 f27 hp27 hs27 S27 => ?_
   rw [ZOO, <- keys3] at hp27
   obtain rfl := ZGm hp27 hs27
   have hkm3 : ∀ z ∈ (ZD8 m k0 st3).map (·.1), ZEt z = true := fun z hz => by
    obtain ⟨t, ht, rfl⟩ := Ux.mp hz
    exact (hnm3 t ht).1
   walk_at "w"
   refine ZPK (SqL.of (S27 _ _ f26)) (SqL.of f27) (layN _ hkm3) (layN _ hkm3) ?_
   rw [decide_eq_true rfl]
   walk_at "w"
   refine ZEs ?_
   walk_at "w"
   exact ⟨⟨_, _, _, _, _, _, _, _, _, _, _, _, rfl⟩, S1.trans (S125.trans (S26.trans S27))⟩
  ·rintro U H1 ⟨⟨v1, v2, v3, v4, v5, v6, v7, v8, v9, v10, v11, v12, rfl⟩, S1⟩
   walk_at "w"
   exact k H1
end
structure FnH (K : W.Frag) (x : Str) (st : Stmt) (f : Addr) (d : FuncData) : Prop where
 a : W.nsIn K mainGlobals x = some (some (.ref f))
 F : Fun K x x st f d
structure MtH (K : W.Frag) (C : Addr) (x q : Str) (st : Stmt) (f : Addr) (d : FuncData) : Prop where
 a : W.findIn K (.ref C) x = some (some (.ref f))
 i : W.isFn K (.ref f) = true
 F : Fun K x q st f d
open PySem.W in
theorem all_mk {l : OpenLaw} {w : World} {K : Frag} {h : Heap} {mg : Str -> Option Value} {fa : Addr} (X : K.In h) (G : h.Ns mainGlobals mg) (hfa : mg "law" = some (.ref fa))
 {ZB ZA ZF ZU ZN ZV Zn : Addr}
 {f0 f1 f2 f3 f4 f5 f6 f7 f8 f9 f10 f11 f12 f13 f14 f15 f16 f17 f18 f19 f20 f21 f22 f23 f24 f25 f26 f27 f28 f29 f30 f31 f32 f33 f34 f35 f36 f37 f38 f39 f40 f41 f42 f43 f44 f45 f46 f47 f48 f49 f50 f51 f52 f53 f54 f55 f56 f57 f58 f59 f60 f61 f62 f63 f64 f65 f66 f67 : Addr} {d0 d1 d2 d3 d4 d5 d6 d7 d8 d9 d10 d11 d12 d13 d14 d15 d16 d17 d18 d19 d20 d21 d22 d23 d24 d25 d27 d28 d29 d30 d31 d32 d34 d35 d36 d37 d38 d39 d40 d41 d42 d43 d44 d45 d46 d47 d48 d49 d50 d51 d52 d53 d54 d55 d56 d57 d58 d59 d60 d61 d62 d63 d64 d65 d66 : FuncData}
 {od26 an26 : Option Addr} {sl26 : Array (Option Value)} {oc26 kV26 dc26 pm26 cd26 ct26 : Value}
 {dt26 : Addr} {dod26 : Option Addr} {dsl26 : Array (Option Value)} {doc26 : Value} {dn26 : Nat}
 {od33 an33 : Option Addr} {sl33 : Array (Option Value)} {oc33 kV33 dc33 pm33 cd33 ct33 : Value}
 {dt33 : Addr} {dod33 : Option Addr} {dsl33 : Array (Option Value)} {doc33 : Value} {dn33 : Nat}
 {od67 an67 : Option Addr} {sl67 : Array (Option Value)} {oc67 kV67 dc67 pm67 cd67 ct67 : Value}
 {tk_TOP_LEVEL : Tok}
 {tk_TIMES_END : Tok}
 {tk_LETTERS : Tok}
 {tk_LONGEST_NAME : Tok}
 (e_NoColumn : ZQB K "NoColumn" ZU)
 (e_OutOfTimes : ZQB K "OutOfTimes" ZN)
 (e_NoSample : ZQB K "NoSample" ZV)
 (e_NoName : ZQB K "NoName" Zn)
 (e_Tree : ZTr K "Tree" ZB)
 (na_Tree_looks : findIn K (.ref ZB) "looks" = some none)
 (na_Tree_samples : findIn K (.ref ZB) "samples" = some none)
 (na_Tree_kept_fours : findIn K (.ref ZB) "kept_fours" = some none)
 (e_Store : ZTr K "Store" ZA)
 (na_Store_tree : findIn K (.ref ZA) "tree" = some none)
 (na_Store_deeds : findIn K (.ref ZA) "deeds" = some none)
 (na_Store_done : findIn K (.ref ZA) "done" = some none)
 (na_Store_watches : findIn K (.ref ZA) "watches" = some none)
 (e_Board : ZTr K "Board" ZF)
 (na_Board_stores : findIn K (.ref ZF) "stores" = some none)
 (F0 : FnH K "_wall" ZPL f0 d0)
 (F1 : FnH K "is_whole" ZI0 f1 d1)
 (F2 : FnH K "curve_of" ZHO f2 d2)
 (F3 : FnH K "part_of" ZH2 f3 d3)
 (F4 : FnH K "times_of" ZI1 f4 d4)
 (F5 : FnH K "columns_of" ZGe f5 d5)
 (F6 : FnH K "height_of" ZIF f6 d6)
 (F7 : FnH K "four_of" ZJe f7 d7)
 (F8 : FnH K "joined" ZKh f8 d8)
 (F9 : FnH K "kept_of" ZJf f9 d9)
 (F10 : FnH K "dots_of" ZH3 f10 d10)
 (F11 : FnH K "dots_by" ZJg f11 d11)
 (F12 : FnH K "column_dots" ZHG f12 d12)
 (F13 : FnH K "rows_met" ZHP f13 d13)
 (F14 : FnH K "row_at" ZKi f14 d14)
 (F15 : FnH K "row_of" ZKj f15 d15)
 (F16 : FnH K "layers_text" ZGM f16 d16)
 (F17 : FnH K "line_text" ZG4 f17 d17)
 (F18 : FnH K "sign_at" ZJh f18 d18)
 (F19 : FnH K "has_dot" ZJi f19 d19)
 (F20 : FnH K "is_border" ZIG f20 d20)
 (F21 : FnH K "check_borders" ZGf f21 d21)
 (F22 : FnH K "check_time" ZHl f22 d22)
 (F23 : FnH K "check_window" ZGx f23 d23)
 (F24 : FnH K "stretches" ZIH f24 d24)
 (F25 : FnH K "longest" ZJj f25 d25)
 (a26 : findIn K (.ref ZB) "__init__" = some (some (.ref f26))) (i26 : isFn K (.ref f26) = true)
 (l26 : K.lookup f26 = some ⟨oc26, od26, .func (fnOf "__init__" "Tree.__init__" (ZEm ZEf) (ZEg ZEf) (ZDo ZEf) (.ref dt26) kV26 dc26 pm26 an26 cd26 ct26), sl26⟩) (c26 : codeIn K cd26 "Tree.__init__" = true) (k26 : keepIn K (.ref f26) = true)
 (dl26 : K.lookup dt26 = some ⟨doc26, dod26, .seq #[.none] dn26, dsl26⟩)
 (F27 : MtH K ZB "put" "Tree.put" ZI2 f27 d27)
 (F28 : MtH K ZB "take" "Tree.take" ZII f28 d28)
 (F29 : MtH K ZB "renew" "Tree.renew" ZHm f29 d29)
 (F30 : MtH K ZB "four" "Tree.four" ZIJ f30 d30)
 (F31 : MtH K ZB "fours" "Tree.fours" ZGg f31 d31)
 (F32 : MtH K ZB "told" "Tree.told" ZKJ f32 d32)
 (a33 : findIn K (.ref ZA) "__init__" = some (some (.ref f33))) (i33 : isFn K (.ref f33) = true)
 (l33 : K.lookup f33 = some ⟨oc33, od33, .func (fnOf "__init__" "Store.__init__" (ZEm ZEb) (ZEg ZEb) (ZDo ZEb) (.ref dt33) kV33 dc33 pm33 an33 cd33 ct33), sl33⟩) (c33 : codeIn K cd33 "Store.__init__" = true) (k33 : keepIn K (.ref f33) = true)
 (dl33 : K.lookup dt33 = some ⟨doc33, dod33, .seq #[.none] dn33, dsl33⟩)
 (F34 : MtH K ZA "put" "Store.put" ZIK f34 d34)
 (F35 : MtH K ZA "take" "Store.take" ZJk f35 d35)
 (F36 : MtH K ZA "height" "Store.height" ZIa f36 d36)
 (F37 : MtH K ZA "check_sample" "Store.check_sample" ZGh f37 d37)
 (F38 : MtH K ZA "do" "Store.do" ZI3 f38 d38)
 (F39 : MtH K ZA "bring" "Store.bring" ZHH f39 d39)
 (F40 : MtH K ZA "undo" "Store.undo" ZHn f40 d40)
 (F41 : MtH K ZA "times" "Store.times" ZJF f41 d41)
 (F42 : MtH K ZA "four" "Store.four" ZJl f42 d42)
 (F43 : MtH K ZA "fours" "Store.fours" ZHI f43 d43)
 (F44 : MtH K ZA "told" "Store.told" ZJm f44 d44)
 (F45 : MtH K ZA "watch" "Store.watch" ZJG f45 d45)
 (F46 : MtH K ZA "news" "Store.news" ZJn f46 d46)
 (F47 : FnH K "is_name" ZH4 f47 d47)
 (F48 : MtH K ZF "__init__" "Board.__init__" ZGQ f48 d48)
 (F49 : MtH K ZF "store" "Board.store" ZHJ f49 d49)
 (F50 : MtH K ZF "names" "Board.names" ZHK f50 d50)
 (F51 : MtH K ZF "picture" "Board.picture" ZFu f51 d51)
 (F52 : MtH K ZF "kept" "Board.kept" ZJo f52 d52)
 (F53 : FnH K "_law_cell" ZKk f53 d53)
 (F54 : FnH K "_law_purse" ZJp f54 d54)
 (F55 : FnH K "_law_draw" ZKl f55 d55)
 (F56 : FnH K "_law_window" ZI4 f56 d56)
 (F57 : FnH K "_law_heights" ZIL f57 d57)
 (F58 : FnH K "_law_curves" ZI5 f58 d58)
 (F59 : FnH K "_law_board" ZJq f59 d59)
 (F60 : FnH K "_law_less" ZKm f60 d60)
 (F61 : FnH K "_law_height" ZI6 f61 d61)
 (F62 : FnH K "_law_met" ZJ6 f62 d62)
 (F63 : FnH K "_law_rows" ZHo f63 d63)
 (F64 : FnH K "_law_dots" ZGy f64 d64)
 (F65 : FnH K "_law_sign" ZKn f65 d65)
 (F66 : FnH K "_law_text" ZI7 f66 d66)
 (a67 : nsIn K mainGlobals "law" = some (some (.ref f67)))
 (l67 : K.lookup f67 = some ⟨oc67, od67, .func (fnOf "law" "law" (ZEm ZGN) (ZEg ZGN) (ZDo ZGN) .none kV67 dc67 pm67 an67 cd67 ct67), sl67⟩) (c67 : codeIn K cd67 "law" = true) (k67 : keepIn K (.ref f67) = true)
 (ac_TOP_LEVEL : nsIn K mainGlobals "TOP_LEVEL" = some (some (.int 40 tk_TOP_LEVEL)))
 (ac_TIMES_END : nsIn K mainGlobals "TIMES_END" = some (some (.int 1099511627776 tk_TIMES_END)))
 (ac_LETTERS : nsIn K mainGlobals "LETTERS" = some (some (.str "abcdefghijklmnopqrstuvwxyz" tk_LETTERS)))
 (ac_LONGEST_NAME : nsIn K mainGlobals "LONGEST_NAME" = some (some (.int 8 tk_LONGEST_NAME)))
 (JL : nsIn K mainGlobals "ValueError" = some none)
 (ZB9 : nsIn K mainGlobals "abs" = some none)
 (ZB7 : nsIn K mainGlobals "all" = some none)
 (ZBT : nsIn K mainGlobals "bool" = some none)
 (ZAm : nsIn K mainGlobals "dict" = some none)
 (ZB3 : nsIn K mainGlobals "int" = some none)
 (ZS : nsIn K mainGlobals "isinstance" = some none)
 (Z7 : nsIn K mainGlobals "len" = some none)
 (YN : nsIn K mainGlobals "max" = some none)
 (YM : nsIn K mainGlobals "min" = some none)
 (ZI : nsIn K mainGlobals "range" = some none)
 (ZT : nsIn K mainGlobals "sorted" = some none)
 (ZCH : nsIn K mainGlobals "str" = some none)
 (Za : nsIn K mainGlobals "tuple" = some none)
 (ZBI : nsIn K mainGlobals "zip" = some none)
   : ∃ fd : FuncData, (∀ (s : Shared) (v : Value), BindsTo s fd ⟨[v], []⟩ [("_law_script", v)]) /\ ∀ base : Heap, K.In base -> base.Ns mainGlobals mg -> ZD2 l.prog w K mg base CX0 11 fa fd ["_law_script"] (ZM6 K) := by
  have e := hfa.symm.trans (mg_of X G a67)
  cases e
  have F26 := ZPE (st := ZEf) l26 c26 k26
  have F33 := ZPE (st := ZEb) l33 c33 k33
  have F67 := fun_mk (st := ZGN) l67 c67 k67
  have T : Txt K mg ⟨f0, d0, f1, d1, f2, d2, f3, d3, f4, d4, f5, d5, f6, d6, f7, d7, f8, d8, f9, d9, f10, d10, f11, d11, f12, d12, f13, d13, f14, d14, f15, d15, f16, d16, f17, d17, f18, d18, f19, d19, f20, d20, f21, d21, f22, d22, f23, d23, f24, d24, f25, d25, f26, fnOf "__init__" "Tree.__init__" (ZEm ZEf) (ZEg ZEf) (ZDo ZEf) (.ref dt26) kV26 dc26 pm26 an26 cd26 ct26, f27, d27, f28, d28, f29, d29, f30, d30, f31, d31, f32, d32, f33, fnOf "__init__" "Store.__init__" (ZEm ZEb) (ZEg ZEb) (ZDo ZEb) (.ref dt33) kV33 dc33 pm33 an33 cd33 ct33, f34, d34, f35, d35, f36, d36, f37, d37, f38, d38, f39, d39, f40, d40, f41, d41, f42, d42, f43, d43, f44, d44, f45, d45, f46, d46, f47, d47, f48, d48, f49, d49, f50, d50, f51, d51, f52, d52, f53, d53, f54, d54, f55, d55, f56, d56, f57, d57, f58, d58, f59, d59, f60, d60, f61, d61, f62, d62, f63, d63, f64, d64, f65, d65, f66, d66, fa, fnOf "law" "law" (ZEm ZGN) (ZEg ZGN) (ZDo ZGN) .none kV67 dc67 pm67 an67 cd67 ct67, ZB, ZA, ZF, ZU, ZN, ZV, Zn, tk_TOP_LEVEL, tk_TIMES_END, tk_LETTERS, tk_LONGEST_NAME⟩ := ⟨F0.F, (F0.F.b1 fun _ _ _ _ _ _ _ => rfl), (mg_of X G F0.a), F1.F, (F1.F.b1 fun _ _ _ _ _ _ _ => rfl), (mg_of X G F1.a), F2.F, (F2.F.b1 fun _ _ _ _ _ _ _ => rfl), (mg_of X G F2.a), F3.F, (F3.F.b3 fun _ _ _ _ _ _ _ _ _ => rfl), (mg_of X G F3.a), F4.F, (F4.F.b2 fun _ _ _ _ _ _ _ _ => rfl), (mg_of X G F4.a), F5.F, (F5.F.b1 fun _ _ _ _ _ _ _ => rfl), (mg_of X G F5.a), F6.F, (F6.F.b1 fun _ _ _ _ _ _ _ => rfl), (mg_of X G F6.a), F7.F, (F7.F.b1 fun _ _ _ _ _ _ _ => rfl), (mg_of X G F7.a), F8.F, (F8.F.b2 fun _ _ _ _ _ _ _ _ => rfl), (mg_of X G F8.a), F9.F, (F9.F.b1 fun _ _ _ _ _ _ _ => rfl), (mg_of X G F9.a), F10.F, (F10.F.b3 fun _ _ _ _ _ _ _ _ _ => rfl), (mg_of X G F10.a), F11.F, (F11.F.b3 fun _ _ _ _ _ _ _ _ _ => rfl), (mg_of X G F11.a), F12.F, (F12.F.b3 fun _ _ _ _ _ _ _ _ _ => rfl), (mg_of X G F12.a), F13.F, (F13.F.b3 fun _ _ _ _ _ _ _ _ _ => rfl), (mg_of X G F13.a), F14.F, (F14.F.b4 fun _ _ _ _ _ _ _ _ _ _ => rfl), (mg_of X G F14.a), F15.F, (F15.F.b3 fun _ _ _ _ _ _ _ _ _ => rfl), (mg_of X G F15.a), F16.F, (F16.F.b3 fun _ _ _ _ _ _ _ _ _ => rfl), (mg_of X G F16.a), F17.F, (F17.F.b3 fun _ _ _ _ _ _ _ _ _ => rfl), (mg_of X G F17.a), F18.F, (F18.F.b3 fun _ _ _ _ _ _ _ _ _ => rfl), (mg_of X G F18.a), F19.F, (F19.F.b2 fun _ _ _ _ _ _ _ _ => rfl), (mg_of X G F19.a), F20.F, (F20.F.b1 fun _ _ _ _ _ _ _ => rfl), (mg_of X G F20.a), F21.F, (F21.F.b2 fun _ _ _ _ _ _ _ _ => rfl), (mg_of X G F21.a), F22.F, (F22.F.b1 fun _ _ _ _ _ _ _ => rfl), (mg_of X G F22.a), F23.F, (F23.F.b1 fun _ _ _ _ _ _ _ => rfl), (mg_of X G F23.a), F24.F, (F24.F.b2 fun _ _ _ _ _ _ _ _ => rfl), (mg_of X G F24.a), F25.F, (F25.F.b2 fun _ _ _ _ _ _ _ _ => rfl), (mg_of X G F25.a), F26, (fun s us hI hl => by match us, hl with | [_, _], _ => exact binds_K hI rfl dl26 rfl rfl rfl), (fun s us hI hl => have hl2 : us.length = 1 := (by simpa using hl); match us, hl2 with | [_], _ => binds_K hI rfl dl26 rfl rfl rfl), (fun s u v hI => binds_K hI rfl dl26 rfl rfl rfl), F27.F, (F27.F.b3 fun _ _ _ _ _ _ _ _ _ => rfl), ⟨F27.a, F27.i, F27.F.kp⟩, F28.F, (F28.F.b2 fun _ _ _ _ _ _ _ _ => rfl), ⟨F28.a, F28.i, F28.F.kp⟩, F29.F, (F29.F.b3 fun _ _ _ _ _ _ _ _ _ => rfl), ⟨F29.a, F29.i, F29.F.kp⟩, F30.F, (F30.F.b3 fun _ _ _ _ _ _ _ _ _ => rfl), ⟨F30.a, F30.i, F30.F.kp⟩, F31.F, (F31.F.b2 fun _ _ _ _ _ _ _ _ => rfl), ⟨F31.a, F31.i, F31.F.kp⟩, F32.F, (F32.F.b1 fun _ _ _ _ _ _ _ => rfl), ⟨F32.a, F32.i, F32.F.kp⟩, F33, (fun s us hI hl => by match us, hl with | [_, _], _ => exact binds_K hI rfl dl33 rfl rfl rfl), (fun s us hI hl => have hl2 : us.length = 1 := (by simpa using hl); match us, hl2 with | [_], _ => binds_K hI rfl dl33 rfl rfl rfl), (fun s u v hI => binds_K hI rfl dl33 rfl rfl rfl), F34.F, (F34.F.b3 fun _ _ _ _ _ _ _ _ _ => rfl), ⟨F34.a, F34.i, F34.F.kp⟩, F35.F, (F35.F.b2 fun _ _ _ _ _ _ _ _ => rfl), ⟨F35.a, F35.i, F35.F.kp⟩, F36.F, (F36.F.b2 fun _ _ _ _ _ _ _ _ => rfl), ⟨F36.a, F36.i, F36.F.kp⟩, F37.F, (F37.F.b2 fun _ _ _ _ _ _ _ _ => rfl), ⟨F37.a, F37.i, F37.F.kp⟩, F38.F, (F38.F.b3 fun _ _ _ _ _ _ _ _ _ => rfl), ⟨F38.a, F38.i, F38.F.kp⟩, F39.F, (F39.F.b3 fun _ _ _ _ _ _ _ _ _ => rfl), ⟨F39.a, F39.i, F39.F.kp⟩, F40.F, (F40.F.b1 fun _ _ _ _ _ _ _ => rfl), ⟨F40.a, F40.i, F40.F.kp⟩, F41.F, (F41.F.b1 fun _ _ _ _ _ _ _ => rfl), ⟨F41.a, F41.i, F41.F.kp⟩, F42.F, (F42.F.b3 fun _ _ _ _ _ _ _ _ _ => rfl), ⟨F42.a, F42.i, F42.F.kp⟩, F43.F, (F43.F.b2 fun _ _ _ _ _ _ _ _ => rfl), ⟨F43.a, F43.i, F43.F.kp⟩, F44.F, (F44.F.b1 fun _ _ _ _ _ _ _ => rfl), ⟨F44.a, F44.i, F44.F.kp⟩, F45.F, (F45.F.b2 fun _ _ _ _ _ _ _ _ => rfl), ⟨F45.a, F45.i, F45.F.kp⟩, F46.F, (F46.F.b2 fun _ _ _ _ _ _ _ _ => rfl), ⟨F46.a, F46.i, F46.F.kp⟩, F47.F, (F47.F.b1 fun _ _ _ _ _ _ _ => rfl), (mg_of X G F47.a), F48.F, (F48.F.b1 fun _ _ _ _ _ _ _ => rfl), F49.F, (F49.F.b2 fun _ _ _ _ _ _ _ _ => rfl), ⟨F49.a, F49.i, F49.F.kp⟩, F50.F, (F50.F.b1 fun _ _ _ _ _ _ _ => rfl), ⟨F50.a, F50.i, F50.F.kp⟩, F51.F, (F51.F.b3 fun _ _ _ _ _ _ _ _ _ => rfl), ⟨F51.a, F51.i, F51.F.kp⟩, F52.F, (F52.F.b2 fun _ _ _ _ _ _ _ _ => rfl), ⟨F52.a, F52.i, F52.F.kp⟩, F53.F, (F53.F.b2 fun _ _ _ _ _ _ _ _ => rfl), (mg_of X G F53.a), F54.F, (F54.F.b2 fun _ _ _ _ _ _ _ _ => rfl), (mg_of X G F54.a), F55.F, (F55.F.b2 fun _ _ _ _ _ _ _ _ => rfl), (mg_of X G F55.a), F56.F, (F56.F.b1 fun _ _ _ _ _ _ _ => rfl), (mg_of X G F56.a), F57.F, (F57.F.b1 fun _ _ _ _ _ _ _ => rfl), (mg_of X G F57.a), F58.F, (F58.F.b2 fun _ _ _ _ _ _ _ _ => rfl), (mg_of X G F58.a), F59.F, (F59.F.b1 fun _ _ _ _ _ _ _ => rfl), (mg_of X G F59.a), F60.F, (F60.F.b2 fun _ _ _ _ _ _ _ _ => rfl), (mg_of X G F60.a), F61.F, (F61.F.b3 fun _ _ _ _ _ _ _ _ _ => rfl), (mg_of X G F61.a), F62.F, (F62.F.b3 fun _ _ _ _ _ _ _ _ _ => rfl), (mg_of X G F62.a), F63.F, (F63.F.b2 fun _ _ _ _ _ _ _ _ => rfl), (mg_of X G F63.a), F64.F, (F64.F.b3 fun _ _ _ _ _ _ _ _ _ => rfl), (mg_of X G F64.a), F65.F, (F65.F.b3 fun _ _ _ _ _ _ _ _ _ => rfl), (mg_of X G F65.a), F66.F, (F66.F.b3 fun _ _ _ _ _ _ _ _ _ => rfl), (mg_of X G F66.a), F67, (F67.b1 fun _ _ _ _ _ _ _ => rfl), (mg_of X G a67), ⟨e_Tree.pg, e_Tree.hd, e_Tree.po, e_Tree.sa⟩, (mg_of X G e_Tree.a), ⟨e_Tree.mi, a26, i26, e_Tree.kc⟩, na_Tree_looks, na_Tree_samples, na_Tree_kept_fours, ⟨e_Store.pg, e_Store.hd, e_Store.po, e_Store.sa⟩, (mg_of X G e_Store.a), ⟨e_Store.mi, a33, i33, e_Store.kc⟩, na_Store_tree, na_Store_deeds, na_Store_done, na_Store_watches, ⟨e_Board.pg, e_Board.hd, e_Board.po, e_Board.sa⟩, (mg_of X G e_Board.a), ⟨e_Board.mi, F48.a, F48.i, e_Board.kc⟩, na_Board_stores, e_NoColumn.ex, ⟨e_NoColumn.ga, e_NoColumn.gt, e_NoColumn.cl, e_NoColumn.ob, e_NoColumn.be⟩, (mg_of X G e_NoColumn.a), e_OutOfTimes.ex, ⟨e_OutOfTimes.ga, e_OutOfTimes.gt, e_OutOfTimes.cl, e_OutOfTimes.ob, e_OutOfTimes.be⟩, (mg_of X G e_OutOfTimes.a), e_NoSample.ex, ⟨e_NoSample.ga, e_NoSample.gt, e_NoSample.cl, e_NoSample.ob, e_NoSample.be⟩, (mg_of X G e_NoSample.a), e_NoName.ex, ⟨e_NoName.ga, e_NoName.gt, e_NoName.cl, e_NoName.ob, e_NoName.be⟩, (mg_of X G e_NoName.a), (mg_of X G ac_TOP_LEVEL), (mg_of X G ac_TIMES_END), (mg_of X G ac_LETTERS), (mg_of X G ac_LONGEST_NAME), (mg_none_of X G JL), (mg_none_of X G ZB9), (mg_none_of X G ZB7), (mg_none_of X G ZBT), (mg_none_of X G ZAm), (mg_none_of X G ZB3), (mg_none_of X G ZS), (mg_none_of X G Z7), (mg_none_of X G YN), (mg_none_of X G YM), (mg_none_of X G ZI), (mg_none_of X G ZT), (mg_none_of X G ZCH), (mg_none_of X G Za), (mg_none_of X G ZBI)⟩
  exact ⟨fnOf "law" "law" (ZEm ZGN) (ZEg ZGN) (ZDo ZGN) .none kV67 dc67 pm67 an67 cd67 ct67, fun s v => .of_eq rfl, fun base _ _ => ZYT T⟩
theorem walk {l : W.OpenLaw} {q : Program} {loose : List Str} {XP : (Str -> Option Value) -> Heap -> Prop} {YP : World -> Heap -> Prop} {d : DefRec} {K : Params -> W.Frag} (hn : l.most = some 63) (hdf : d.params.defaults = [])
  (hY : ∀ (w : World) (h : Heap), YP w h -> (K w.params).In h)
  (F : ∀ (w : World) (mg : Str -> Option Value) (fa : Addr) (h : Heap), (K w.params).In h -> h.Ns mainGlobals mg -> mg d.name = some (.ref fa) ->
   ∃ fd : FuncData, (∀ (s : Shared) (u : Value), BindsTo s fd ⟨[u], []⟩ [("_law_script", u)]) /\ ∀ base : Heap, (K w.params).In base -> base.Ns mainGlobals mg -> ZD2 l.prog w (K w.params) mg base CX0 11 fa fd ["_law_script"] (ZM6 (K w.params))) :
  W.WalkO q loose XP YP l.row.toRowW d [] (fun f vs => PySem.call f vs) :=
 L2.walk_of (n := 63) (k := 11) (x := "_law_script") (CX := fun _ => CX0) (sp := fun w => ZM6 (K w.params)) hn (by decide) hdf ⟨rfl, by decide, by decide, rfl⟩ hY F (fun _ _ a ns hl _ hS => ⟨a, ns, rfl, hS, hl, fun _ => rfl⟩) fun _ _ _ _ _ z => z
end My
local macro_rules | `(tactic| walk_at "e") => `(tactic| (refine' ⟨?a, ?b, ?c, ?d, ?e, ?f, ?g⟩; (case a => k_is); (case b => k_exc); (case c => k_is); (case d => k_is); (case e => k_is); (case f => k_is); (case g => k_is)))
local macro_rules | `(tactic| walk_at "c") => `(tactic| (refine' ⟨?a, ?b, ?c, ?d, ?e, ?f, ?g⟩; (case a => k_is); (case b => k_is); (case c => k_is); (case d => k_is); (case e => k_is); (case f => k_is); (case g => k_is)))
local macro_rules | `(tactic| walk_at "f") => `(tactic| (refine' ⟨?a, L2.fun_mk ?b ?c ?d⟩; (case a => k_is); (case b => k_is); (case c => k_is); (case d => k_is)))
local macro_rules | `(tactic| walk_at "m") => `(tactic| (refine' ⟨?a, ?b, L2.fun_mk ?c ?d ?e⟩; (case a => k_is); (case b => k_is); (case c => k_is); (case d => k_is); (case e => k_is)))
namespace PySem.W.Fast
def tw559094151039677024:=()
def tw11341598024673205250:=()
def tw10489769212763791236:=()
def tw5484496020993322982:=()
def tw5171417575869207719:=()
def tw16864418418344723211:=()
def tw8498855371066169549:=()
def tw7818367097378187598:=()
def tw10155787665599726799:=()
def tw1453457119823944882:=()
def tw14272254679791458738:=()
def tw6813236875709732884:=()
def tw12635992985623757046:=()
def tw8807534489029423766:=()
def tw9783856161273125815:=()
def tw10229345460581924506:=()
def tw7174612355153102619:=()
def tw11548101055116133758:=()
def tw17096455291922256547:=()
def tw9270081071986206912:=()
def tw16046538896048802747:=()
def tw8697133987335693793:=()
def tw8687889453079570133:=()
def tw14472321838337177461:=()
def tw14445725134886991068:=()
def tw8504814113269512829:=()
def tw8257414080268102385:=()
def tw10677451021101124252:=()
def tw2690000244443176245:=()
def tw14451112608006885565:=()
def tw15119768433658368704:=()
def tw6523198888199743944:=()
def tw1361109319388691003:=()
def tw8527028080277455784:=()
def tw1139152230886468300:=()
def tw6129920328454279107:=()
def tw1363380337766173713:=()
def tw3585638182080929040:=()
def tw3196312584758841180:=()
def tw17616041286541508874:=()
def tw4003639060370310314:=()
def tw10760537227471102566:=()
def tw6617616600569846269:=()
def tw14279782193970380911:=()
def tw6846279130020360336:=()
def tw11371441374204850808:=()
def tw9402312384761049187:=()
def tw1020389982355375221:=()
def tw10145903371449794751:=()
def tw2007490364965672490:=()
def tw11474881027181615981:=()
def tw13676228581163279382:=()
def tw15887252901476134743:=()
def tw8767918973495413690:=()
def tw718095118663355006:=()
def tw7707389757307528315:=()
def tw4739948784012968874:=()
def tw10100172548133925485:=()
def tw5842128425211676047:=()
def tw17625921643477121301:=()
def tw14510324873605932862:=()
def tw3751778647040898078:=()
def tw7603985860175978723:=()
def tw5799058718344846562:=()
def tw7157236931483092686:=()
def tw18128443790670339548:=()
def tw8809708982206308971:=()
def tw1075829119375521587:=()
def tw16068793655984967722:=()
def tw12902308252652272075:=()
def tw3130688896193241656:=()
def tw6973406822291084224:=()
def tw12328289187735076096:=()
def tw8810364987849472319:=()
def tw11998087755659645669:=()
def tw6046311267843559619:=()
def tw3280892566051425102:=()
def tw17344789564933739788:=()
def tw8000899998836894636:=()
def tw17205408166754640715:=()
def tw17752707805896989153:=()
def tw7738417542667161428:=()
def tw3889640767887435920:=()
def tw3753524435178731590:=()
def tw2596850627285082321:=()
def tw14223862860501054817:=()
def tw11119944414572318504:=()
def tw8780123270941748971:=()
def tw17422173444767271606:=()
def tw11179585055060750834:=()
def tw11477270623135441443:=()
def tw5388658098306664938:=()
def tw2608181945588117154:=()
def tw12527920313170932225:=()
def tw1316300723991708428:=()
def tw11512055168206443044:=()
def tw7212478423712176430:=()
def tw2052913357183832261:=()
def tw7346090573619322634:=()
def tw14945320444277456166:=()
def tw5361094011484327005:=()
def tw13016515824391045013:=()
def tw15822477223646519212:=()
def tw2523582736721708220:=()
def tw2873794995919229923:=()
def tw15530096175663194770:=()
def tw9161837588295730190:=()
def tw10865644066679915806:=()
def tw10159054677807239550:=()
def tw8055716332405548604:=()
def tw17421688138854623653:=()
def tw5149537061078382263:=()
def tw7629085565488441747:=()
def tw15598788790122105652:=()
def tw14670384471352291766:=()
def tw12629625305622454010:=()
def tw7540458890673033306:=()
def tw17110487567782093216:=()
def tw18173961331852243694:=()
def tw15287101598404173854:=()
def tw9524282170775333329:=()
def tw11927703809198500403:=()
def tw11582756283231684936:=()
def tw11137307672911916474:=()
def tw6237705643928671379:=()
def tw1755548368336458904:=()
def tw2513623077497202062:=()
def tw2077353886565253700:=()
def tw4622777050336133971:=()
def tw17456288706840996047:=()
def tw13877803341415344659:=()
def tw9694204672487167817:=()
def tw8035900295629071041:=()
def tw4719162661019414641:=()
def tw15191035085447495366:=()
def tw8861952378797078566:=()
def tw8606337158952329321:=()
def tw5361277374327363921:=()
def tw16731202406989162190:=()
def tw3967526790833633262:=()
def tw12825072685159282021:=()
def tw15095421998502697877:=()
def tw4632261240975946297:=()
def tw7525817746171768819:=()
def tw16688509442759653476:=()
def tw1303577436527375047:=()
def tw8016338247246456734:=()
def tw13947774735981304565:=()
def tw6579206440184033379:=()
def tw6499802351249170420:=()
def tw424616717819182008:=()
def tw1394329046030224381:=()
def tw2736724486012086215:=()
def tw13901224121665017059:=()
def tw11543401701281239599:=()
def tw7423645252604389853:=()
def tw5646328269271329912:=()
def tw12337183562724085334:=()
def tw4568197766179458832:=()
def tw2773551067096594462:=()
def tw17995673044633439833:=()
def tw13900588166035877826:=()
def tw7928260920081155425:=()
def tw16053058255000556044:=()
def tw14611392356012683155:=()
def tw6687715010140436801:=()
def tw3015996522698009807:=()
def tw185656228356756869:=()
def tw11605061747762979610:=()
def tw6597015825983627127:=()
def tw2029556301948262766:=()
def tw11850261512938503002:=()
def tw17426200828214456534:=()
def tw952130303263023985:=()
def tw18338355981401852240:=()
def tw12094151954500035763:=()
def tw10548261336265694615:=()
def tw17812346701324016918:=()
def tw839796897319658619:=()
def tw15903582979350700204:=()
def tw16772001740693989417:=()
def tw5528468619820807414:=()
def tw9177271355259362722:=()
def tw7289418039315839242:=()
def tw16733714778394751153:=()
def tw14685201472369015963:=()
def tw15866285525945017450:=()
def tw3574669952667097782:=()
def tw13930849314196035127:=()
def tw5797218259421834071:=()
def tw5716088210590935312:=()
def tw15831928911529054921:=()
def tw6134847702438565583:=()
def tw9283795020673430666:=()
def tw1286812351794201748:=()
def tw16776732241965831344:=()
end PySem.W.Fast
open PySem PySem.W PyProof.Rows
set_option maxRecDepth 100000 in
set_option maxHeartbeats 0 in
theorem PySem.Challenge.cw_fourpoints_k82_whole_pictures_of_curves_holds : PySem.Challenge.rw_fourpoints_k82_whole_pictures_of_curves.Holds := by
 w_on; o_law; k_head; (case hw => w_witness2)
 k_fill
 refine My.walk (l := PySem.Challenge.rw_fourpoints_k82_whole_pictures_of_curves) rfl rfl (fun w h Y => PySem.W.kIn_of Y) ?F
 case F =>
  intro w mg fa h KX G hmg
  refine' My.all_mk KX G hmg ?taa ?tab ?tac ?tad ?tae ?taf ?tag ?tah ?tai ?taj ?tak ?tal ?tam ?tan ?tao ?tap ?taq ?tar ?tas ?tat ?tau ?tav ?taw ?tax ?tay ?taz ?tba ?tbb ?tbc ?tbd ?tbe ?tbf ?tbg ?tbh ?tbi ?tbj ?tbk ?tbl ?tbm ?tbn ?tbo ?tbp ?tbq ?tbr ?tbs ?tbt ?tbu ?tbv ?tbw ?tbx ?tby ?tbz ?tca ?tcb ?tcc ?tcd ?tce ?tcf ?tcg ?tch ?tci ?tcj ?tck ?tcl ?tcm ?tcn ?tco ?tcp ?tcq ?tcr ?tcs ?tct ?tcu ?tcv ?tcw ?tcx ?tcy ?tcz ?tda ?tdb ?tdc ?tdd ?tde ?tdf ?tdg ?tdh ?tdi ?tdj ?tdk ?tdl ?tdm ?tdn ?tdo ?tdp ?tdq ?tdr ?tds ?tdt ?tdu ?tdv ?tdw ?tdx ?tdy ?tdz ?tea ?teb ?tec ?ted ?tee ?tef ?teg ?teh ?tei ?tej ?tek
  (case taa | tab | tac | tad => walk_at "e")
  (case tae => walk_at "c")
  (case taf | tag | tah => k_is)
  (case tai => walk_at "c")
  (case taj | tak | tal | tam => k_is)
  (case tan => walk_at "c")
  (case tao => k_is)
  (case tap | taq | tar | tas | tat | tau | tav | taw | tax | tay | taz | tba | tbb | tbc | tbd | tbe | tbf | tbg | tbh | tbi | tbj | tbk | tbl | tbm | tbn | tbo => walk_at "f")
  (case tbp | tbq | tbr | tbs | tbt | tbu => k_is)
  (case tbv | tbw | tbx | tby | tbz | tca => walk_at "m")
  (case tcb | tcc | tcd | tce | tcf | tcg => k_is)
  (case tch | tci | tcj | tck | tcl | tcm | tcn | tco | tcp | tcq | tcr | tcs | tct => walk_at "m")
  (case tcu => walk_at "f")
  (case tcv | tcw | tcx | tcy | tcz => walk_at "m")
  (case tda | tdb | tdc | tdd | tde | tdf | tdg | tdh | tdi | tdj | tdk | tdl | tdm | tdn => walk_at "f")
  (case tdo | tdp | tdq | tdr | tds | tdt | tdu | tdv | tdw | tdx | tdy | tdz | tea | teb | tec | ted | tee | tef | teg | teh | tei | tej | tek => k_is)
