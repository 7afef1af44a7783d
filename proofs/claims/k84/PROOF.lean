import PyProof.Rows.All
import Wide.All
import OpenK.AllK
import Wide.FinOn
import Lean
import PyProof.EqAt
import PyProof.EqKinds
import PyProof.TupleCall
import KE.KSortTup
import PyProof.CollectWalk
import PyProof.DictWalks
import PyProof.Rows.SortWalk
import KE.KItemsList
import PyProof.ReprText
import PyProof.Rows.StrIntSpec
import PyProof.RowDictHeap
import KE.KRevIter
import KE.KMinKey
import PyProof.P3In
import KE.KIntText
import PyProof.StrLawsTight
import PyProof.StrWalks
import PyProof.ListRange
import PyProof.DictValues
import PyProof.Rows.SortStr
import KE.KDictLaws
import PyProof.Rows.SortRuns
import PyProof.Rows.SortIns
import PyProof.TupleKey
import PyProof.Rows.SetFrom
import PySem.Challenge.RW_fourpoints_k84_whole_none_to_spare
set_option Elab.async false
set_option linter.all false
set_option maxRecDepth 100000
set_option maxHeartbeats 4000000
-- CHANGE: your row's module here, as the last of these rows
abbrev L2.PL := List (Int × Int)
open PySem renaming wpAny_bind → Ua, wpAny_pure → Ud, wpAny_mono → UA, wpAny_holding → UR, codeAny_builtin → Vh, wpAny_field → Vt
open PySem.Heap renaming get?_push_of_some → Ub, lt_size → Ug, get?_push_size → Uj, get?_update_other → Uz, get?_update_self → UD, size_push → UU
open List renaming getElem?_eq_getElem → Uc, mem_cons → Ul, mem_cons_of_mem → Um, mem_append_right → Uo, size_toArray → Uq, mem_cons_self → Us, mem_of_getElem? → Uu, length_map → Uv, getD_eq_getElem?_getD → Uw, mem_map → Ux, getElem?_map → UB, getElem?_eq_some_iff → UC, length_append → UE, take_length → UG, not_mem_nil → UH, length_take → UI, map_cons → UJ, mem_singleton → UK, append_nil → UL, pairwise_iff_getElem → UO, getElem?_append_right → UQ, find?_cons → UT, getElem_of_mem → UV, length_filter_le → UW, append_assoc → UX, take_succ → UY, mem_append → Va, getElem?_append_left → Vd, mem_range → Vg, range → Vj, length_cons → Vk, take_of_length_le → Vn, length_nil → Vp, drop_eq_getElem_cons → Vq, length_drop → Vr, filter_append → Vs, pairwise_map → Vu, nodup_cons → Vv, map_append → Vw
open Nat renaming le_refl → Ue, lt_of_lt_of_le → Uf, ne_of_lt → Uk, lt_of_le_of_lt → Up, zero_le → UF, le_trans → UP, lt_succ_self → Vc, lt_succ_of_lt → Vm
open Bool renaming false_eq_true → Uh, false_ne_true → Ut, not_true → Vb
open Array renaming length_toList → Ui, getElem?_eq_getElem → Ur, toList_append → Uy, getD_eq_getD_getElem? → UM, size_extract → UN, toList_reverse → US, getElem?_eq_some_iff → UZ, toList_push → Ve, getElem?_toList → Vf, mem_toList_iff → Vl, perm_iff_toList_perm → Vo
open Option renaming map_some → Vi
namespace L2
open PySem PySem.Spec PyProof.Rows
abbrev Key := Sum Int Str
def ZB6 : Key -> Value -> Bool
 | .inl k, v => Value.isInt k v
 | .inr x, v => Value.isStrOf x v
def ZNV (w : World) : Key -> Int
 | .inl k => hashInt k
 | .inr x => hashStr w x
theorem Jv : ∀ {k : Key} {v : Value}, ZB6 k v = true -> (∃ i t, k = Sum.inl i /\ v = Value.int i t) \/ (∃ x t, k = Sum.inr x /\ v = Value.str x t)
 | .inl i, v, h => by
  obtain ⟨t, e⟩ := Value.isInt_shape (k := i) (v := v) h
  exact .inl ⟨i, t, rfl, e⟩
 | .inr x, v, h => by
  obtain ⟨t, e⟩ := Value.isStrOf_shape (x := x) (v := v) h
  exact .inr ⟨x, t, rfl, e⟩
theorem ZHP (i : Int) (t : Tok) : ZB6 (.inl i) (.int i t) = true := by simp [ZB6, Value.isInt]
theorem ZHQ (x : Str) (t : Tok) : ZB6 (.inr x) (.str x t) = true := by simp [ZB6, Value.isStrOf]
theorem ZLa (a b : Int) : decide ((Sum.inl a : Key) = Sum.inl b) = (a == b) := by
 by_cases e : a = b
 ·subst e; simp
 ·have h : ¬ (Sum.inl a : Key) = Sum.inl b := fun q => e (Sum.inl.inj q)
  rw [decide_eq_false h]
  exact (beq_eq_false_iff_ne.mpr e).symm
theorem ZLb (a b : Str) : decide ((Sum.inr a : Key) = Sum.inr b) = decide (a = b) := by
 by_cases e : a = b
 ·subst e; simp
 ·have h : ¬ (Sum.inr a : Key) = Sum.inr b := fun q => e (Sum.inr.inj q)
  rw [decide_eq_false h, decide_eq_false e]
theorem ZLc (a : Int) (b : Str) : decide ((Sum.inl a : Key) = Sum.inr b) = false := decide_eq_false (fun q => nomatch q)
theorem ZLd (a : Str) (b : Int) : decide ((Sum.inr a : Key) = Sum.inl b) = false := decide_eq_false (fun q => nomatch q)
def ZAB (prog : Program) (w : World) : PySem.KeyKind prog w Key where
 is := ZB6
 hash := ZNV w
 inj := fun v a b ha hb => by
  rcases Jv ha with ⟨i, t, rfl, rfl⟩ | ⟨x, t, rfl, rfl⟩
  ·rcases Jv hb with ⟨j, u, rfl, e⟩ | ⟨y, u, rfl, e⟩
   ·injection e with e1 _; rw [e1]
   ·exact nomatch e
  ·rcases Jv hb with ⟨j, u, rfl, e⟩ | ⟨y, u, rfl, e⟩
   ·exact nomatch e
   ·injection e with e1 _; rw [e1]
 byValue := fun k v h => by
  rcases Jv h with ⟨i, t, rfl, rfl⟩ | ⟨x, t, rfl, rfl⟩ <;> rfl
 pyHash := fun hv h => by
  rcases Jv hv with ⟨i, t, rfl, rfl⟩ | ⟨x, t, rfl, rfl⟩
  ·exact wpAny_pyHash_int h
  ·exact wpAny_pyHash_str h
 eqBool := fun hu hv h => by
  rcases Jv hu with ⟨i, t, rfl, rfl⟩ | ⟨x, t, rfl, rfl⟩
  ·rcases Jv hv with ⟨j, u, rfl, rfl⟩ | ⟨y, u, rfl, rfl⟩
   ·rw [ZLa] at h; exact wpAny_eqBool_int h
   ·rw [ZLc] at h; exact SeqAt.EqAt.int_str i t y u _ _ _ _ h
  ·rcases Jv hv with ⟨j, u, rfl, rfl⟩ | ⟨y, u, rfl, rfl⟩
   ·rw [ZLd] at h; exact SeqAt.EqAt.str_int x t j u _ _ _ _ h
   ·rw [ZLb] at h; exact wpAny_eqBool_str h
 «strs» := fun k x t v h => by
  rcases Jv h with ⟨i, u, rfl, e⟩ | ⟨y, u, rfl, e⟩
  ·exact nomatch e
  ·injection e with e1 _
   subst e1
   cases v <;> rfl
theorem ZFb (prog : Program) (w : World) (i : Int) (t : Tok) : (ZAB prog w).is (.inl i) (.int i t) = true := ZHP i t
theorem ZFc (prog : Program) (w : World) (x : Str) (t : Tok) : (ZAB prog w).is (.inr x) (.str x t) = true := ZHQ x t
inductive V where
 | non | bl (b : Bool) | int (i : Int) | str (x : Str) | byt (b : Array UInt8) | flt (b : UInt64) | ref (a : Addr) | ty (n : String)
 deriving DecidableEq
def JQ : V -> Value -> Prop
 | .non, u => u = Value.none
 | .bl b, u => u = Value.bool b
 | .int i, u => ∃ t, u = Value.int i t
 | .str x, u => ∃ t, u = Value.str x t
 | .byt b, u => ∃ t, u = Value.bytes b t
 | .flt b, u => ∃ t, u = Value.float b t
 | .ref a, u => u = Value.ref a
 | .ty n, u => u = Value.type n
abbrev JP : List V -> List Value -> Prop := Paired JQ
theorem JP.length {xs : List V} {us : List Value} (r : JP xs us) : xs.length = us.length := Paired.length r
theorem JP.get : ∀ {xs : List V} {us : List Value} {i : Nat} {x : V}, JP xs us -> xs[i]? = some x -> ∃ u, us[i]? = some u /\ JQ x u
 | _, _, _, _, .nil, e => by simp at e
 | _, _, 0, _, .cons r _, e => by simp at e; subst e; exact ⟨_, rfl, r⟩
 | _, _, i + 1, x, .cons _ t, e => by
  obtain ⟨u, h1, h2⟩ := JP.get (i := i) (x := x) t (by simpa using e)
  exact ⟨u, by simpa using h1, h2⟩
theorem JP.set {x : V} {u : Value} (r : JQ x u) : ∀ {xs : List V} {us : List Value} (i : Nat), JP xs us -> JP (xs.set i x) (us.set i u)
 | _, _, _, .nil => .nil
 | _, _, 0, .cons _ t => .cons r t
 | _, _, i + 1, .cons q t => .cons q (JP.set r i t)
theorem JP.append : ∀ {xs ys : List V} {us ws : List Value}, JP xs us -> JP ys ws -> JP (xs ++ ys) (us ++ ws)
 | _, _, _, _, .nil, s => s
 | _, _, _, _, .cons r t, s => .cons r (JP.append t s)
theorem JP.take : ∀ {xs : List V} {us : List Value} (n : Nat), JP xs us -> JP (xs.take n) (us.take n)
 | _, _, 0, _ => .nil
 | _, _, _ + 1, .nil => .nil
 | _, _, n + 1, .cons r t => .cons r (JP.take n t)
theorem JP.drop : ∀ {xs : List V} {us : List Value} (n : Nat), JP xs us -> JP (xs.drop n) (us.drop n)
 | _, _, 0, r => r
 | _, _, _ + 1, .nil => .nil
 | _, _, n + 1, .cons _ t => JP.drop n t
def ZBT : Option V -> Option Value -> Prop
 | some v, some u => JQ v u
 | none, none => True
 | _, _ => False
def KV {κ : Type} : List (κ × V) -> List (κ × Value) -> Prop := Paired fun (p : κ × V) (q : κ × Value) => p.1 = q.1 /\ JQ p.2 q.2
def kV : Key -> V
 | .inl i => .int i
 | .inr x => .str x
inductive HO where
 | lst (xs : List V)
 | tup (xs : List V)
 | dK (kvs : List (Key × V)) | dT (kvs : List (List Key × V))
 | set (S : Int -> Bool) (n : Nat)
 | ins (C dx : Addr) (fs : List (Str × V))
 | own (x : Addr)
 | xd (fs : List (Str × V))
 | met (f x : Addr)
 | rng (lo hi : Int)
 | frz (o : Obj) (u : HO)
 | tbl (ps : Array Value)
 | ext (φ : Heap -> Prop)
abbrev Hp := Addr -> Option HO
def upd (H : Hp) (a : Addr) (o : HO) : Hp := fun b => if b = a then some o else H b
theorem JO {H : Hp} {a : Addr} {o : HO} : upd H a o a = some o := by unfold upd; rw [if_pos rfl]
theorem JT {H : Hp} {a b : Addr} {o : HO} (h : b ≠ a) : upd H a o b = H b := by unfold upd; rw [if_neg h]
theorem ZM3 {H : Hp} {a b : Addr} {o u : HO} (h : H a = some o) (h' : H b = some u) (d : o ≠ u) : a ≠ b := by
 intro e; subst e; rw [h] at h'; exact d (Option.some.inj h')
theorem Jn {H : Hp} {a b : Addr} {o : HO} (h : H a = some o) (h' : H b = none) : a ≠ b := by
 intro e; subst e; rw [h] at h'; cases h'
section
variable (P : Program) (w : World)
def Jo (H : Hp) (h : Heap) (a : Addr) : HO -> Prop
 | .lst xs => xs.length <= sizeLine /\ ∃ (its : List Value) (n : Nat), JP xs its /\ h.get? a = some { cls := .type "list", data := .seq its.toArray n }
 | .tup xs => (xs.length <= sizeLine /\ ((∀ i : Int, xs.head? ≠ some (.int i)) -> ∃ o, h.get? a = some o /\ o.dict = none /\ o.slots = #[])) /\ ∃ its : List Value, JP xs its /\ IsTup h a its.toArray
 | .dK kvs => kvs.length <= sizeLine /\ (a == sysModules) = false /\ ∃ vs, KV kvs vs /\ h.DictOf (ZAB P w) a vs
 | .dT kvs => kvs.length <= sizeLine /\ (a == sysModules) = false /\ ∃ xs : List (List Key × Addr × Value),
  Paired (fun (p : List Key × V) (q : List Key × Addr × Value) => p.1 = q.1 /\ H q.2.1 = some (.tup (p.1.map kV)) /\ JQ p.2 q.2.2) kvs xs /\
  ∃ o es ep, h.get? a = some o /\ o.ExactDict /\ o.data = .dict es ep /\ es.toList = xs.map (entryOfKey (tupleKind (ZAB P w))) /\ (xs.map (·.1)).Nodup
 | .set S n => h.SetOf (intKind P w) a S n
 | .ins C dx fs => H dx = some (.own a) /\ fs.length <= 1000 /\ dx ≠ a /\ h.get? a = some (PySem.W.instObj C dx) /\
  ∃ mA, h.Ns1 dx mA /\ (∀ f, ZBT (fs.lookup f) (mA f)) /\ PySem.Within mA (fs.map (·.1))
 | .own _ => ∃ o, h.get? a = some o
 | .xd fs => ∃ mA, h.Ns1 a mA /\ ∀ f, ZBT (fs.lookup f) (mA f)
 | .rng lo hi => ∃ t u v, h.get? a = some { cls := .type "range", data := .fields #[.int lo t, .int hi u, .int 1 v] }
 | .frz o u => h.get? a = some o /\ Jo H h a u
 | .tbl ps => h.get? a = some { cls := .none, data := .fields ps }
 | .met f x => h.get? a = some (PySem.W.methodObj (.ref f) (.ref x))
 | .ext φ => φ h /\ (∃ o, h.get? a = some o) /\ ∀ h1 h2 : Heap, φ h1 -> (∀ o, h1.get? a = some o -> h2.get? a = some o) -> φ h2
def HOk (H : Hp) (h : Heap) : Prop := ∀ a o, H a = some o -> Jo P w H h a o
end
section
variable {P : Program} {w : World} {H H' : Hp} {h h' : Heap} {a : Addr} {o : HO}
theorem Jo.lt (x : Jo P w H h a o) : a < h.objs.size := by
 cases o with
 | lst xs => obtain ⟨_, _, _, _, e⟩ := x; exact Ug e
 | tup xs => obtain ⟨_, _, _, p⟩ := x; exact p.lt
 | dK kvs => obtain ⟨_, _, _, _, o, _, _, e, _⟩ := x; exact Ug e
 | dT kvs => obtain ⟨_, _, _, _, o, _, _, e, _⟩ := x; exact Ug e
 | set S n => obtain ⟨o, _, _, _, e, _⟩ := x; exact Ug e
 | ins C dx fs => obtain ⟨_, _, _, e, _⟩ := x; exact Ug e
 | own y => obtain ⟨_, e⟩ := x; exact Ug e
 | xd fs => obtain ⟨_, ⟨_, _, _, e, _⟩, _⟩ := x; exact Ug e
 | rng lo hi => obtain ⟨_, _, _, e⟩ := x; exact Ug e
 | frz ob u => obtain ⟨e, _⟩ := x; exact Ug e
 | tbl ps => exact Ug (show h.get? a = some _ from x)
 | met f y => exact Ug (show h.get? a = some _ from x)
 | ext φ => obtain ⟨_, ⟨_, e⟩, _⟩ := x; exact Ug e
theorem Paired.mapP {α β : Type} {F G : α -> β -> Prop} : ∀ {l₁ : List α} {l₂ : List β}, Paired F l₁ l₂ -> (∀ a b, F a b -> G a b) -> Paired G l₁ l₂
 | _, _, .nil, _ => .nil
 | _, _, .cons r t, f => .cons (f _ _ r) (Paired.mapP t f)
theorem Jo.stay (x : Jo P w H h a o) (k : ∀ b u, (b = a \/ H b = some (.own a)) -> h.get? b = some u -> h'.get? b = some u)
  (ho : ∀ b, H b = some (.own a) -> H' b = some (.own a)) (ht : ∀ b xs, H b = some (.tup xs) -> H' b = some (.tup xs)) : Jo P w H' h' a o := by
 induction o with
 | lst xs => obtain ⟨z, its, n, r, e⟩ := x; exact ⟨z, its, n, r, k _ _ (.inl rfl) e⟩
 | tup xs =>
  obtain ⟨⟨z, pd⟩, its, r, ob, e, c⟩ := x
  exact ⟨⟨z, fun q => let ⟨od, ed, cd⟩ := pd q; ⟨od, k _ _ (.inl rfl) ed, cd⟩⟩, its, r, ob, k _ _ (.inl rfl) e, c⟩
 | dK kvs => obtain ⟨z, y, vs, r, ob, es, ep, e, c⟩ := x; exact ⟨z, y, vs, r, ob, es, ep, k _ _ (.inl rfl) e, c⟩
 | dT kvs =>
  obtain ⟨z, y, xs, r, ob, es, ep, e, c⟩ := x
  exact ⟨z, y, xs, Paired.mapP r fun p q z => ⟨z.1, ht _ _ z.2.1, z.2.2⟩, ob, es, ep, k _ _ (.inl rfl) e, c⟩
 | set S n => obtain ⟨ob, es, ep, t, e, c⟩ := x; exact ⟨ob, es, ep, t, k _ _ (.inl rfl) e, c⟩
 | ins C dx fs =>
  obtain ⟨d, z, ne, e, mA, ⟨od, es, ep, e2, c⟩, r⟩ := x
  exact ⟨ho _ d, z, ne, k _ _ (.inl rfl) e, mA, ⟨od, es, ep, k _ _ (.inr d) e2, c⟩, r⟩
 | own y => obtain ⟨ob, e⟩ := x; exact ⟨ob, k _ _ (.inl rfl) e⟩
 | xd fs => obtain ⟨mA, ⟨od, es, ep, e, c⟩, r⟩ := x; exact ⟨mA, ⟨od, es, ep, k _ _ (.inl rfl) e, c⟩, r⟩
 | rng lo hi => obtain ⟨t, u, v, e⟩ := x; exact ⟨t, u, v, k _ _ (.inl rfl) e⟩
 | frz ob u ih => obtain ⟨e, q⟩ := x; exact ⟨k _ _ (.inl rfl) e, ih q⟩
 | tbl ps =>
  have e : h.get? a = some { cls := .none, data := .fields ps } := x
  show h'.get? a = some { cls := .none, data := .fields ps }
  exact k a _ (.inl rfl) e
 | met f y =>
  have e : h.get? a = some (PySem.W.methodObj (.ref f) (.ref y)) := x
  show h'.get? a = some (PySem.W.methodObj (.ref f) (.ref y))
  exact k a _ (.inl rfl) e
 | ext φ => obtain ⟨p, ⟨o, e⟩, st⟩ := x; exact ⟨st _ _ p fun o q => k _ _ (.inl rfl) q, ⟨o, k _ _ (.inl rfl) e⟩, st⟩
theorem HOk.lt (x : HOk P w H h) (e : H a = some o) : a < h.objs.size := (x a o e).lt
theorem HOk.fresh (x : HOk P w H h) (e : h.objs.size <= a) : H a = none := by
 cases q : H a with
 | none => rfl
 | some u => exact absurd (Uf (x.lt q) e) (Nat.lt_irrefl _)
theorem HOk.kept (x : HOk P w H h) (k : ∀ b u, h.get? b = some u -> h'.get? b = some u) : HOk P w H h' := fun a o e =>
 (x a o e).stay (fun b u _ q => k b u q) (fun _ q => q) fun _ _ q => q
theorem HOk.laid (x : HOk P w H h) (k : ∀ b u, h.get? b = some u -> h'.get? b = some u) (hp : h.objs.size <= a) (new : Jo P w (upd H a o) h' a o) : HOk P w (upd H a o) h' := fun b u e => by
 have hn := x.fresh hp
 by_cases hb : b = a
 ·subst hb; rw [JO] at e; cases e; exact new
 ·rw [JT hb] at e
  exact (x b u e).stay (fun c v _ q => k c v q) (fun c q => by rw [JT (Jn q hn)]; exact q) fun c xs q => by rw [JT (Jn q hn)]; exact q
end
def Rd (H : Hp) (a : Addr) (u : HO) : Prop := H a = some u \/ ∃ o, H a = some (.frz o u)
theorem Rd.ok {P : Program} {w : World} {H : Hp} {h : Heap} {a : Addr} {u : HO} (r : Rd H a u) (x : HOk P w H h) : Jo P w H h a u := by
 rcases r with r | ⟨o, r⟩
 ·exact x a u r
 ·obtain ⟨_, q⟩ := x a _ r
  exact q
def Mut : Option HO -> Prop
 | some (.lst _) => True
 | some (.dK _) => True
 | some (.dT _) => True
 | some (.set _ _) => True
 | some (.ins _ _ _) => True
 | some (.ext _) => True
 | _ => False
section
variable {P : Program} {w : World} {H : Hp} {h h' : Heap} {x e : Addr} {o' : HO}
theorem HOk.write (ok : HOk P w H h) (mu : Mut (H x)) (he : e = x \/ H e = some (.own x)) (k : ∀ b u, b ≠ e -> h.get? b = some u -> h'.get? b = some u) (heo : ∃ u, h'.get? e = some u)
  (new : Jo P w (upd H x o') h' x o') : HOk P w (upd H x o') h' := fun b u q => by
 have nown : ∀ c y, H c = some (.own y) -> c ≠ x := fun c y r z => by subst z; rw [r] at mu; exact mu
 have ntup : ∀ c xs, H c = some (.tup xs) -> c ≠ x := fun c xs r z => by subst z; rw [r] at mu; exact mu
 by_cases hb : b = x
 ·subst hb; rw [JO] at q; cases q; exact new
 ·rw [JT hb] at q
  by_cases hbe : b = e
  ·have q' : H b = some (.own x) := by
    rcases he with z | z
    ·exact absurd (hbe.trans z) hb
    ·rw [hbe]; exact z
   rw [q] at q'; cases q'
   obtain ⟨v, hv⟩ := heo
   exact ⟨v, by rw [hbe]; exact hv⟩
  ·refine (ok b u q).stay (fun c v hc r => k c v ?_ r) (fun c r => by rw [JT (nown c b r)]; exact r) fun c xs r => by rw [JT (ntup c xs r)]; exact r
   rcases hc with rfl | hc
   ·exact hbe
   ·rintro rfl
    rcases he with z | z
    ·exact nown c b hc z
    ·rw [hc] at z; cases z; exact hb rfl
end
structure Un (fs ex : List Addr) (H H' : Hp) (h h' : Heap) : Prop where
 keep : ∀ b o, h.get? b = some o -> H b = none -> b ∉ fs -> b ∉ ex -> h'.get? b = some o
 slot : ∀ b o, h.get? b = some o -> H b = none -> b ∈ fs -> b ∉ ex -> ∃ sl, h'.get? b = some { o with slots := sl }
 free : ∀ b o, h.get? b = some o -> H b = none -> b ∉ ex -> H' b = none
 there : ∀ b o, h.get? b = some o -> b ∉ ex -> ∃ o', h'.get? b = some o'
 tups : ∀ b xs, H b = some (.tup xs) -> H' b = some (.tup xs)
 frzs : ∀ b o u, H b = some (.frz o u) -> H' b = some (.frz o u)
 tbls : ∀ b ps, H b = some (.tbl ps) -> ∃ more, H' b = some (.tbl (ps ++ more))
section
variable {fs fs' ex ex' : List Addr} {H H1 H2 : Hp} {h h1 h2 h' : Heap} {a x e : Addr} {o : HO}
theorem Un.any (u : Un fs ex H H1 h h1) {b : Addr} {ob : Obj} (q : h.get? b = some ob) (n : H b = none) (hx : b ∉ ex) : ∃ sl, h1.get? b = some { ob with slots := sl } := by
 by_cases hb : b ∈ fs
 ·exact u.slot b ob q n hb hx
 ·exact ⟨ob.slots, u.keep b ob q n hb hx⟩
theorem Un.kept (k : ∀ b u, h.get? b = some u -> h'.get? b = some u) : Un fs ex H H h h' :=
 ⟨fun b ob q _ _ _ => k b ob q, fun b ob q _ _ _ => ⟨ob.slots, k b ob q⟩, fun _ _ _ n _ => n, fun b ob q _ => ⟨ob, k b ob q⟩, fun _ _ q => q, fun _ _ _ q => q, fun _ ps q => ⟨#[], by rw [q]; simp⟩⟩
theorem Un.refl : Un fs ex H H h h := Un.kept fun _ _ q => q
theorem Un.laid (k : ∀ b u, h.get? b = some u -> h'.get? b = some u) (hp : h.objs.size <= a) (hn : H a = none) : Un fs ex H (upd H a o) h h' where
 keep := fun b u q _ _ _ => k b u q
 slot := fun b u q _ _ _ => ⟨u.slots, k b u q⟩
 free := fun b u q n _ => by rw [JT (Uk (Uf (Ug q) hp))]; exact n
 there := fun b u q _ => ⟨u, k b u q⟩
 tups := fun b xs q => by rw [JT (Jn q hn)]; exact q
 frzs := fun b u xs q => by rw [JT (Jn q hn)]; exact q
 tbls := fun b ps q => ⟨#[], by rw [JT (Jn q hn), q]; simp⟩
theorem Un.write (mu : Mut (H x)) (he : e = x \/ H e = some (.own x)) (k : ∀ b u, b ≠ e -> h.get? b = some u -> h'.get? b = some u) (heo : ∃ u, h'.get? e = some u) : Un fs ex H (upd H x o) h h' := by
 have hx : ∀ b, H b = none -> b ≠ x := fun b n z => by subst z; rw [n] at mu; exact mu
 have hb : ∀ b, H b = none -> b ≠ e := fun b n z => by
  subst z
  rcases he with r | r
  ·exact hx b n r
  ·rw [n] at r; cases r
 have hm : ∀ b u, H b = some u -> ¬ Mut (some u) -> b ≠ x := fun b u q nm z => by subst z; rw [q] at mu; exact nm mu
 refine ⟨fun b u q n _ _ => k b u (hb b n) q, fun b u q n _ _ => ⟨u.slots, k b u (hb b n) q⟩, fun b u q n _ => by rw [JT (hx b n)]; exact n, fun b u q _ => ?_,
  fun b xs q => by rw [JT (hm b _ q fun z => z)]; exact q, fun b u xs q => by rw [JT (hm b _ q fun z => z)]; exact q, fun b ps q => ⟨#[], by rw [JT (hm b _ q fun z => z), q]; simp⟩⟩
 by_cases hbe : b = e
 ·subst hbe; exact heo
 ·exact ⟨u, k b u hbe q⟩
end
def trk (h : Heap) (H : Hp) : List Addr := (Vj h.objs.size).filter fun a => (H a).isSome
def ZB7 (h : Heap) (H : Hp) : Heap := PySem.W.hideAll h (trk h H)
theorem ZHR (h : Heap) (H : Hp) : (ZB7 h H).objs.size = h.objs.size := PySem.W.hideAll_size _ _
theorem ZIZ {h : Heap} {H : Hp} {b : Addr} {o : Obj} (e : h.get? b = some o) (n : H b = none) : (ZB7 h H).get? b = some o :=
 PySem.W.hideAll_get _ e fun hm => by
  have q : (H b).isSome = true := (List.mem_filter.mp hm).2
  rw [n] at q; simp at q
theorem ZKE {h : Heap} {H : Hp} {b : Addr} {o : Obj} (e : (ZB7 h H).get? b = some o) : h.get? b = some o /\ H b = none := by
 have e' : h.get? b = some o := PySem.W.of_hideAll (trk h H) e
 refine ⟨e', ?_⟩
 cases q : H b with
 | none => rfl
 | some x =>
  have hm : b ∈ trk h H := List.mem_filter.mpr ⟨Vg.mpr (Ug e'), by simp [q]⟩
  have z : (ZB7 h H).get? b = none := PySem.W.hideAll_none (trk h H) hm
  rw [z] at e; cases e
def ZKF (g h : Heap) (L : Addr) : List (Addr × Obj) := (Vj h.objs.size).filterMap fun a => if a = L \/ (g.get? a).isSome = true then none else (h.get? a).map fun o => (a, o)
def Js (g h : Heap) (L d : Addr) : List (Addr × Obj) := (ZKF g h L).filter fun p => decide (p.1 ≠ d)
structure Mod (K : W.Frag) (mg : Str -> Option Value) (base : Heap) : Prop where
 kin : K.In base
 glob : base.Ns mainGlobals mg
 blt : ∃ mb, base.Ns builtinsNs mb /\ ∀ x : Str, x ≠ "__name__" -> mb x = bootBuiltins x
 nolimit : base.NoLimit
structure Cx where
 prog : Program
 w : World
 K : W.Frag
 mg : Str -> Option Value
 base : Heap
 A : Around
 N : List Str
 s₀ : Shared
 H₀ : Hp
 env : Env
 outer : List Env
 stack : List Env
 ex : List Addr
 fn : Str -> Bool
 calm : Bool
 pn : List (Addr × Obj)
 xe : Value -> Shared -> Prop
def frs (l : List Env) : List Addr := l.filterMap (·.frame)
abbrev Cx.fs (X : Cx) : List Addr := frs X.outer
def Vis (sc : Scope) (x : Str) : Prop := sc.names.lookup x = some .local \/ sc.names.lookup x = some .cell \/ sc.names.lookup x = some .free
def Loc (sc : Scope) (x : Str) : Prop := sc.names.lookup x = some .local \/ sc.names.lookup x = some .cell
def ZNW (env : Env) (h : Heap) (m : Str -> Option Value) (x : Str) (u : Value) : Prop :=
 (env.kindOf x = some .local /\ m x = some u) \/ ((env.kindOf x = some .cell \/ env.kindOf x = some .free) /\ ∃ c, env.cells.lookup x = some c /\ h.IsCell c (some u))
structure Cx.Ok (X : Cx) : Prop where
 mod : Mod X.K X.mg X.base
 kind : X.env.scope.kind = .function
 glob : X.env.globals = mainGlobals
 blt : X.env.builtins = builtinsNs
 above : X.s₀.heap.objs.size <= X.env.locals
 inj : ∀ x y c, X.env.cells.lookup x = some c -> X.env.cells.lookup y = some c -> x = y
 has : ∀ x, (X.env.kindOf x = some .cell \/ X.env.kindOf x = some .free) -> ∃ c, X.env.cells.lookup x = some c
 cab : ∀ x c, X.fn x = true -> X.env.cells.lookup x = some c -> X.s₀.heap.objs.size <= c
 hd : X.calm = true -> X.A.handled = none
 frames : X.A.frames = some X.stack
 stk : X.stack = X.outer \/ (X.stack = X.env :: X.outer /\ X.env.frame = some X.env.locals)
 exf : ∀ b ∈ X.ex, b ≠ X.env.locals /\ ∀ x c, X.env.cells.lookup x = some c -> c ≠ b
 bs : ∀ b o, X.base.get? b = some o -> X.s₀.heap.get? b = some o /\ X.H₀ b = none
 bsz : X.base.objs.size <= X.s₀.heap.objs.size
 noex : ∀ b o, X.base.get? b = some o -> b ∉ X.ex
 exfs : ∀ b ∈ X.ex, b ∉ X.fs
 funs : X.s₀.heap.FunFrames X.base X.outer
 frf : ∀ b ∈ X.fs, X.H₀ b = none
structure Inv (X : Cx) (pins : List (Addr × Obj)) (U : List (Option V)) (H : Hp) (s : Shared) : Prop where
 ok : X.Ok
 os : s.os = X.s₀.os
 bare : AllBare s.gens
 base : Un X.fs X.ex X.H₀ H X.s₀.heap s.heap
 loc : ∃ m, s.heap.Ns X.env.locals m /\ ∀ (i : Nat) (x : Str) (v : V), X.N[i]? = some x -> U[i]? = some (some v) -> Vis X.env.scope x -> ∃ u, JQ v u /\ ZNW X.env s.heap m x u
 cell : ∀ x c, X.env.cells.lookup x = some c -> ∃ v, s.heap.IsCell c v
 free : H X.env.locals = none
 freeC : ∀ x c, X.env.cells.lookup x = some c -> H c = none
 pin : ∀ p ∈ X.pn ++ pins, s.heap.get? p.1 = some p.2 /\ H p.1 = none /\ p.1 ≠ X.env.locals /\ p.1 ∉ X.fs /\ ∀ v, p.2.data ≠ .cell v
 hok : HOk X.prog X.w H s.heap
 len : U.length = X.N.length
section
variable {X : Cx} {pins : List (Addr × Obj)} {U : List (Option V)} {H H' : Hp} {s : Shared} {h' : Heap}
theorem Cx.Ok.nofr (ok : X.Ok) {b : Addr} {o : Obj} (e : X.base.get? b = some o) : b ∉ X.fs := fun hb => by
 have := (ok.funs.mem hb).1
 rw [e] at this; cases this
theorem Inv.bs (I : Inv X pins U H s) : ∀ b o, X.base.get? b = some o -> s.heap.get? b = some o /\ H b = none := fun b o e =>
 ⟨I.base.keep b o (I.ok.bs b o e).1 (I.ok.bs b o e).2 (I.ok.nofr e) (I.ok.noex b o e), I.base.free b o (I.ok.bs b o e).1 (I.ok.bs b o e).2 (I.ok.noex b o e)⟩
theorem Inv.bk (I : Inv X pins U H s) : ∀ b o, X.base.get? b = some o -> s.heap.get? b = some o := fun b o e => (I.bs b o e).1
theorem Inv.mod (I : Inv X pins U H s) : Mod X.K X.mg X.base := I.ok.mod
theorem Inv.kIn (I : Inv X pins U H s) : X.K.In s.heap := I.ok.mod.kin.keeps I.bk
theorem Inv.lt (I : Inv X pins U H s) : X.env.locals < s.heap.objs.size := let ⟨_, hn, _⟩ := I.loc; hn.lt
theorem Inv.sz (I : Inv X pins U H s) : X.s₀.heap.objs.size <= s.heap.objs.size := UP I.ok.above (Nat.le_of_lt I.lt)
theorem Inv.nofs (I : Inv X pins U H s) {a : Addr} (h : s.heap.objs.size <= a) : a ∉ X.fs := fun hb => by
 obtain ⟨_, o, ho, _⟩ := I.ok.funs.mem hb
 exact absurd (Uf (Ug ho) (UP I.sz h)) (Nat.lt_irrefl _)
theorem Inv.cne (I : Inv X pins U H s) : ∀ x c, X.env.cells.lookup x = some c -> c ≠ X.env.locals := fun x c e z => by
 obtain ⟨v, o, ho, hd⟩ := I.cell x c e
 obtain ⟨m, ⟨o', es, ep, ho', hd', _⟩, _⟩ := I.loc
 rw [z, ho'] at ho; cases ho; rw [hd'] at hd; cases hd
theorem Inv.funs (I : Inv X pins U H s) : s.heap.FunFrames X.base X.outer := by
 have all : ∀ (l : List Env), (∀ b ∈ frs l, b ∈ X.fs) -> X.s₀.heap.FunFrames X.base l -> s.heap.FunFrames X.base l := by
  intro l
  induction l with
  | nil => intro _ _; trivial
  | cons env r ih =>
   intro hs hl
   obtain ⟨hk, ⟨L, o, hf, hn, ho, hd⟩, hr⟩ := hl
   have hL : L ∈ X.fs := hs L (by unfold frs; rw [List.filterMap_cons, hf]; exact Us)
   obtain ⟨sl, e⟩ := I.base.slot L o ho (I.ok.frf L hL) hL fun z => I.ok.exfs L z hL
   exact ⟨hk, ⟨L, _, hf, hn, e, hd⟩, ih (fun b hb => hs b (by unfold frs; rw [List.filterMap_cons, hf]; exact Um _ hb)) hr⟩
 exact all X.outer (fun _ hb => hb) I.ok.funs
theorem Inv.stack (I : Inv X pins U H s) : s.heap.FunFrames X.base X.stack := by
 rcases I.ok.stk with e | ⟨e, hf⟩
 ·rw [e]; exact I.funs
 ·rw [e]
  obtain ⟨m, hn, _⟩ := I.loc
  refine .cons (by rw [I.ok.kind]; decide) hf hn ?_ I.funs
  exact Heap.get?_none_of_le (UP I.ok.bsz I.ok.above)
theorem Inv.stkSub (I : Inv X pins U H s) : ∀ b ∈ frs X.stack, b ∈ X.env.locals :: X.fs := fun b hb => by
 rcases I.ok.stk with e | ⟨e, hf⟩
 ·rw [e] at hb; exact Um _ hb
 ·rw [e] at hb
  unfold frs at hb
  rw [List.filterMap_cons, hf] at hb
  exact hb
theorem Inv.stkFree (I : Inv X pins U H s) : ∀ b ∈ frs X.stack, H b = none := fun b hb => by
 rcases Ul.mp (I.stkSub b hb) with e | hb
 ·rw [e]; exact I.free
 ·obtain ⟨_, o, ho, _⟩ := I.ok.funs.mem hb
  exact I.base.free b o ho (I.ok.frf b hb) fun z => I.ok.exfs b z hb
theorem Inv.step {g' : Array GenState} {t' : Nat} {d' : Drawn} {ch : List Addr} (I : Inv X pins U H s)
  (hch : ∀ b ∈ ch, (b ∈ X.ex \/ X.s₀.heap.objs.size <= b) /\ b ≠ X.env.locals /\ (∀ x c, X.env.cells.lookup x = some c -> c ≠ b) /\ ∀ p ∈ X.pn ++ pins, p.1 ≠ b)
  (keep : ∀ b o, b ≠ X.env.locals -> b ∉ X.fs -> b ∉ ch -> s.heap.get? b = some o -> H b = none -> h'.get? b = some o)
  (slot : ∀ b o, b ≠ X.env.locals -> b ∈ X.fs -> b ∉ ch -> s.heap.get? b = some o -> H b = none -> ∃ sl, h'.get? b = some { o with slots := sl }) (free : ∀ b o, b ∉ ch -> s.heap.get? b = some o -> H b = none -> H' b = none)
  (there : ∀ b o, b ∉ ch -> s.heap.get? b = some o -> ∃ o', h'.get? b = some o')
  (tups : ∀ b xs, H b = some (.tup xs) -> H' b = some (.tup xs)) (frzs : ∀ b o u, H b = some (.frz o u) -> H' b = some (.frz o u)) (tbls : ∀ b ps, H b = some (.tbl ps) -> ∃ more, H' b = some (.tbl (ps ++ more)))
  (ns : ∀ m, s.heap.Ns X.env.locals m -> h'.Ns X.env.locals m) (hok : HOk X.prog X.w H' h') (hg : AllBare g') :
  Inv X pins U H' { s with heap := h', gens := g', drawn := d', toks := t' } := by
 have neL : ∀ b o, X.s₀.heap.get? b = some o -> b ≠ X.env.locals := fun b o e => Uk (Uf (Ug e) I.ok.above)
 have neC : ∀ b o, X.s₀.heap.get? b = some o -> b ∉ X.ex -> b ∉ ch := fun b o e hx hb => by
  rcases (hch b hb).1 with z | z
  ·exact hx z
  ·exact absurd (Uf (Ug e) z) (Nat.lt_irrefl _)
 have cellK : ∀ x c, X.env.cells.lookup x = some c -> ∀ v, s.heap.IsCell c v -> h'.IsCell c v := fun x c e v ⟨o, ho, hd⟩ => by
  have nch : c ∉ ch := fun z => (hch c z).2.2.1 x c e rfl
  by_cases hc : c ∈ X.fs
  ·obtain ⟨sl, q⟩ := slot c o (I.cne x c e) hc nch ho (I.freeC x c e)
   exact ⟨_, q, hd⟩
  ·exact ⟨o, keep c o (I.cne x c e) hc nch ho (I.freeC x c e), hd⟩
 refine ⟨I.ok, I.os, hg, ⟨fun b o e n hb hx => ?_, fun b o e n hb hx => ?_, fun b o e n hx => ?_, fun b o e hx => ?_, fun b xs e => tups b xs (I.base.tups b xs e), fun b o xs e => frzs b o xs (I.base.frzs b o xs e), fun b ps e => ?_⟩, ?_, fun x c e => ?_, ?_, fun x c e => ?_, fun p hp => ?_, hok, I.len⟩
 ·exact keep b o (neL b o e) hb (neC b o e hx) (I.base.keep b o e n hb hx) (I.base.free b o e n hx)
 ·obtain ⟨sl, e1⟩ := I.base.slot b o e n hb hx
  obtain ⟨sl', e2⟩ := slot b _ (neL b o e) hb (neC b o e hx) e1 (I.base.free b o e n hx)
  exact ⟨sl', e2⟩
 ·obtain ⟨o', e1⟩ := I.base.there b o e hx
  exact free b o' (neC b o e hx) e1 (I.base.free b o e n hx)
 ·obtain ⟨o', e1⟩ := I.base.there b o e hx
  exact there b o' (neC b o e hx) e1
 ·obtain ⟨m1, e1⟩ := I.base.tbls b ps e
  obtain ⟨m2, e2⟩ := tbls b _ e1
  exact ⟨m1 ++ m2, by rw [e2, Array.append_assoc]⟩
 ·obtain ⟨m, hn, hl⟩ := I.loc
  refine ⟨m, ns m hn, fun i x v e1 e2 e3 => ?_⟩
  obtain ⟨u, r, l⟩ := hl i x v e1 e2 e3
  refine ⟨u, r, ?_⟩
  rcases l with l | ⟨k, c, e, z⟩
  ·exact .inl l
  ·exact .inr ⟨k, c, e, cellK x c e _ z⟩
 ·obtain ⟨v, z⟩ := I.cell x c e
  exact ⟨v, cellK x c e v z⟩
 ·obtain ⟨m, ⟨o, _, _, ho, _⟩, _⟩ := I.loc
  exact free _ o (fun z => (hch _ z).2.1 rfl) ho I.free
 ·obtain ⟨v, o, ho, hd⟩ := I.cell x c e
  exact free c o (fun z => (hch c z).2.2.1 x c e rfl) ho (I.freeC x c e)
 ·obtain ⟨e, n, ne, nf, d⟩ := I.pin p hp
  have nch : p.1 ∉ ch := fun z => (hch p.1 z).2.2.2 p hp rfl
  exact ⟨keep p.1 p.2 ne nf nch e n, free p.1 p.2 nch e n, ne, nf, d⟩
theorem Inv.un {t' : Nat} (I : Inv X pins U H s) (u : Un X.fs [] H H' s.heap h') (hok : HOk X.prog X.w H' h') : Inv X pins U H' { s with heap := h', toks := t' } := by
 obtain ⟨m, ⟨o, es, ep, ho, r⟩, _⟩ := id I.loc
 obtain ⟨sl, hL⟩ := u.any ho I.free (by simp)
 exact I.step (g' := s.gens) (d' := s.drawn) (ch := []) (fun _ z => nomatch z) (fun b o _ hb _ e n => u.keep b o e n hb (by simp)) (fun b o _ hb _ e n => u.slot b o e n hb (by simp)) (fun b o _ e n => u.free b o e n (by simp)) (fun b o _ e => u.there b o e (by simp)) u.tups u.frzs u.tbls (fun m' hm => by
  obtain ⟨o', es', ep', ho', r'⟩ := hm
  rw [ho] at ho'; cases ho'
  exact ⟨_, es', ep', hL, r'⟩) hok I.bare
theorem Inv.call {g' : Array GenState} {t' : Nat} {d' : Drawn} {ch : List Addr} (I : Inv X pins U H s) (u : Un (frs X.stack) ch H H' s.heap h') (hok : HOk X.prog X.w H' h') (hg : AllBare g')
  (hch : ∀ b ∈ ch, (b ∈ X.ex \/ X.s₀.heap.objs.size <= b) /\ b ≠ X.env.locals /\ (∀ x c, X.env.cells.lookup x = some c -> c ≠ b) /\ ∀ p ∈ X.pn ++ pins, p.1 ≠ b) :
  Inv X pins U H' { s with heap := h', gens := g', drawn := d', toks := t' } := by
 obtain ⟨m, ⟨o, es, ep, ho, r⟩, _⟩ := id I.loc
 obtain ⟨sl, hL⟩ := u.any ho I.free fun z => (hch _ z).2.1 rfl
 exact I.step (ch := ch) hch (fun b o hL hb hc e n => u.keep b o e n (fun z => (Ul.mp (I.stkSub b z)).elim hL hb) hc) (fun b o _ _ hc e n => u.any e n hc) (fun b o hc e n => u.free b o e n hc) (fun b o hc e => u.there b o e hc) u.tups u.frzs u.tbls (fun m' hm => by
  obtain ⟨o', es', ep', ho', r'⟩ := hm
  rw [ho] at ho'; cases ho'
  exact ⟨_, es', ep', hL, r'⟩) hok hg
theorem Inv.turned {t' : Nat} {it : Addr} (I : Inv X pins U H s) (k : ∀ b o, b ≠ it -> s.heap.get? b = some o -> h'.get? b = some o) (hn : H it = none) (hL : it ≠ X.env.locals)
  (h1 : it ∈ X.ex \/ X.s₀.heap.objs.size <= it) (h2 : ∀ x c, X.env.cells.lookup x = some c -> c ≠ it) (h3 : ∀ p ∈ X.pn ++ pins, p.1 ≠ it) : Inv X pins U H { s with heap := h', toks := t' } := by
 have nit : ∀ b u, H b = some u -> b ≠ it := fun b u e z => by rw [z, hn] at e; cases e
 refine I.step (g' := s.gens) (d' := s.drawn) (ch := [it]) (fun b hb => ?_) (fun b o _ _ hc e _ => k b o (fun z => hc (by simp [z])) e) (fun b o _ _ hc e _ => ⟨o.slots, k b o (fun z => hc (by simp [z])) e⟩) (fun _ _ _ _ n => n)
  (fun b o hc e => ⟨o, k b o (fun z => hc (by simp [z])) e⟩) (fun _ _ e => e) (fun _ _ _ e => e) (fun b ps e => ⟨#[], by rw [e]; simp⟩) (fun m hm => ?_) (fun b u e => ?_) I.bare
 ·have e : b = it := by simpa using hb
  subst e
  exact ⟨h1, hL, h2, h3⟩
 ·obtain ⟨o, es, ep, ho, r⟩ := hm
  exact ⟨o, es, ep, k _ o (Ne.symm hL) ho, r⟩
 ·refine (I.hok b u e).stay (fun c v hc q => k c v ?_ q) (fun _ q => q) fun _ _ q => q
  rcases hc with z | z
  ·rw [z]; exact nit b u e
  ·exact nit c _ z
theorem Inv.tok (I : Inv X pins U H s) (t : Nat) : Inv X pins U H { s with toks := t } := I.un (h' := s.heap) (t' := t) Un.refl I.hok
theorem Inv.kept {t' : Nat} (I : Inv X pins U H s) (k : ∀ b u, s.heap.get? b = some u -> h'.get? b = some u) : Inv X pins U H { s with heap := h', toks := t' } := I.un (Un.kept k) (I.hok.kept k)
theorem Inv.laid {a : Addr} {o : HO} {t' : Nat} (I : Inv X pins U H s) (k : ∀ b u, s.heap.get? b = some u -> h'.get? b = some u) (hp : s.heap.objs.size <= a) (new : Jo X.prog X.w (upd H a o) h' a o) :
 Inv X pins U (upd H a o) { s with heap := h', toks := t' } := I.un (Un.laid k hp (I.hok.fresh hp)) (I.hok.laid k hp new)
theorem Inv.write {x e : Addr} {o : HO} {t' : Nat} (I : Inv X pins U H s) (mu : Mut (H x)) (he : e = x \/ H e = some (.own x)) (k : ∀ b u, b ≠ e -> s.heap.get? b = some u -> h'.get? b = some u) (heo : ∃ u, h'.get? e = some u)
 (new : Jo X.prog X.w (upd H x o) h' x o) : Inv X pins U (upd H x o) { s with heap := h', toks := t' } := I.un (Un.write mu he k heo) (I.hok.write mu he k heo new)
theorem Inv.pins_of {pins' : List (Addr × Obj)} (I : Inv X pins U H s) (h : ∀ p ∈ pins', s.heap.get? p.1 = some p.2 /\ H p.1 = none /\ p.1 ≠ X.env.locals /\ p.1 ∉ X.fs /\ ∀ v, p.2.data ≠ .cell v) : Inv X pins' U H s :=
 ⟨I.ok, I.os, I.bare, I.base, I.loc, I.cell, I.free, I.freeC, fun p hp => (Va.mp hp).elim (fun z => I.pin p (List.mem_append_left _ z)) (h p), I.hok, I.len⟩
theorem ZEp {N : List Str} (hN : N.Nodup) {i j : Nat} {x : Str} (a : N[i]? = some x) (b : N[j]? = some x) : i = j := by
 obtain ⟨h1, e1⟩ := UC.mp a
 obtain ⟨h2, e2⟩ := UC.mp b
 exact (List.getElem_inj hN).mp (e1.trans e2.symm)
theorem ZD4 {M : Model} {A : Around} {E : Value -> Shared -> Prop} {i : Nat} {x : Str} {v : V} {u : Value} {Q : Unit -> Shared -> Prop} (I : Inv X pins U H s) (hN : X.N.Nodup) (hi : X.N[i]? = some x) (hx : Loc X.env.scope x) (r : JQ v u)
  (h : ∀ s', Inv X pins (U.set i (some v)) H s' -> (∃ a, Heap.SameBut a s.heap s'.heap /\ (a = X.env.locals \/ X.env.cells.lookup x = some a)) -> Q () s') (hf : X.fn x = true \/ X.env.scope.names.lookup x = some .local := by first | exact .inl rfl | exact .inr rfl | assumption) : wpAny M A (storeName X.env x u) Q E s := by
 obtain ⟨m, hn, hl⟩ := id I.loc
 have hcls : (X.env.scope.kind == .class || (X.env.scope.kind == .module && X.env.locals != X.env.globals)) = false := by rw [I.ok.kind]; rfl
 have hiσ : i < U.length := by rw [I.len]; exact (UC.mp hi).1
 have cne := I.cne
 have tracked : ∀ {a : Addr} {h' : Heap}, (∃ o, s.heap.get? a = some o /\ H a = none) -> Heap.SameBut a s.heap h' -> HOk X.prog X.w H h' := fun {a h'} ha hs b ob e => by
  obtain ⟨_, _, hfree⟩ := ha
  refine (I.hok b ob e).stay (fun c w' hc q => (hs.2 c ?_).trans q) (fun _ q => q) fun _ _ q => q
  rintro rfl
  rcases hc with rfl | hc
  ·rw [hfree] at e; cases e
  ·rw [hfree] at hc; cases hc
 rcases hx with hk | hk
 ·refine wpAny_storeName_local hk hn (fun h' hn' hs => ?_) hcls
  obtain ⟨oL, _, _, hoL, _⟩ := id hn
  refine h _ ⟨I.ok, I.os, I.bare, ⟨fun b o e n hb hx => ?_, fun b o e n hb hx => ?_, I.base.free, fun b o e hx => ?_, I.base.tups, I.base.frzs, I.base.tbls⟩, ⟨_, hn', fun j y v' e1 e2 e3 => ?_⟩, fun y c e => ?_, I.free, I.freeC, fun p hp => ?_, tracked ⟨oL, hoL, I.free⟩ hs, by simpa using I.len⟩ ⟨_, hs, .inl rfl⟩
  ·exact (hs.2 b (Uk (Uf (Ug e) I.ok.above))).trans (I.base.keep b o e n hb hx)
  ·obtain ⟨sl, e1⟩ := I.base.slot b o e n hb hx
   exact ⟨sl, (hs.2 b (Uk (Uf (Ug e) I.ok.above))).trans e1⟩
  ·obtain ⟨o', e1⟩ := I.base.there b o e hx
   exact ⟨o', (hs.2 b (Uk (Uf (Ug e) I.ok.above))).trans e1⟩
  ·by_cases hj : j = i
   ·subst hj
    rw [hi] at e1; cases e1
    rw [List.getElem?_set_self hiσ] at e2
    cases e2
    exact ⟨u, r, .inl ⟨hk, by simp⟩⟩
   ·rw [List.getElem?_set_ne (Ne.symm hj)] at e2
    obtain ⟨u', r', q⟩ := hl j y v' e1 e2 e3
    refine ⟨u', r', ?_⟩
    rcases q with ⟨k, e⟩ | ⟨k, c, e, z⟩
    ·refine .inl ⟨k, ?_⟩
     have : y ≠ x := fun e => hj (ZEp hN e1 (e ▸ hi))
     simp [this, e]
    ·exact .inr ⟨k, c, e, z.sameBut hs (cne y c e)⟩
  ·obtain ⟨w', z⟩ := I.cell y c e
   exact ⟨w', z.sameBut hs (cne y c e)⟩
  ·obtain ⟨e, n, ne, nf, d⟩ := I.pin p hp
   exact ⟨(hs.2 p.1 ne).trans e, n, ne, nf, d⟩
 ·have hfn : X.fn x = true := by
   rcases hf with z | z
   ·exact z
   ·rw [z] at hk; cases hk
  obtain ⟨c, hc⟩ := I.ok.has x (.inl hk)
  obtain ⟨w', z⟩ := I.cell x c hc
  refine wpAny_storeName_cell I.ok.kind hk hc z (fun h' hc' hs => ?_)
  obtain ⟨oc, hoc, hocd⟩ := id z
  refine h { s with heap := h' } ⟨I.ok, I.os, I.bare, ⟨fun b o e n hb hx => ?_, fun b o e n hb hx => ?_, I.base.free, fun b o e hx => ?_, I.base.tups, I.base.frzs, I.base.tbls⟩, ⟨m, hn.sameBut hs (Ne.symm (cne x c hc)), fun j y v' e1 e2 e3 => ?_⟩, fun y c' e => ?_, I.free, I.freeC, fun p hp => ?_, tracked ⟨oc, hoc, I.freeC x c hc⟩ hs, by simpa using I.len⟩ ⟨c, hs, .inr hc⟩
  ·exact (hs.2 b (Uk (Uf (Ug e) (I.ok.cab x c hfn hc)))).trans (I.base.keep b o e n hb hx)
  ·obtain ⟨sl, e1⟩ := I.base.slot b o e n hb hx
   exact ⟨sl, (hs.2 b (Uk (Uf (Ug e) (I.ok.cab x c hfn hc)))).trans e1⟩
  ·obtain ⟨o', e1⟩ := I.base.there b o e hx
   exact ⟨o', (hs.2 b (Uk (Uf (Ug e) (I.ok.cab x c hfn hc)))).trans e1⟩
  ·by_cases hj : j = i
   ·subst hj
    rw [hi] at e1; cases e1
    rw [List.getElem?_set_self hiσ] at e2
    cases e2
    exact ⟨u, r, .inr ⟨.inl hk, c, hc, hc'⟩⟩
   ·rw [List.getElem?_set_ne (Ne.symm hj)] at e2
    obtain ⟨u', r', q⟩ := hl j y v' e1 e2 e3
    refine ⟨u', r', ?_⟩
    rcases q with q | ⟨k, c', e, z'⟩
    ·exact .inl q
    ·refine .inr ⟨k, c', e, z'.sameBut hs ?_⟩
     rintro rfl
     exact hj (ZEp hN e1 (I.ok.inj _ _ _ e hc ▸ hi))
  ·by_cases hcc : c' = c
   ·subst hcc; exact ⟨_, hc'⟩
   ·obtain ⟨w2, z2⟩ := I.cell y c' e
    exact ⟨w2, z2.sameBut hs hcc⟩
  ·obtain ⟨e, n, ne, nf, d⟩ := I.pin p hp
   refine ⟨(hs.2 p.1 ?_).trans e, n, ne, nf, d⟩
   intro q
   rw [q, hoc] at e
   have q' : oc = p.2 := Option.some.inj e
   exact d w' (by rw [<- q']; exact hocd)
theorem ZEq {M : Model} {A : Around} {E : Value -> Shared -> Prop} {i : Nat} {x : Str} {v : V} {u : Value} {Q : Unit -> Shared -> Prop} (I : Inv X pins U H s) (hN : X.N.Nodup) (hi : X.N[i]? = some x) (hx : Loc X.env.scope x) (r : JQ v u)
  (h : ∀ s', Inv X pins (U.set i (some v)) H s' -> Q () s') (hf : X.fn x = true \/ X.env.scope.names.lookup x = some .local := by first | exact .inl rfl | exact .inr rfl | assumption) : wpAny M A (storeName X.env x u) Q E s :=
 ZD4 I hN hi hx r (fun s' I' _ => h s' I') hf
theorem Inv.call' {s' : Shared} {ch : List Addr} (I : Inv X pins U H s) (ho : s'.os = s.os) (u : Un (frs X.stack) ch H H' s.heap s'.heap) (hok : HOk X.prog X.w H' s'.heap) (hg : AllBare s'.gens)
  (hch : ∀ b ∈ ch, (b ∈ X.ex \/ X.s₀.heap.objs.size <= b) /\ b ≠ X.env.locals /\ (∀ x c, X.env.cells.lookup x = some c -> c ≠ b) /\ ∀ p ∈ X.pn ++ pins, p.1 ≠ b) : Inv X pins U H' s' := by
 obtain ⟨h', g', d', t', o'⟩ := s'
 have e : o' = s.os := ho
 subst e
 exact I.call (g' := g') (t' := t') (d' := d') u hok hg hch
end
abbrev XK := Value -> Option Addr -> Hp -> Prop
abbrev St := List (Option V)
abbrev VK := V -> Hp -> Prop
abbrev TE := St -> Hp -> VK -> Prop
abbrev TT := St -> Hp -> (Bool -> Hp -> Prop) -> Prop
abbrev TA := St -> Hp -> (List V -> Hp -> Prop) -> Prop
structure J8 where
 nx : St -> Hp -> Prop
 rt : VK
 bk : St -> Hp -> Prop := fun _ _ => False
 ct : St -> Hp -> Prop := fun _ _ => False
abbrev TS := J8 -> St -> Hp -> Prop
def EP (X : Cx) (pins : List (Addr × Obj)) (U : St) (Q : VK) (u : Value) (s' : Shared) : Prop := ∃ v H', Inv X pins U H' s' /\ JQ v u /\ Q v H'
def TP (X : Cx) (pins : List (Addr × Obj)) (U : St) (Q : Bool -> Hp -> Prop) (b : Bool) (s' : Shared) : Prop := ∃ H', Inv X pins U H' s' /\ Q b H'
def AP (X : Cx) (pins : List (Addr × Obj)) (U : St) (Q : List V -> Hp -> Prop) (us : List Value) (s' : Shared) : Prop := ∃ vs H', Inv X pins U H' s' /\ JP vs us /\ Q vs H'
def SP (X : Cx) (pins : List (Addr × Obj)) (D : J8) (f : Flow) (s' : Shared) : Prop :=
 match f with
 | .next => ∃ U' H', Inv X pins U' H' s' /\ D.nx U' H'
 | .brk => ∃ U' H', Inv X pins U' H' s' /\ D.bk U' H'
 | .cont => ∃ U' H', Inv X pins U' H' s' /\ D.ct U' H'
 | .ret u => ∃ v U' H', Inv X pins U' H' s' /\ JQ v u /\ D.rt v H'
def PE (X : Cx) (e : Expr) (t : TE) : Prop :=
 ∀ (pins : List (Addr × Obj)) (s : Shared) (U : St) (H : Hp) (Q : VK), Inv X pins U H s -> t U H Q -> wpAny (model X.prog X.w) X.A (eval e X.env) (EP X pins U Q) X.xe s
def PT (X : Cx) (e : Expr) (t : TT) : Prop :=
 ∀ (pins : List (Addr × Obj)) (s : Shared) (U : St) (H : Hp) (Q : Bool -> Hp -> Prop), Inv X pins U H s -> t U H Q -> wpAny (model X.prog X.w) X.A (isTrue e X.env (eval e X.env)) (TP X pins U Q) X.xe s
def PW (X : Cx) (e : Expr) (t : TT) : Prop :=
 ∀ (whole : Sem Value) (pins : List (Addr × Obj)) (s : Shared) (U : St) (H : Hp) (Q : Bool -> Hp -> Prop), Inv X pins U H s -> t U H Q -> wpAny (model X.prog X.w) X.A (isTrue e X.env whole) (TP X pins U Q) X.xe s
theorem PW.pt {X : Cx} {e : Expr} {t : TT} (h : PW X e t) : PT X e t := h _
def PA (X : Cx) (es : List Expr) (t : TA) : Prop :=
 ∀ (pos : Pos) (pins : List (Addr × Obj)) (s : Shared) (U : St) (H : Hp) (Q : List V -> Hp -> Prop), Inv X pins U H s -> t U H Q -> wpAny (model X.prog X.w) X.A (spliced (backTo pos (starEach es X.env))) (AP X pins U Q) X.xe s
def PS (X : Cx) (st : Stmt) (t : TS) : Prop :=
 ∀ (pins : List (Addr × Obj)) (s : Shared) (U : St) (H : Hp) (D : J8), Inv X pins U H s -> t D U H -> wpAny (model X.prog X.w) X.A (exec st X.env) (SP X pins D) X.xe s
def PSs (X : Cx) (st : List Stmt) (t : TS) : Prop :=
 ∀ (pins : List (Addr × Obj)) (s : Shared) (U : St) (H : Hp) (D : J8), Inv X pins U H s -> t D U H -> wpAny (model X.prog X.w) X.A (execs st X.env) (SP X pins D) X.xe s
theorem thn {α : Type} {t : Sem α} {Q Q' : α -> Shared -> Prop} {M : Model} {A : Around} {E : Value -> Shared -> Prop} {s : Shared} (h : wpAny M A t Q E s) (hQ : ∀ a s, Q a s -> Q' a s) : wpAny M A t Q' E s := UA h hQ fun _ _ x => x
section
variable {X : Cx}
def ZIa (i : Nat) : TE := fun U H Q => ∃ v, U[i]? = some (some v) /\ Q v H
def tC (v : V) : TE := fun _ H Q => Q v H
theorem ZLe {i : Nat} {x : Str} {pos : Pos} (hN : X.N[i]? = some x) (hv : Vis X.env.scope x) (hd : (x == ("__debug__" : Str)) = false := by decide) (hcd : (x == ("__classdict__" : Str)) = false := by decide) : PE X (.Name x pos) (ZIa i) := by
 intro pins s U H Q I h
 obtain ⟨v, e, h⟩ := h
 obtain ⟨m, hn, hl⟩ := I.loc
 obtain ⟨u, r, l⟩ := hl i x v hN e hv
 have fin : EP X pins U Q u s := ⟨v, H, I, r, h⟩
 rcases l with ⟨hk, hm⟩ | ⟨hk, c, hc, hcell⟩
 ·exact wpAny_Name (wpAny_loadName_local I.ok.kind hk hn hm fin) hd
 ·rcases hk with hk | hk
  ·exact wpAny_Name (wpAny_loadName_cell I.ok.kind hk hc hcell fin) hd
  ·exact wpAny_Name (wpAny_loadName_free I.ok.kind hk hc hcell fin hcd) hd
theorem ZLf {i j pos} : PE X (.Constant (.int i) j pos) (tC (.int i)) := fun _ _ _ H _ I h => wpAny_Constant_int ⟨.int i, H, I.tok _, ⟨_, rfl⟩, h⟩
theorem ZM4 {b j pos} : PE X (.Constant (.bool b) j pos) (tC (.bl b)) := fun _ _ _ H _ I h => Constant_bool ⟨.bl b, H, I, rfl, h⟩
def Gl (X : Cx) (x : Str) : Prop := X.env.kindOf x = some .globalImplicit
theorem ZKG {E : Value -> Shared -> Prop} {pins : List (Addr × Obj)} {s : Shared} {U : St} {H : Hp} {x : Str} {u : Value} {pos : Pos} {Q : Value -> Shared -> Prop} (I : Inv X pins U H s) (hg : Gl X x) (hm : X.mg x = some u) (h : Q u s)
  (hd : (x == ("__debug__" : Str)) = false := by decide) : wpAny (model X.prog X.w) X.A (eval (.Name x pos) X.env) Q E s :=
 Calls.Name_function_global I.ok.kind hg (Calls.loadGlobal_global (by rw [I.ok.glob]; exact I.mod.glob.keeps I.bk) hm h) hd
theorem ZAt {E : Value -> Shared -> Prop} {pins : List (Addr × Obj)} {s : Shared} {U : St} {H : Hp} {x : Str} {u : Value} {pos : Pos} {Q : Value -> Shared -> Prop} (I : Inv X pins U H s) (hg : Gl X x) (hm : X.mg x = none) (hv : bootBuiltins x = some u) (h : Q u s)
  (hn : x ≠ "__name__" := by decide) (hd : (x == ("__debug__" : Str)) = false := by decide) : wpAny (model X.prog X.w) X.A (eval (.Name x pos) X.env) Q E s := by
 obtain ⟨mb, h1, h2⟩ := I.mod.blt
 exact Calls.Name_function_global I.ok.kind hg (Calls.loadGlobal_builtin (by rw [I.ok.glob]; exact I.mod.glob.keeps I.bk) hm (by rw [I.ok.blt]; exact h1.keeps I.bk) ((h2 x hn).trans hv) h) hd
theorem ZKH {x : Str} {v : V} {u : Value} {pos : Pos} (hg : Gl X x) (hm : X.mg x = none) (hv : bootBuiltins x = some u) (r : JQ v u) (hn : x ≠ "__name__" := by decide) (hd : (x == ("__debug__" : Str)) = false := by decide) : PE X (.Name x pos) (tC v) :=
 fun _ _ _ H _ I h => ZAt I hg hm hv ⟨v, H, I, r, h⟩ hn hd
variable {a b : Expr} {ta tb : TE} {pos : Pos}
def tB (t : TE) : TT := fun U H Q => t U H fun x H1 => ∃ c, x = .bl c /\ Q c H1
theorem ZLg {e : Expr} {t : TE} (h : PE X e t) (he : ∀ whole, isTrue e X.env whole = (do let v <- whole; standAt e.pos; holding [v] (truthy v)) := by intro _; rfl) : PT X e (tB t) := by
 intro pins s U H Q I hw
 refine isTrue_plain (thn (h pins s U H _ I hw) fun v s1 ⟨x, H1, I1, r1, q1⟩ => ?_) (he _)
 obtain ⟨d, rfl, q⟩ := q1
 cases r1
 exact wpAny_truthy_bool ⟨H1, I1, q⟩
variable {tA tB' : TT} {Js : List Expr}
def ZIb (t u : TT) : TT := fun U H Q => t U H fun c H1 => if c = true then u U H1 Q else Q false H1
def tOr (t u : TT) : TT := fun U H Q => t U H fun c H1 => if c = true then Q true H1 else u U H1 Q
def ZIc (t : TT) : TT := fun U H Q => t U H fun c H1 => Q (!c) H1
theorem ZKI (ha : PT X a tA) : PW X (.BoolOp .And [a] pos) tA := by
 intro wh pins s U H Q I h
 refine isTrue_and (thn (ha pins s U H Q I h) fun c s1 e => ?_)
 cases c with
 | true => exact isTrue_and_nil e
 | false => exact e
theorem ZLh (ha : PT X a tA) : PW X (.BoolOp .Or [a] pos) tA := by
 intro wh pins s U H Q I h
 refine isTrue_or (thn (ha pins s U H Q I h) fun c s1 e => ?_)
 cases c with
 | false => exact isTrue_or_nil e
 | true => exact e
theorem ZLi (ha : PT X a tA) (hb : PW X (.BoolOp .And (b :: Js) pos) tB') : PW X (.BoolOp .And (a :: b :: Js) pos) (ZIb tA tB') := by
 intro wh pins s U H Q I h
 refine isTrue_and (thn (ha pins s U H _ I h) fun c s1 ⟨H1, I1, q1⟩ => ?_)
 cases c with
 | true => exact hb wh pins s1 U H1 Q I1 q1
 | false => exact ⟨H1, I1, q1⟩
theorem ZM5 (ha : PT X a tA) (hb : PW X (.BoolOp .Or (b :: Js) pos) tB') : PW X (.BoolOp .Or (a :: b :: Js) pos) (tOr tA tB') := by
 intro wh pins s U H Q I h
 refine isTrue_or (thn (ha pins s U H _ I h) fun c s1 ⟨H1, I1, q1⟩ => ?_)
 cases c with
 | true => exact ⟨H1, I1, q1⟩
 | false => exact hb wh pins s1 U H1 Q I1 q1
theorem ZLj (ha : PT X a tA) : PT X (.UnaryOp .Not a pos) (ZIc tA) := by
 intro pins s U H Q I h
 exact isTrue_not (ha pins s U H (fun c H1 => Q (!c) H1) I h)
def ZGY (ta tb : TE) : TE := fun U H Q => ta U H fun x H1 => ∃ c, x = .bl c /\ if c = true then tb U H1 Q else Q (.bl false) H1
def ZGZ (ta : TE) : TE := fun U H Q => ta U H fun x H1 => ∃ c, x = .bl c /\ Q (.bl (!c)) H1
theorem ZLk {op} {t : TE} (h : PE X a t) : PE X (.BoolOp op [a] pos) t := fun pins s U H Q I hw => BoolOp_one (h pins s U H Q I hw)
theorem ZLl (ha : PE X a ta) (hb : PE X (.BoolOp .And (b :: Js) pos) tb) : PE X (.BoolOp .And (a :: b :: Js) pos) (ZGY ta tb) := by
 intro pins s U H Q I h
 refine BoolOp_and (thn (ha pins s U H _ I h) fun v s1 ⟨x, H1, I1, r1, q1⟩ => ?_)
 obtain ⟨c, rfl, q1⟩ := q1
 cases r1
 refine wpAny_truthy_bool ?_
 cases c with
 | true => exact hb pins s1 U H1 Q I1 q1
 | false => exact ⟨.bl false, H1, I1, rfl, q1⟩
theorem ZLm (ha : PE X a ta) : PE X (.UnaryOp .Not a pos) (ZGZ ta) := by
 intro pins s U H Q I h
 refine UnaryOp_ (thn (ha pins s U H _ I h) fun v s1 ⟨x, H1, I1, r1, q1⟩ => ?_)
 obtain ⟨c, rfl, q1⟩ := q1
 cases r1
 exact not_of (wpAny_truthy_bool ⟨.bl (!c), H1, I1, rfl, q1⟩)
def tIf (t : TT) (ta tb : TE) : TE := fun U H Q => t U H fun c H1 => if c = true then ta U H1 Q else tb U H1 Q
theorem ZId {c : Expr} (hc : PT X c tA) (ha : PE X a ta) (hb : PE X b tb) : PE X (.IfExp c a b pos) (tIf tA ta tb) := by
 intro pins s U H Q I h
 refine wpAny_IfExp (thn (hc pins s U H _ I h) fun d s1 ⟨H1, I1, q1⟩ => ?_)
 cases d with
 | true => exact ha pins s1 U H1 Q I1 q1
 | false => exact hb pins s1 U H1 Q I1 q1
end
def SqL (K : W.Frag) (H : Hp) (a : Addr) (xs : List V) : Prop :=
 Rd H a (.lst xs) \/
  ∃ (o : Obj) (its : Array Value) (n : Nat), K.lookup a = some o /\ o.cls = .type "list" /\ o.dict = none /\ o.data = .seq its n /\ its.size <= sizeLine /\ JP xs its.toList
def SqT (K : W.Frag) (H : Hp) (a : Addr) (xs : List V) : Prop :=
 Rd H a (.tup xs) \/
  ∃ (o : Obj) (its : Array Value) (n : Nat), K.lookup a = some o /\ o.cls = .type "tuple" /\ o.data = .seq its n /\ its.size <= sizeLine /\ JP xs its.toList
def ZNX : Value -> Option V
 | .none => some .non
 | .bool b => some (.bl b)
 | .int i _ => some (.int i)
 | .str x _ => some (.str x)
 | .bytes b _ => some (.byt b)
 | .float b _ => some (.flt b)
 | .ref a => some (.ref a)
 | .type n => some (.ty n)
 | _ => none
theorem JQ.abs {x : V} {u : Value} (r : JQ x u) : ZNX u = some x := by
 cases x with
 | non => cases r; rfl
 | bl _ => cases r; rfl
 | int _ => obtain ⟨t, rfl⟩ := r; rfl
 | str _ => obtain ⟨t, rfl⟩ := r; rfl
 | byt _ => obtain ⟨t, rfl⟩ := r; rfl
 | flt _ => obtain ⟨t, rfl⟩ := r; rfl
 | ref _ => cases r; rfl
 | ty _ => cases r; rfl
theorem JQ.inj {x y : V} {u : Value} (r : JQ x u) (q : JQ y u) : x = y := Option.some.inj (r.abs.symm.trans q.abs)
theorem JP.inj : ∀ {xs ys : List V} {us : List Value}, JP xs us -> JP ys us -> xs = ys
 | _, _, _, .nil, .nil => rfl
 | _, _, _, .cons r t, .cons r' t' => by rw [r.inj r', JP.inj t t']
section
variable {X : Cx} {pins : List (Addr × Obj)} {U : St} {H : Hp} {s : Shared} {a : Addr} {xs ys : List V}
theorem SqL.of {K : W.Frag} (h : H a = some (.lst xs)) : SqL K H a xs := .inl (.inl h)
theorem SqT.of {K : W.Frag} (h : H a = some (.tup xs)) : SqT K H a xs := .inl (.inl h)
theorem Inv.list (I : Inv X pins U H s) (h : SqL X.K H a xs) : ∃ its : List Value, JP xs its /\ PlainL s.heap a its.toArray /\ xs.length <= sizeLine := by
 rcases h with h | ⟨o, its, n, hk, hc, hd, hs, hz, r⟩
 ·obtain ⟨z, its, n, r, e⟩ := h.ok I.hok
  exact ⟨its, r, ⟨_, n, e, rfl, rfl, rfl⟩, z⟩
 ·refine ⟨its.toList, r, ⟨o, n, I.kIn a o hk, hc, hd, by simpa using hs⟩, ?_⟩
  have e := r.length
  simp only [Ui] at e
  omega
theorem Inv.tuple (I : Inv X pins U H s) (h : SqT X.K H a xs) : ∃ its : List Value, JP xs its /\ IsTup s.heap a its.toArray /\ xs.length <= sizeLine := by
 rcases h with h | ⟨o, its, n, hk, hc, hs, hz, r⟩
 ·obtain ⟨z, its, r, p⟩ := h.ok I.hok
  exact ⟨its, r, p, z.1⟩
 ·refine ⟨its.toList, r, ⟨o, I.kIn a o hk, hc, n, by simpa using hs⟩, ?_⟩
  have e := r.length
  simp only [Ui] at e
  omega
theorem Inv.list_inj (I : Inv X pins U H s) (h : SqL X.K H a xs) (h' : SqL X.K H a ys) : xs = ys := by
 obtain ⟨its, r, ⟨o, n, e, _, _, d⟩, _⟩ := I.list h
 obtain ⟨its', r', ⟨o', n', e', _, _, d'⟩, _⟩ := I.list h'
 rw [e] at e'; cases e'
 rw [d] at d'
 injection d' with d1 _
 have : its = its' := by simpa using congrArg Array.toList d1
 subst this
 exact r.inj r'
theorem Inv.tuple_inj (I : Inv X pins U H s) (h : SqT X.K H a xs) (h' : SqT X.K H a ys) : xs = ys := by
 obtain ⟨its, r, ⟨o, e, _, n, d⟩, _⟩ := I.tuple h
 obtain ⟨its', r', ⟨o', e', _, n', d'⟩, _⟩ := I.tuple h'
 rw [e] at e'; cases e'
 rw [d] at d'
 injection d' with d1 _
 have : its = its' := by simpa using congrArg Array.toList d1
 subst this
 exact r.inj r'
end
abbrev Cx.wish (X : Cx) (E : Value -> Shared -> Prop) : Cx := { X with xe := E }
abbrev Cx.nox (X : Cx) : Cx := X.wish fun _ _ => False
theorem Cx.Ok.wish {X : Cx} (ok : X.Ok) (E : Value -> Shared -> Prop) : (X.wish E).Ok :=
 ⟨ok.mod, ok.kind, ok.glob, ok.blt, ok.above, ok.inj, ok.has, ok.cab, ok.hd, ok.frames, ok.stk, ok.exf, ok.bs, ok.bsz, ok.noex, ok.exfs, ok.funs, ok.frf⟩
theorem Cx.Ok.unwish {X : Cx} {E : Value -> Shared -> Prop} (ok : (X.wish E).Ok) : X.Ok :=
 ⟨ok.mod, ok.kind, ok.glob, ok.blt, ok.above, ok.inj, ok.has, ok.cab, ok.hd, ok.frames, ok.stk, ok.exf, ok.bs, ok.bsz, ok.noex, ok.exfs, ok.funs, ok.frf⟩
section
variable {X : Cx} {pins : List (Addr × Obj)} {U : St} {H : Hp} {s : Shared} {E : Value -> Shared -> Prop}
theorem Inv.wish (I : Inv X pins U H s) (E : Value -> Shared -> Prop) : Inv (X.wish E) pins U H s := ⟨I.ok.wish E, I.os, I.bare, I.base, I.loc, I.cell, I.free, I.freeC, I.pin, I.hok, I.len⟩
theorem Inv.unwish (I : Inv (X.wish E) pins U H s) : Inv X pins U H s := ⟨I.ok.unwish, I.os, I.bare, I.base, I.loc, I.cell, I.free, I.freeC, I.pin, I.hok, I.len⟩
theorem SP.unwish {D : J8} {f : Flow} {s' : Shared} (h : SP (X.wish E) pins D f s') : SP X pins D f s' := by
 cases f with
 | next => obtain ⟨U', H', I, q⟩ := h; exact ⟨U', H', I.unwish, q⟩
 | brk => obtain ⟨U', H', I, q⟩ := h; exact ⟨U', H', I.unwish, q⟩
 | cont => obtain ⟨U', H', I, q⟩ := h; exact ⟨U', H', I.unwish, q⟩
 | ret u => obtain ⟨v, U', H', I, r, q⟩ := h; exact ⟨v, U', H', I.unwish, r, q⟩
theorem PSs.nox {st : List Stmt} {t : TS} (h : PSs X.nox st t) : PSs X st t := fun pins s U H D I hw =>
 UA (h pins s U H D (I.wish _) hw) (fun _ _ q => q.unwish) fun _ _ z => False.elim z
end
section
variable {X : Cx} {st : Stmt} {Js : List Stmt} {t u : TS} {e : Expr} {te : TE} {pos : Pos}
def ZGa : TS := fun D U H => D.nx U H
def ZIe (t u : TS) : TS := fun D U H => t { D with nx := u D } U H
theorem ZKJ : PSs X [] ZGa := fun _ _ U H _ I h => wpAny_execs_nil ⟨U, H, I, h⟩
theorem ZIf (h1 : PS X st t) (h2 : PSs X Js u) : PSs X (st :: Js) (ZIe t u) := by
 intro pins s U H D I h
 refine wpAny_execs_cons (thn (h1 pins s U H { D with nx := u D } I h) fun f s1 q => ?_)
 cases f with
 | next =>
  obtain ⟨U', H', I', q⟩ := q
  exact h2 pins s1 U' H' D I' q
 | ret v => exact q
 | brk => exact q
 | cont => exact q
theorem ZKK (h1 : PS X st t) : PSs X [st] t := by
 intro pins s U H D I h
 refine wpAny_execs_cons (thn (h1 pins s U H D I h) fun f s1 q => ?_)
 cases f with
 | next => exact wpAny_execs_nil q
 | ret v => exact q
 | brk => exact q
 | cont => exact q
theorem Inv.quiet {pins : List (Addr × Obj)} {U : St} {H : Hp} {s : Shared} (I : Inv X pins U H s) : interactive X.env = false := by simp [interactive, I.ok.kind]
def ZEf (te : TE) : TS := fun D U H => te U H fun _ H1 => D.nx U H1
theorem ZKL (he : PE X e te) (hs : swapsWith e none pos.line X.env = pure false := by rfl) : PS X (.Expr e pos) (ZEf te) := by
 intro pins s U H D I h
 exact wpAny_Expr_any (thn (he pins s U H _ I h) fun v s1 ⟨x, H1, I1, r1, q1⟩ => ⟨U, H1, I1, q1⟩) I.quiet hs
def ZIg (te : TE) : TS := fun D U H => te U H D.rt
theorem ZLn (he : PE X e te) : PS X (.Return (some e) pos) (ZIg te) := by
 intro pins s U H D I h
 exact wpAny_Return_some (thn (he pins s U H _ I h) fun v s1 ⟨x, H1, I1, r1, q1⟩ => ⟨x, U, H1, I1, r1, q1⟩)
def ZEr (c : TT) (t u : TS) : TS := fun D U H => c U H fun b H1 => if b = true then t D U H1 else u D U H1
theorem ZM6 {c : Expr} {a b : List Stmt} {tc : TT} (hc : PT X c tc) (ha : PSs X a t) (hb : PSs X b u) : PS X (.If c a b pos) (ZEr tc t u) := by
 intro pins s U H D I h
 refine wpAny_If (thn (hc pins s U H _ I h) fun d s1 ⟨H1, I1, q1⟩ => ?_)
 cases d with
 | true => exact ha pins s1 U H1 D I1 q1
 | false => exact hb pins s1 U H1 D I1 q1
def ZHS : TS := fun _ _ _ => False
theorem ZIh : PS X st ZHS := fun _ _ _ _ _ _ h => h.elim
end
abbrev TG := V -> St -> Hp -> (St -> Hp -> Prop) -> Prop
abbrev TGs := List V -> St -> Hp -> (St -> Hp -> Prop) -> Prop
def PG (X : Cx) (target : Expr) (t : TG) : Prop :=
 ∀ (pins : List (Addr × Obj)) (s : Shared) (U : St) (H : Hp) (v : V) (u : Value) (Q : St -> Hp -> Prop), Inv X pins U H s -> JQ v u -> t v U H Q ->
  wpAny (model X.prog X.w) X.A (assign target X.env u) (fun _ s' => ∃ U' H', Inv X pins U' H' s' /\ Q U' H') X.xe s
def PGs (X : Cx) (ts : List Expr) (t : TGs) : Prop :=
 ∀ (pins : List (Addr × Obj)) (s : Shared) (U : St) (H : Hp) (vs : List V) (us : List Value) (Q : St -> Hp -> Prop), Inv X pins U H s -> JP vs us -> t vs U H Q ->
  wpAny (model X.prog X.w) X.A (assignInOrder ((assignEach ts X.env).map (·.2)) us) (fun _ s' => ∃ U' H', Inv X pins U' H' s' /\ Q U' H') X.xe s
abbrev ZEs := V -> V -> V -> Hp -> (Hp -> Prop) -> Prop
def ZIi (X : Cx) (t : ZEs) : Prop :=
 ∀ (pins : List (Addr × Obj)) (s : Shared) (U : St) (H : Hp) (o i v : V) (ov iv u : Value) (Q : Hp -> Prop), Inv X pins U H s -> JQ o ov -> JQ i iv -> JQ v u -> t o i v H Q ->
  wpAny (model X.prog X.w) X.A (setItem ov iv u) (fun _ s' => ∃ H', Inv X pins U H' s' /\ Q H') X.xe s
section
variable {X : Cx} {pos : Pos}
def ZAu (i : Nat) : TG := fun v U H Q => Q (U.set i (some v)) H
theorem ZKM {i : Nat} {x : Str} (hN : X.N.Nodup) (hi : X.N[i]? = some x) (hx : Loc X.env.scope x) (hf : X.fn x = true \/ X.env.scope.names.lookup x = some .local := by first | exact .inl rfl | exact .inr rfl | assumption) : PG X (.Name x pos) (ZAu i) := by
 intro pins s U H v u Q I r h
 exact wpAny_assign_Name (ZEq I hN hi hx r (fun s' I' => ⟨_, H, I', h⟩) hf)
def ZIj : TGs := fun vs U H Q => vs = [] /\ Q U H
def ZGb (t : TG) (u : TGs) : TGs := fun vs U H Q => ∃ v r, vs = v :: r /\ t v U H fun U' H' => u r U' H' Q
theorem ZKN : PGs X [] ZIj := by
 intro pins s U H vs us Q I r h
 obtain ⟨e, h⟩ := h
 subst e
 cases r
 exact assignInOrder_nil ⟨U, H, I, h⟩
theorem ZIk {e : Expr} {es : List Expr} {t : TG} {u : TGs} (h1 : PG X e t) (h2 : PGs X es u)
  (hs : (assignEach (e :: es) X.env).map (·.2) = assign e X.env :: (assignEach es X.env).map (·.2) := by rfl) : PGs X (e :: es) (ZGb t u) := by
 intro pins s U H vs us Q I r h
 obtain ⟨v, vr, e1, h⟩ := h
 subst e1
 cases r with
 | cons r rr =>
  rw [hs]
  refine assignInOrder_cons (thn (h1 pins s U H _ _ _ I r h) fun _ s1 ⟨U1, H1, I1, q1⟩ => ?_)
  exact h2 pins s1 U1 H1 _ _ Q I1 rr q1
def ZGc (K : W.Frag) (n : Nat) (t : TGs) : TG := fun v U H Q => ∃ a xs, v = .ref a /\ SqT K H a xs /\ xs.length = n /\ t xs U H Q
theorem ZLo {es : List Expr} {k : Nat} {t : TGs} {n : Nat} (hc : X.calm = true) (h : PGs X es t)
  (hn : (assignEach es X.env).length = n := by rfl) (hst : (assignEach es X.env).findIdx? (·.1) = none := by rfl) : PG X (.Tuple es k pos) (ZGc X.K n t) := by
 intro pins s U H v u Q I r hw
 obtain ⟨a, xs, e1, hq, hl, hw⟩ := hw
 subst e1
 cases r
 obtain ⟨its, rv, ht, hz⟩ := I.tuple hq
 refine assign_Tuple_tuple (I.ok.hd hc) ht (by simp [hn, <- hl, rv.length]) hst fun h' hx => ?_
 have I1 : Inv X pins U H { s with heap := h' } := I.kept (t' := s.toks) fun b o e => hx b o (Uk (Ug e)) e
 exact h pins _ U H xs _ Q I1 (by simpa using rv) hw
def ZIl (to ti : TE) (t : ZEs) : TG := fun v U H Q => to U H fun o H1 => ti U H1 fun i H2 => t o i v H2 fun H3 => Q U H3
theorem ZLp {o i : Expr} {to ti : TE} {t : ZEs} (ho : PE X o to) (hi : PE X i ti) (hs : ZIi X t)
  (ha : ∀ v, assign (.Subscript o i pos) X.env v = (do
   let ov <- holding [v] (eval o X.env)
   let iv <- holding [v, ov] (eval i X.env)
   standAt pos
   holding [v, ov, iv] (setItem ov iv v)
   release [v, ov, iv] []) := by intro _; rfl) : PG X (.Subscript o i pos) (ZIl to ti t) := by
 intro pins s U H v u Q I r h
 rw [ha]
 refine Ua (UR (thn (ho pins s U H _ I h) fun ov s1 ⟨x, H1, I1, r1, q1⟩ => ?_))
 refine Ua (UR (thn (hi pins s1 U H1 _ I1 q1) fun iv s2 ⟨y, H2, I2, r2, q2⟩ => ?_))
 refine Ua (wpAny_standAt (Ua (UR (thn (hs pins s2 U H2 x y v ov iv u _ I2 r1 r2 r q2) fun _ s3 ⟨H3, I3, q3⟩ => ?_))))
 exact wpAny_release ⟨U, H3, I3, q3⟩
def ZBt (te : TE) (g : TG) : TS := fun D U H => te U H fun x H1 => g x U H1 D.nx
theorem ZLq {tg e : Expr} {te : TE} {g : TG} (he : PE X e te) (hg : PG X tg g) (hs : swapsWithSole [tg] e pos.line X.env = pure false := by rfl) (hw : swappedStores [tg] e X.env = pure none := by rfl)
  (h1 : (assignEach [tg] X.env).map (·.2) = [assign tg X.env] := by rfl) : PS X (.Assign [tg] e pos) (ZBt te g) := by
 intro pins s U H D I h
 refine wpAny_Assign_stores (thn (he pins s U H _ I h) fun v s1 ⟨x, H1, I1, r1, q1⟩ => ?_) hs hw
 rw [h1]
 exact thn (hg pins s1 U H1 x v _ I1 r1 q1) fun _ s2 q => q
theorem ZHT {i : Nat} {x : Str} {e : Expr} {te : TE} {pos' : Pos} (hN : X.N.Nodup) (hi : X.N[i]? = some x) (hx : Loc X.env.scope x) (he : PE X e te) (hs : swapsWith e (some (.Name x pos')) pos.line X.env = pure false := by rfl) (hf : X.fn x = true \/ X.env.scope.names.lookup x = some .local := by first | exact .inl rfl | exact .inr rfl | assumption) :
  PS X (.Assign [.Name x pos'] e pos) (ZBt te (ZAu i)) := by
 intro pins s U H D I h
 refine wpAny_Assign_Name (thn (he pins s U H _ I h) fun v s1 ⟨y, H1, I1, r1, q1⟩ => ?_) hs
 exact ZEq I1 hN hi hx r1 (fun s2 I2 => ⟨_, H1, I2, q1⟩) hf
end
structure It where
 go : Nat -> Hp -> Prop
 yld : Nat -> Hp -> V -> Hp -> Prop
 stop : Nat -> Hp -> Prop
def ZBu (X : Cx) (pins : List (Addr × Obj)) (H : Hp) (b : Addr) : Prop :=
 H b = none /\ b ≠ X.env.locals /\ b ∉ X.fs /\ (b ∈ X.ex \/ X.s₀.heap.objs.size <= b) /\ (∀ x c, X.env.cells.lookup x = some c -> c ≠ b) /\ ∀ p ∈ X.pn ++ pins, p.1 ≠ b
theorem Inv.fpOk {X : Cx} {pins : List (Addr × Obj)} {U : St} {H H' : Hp} {s : Shared} {b : Addr} (I : Inv X pins U H s) (hb : s.heap.objs.size <= b) (hn : H' b = none) : ZBu X pins H' b := by
 refine ⟨hn, Nat.ne_of_gt (Uf I.lt hb), I.nofs hb, .inr (UP I.sz hb), fun x c e z => ?_, fun p hp z => ?_⟩
 ·obtain ⟨v, q⟩ := I.cell x c e
  exact absurd (Uf q.lt (by rw [z]; exact hb)) (Nat.lt_irrefl _)
 ·exact absurd (Uf (Ug (I.pin p hp).1) (by rw [z]; exact hb)) (Nat.lt_irrefl _)
structure ZEt (P : Program) (w : World) (K : W.Frag) (tg : Expr) (J : It) (fp : List Addr) (it : Addr) (tn : Nat -> Heap -> Prop) : Prop where
 mem : it ∈ fp
 obj : ∀ i h, tn i h -> ∀ b ∈ fp, ∃ o, h.get? b = some o /\ ∀ v, o.data ≠ .cell v
 keep : ∀ i h h', tn i h -> (∀ b ∈ fp, ∀ o, h.get? b = some o -> h'.get? b = some o) -> tn i h'
 item : ∀ (X : Cx), X.prog = P -> X.w = w -> X.K = K -> X.calm = true -> ∀ (i : Nat) (pins : List (Addr × Obj)) (s : Shared) (U : St) (H : Hp) (E : Value -> Shared -> Prop), Inv X pins U H s -> (∀ b ∈ fp, ZBu X pins H b) -> tn i s.heap -> J.go i H ->
  wpAny (model P w) X.A (pyNext (.ref it)) (fun r s1 => ∃ u, r = some u /\
   wpAny (model P w) X.A (letOwnedTupleGo tg (.ref it) u) (fun _ s2 => ∃ x H', Inv X pins U H' s2 /\ JQ x u /\ J.yld i H x H' /\ tn (i + 1) s2.heap /\ ∀ b ∈ fp, H' b = none) E s1) E s
 done : ∀ (X : Cx), X.prog = P -> X.w = w -> X.K = K -> X.calm = true -> ∀ (i : Nat) (pins : List (Addr × Obj)) (s : Shared) (U : St) (H : Hp) (E : Value -> Shared -> Prop), Inv X pins U H s -> (∀ b ∈ fp, ZBu X pins H b) -> tn i s.heap -> J.stop i H ->
  wpAny (model P w) X.A (pyNext (.ref it)) (fun r s1 => r = none /\ Inv X pins U H s1) E s
 self : ∀ (A : Around) (i : Nat) (s : Shared) (Q : Value -> Shared -> Prop) (E : Value -> Shared -> Prop), tn i s.heap -> Q (.ref it) s -> wpAny (model P w) A (pyIter (.ref it)) Q E s
abbrev TI := St -> Hp -> (It -> Hp -> Prop) -> Prop
def PIE (X : Cx) (pins : List (Addr × Obj)) (U : St) (tg : Expr) (R : It -> Hp -> Prop) (itv : Value) (s2 : Shared) : Prop :=
 ∃ (it : Addr) (fp : List Addr) (tn : Nat -> Heap -> Prop) (J : It) (H' : Hp), itv = .ref it /\ Inv X pins U H' s2 /\ ZEt X.prog X.w X.K tg J fp it tn /\ tn 0 s2.heap /\ (∀ b ∈ fp, ZBu X pins H' b) /\ R J H'
def PI (X : Cx) (tg iter : Expr) (wi : TI) : Prop :=
 ∀ (pins : List (Addr × Obj)) (s : Shared) (U : St) (H : Hp) (R : It -> Hp -> Prop), Inv X pins U H s -> wi U H R ->
  wpAny (model X.prog X.w) X.A (eval iter X.env) (fun v s1 => wpAny (model X.prog X.w) X.A (pyIter v) (PIE X pins U tg R) X.xe s1) X.xe s
theorem ZGd {M : Model} {A : Around} {E : Value -> Shared -> Prop} {s : Shared} {tg : Expr} {it : Addr} {u : Value} {o : Obj} {n : String} {vs : Array Value} {Q : Unit -> Shared -> Prop} (ho : s.heap.get? it = some o) (hc : o.cls = .type n) (hd : o.data = .fields vs)
    (hn : ["enumerate", "zip", "dict_itemiterator", "dict_reverseitemiterator", "odict_iterator", "itertools.zip_longest", "itertools.pairwise"].contains n = false) (hQ : Q () s) : wpAny M A (letOwnedTupleGo tg (.ref it) u) Q E s := by
  unfold letOwnedTupleGo
  cases tg <;> first
    | exact Ud hQ
    | (cases u <;> first
        | exact Ud hQ
        | (refine Ua (wpAny_load ho ?_)
           rw [hc, hd]
           show wpAny M A (if (["enumerate", "zip", "dict_itemiterator", "dict_reverseitemiterator", "odict_iterator", "itertools.zip_longest", "itertools.pairwise"].contains n && vs[0]? == some (rawInt _)) = true then _ else _) Q E s
           rw [if_neg (by intro h; rw [hn, Bool.false_and] at h; cases h)]
           exact Ud hQ))
def Itl (K : W.Frag) (a : Addr) : It :=
 ⟨fun i H => ∃ xs x, SqL K H a xs /\ xs[i]? = some x, fun i H x H' => H' = H /\ ∀ xs, SqL K H a xs -> xs[i]? = some x, fun i H => ∃ xs, SqL K H a xs /\ xs.length <= i⟩
def Itt (K : W.Frag) (a : Addr) : It :=
 ⟨fun i H => ∃ xs x, SqT K H a xs /\ xs[i]? = some x, fun i H x H' => H' = H /\ ∀ xs, SqT K H a xs -> xs[i]? = some x, fun i H => ∃ xs, SqT K H a xs /\ xs.length <= i⟩
def Itr (lo : Int) (n : Nat) : It := ⟨fun i _ => i < n, fun i H x H' => H' = H /\ x = .int (lo + i), fun i _ => n <= i⟩
theorem ZD5 {P : Program} {w : World} {K : W.Frag} {tg : Expr} (a it : Addr) : ZEt P w K tg (Itl K a) [it] it (fun i h => h.IsListIter it a i) where
 mem := by simp
 obj := fun i h st b hb => by
  have e : b = it := by simpa using hb
  subst e
  obtain ⟨o, e, c, d⟩ := st
  exact ⟨o, e, fun v z => by rw [d] at z; cases z⟩
 keep := fun i h h' st k => st.at fun o e => k it (by simp) o e
 item := by
  intro X hP hw hK hc i pins s U H E I hf st hg
  subst hP hw hK
  obtain ⟨xs, x, hq, hx⟩ := hg
  obtain ⟨its, rv, p, hz⟩ := I.list hq
  obtain ⟨u, hu, ru⟩ := rv.get hx
  obtain ⟨f0, f1, f2, f3, f4, f5⟩ := hf it (by simp)
  refine wpAny_pyNext_list_item st p.isList (x := u) (by simpa using hu) fun h' st' sb => ?_
  have I1 : Inv X pins U H { s with heap := h' } := I.turned (t' := s.toks) (fun b o hb e => (sb.2 b hb).trans e) f0 f1 f3 f4 f5
  obtain ⟨o, e, c, d⟩ := id st'
  exact ⟨u, rfl, ZGd (s := { s with heap := h' }) e c d (by decide) ⟨x, H, I1, ru, ⟨rfl, fun ys hy => by rw [I.list_inj hy hq]; exact hx⟩, st', fun b hb => (hf b hb).1⟩⟩
 done := by
  intro X hP hw hK hc i pins s U H E I hf st hg
  subst hP hw hK
  obtain ⟨xs, hq, hx⟩ := hg
  obtain ⟨its, rv, p, hz⟩ := I.list hq
  obtain ⟨f0, f1, f2, f3, f4, f5⟩ := hf it (by simp)
  have hl := rv.length
  exact wpAny_pyNext_list_end (I.ok.hd hc) st p.isList (by simp; omega) fun h' eb => ⟨rfl, I.turned (t' := s.toks) (fun b o hb e => eb b o hb e) f0 f1 f3 f4 f5⟩
 self := fun _ _ _ _ _ st h => wpAny_pyIter_listiter st h
theorem ZDJ {P : Program} {w : World} {K : W.Frag} {tg : Expr} (a it : Addr) : ZEt P w K tg (Itt K a) [it] it (fun i h => h.IsTupleIter it a i) where
 mem := by simp
 obj := fun i h st b hb => by
  have e : b = it := by simpa using hb
  subst e
  obtain ⟨o, e, c, d⟩ := st
  exact ⟨o, e, fun v z => by rw [d] at z; cases z⟩
 keep := fun i h h' st k => st.at fun o e => k it (by simp) o e
 item := by
  intro X hP hw hK hc i pins s U H E I hf st hg
  subst hP hw hK
  obtain ⟨xs, x, hq, hx⟩ := hg
  obtain ⟨its, rv, p, hz⟩ := I.tuple hq
  obtain ⟨u, hu, ru⟩ := rv.get hx
  obtain ⟨f0, f1, f2, f3, f4, f5⟩ := hf it (by simp)
  refine wpAny_pyNext_tuple_item st (show s.heap.IsTuple a its.toArray from p) (x := u) (by simpa using hu) fun h' st' sb => ?_
  have I1 : Inv X pins U H { s with heap := h' } := I.turned (t' := s.toks) (fun b o hb e => (sb.2 b hb).trans e) f0 f1 f3 f4 f5
  obtain ⟨o, e, c, d⟩ := id st'
  exact ⟨u, rfl, ZGd (s := { s with heap := h' }) e c d (by decide) ⟨x, H, I1, ru, ⟨rfl, fun ys hy => by rw [I.tuple_inj hy hq]; exact hx⟩, st', fun b hb => (hf b hb).1⟩⟩
 done := by
  intro X hP hw hK hc i pins s U H E I hf st hg
  subst hP hw hK
  obtain ⟨xs, hq, hx⟩ := hg
  obtain ⟨its, rv, p, hz⟩ := I.tuple hq
  obtain ⟨f0, f1, f2, f3, f4, f5⟩ := hf it (by simp)
  have hl := rv.length
  exact wpAny_pyNext_tuple_end (I.ok.hd hc) st (show s.heap.IsTuple a its.toArray from p) (by simp; omega) fun h' eb => ⟨rfl, I.turned (t' := s.toks) (fun b o hb e => eb b o hb e) f0 f1 f3 f4 f5⟩
 self := fun _ _ _ _ _ st h => wpAny_pyIter_tupleiter st h
theorem ZGe {P : Program} {w : World} {K : W.Frag} {tg : Expr} (it : Addr) (lo : Int) (n : Nat) : ZEt P w K tg (Itr lo n) [it] it (fun i h => IsRangeIter h it (lo + (i : Nat) * 1) ((n : Int) - (i : Nat)) 1) where
 mem := by simp
 obj := fun i h st b hb => by
  have e : b = it := by simpa using hb
  subst e
  exact ⟨_, st, fun v z => by
   have z' : Data.fields _ = Data.cell v := z
   cases z'⟩
 keep := fun i h h' st k => k it (by simp) _ st
 item := by
  intro X hP hw hK hc i pins s U H E I hf st hg
  subst hP hw hK
  obtain ⟨f0, f1, f2, f3, f4, f5⟩ := hf it (by simp)
  have W := Walks.range (prog := X.prog) (w := X.w) (I.ok.hd hc) it lo 1 n
  refine W.item i s _ _ hg st fun v h' tk hv st' kk => ?_
  obtain ⟨t, rfl⟩ := hv
  have I1 : Inv X pins U H { s with heap := h', toks := tk } := I.turned (fun b o hb e => kk b o (by simpa using hb) e) f0 f1 f3 f4 f5
  refine ⟨_, rfl, ZGd (s := { s with heap := h', toks := tk }) (n := "range_iterator") st' rfl rfl (by decide) ⟨.int (lo + i), H, I1, ⟨t, ?_⟩, ⟨rfl, rfl⟩, st', fun b hb => (hf b hb).1⟩⟩
  rw [Int.mul_one]
 done := by
  intro X hP hw hK hc i pins s U H E I hf st hg
  subst hP hw hK
  obtain ⟨f0, f1, f2, f3, f4, f5⟩ := hf it (by simp)
  exact wpAny_pyNext_range_end (I.ok.hd hc) st (by have : n <= i := hg; omega) fun h' eb => ⟨rfl, I.turned (t' := s.toks) (fun b o hb e => eb b o hb e) f0 f1 f3 f4 f5⟩
 self := fun _ _ _ _ _ st h => wpAny_pyIter_rangeiter st h
section
variable {X : Cx} {tg : Expr}
def ZEg (K : W.Frag) (tl : TE) : TI := fun U H R => tl U H fun x H1 => ∃ a, x = .ref a /\ (∃ xs, SqL K H1 a xs) /\ R (Itl K a) H1
def ZGf (K : W.Frag) (tl : TE) : TI := fun U H R => tl U H fun x H1 => ∃ a, x = .ref a /\ (∃ xs, SqT K H1 a xs) /\ R (Itt K a) H1
theorem ZKO {l : Expr} {tl : TE} (hl : PE X l tl) : PI X tg l (ZEg X.K tl) := by
 intro pins s U H R I h
 refine thn (hl pins s U H _ I h) fun v s1 ⟨x, H1, I1, r1, q1⟩ => ?_
 obtain ⟨a, e, ⟨xs, hq⟩, q⟩ := q1
 subst e
 cases r1
 obtain ⟨its, rv, p, hz⟩ := I1.list hq
 refine wpAny_pyIter_list p.isList ?_
 refine ⟨s1.heap.objs.size, [s1.heap.objs.size], _, _, H1, rfl, I1.kept (t' := s1.toks) fun b o e => Ub _ e, ZD5 a _, ⟨_, Uj _ rfl, rfl, rfl⟩, fun b hb => ?_, q⟩
 have e : b = s1.heap.objs.size := by simpa using hb
 subst e
 exact I1.fpOk (Ue _) (I1.hok.fresh (Ue _))
theorem ZLr {l : Expr} {tl : TE} (hl : PE X l tl) : PI X tg l (ZGf X.K tl) := by
 intro pins s U H R I h
 refine thn (hl pins s U H _ I h) fun v s1 ⟨x, H1, I1, r1, q1⟩ => ?_
 obtain ⟨a, e, ⟨xs, hq⟩, q⟩ := q1
 subst e
 cases r1
 obtain ⟨its, rv, p, hz⟩ := I1.tuple hq
 refine wpAny_pyIter_tuple (show s1.heap.IsTuple a its.toArray from p) ?_
 refine ⟨s1.heap.objs.size, [s1.heap.objs.size], _, _, H1, rfl, I1.kept (t' := s1.toks) fun b o e => Ub _ e, ZDJ a _, ⟨_, Uj _ rfl, rfl, rfl⟩, fun b hb => ?_, q⟩
 have e : b = s1.heap.objs.size := by simpa using hb
 subst e
 exact I1.fpOk (Ue _) (I1.hok.fresh (Ue _))
theorem ZIm {pins : List (Addr × Obj)} {U : St} {H : Hp} {s : Shared} {R : It -> Hp -> Prop} {E : Value -> Shared -> Prop} {lo hi : Int} {t u v : Tok} {tk : Nat} (I : Inv X pins U H s) (h1 : -(2 ^ 62) <= lo) (h2 : lo < 2 ^ 62) (h3 : -(2 ^ 62) <= hi) (h4 : hi < 2 ^ 62)
  (q : R (Itr lo (hi - lo).toNat) H) : wpAny (model X.prog X.w) X.A (pyIter (.ref s.heap.objs.size)) (PIE X pins U tg R) E { s with heap := s.heap.push { cls := .type "range", data := .fields #[.int lo t, .int hi u, .int 1 v] }, toks := tk } := by
 refine wpAny_pyIter_range (IsRange.new ..) (small_one h1 h2 h3 h4) ?_
 have I1 : Inv X pins U H { s with heap := s.heap.push { cls := .type "range", data := .fields #[.int lo t, .int hi u, .int 1 v] }, toks := tk } := I.kept fun b o e => Ub _ e
 refine ⟨(s.heap.push { cls := .type "range", data := .fields #[.int lo t, .int hi u, .int 1 v] }).objs.size, [(s.heap.push { cls := .type "range", data := .fields #[.int lo t, .int hi u, .int 1 v] }).objs.size], _, _, H, rfl,
  I1.kept (t' := tk) fun b o e => Ub _ e, ZGe _ lo (hi - lo).toNat, ?_, fun b hb => ?_, q⟩
 ·have e1 : lo + ((0 : Nat) : Int) * 1 = lo := by simp
  have e2 : (((hi - lo).toNat : Nat) : Int) - ((0 : Nat) : Int) = Builtin.Range.rangeSize lo hi 1 := by rw [rangeSize_one]; split <;> omega
  show IsRangeIter _ _ (lo + ((0 : Nat) : Int) * 1) ((((hi - lo).toNat : Nat) : Int) - ((0 : Nat) : Int)) 1
  rw [e1, e2]
  exact Uj _ rfl
 ·have e : b = (s.heap.push { cls := .type "range", data := .fields #[.int lo t, .int hi u, .int 1 v] }).objs.size := by simpa using hb
  subst e
  exact I1.fpOk (Ue _) (I1.hok.fresh (Ue _))
def ZGg (ta : TA) : TI := fun U H R => ta U H fun vs H1 => ∃ j : Int, vs = [.int j] /\ -(2 ^ 62) <= j /\ j < 2 ^ 62 /\ R (Itr 0 j.toNat) H1
theorem ZHU {a : Expr} {ta : TA} {p pos : Pos} (hg : Gl X "range") (hm : X.mg "range" = none) (ha : PA X [a] ta) (hs : starEach [a] X.env = [(false, eval a X.env)] := by rfl) : PI X tg (.Call (.Name "range" p) [a] [] pos) (ZGg ta) := by
 intro pins s U H R I h
 refine Call_ (ZAt I hg hm boot_range (PyProof.Rows.callWith_type1 (thn (ha pos pins s U H _ I h) fun us s1 ⟨vs, H1, I1, r1, q1⟩ => ?_) hs rfl))
 obtain ⟨j, e, q1, q2, q⟩ := q1
 subst e
 cases r1 with
 | cons r rr =>
  cases rr
  obtain ⟨t, rfl⟩ := r
  exact call_range_1 (ZIm I1 (by omega) (by omega) q1 q2 (by simpa using q))
def ZIn (wi : TI) (g : TG) (tb : TS) : TS := fun D U H => wi U H fun J H1 => ∃ W : Nat -> Nat -> St -> Hp -> Prop, (∃ m, W 0 m U H1) /\ ∀ i m U H, W i m U H ->
 (J.stop i H /\ D.nx U H) \/ (J.go i H /\ ∃ N : St -> Hp -> Prop, (∀ U' H', N U' H' -> ∃ m', m' < m /\ W (i + 1) m' U' H') /\ ∀ x H', J.yld i H x H' -> g x U H' fun U2 H2 => tb { D with nx := N, ct := N, bk := D.nx } U2 H2)
def ZBx (fp : List Addr) (h : Heap) : List (Addr × Obj) := fp.filterMap fun b => (h.get? b).map fun o => (b, o)
theorem ZAf {fp : List Addr} {h : Heap} {b : Addr} {o : Obj} (hb : b ∈ fp) (e : h.get? b = some o) : (b, o) ∈ ZBx fp h := List.mem_filterMap.mpr ⟨b, hb, by rw [e]; rfl⟩
theorem ZHV {fp : List Addr} {h : Heap} {p : Addr × Obj} (hp : p ∈ ZBx fp h) : p.1 ∈ fp /\ h.get? p.1 = some p.2 := by
 obtain ⟨b, hb, e⟩ := List.mem_filterMap.mp hp
 cases q : h.get? b with
 | none => rw [q] at e; cases e
 | some o =>
  rw [q] at e
  have e' : (b, o) = p := Option.some.inj e
  subst e'
  exact ⟨hb, q⟩
theorem Inv.pinned {pins : List (Addr × Obj)} {U : St} {H : Hp} {s : Shared} {fp : List Addr} (I : Inv X pins U H s) (hf : ∀ b ∈ fp, ZBu X pins H b) (ho : ∀ b ∈ fp, ∃ o, s.heap.get? b = some o /\ ∀ v, o.data ≠ .cell v) : Inv X (pins ++ ZBx fp s.heap) U H s :=
 I.pins_of fun p hp => (Va.mp hp).elim (fun z => I.pin p (Uo _ z)) fun z => by
  obtain ⟨hb, e⟩ := ZHV z
  obtain ⟨f0, f1, f2, _⟩ := hf p.1 hb
  obtain ⟨o, e', d⟩ := ho p.1 hb
  rw [e] at e'; cases e'
  exact ⟨e, f0, f1, f2, d⟩
theorem Inv.unpinned {pins pl : List (Addr × Obj)} {U : St} {H : Hp} {s : Shared} (I : Inv X (pins ++ pl) U H s) : Inv X pins U H s := I.pins_of fun p hp => I.pin p (Uo _ (List.mem_append_left _ hp))
theorem ZLs {iter : Expr} {body : List Stmt} {wi : TI} {g : TG} {tb : TS} {pos : Pos} (hp : PassesOwn (model X.prog X.w) X.A X.env X.xe) (hc : X.calm = true) (hi : PI X tg iter wi) (hg : PG X tg g) (hb : PSs X body tb)
  (hs : ∀ x, foldedSetIterable iter X.env x = pure x := by intro _; rfl) : PS X (.For tg iter body [] pos) (ZIn wi g tb) := by
 intro pins s U H D I h
 refine wpAny_For (thn (hi pins s U H _ I h) fun v s1 h1 => thn h1 fun itv s2 h2 => ?_) hs
 obtain ⟨it, fp, tn, J, H2, e, I2, T, st2, f2, W, ⟨m0, w0⟩, turn⟩ := h2
 subst e
 -- what stays true of the iterator's objects through the loop
 have stat : ∀ {H' : Hp}, (∀ b ∈ fp, H' b = none) -> ∀ b ∈ fp, ZBu X pins H' b := fun hn b hb => ⟨hn b hb, (f2 b hb).2⟩
 refine codeAny_forLoop_any (fun n s' => ∃ i U' H', Inv X pins U' H' s' /\ tn i s'.heap /\ (∀ b ∈ fp, H' b = none) /\ W i n U' H') ?_ m0 ⟨0, U, H2, I2, st2, fun b hb => (f2 b hb).1, w0⟩
 rintro n s3 ⟨i, U3, H3, I3, st3, fr3, w3⟩
 rcases turn i n U3 H3 w3 with ⟨stop, qn⟩ | ⟨go, N, hN, step⟩
 ·refine wpAny_passesOwn hp (thn (T.done X rfl rfl rfl hc i pins s3 U3 H3 X.xe I3 (stat fr3) st3 stop) fun r s4 ⟨hr, I4⟩ => ?_)
  subst hr
  exact wpAny_execs_nil ⟨U3, H3, I4, qn⟩
 ·refine wpAny_passesOwn hp (thn (T.item X rfl rfl rfl hc i pins s3 U3 H3 X.xe I3 (stat fr3) st3 go) fun r s4 ⟨u, hr, h4⟩ => ?_)
  subst hr
  refine wpAny_passesOwn hp (thn h4 fun _ s5 ⟨x, H5, I5, r5, y5, st5, fr5⟩ => ?_)
  have I5' := I5.pinned (stat fr5) (T.obj _ _ st5)
  refine wpAny_passesOwn hp (thn (hg _ s5 U3 H5 x u _ I5' r5 (step x H5 y5)) fun _ s6 ⟨U6, H6, I6, q6⟩ => ?_)
  refine wpAny_passesOwn hp (thn (hb _ s6 U6 H6 _ I6 q6) fun f s7 q7 => ?_)
  have again : ∀ {U7 : St} {H7 : Hp}, Inv X (pins ++ ZBx fp s5.heap) U7 H7 s7 -> N U7 H7 -> ∃ m, m < n /\ ∃ i U' H', Inv X pins U' H' s7 /\ tn i s7.heap /\ (∀ b ∈ fp, H' b = none) /\ W i m U' H' := fun {U7 H7} I7 n7 => by
   obtain ⟨m', hm, w7⟩ := hN U7 H7 n7
   refine ⟨m', hm, i + 1, U7, H7, I7.unpinned, T.keep _ _ _ st5 fun b hb o e => (I7.pin (b, o) (Uo _ (Uo _ (ZAf hb e)))).1, fun b hb => ?_, w7⟩
   obtain ⟨o, e, d⟩ := T.obj _ _ st5 b hb
   exact (I7.pin (b, o) (Uo _ (Uo _ (ZAf hb e)))).2.1
  cases f with
  | next => obtain ⟨U7, H7, I7, n7⟩ := q7; exact again I7 n7
  | cont => obtain ⟨U7, H7, I7, n7⟩ := q7; exact again I7 n7
  | brk => obtain ⟨U7, H7, I7, q7⟩ := q7; exact ⟨U7, H7, I7.unpinned, q7⟩
  | ret v => obtain ⟨x7, U7, H7, I7, r7, q7⟩ := q7; exact ⟨x7, U7, H7, I7.unpinned, r7, q7⟩
end
theorem ZIo {K : W.Frag} {a : Addr} {xs : List V} {g : TG} {tb : TS} {D : J8} {U : St} {H : Hp} (Pv : Nat -> St -> Hp -> Prop) (h0 : Pv 0 U H) (hl : ∀ i U H, i <= xs.length -> Pv i U H -> SqL K H a xs)
  (hs : ∀ i x U H, xs[i]? = some x -> Pv i U H -> g x U H fun U2 H2 => tb { D with nx := Pv (i + 1), ct := Pv (i + 1), bk := D.nx } U2 H2) (hd : ∀ U H, Pv xs.length U H -> D.nx U H) :
  ∃ W : Nat -> Nat -> St -> Hp -> Prop, (∃ m, W 0 m U H) /\ ∀ i m U H, W i m U H ->
   ((Itl K a).stop i H /\ D.nx U H) \/ ((Itl K a).go i H /\ ∃ N : St -> Hp -> Prop, (∀ U' H', N U' H' -> ∃ m', m' < m /\ W (i + 1) m' U' H') /\ ∀ x H', (Itl K a).yld i H x H' -> g x U H' fun U2 H2 => tb { D with nx := N, ct := N, bk := D.nx } U2 H2) := by
 refine ⟨fun i m U H => m = xs.length - i /\ i <= xs.length /\ Pv i U H, ⟨xs.length, by simp, UF _, h0⟩, ?_⟩
 rintro i m U H ⟨rfl, hi, p⟩
 have q := hl i U H hi p
 by_cases hlt : i < xs.length
 ·refine .inr ⟨⟨xs, xs[i], q, by simp [hlt]⟩, Pv (i + 1), fun U' H' p' => ⟨xs.length - (i + 1), by omega, rfl, hlt, p'⟩, fun x H' y => ?_⟩
  obtain ⟨e, y⟩ := y
  subst e
  exact hs i x U _ (y xs q) p
 ·have e : i = xs.length := by omega
  subst e
  exact .inl ⟨⟨xs, q, Ue _⟩, hd U H p⟩
theorem ZKP {K : W.Frag} {a : Addr} {xs : List V} {g : TG} {tb : TS} {D : J8} {U : St} {H : Hp} (Pv : Nat -> St -> Hp -> Prop) (h0 : Pv 0 U H) (hl : ∀ i U H, i <= xs.length -> Pv i U H -> SqT K H a xs)
  (hs : ∀ i x U H, xs[i]? = some x -> Pv i U H -> g x U H fun U2 H2 => tb { D with nx := Pv (i + 1), ct := Pv (i + 1), bk := D.nx } U2 H2) (hd : ∀ U H, Pv xs.length U H -> D.nx U H) :
  ∃ W : Nat -> Nat -> St -> Hp -> Prop, (∃ m, W 0 m U H) /\ ∀ i m U H, W i m U H ->
   ((Itt K a).stop i H /\ D.nx U H) \/ ((Itt K a).go i H /\ ∃ N : St -> Hp -> Prop, (∀ U' H', N U' H' -> ∃ m', m' < m /\ W (i + 1) m' U' H') /\ ∀ x H', (Itt K a).yld i H x H' -> g x U H' fun U2 H2 => tb { D with nx := N, ct := N, bk := D.nx } U2 H2) := by
 refine ⟨fun i m U H => m = xs.length - i /\ i <= xs.length /\ Pv i U H, ⟨xs.length, by simp, UF _, h0⟩, ?_⟩
 rintro i m U H ⟨rfl, hi, p⟩
 have q := hl i U H hi p
 by_cases hlt : i < xs.length
 ·refine .inr ⟨⟨xs, xs[i], q, by simp [hlt]⟩, Pv (i + 1), fun U' H' p' => ⟨xs.length - (i + 1), by omega, rfl, hlt, p'⟩, fun x H' y => ?_⟩
  obtain ⟨e, y⟩ := y
  subst e
  exact hs i x U _ (y xs q) p
 ·have e : i = xs.length := by omega
  subst e
  exact .inl ⟨⟨xs, q, Ue _⟩, hd U H p⟩
theorem ZHW {lo : Int} {n : Nat} {g : TG} {tb : TS} {D : J8} {U : St} {H : Hp} (Pv : Nat -> St -> Hp -> Prop) (h0 : Pv 0 U H)
  (hs : ∀ i U H, i < n -> Pv i U H -> g (.int (lo + i)) U H fun U2 H2 => tb { D with nx := Pv (i + 1), ct := Pv (i + 1), bk := D.nx } U2 H2) (hd : ∀ U H, Pv n U H -> D.nx U H) :
  ∃ W : Nat -> Nat -> St -> Hp -> Prop, (∃ m, W 0 m U H) /\ ∀ i m U H, W i m U H ->
   ((Itr lo n).stop i H /\ D.nx U H) \/ ((Itr lo n).go i H /\ ∃ N : St -> Hp -> Prop, (∀ U' H', N U' H' -> ∃ m', m' < m /\ W (i + 1) m' U' H') /\ ∀ x H', (Itr lo n).yld i H x H' -> g x U H' fun U2 H2 => tb { D with nx := N, ct := N, bk := D.nx } U2 H2) := by
 refine ⟨fun i m U H => m = n - i /\ i <= n /\ Pv i U H, ⟨n, by simp, UF _, h0⟩, ?_⟩
 rintro i m U H ⟨rfl, hi, p⟩
 by_cases hlt : i < n
 ·refine .inr ⟨hlt, Pv (i + 1), fun U' H' p' => ⟨n - (i + 1), by omega, rfl, hlt, p'⟩, fun x H' y => ?_⟩
  obtain ⟨e, y⟩ := y
  subst e y
  exact hs i U _ hlt p
 ·have e : i = n := by omega
  subst e
  exact .inl ⟨Ue _, hd U H p⟩
abbrev R2 := V -> V -> Hp -> VK -> Prop
def OpR (X : Cx) (f : Value -> Value -> Sem Value) (r : R2) : Prop :=
 ∀ (pins : List (Addr × Obj)) (s : Shared) (U : St) (H : Hp) (x y : V) (v u : Value) (Q : VK), Inv X pins U H s -> JQ x v -> JQ y u -> r x y H Q ->
  wpAny (model X.prog X.w) X.A (f v u) (EP X pins U Q) X.xe s
def UnR (X : Cx) (f : Value -> Sem Value) (r : V -> Hp -> VK -> Prop) : Prop :=
 ∀ (pins : List (Addr × Obj)) (s : Shared) (U : St) (H : Hp) (x : V) (v : Value) (Q : VK), Inv X pins U H s -> JQ x v -> r x H Q ->
  wpAny (model X.prog X.w) X.A (f v) (EP X pins U Q) X.xe s
def J2 (X : Cx) (f : Value) (r : List V -> Hp -> VK -> Prop) : Prop :=
 ∀ (pins : List (Addr × Obj)) (s : Shared) (U : St) (H : Hp) (xs : List V) (us : List Value) (Q : VK), Inv X pins U H s -> JP xs us -> r xs H Q ->
  wpAny (model X.prog X.w) X.A (call f us) (EP X pins U Q) X.xe s
def tOp (r : R2) (ta tb : TE) : TE := fun U H Q => ta U H fun x H1 => tb U H1 fun y H2 => r x y H2 Q
def tUn (r : V -> Hp -> VK -> Prop) (ta : TE) : TE := fun U H Q => ta U H fun x H1 => r x H1 Q
def rI (C : Int -> Int -> Prop) (g : Int -> Int -> V) : R2 := fun x y H Q => ∃ i j, x = .int i /\ y = .int j /\ C i j /\ Q (g i j) H
def rI0 (g : Int -> Int -> V) : R2 := fun x y H Q => ∃ i j, x = .int i /\ y = .int j /\ Q (g i j) H
def rU (g : Int -> V) : V -> Hp -> VK -> Prop := fun x H Q => ∃ i, x = .int i /\ Q (g i) H
section
variable {X : Cx} {a b c : Expr} {ta tb tc : TE} {pos : Pos}
theorem ZIp (ha : PE X a ta) (hb : PE X b tb) {pins : List (Addr × Obj)} {s : Shared} {U : St} {H : Hp} {R : V -> V -> Hp -> Prop} (I : Inv X pins U H s)
  (h : ta U H fun x H1 => tb U H1 fun y H2 => R x y H2) {Q : Value -> Shared -> Prop} {f : Value -> Value -> Sem Value}
  (hf : ∀ v u s2 x y H2, Inv X pins U H2 s2 -> JQ x v -> JQ y u -> R x y H2 -> wpAny (model X.prog X.w) X.A (f v u) Q X.xe s2) :
  wpAny (model X.prog X.w) X.A (eval a X.env) (fun v s₁ => wpAny (model X.prog X.w) X.A (eval b X.env) (fun u s₂ => wpAny (model X.prog X.w) X.A (f v u) Q X.xe s₂) X.xe s₁) X.xe s := by
 refine thn (ha pins s U H _ I h) fun v s1 ⟨x, H1, I1, r1, q1⟩ => ?_
 refine thn (hb pins s1 U H1 _ I1 q1) fun u s2 ⟨y, H2, I2, r2, q2⟩ => ?_
 exact hf v u s2 x y H2 I2 r1 r2 q2
theorem ZM7 {op : Operator} {r : R2} (ho : OpR X (binaryOp op) r) (ha : PE X a ta) (hb : PE X b tb) : PE X (.BinOp a op b pos) (tOp r ta tb) := by
 intro pins s U H Q I h
 exact wpAny_BinOp (ZIp ha hb I h fun v u s2 x y H2 I2 rx ry q => ho pins s2 U H2 x y v u Q I2 rx ry q)
theorem ZM8 {op : UnaryOp} {r : V -> Hp -> VK -> Prop} (ho : UnR X (unaryOp op) r) (ha : PE X a ta) : PE X (.UnaryOp op a pos) (tUn r ta) := by
 intro pins s U H Q I h
 exact UnaryOp_ (thn (ha pins s U H _ I h) fun v s1 ⟨x, H1, I1, r1, q1⟩ => ho pins s1 U H1 x v Q I1 r1 q1)
theorem opI {f : Value -> Value -> Sem Value} {C : Int -> Int -> Prop} {g : Int -> Int -> Int}
  (rule : ∀ (i j : Int) (t u : Tok) (s : Shared) (Q : Value -> Shared -> Prop) (E : Value -> Shared -> Prop), C i j -> Q (.int (g i j) s.toks) { s with toks := s.toks + 1 } -> wpAny (model X.prog X.w) X.A (f (.int i t) (.int j u)) Q E s) :
  OpR X f (rI C fun i j => .int (g i j)) := by
 intro pins s U H x y v u Q I rx ry h
 obtain ⟨i, j, rfl, rfl, hc, q⟩ := h
 obtain ⟨t, rfl⟩ := rx
 obtain ⟨t', rfl⟩ := ry
 exact rule i j t t' s _ _ hc ⟨.int (g i j), H, I.tok _, ⟨_, rfl⟩, q⟩
theorem ZLt {f : Value -> Value -> Sem Value} {g : Int -> Int -> Int}
  (rule : ∀ (i j : Int) (t u : Tok) (s : Shared) (Q : Value -> Shared -> Prop) (E : Value -> Shared -> Prop), Q (.int (g i j) s.toks) { s with toks := s.toks + 1 } -> wpAny (model X.prog X.w) X.A (f (.int i t) (.int j u)) Q E s) :
  OpR X f (rI0 fun i j => .int (g i j)) := by
 intro pins s U H x y v u Q I rx ry h
 obtain ⟨i, j, rfl, rfl, q⟩ := h
 obtain ⟨t, rfl⟩ := rx
 obtain ⟨t', rfl⟩ := ry
 exact rule i j t t' s _ _ ⟨.int (g i j), H, I.tok _, ⟨_, rfl⟩, q⟩
theorem ZGh {f : Value -> Value -> Sem Value} {g : Int -> Int -> Bool}
  (rule : ∀ (i j : Int) (t u : Tok) (s : Shared) (Q : Value -> Shared -> Prop) (E : Value -> Shared -> Prop), Q (.bool (g i j)) s -> wpAny (model X.prog X.w) X.A (f (.int i t) (.int j u)) Q E s) :
  OpR X f (rI0 fun i j => .bl (g i j)) := by
 intro pins s U H x y v u Q I rx ry h
 obtain ⟨i, j, rfl, rfl, q⟩ := h
 obtain ⟨t, rfl⟩ := rx
 obtain ⟨t', rfl⟩ := ry
 exact rule i j t t' s _ _ ⟨.bl (g i j), H, I, rfl, q⟩
def ZIq (i j : Int) : Prop := 0 <= j /\ j <= 1000000 /\ i.natAbs < 2 ^ 64
theorem Jl : OpR X (binaryOp .Add) (rI0 fun i j => .int (i + j)) := ZLt fun _ _ _ _ _ _ _ q => add_int q
theorem ZAv : OpR X (binaryOp .Sub) (rI0 fun i j => .int (i - j)) := ZLt fun _ _ _ _ _ _ _ q => sub_int q
theorem ZBy : OpR X (binaryOp .Mod) (rI (fun _ j => 0 < j) fun i j => .int (i % j)) := opI fun i j _ _ _ _ _ hc q => by
 have h1 : (0 : Int) < j := hc
 exact mod_int' (by omega) (by rw [Int.fmod_eq_emod_of_nonneg i (by omega)]; exact q)
theorem ZDK : OpR X (binaryOp .Pow) (rI ZIq fun i j => .int (i ^ j.toNat)) := opI fun _ _ _ _ _ _ _ hc q => pow_int_small hc.1 hc.2.1 hc.2.2 q
theorem unI {f : Value -> Sem Value} {g : Int -> Int}
  (rule : ∀ (i : Int) (t : Tok) (s : Shared) (Q : Value -> Shared -> Prop) (E : Value -> Shared -> Prop), Q (.int (g i) s.toks) { s with toks := s.toks + 1 } -> wpAny (model X.prog X.w) X.A (f (.int i t)) Q E s) :
  UnR X f (rU fun i => .int (g i)) := by
 intro pins s U H x v Q I rx h
 obtain ⟨i, rfl, q⟩ := h
 obtain ⟨t, rfl⟩ := rx
 exact rule i t s _ _ ⟨.int (g i), H, I.tok _, ⟨_, rfl⟩, q⟩
theorem ZHX : UnR X (unaryOp .USub) (rU fun i => .int (-i)) := unI fun _ _ _ _ _ q => neg_int q
end
def ZLu : V -> V -> Bool
 | .non, .non => true | .non, .int _ => true | .int _, .non => true | .non, .bl _ => true | .bl _, .non => true | .non, .str _ => true | .str _, .non => true
 | .int _, .int _ => true | .bl _, .bl _ => true | .str _, .str _ => true | .byt _, .byt _ => true
 | .int _, .str _ => true | .str _, .int _ => true | .bl _, .str _ => true | .str _, .bl _ => true
 | _, _ => false
def rEq : R2 := fun x y H Q => ZLu x y = true /\ Q (.bl (decide (x = y))) H
def rNe : R2 := fun x y H Q => ZLu x y = true /\ Q (.bl (!decide (x = y))) H
theorem ZFt {i j : Int} : decide (V.int i = V.int j) = (i == j) := by
 rw [Bool.eq_iff_iff]
 simp
theorem ZHY {i j : Bool} : decide (V.bl i = V.bl j) = (i == j) := by
 rw [Bool.eq_iff_iff]
 simp
theorem ZFu {i j : Str} : decide (V.str i = V.str j) = (i == j) := by
 rw [Bool.eq_iff_iff]
 simp
theorem ZFv {i j : Array UInt8} : decide (V.byt i = V.byt j) = (i.toList == j.toList) := by
 rw [Bool.eq_iff_iff]
 cases i
 cases j
 simp
section
variable {X : Cx} {a b c : Expr} {ta tb tc : TE} {pos : Pos}
theorem Jb {pins : List (Addr × Obj)} {U : St} {H : Hp} {s : Shared} {Q : VK} {k k' : Bool} (I : Inv X pins U H s) (q : Q (.bl k) H) (e : k = k') : EP X pins U Q (.bool k') s := by
 subst e
 exact ⟨.bl k, H, I, rfl, q⟩
theorem ZBK : OpR X (compareOp .Eq) rEq := by
 intro pins s U H x y v u Q I rx ry h
 obtain ⟨hs, q⟩ := h
 cases x with
 | non =>
  cases rx
  cases y with
  | non => cases ry; exact PySem.EqNone.eq_none_none (Jb I q (by simp))
  | bl j => cases ry; exact PySem.EqNone.eq_none_bool (Jb I q (by simp))
  | int j => obtain ⟨t', rfl⟩ := ry; exact PySem.EqNone.eq_none_int (Jb I q (by simp))
  | str j => obtain ⟨t', rfl⟩ := ry; exact PySem.EqNone.eq_none_str (Jb I q (by simp))
  | _ => exact absurd (show false = true from hs) Ut
 | bl i =>
  cases rx
  cases y with
  | non => cases ry; exact PySem.EqNone.eq_bool_none (Jb I q (by simp))
  | bl j => cases ry; exact eq_bool (Jb I q ZHY)
  | str j => obtain ⟨t', rfl⟩ := ry; exact PySem.EqMixed.eq_bool_str (Jb I q (by simp))
  | _ => exact absurd (show false = true from hs) Ut
 | int i =>
  obtain ⟨t, rfl⟩ := rx
  cases y with
  | non => cases ry; exact PySem.EqNone.eq_int_none (Jb I q (by simp))
  | int j => obtain ⟨t', rfl⟩ := ry; exact eq_int (Jb I q ZFt)
  | str j => obtain ⟨t', rfl⟩ := ry; exact PySem.EqMixed.eq_int_str (Jb I q (by simp))
  | _ => exact absurd (show false = true from hs) Ut
 | str i =>
  obtain ⟨t, rfl⟩ := rx
  cases y with
  | non => cases ry; exact PySem.EqNone.eq_str_none (Jb I q (by simp))
  | bl j => cases ry; exact PySem.EqMixed.eq_str_bool (Jb I q (by simp))
  | int j => obtain ⟨t', rfl⟩ := ry; exact PySem.EqMixed.eq_str_int (Jb I q (by simp))
  | str j => obtain ⟨t', rfl⟩ := ry; exact eq_str (Jb I q ZFu)
  | _ => exact absurd (show false = true from hs) Ut
 | byt i =>
  obtain ⟨t, rfl⟩ := rx
  cases y with
  | byt j => obtain ⟨t', rfl⟩ := ry; exact PySem.W.eq_bytes (Jb I q ZFv)
  | _ => exact absurd (show false = true from hs) Ut
 | _ => cases y <;> exact absurd (show false = true from hs) Ut
theorem ZGi : OpR X (compareOp .NotEq) rNe := by
 intro pins s U H x y v u Q I rx ry h
 obtain ⟨hs, q⟩ := h
 cases x with
 | non =>
  cases rx
  cases y with
  | non => cases ry; exact PySem.EqNone.ne_none_none (Jb I q (by simp))
  | bl j => cases ry; exact PySem.EqNone.ne_none_bool (Jb I q (by simp))
  | int j => obtain ⟨t', rfl⟩ := ry; exact PySem.EqNone.ne_none_int (Jb I q (by simp))
  | str j => obtain ⟨t', rfl⟩ := ry; exact PySem.EqNone.ne_none_str (Jb I q (by simp))
  | _ => exact absurd (show false = true from hs) Ut
 | bl i =>
  cases rx
  cases y with
  | non => cases ry; exact PySem.EqNone.ne_bool_none (Jb I q (by simp))
  | bl j => cases ry; exact ne_bool (Jb I q (congrArg not ZHY))
  | str j => obtain ⟨t', rfl⟩ := ry; exact PySem.EqMixed.ne_bool_str (Jb I q (by simp))
  | _ => exact absurd (show false = true from hs) Ut
 | int i =>
  obtain ⟨t, rfl⟩ := rx
  cases y with
  | non => cases ry; exact PySem.EqNone.ne_int_none (Jb I q (by simp))
  | int j => obtain ⟨t', rfl⟩ := ry; exact ne_int (Jb I q (congrArg not ZFt))
  | str j => obtain ⟨t', rfl⟩ := ry; exact PySem.EqMixed.ne_int_str (Jb I q (by simp))
  | _ => exact absurd (show false = true from hs) Ut
 | str i =>
  obtain ⟨t, rfl⟩ := rx
  cases y with
  | non => cases ry; exact PySem.EqNone.ne_str_none (Jb I q (by simp))
  | bl j => cases ry; exact PySem.EqMixed.ne_str_bool (Jb I q (by simp))
  | int j => obtain ⟨t', rfl⟩ := ry; exact PySem.EqMixed.ne_str_int (Jb I q (by simp))
  | str j => obtain ⟨t', rfl⟩ := ry; exact ne_str (Jb I q (congrArg not ZFu))
  | _ => exact absurd (show false = true from hs) Ut
 | byt i =>
  obtain ⟨t, rfl⟩ := rx
  cases y with
  | byt j => obtain ⟨t', rfl⟩ := ry; exact PySem.W.ne_bytes (Jb I q (congrArg not ZFv))
  | _ => exact absurd (show false = true from hs) Ut
 | _ => cases y <;> exact absurd (show false = true from hs) Ut
theorem ZAT : OpR X (compareOp .Lt) (rI0 fun i j => .bl (decide (i < j))) := ZGh fun _ _ _ _ _ _ _ q => lt_int q
theorem ZBm : OpR X (compareOp .LtE) (rI0 fun i j => .bl (decide (i <= j))) := ZGh fun _ _ _ _ _ _ _ q => le_int q
theorem ZGj : OpR X (compareOp .Gt) (rI0 fun i j => .bl (decide (j < i))) := ZGh fun _ _ _ _ _ _ _ q => gt_int q
theorem ZM9 : OpR X (compareOp .GtE) (rI0 fun i j => .bl (decide (j <= i))) := ZGh fun _ _ _ _ _ _ _ q => ge_int q
theorem JV (b : Expr) {op : CmpOp} (h : op ≠ .In := by decide) (h2 : op ≠ .NotIn := by decide) : behindInMarks op b = false := by
 have e1 : (op == CmpOp.In) = false := by cases op <;> first | rfl | exact absurd rfl h
 have e2 : (op == CmpOp.NotIn) = false := by cases op <;> first | rfl | exact absurd rfl h2
 cases b <;> simp [behindInMarks, e1, e2]
theorem ZKQ {op : CmpOp} {r : R2} (ho : OpR X (compareOp op) r) (ha : PE X a ta) (hb : PE X b tb) (hm : behindInMarks op b = false) : PE X (.Compare a [op] [b] pos) (tOp r ta tb) := by
 intro pins s U H Q I h
 exact wpAny_Compare1 (ZIp ha hb I h fun v u s2 x y H2 I2 rx ry q => ho pins s2 U H2 x y v u Q I2 rx ry q) hm
def ZDL (t : TE) : TT := fun U H Q => t U H fun x H' => ∃ k, x = .bl k /\ Q k H'
theorem ZKR {op : CmpOp} {r : R2} (ho : OpR X (compareOp op) r) (ha : PE X a ta) (hb : PE X b tb) (hm : behindInMarks op b = false) : PT X (.Compare a [op] [b] pos) (ZDL (tOp r ta tb)) := by
 intro pins s U H Q I h
 refine wpAny_isTrue_Compare1 (thn (ha pins s U H _ I h) fun v s1 ⟨x, H1, I1, r1, q1⟩ => thn (hb pins s1 U H1 _ I1 q1) fun u s2 ⟨y, H2, I2, r2, q2⟩ =>
  thn (ho pins s2 U H2 x y v u _ I2 r1 r2 q2) fun c s3 ⟨z, H3, I3, r3, k, e, q3⟩ => ?_) hm
 subst e
 cases r3
 exact wpAny_truthy_bool ⟨H3, I3, q3⟩
def ZCO (r r' : R2) (ta tb tc : TE) : TE := fun U H Q => ta U H fun x H1 => tb U H1 fun y H2 => r x y H2 fun z H3 => ∃ k, z = .bl k /\
 (if k = true then tc U H3 fun w' H4 => r' y w' H4 Q else Q (.bl false) H3)
theorem ZIr {op op' : CmpOp} {r r' : R2} (ho : OpR X (compareOp op) r) (ho' : OpR X (compareOp op') r') (ha : PE X a ta) (hb : PE X b tb) (hc : PE X c tc)
  (hm : lastMarks [op, op'] [b, c] = false := by with_unfolding_all rfl) : PE X (.Compare a [op, op'] [b, c] pos) (ZCO r r' ta tb tc) := by
 intro pins s U H Q I h
 refine Compare_chain (thn (ha pins s U H _ I h) fun v s1 ⟨x, H1, I1, r1, q1⟩ => chain_link (thn (hb pins s1 U H1 _ I1 q1) fun u s2 ⟨y, H2, I2, r2, q2⟩ =>
  thn (ho pins s2 U H2 x y v u _ I2 r1 r2 q2) fun d s3 ⟨z, H3, I3, r3, k, e, q3⟩ => ?_)) hm
 subst e
 cases r3
 refine wpAny_truthy_bool ?_
 cases k with
 | false => exact ite_ff ⟨.bl false, H3, I3, rfl, q3⟩
 | true => exact ite_tt (chain_last (thn (hc pins s3 U H3 _ I3 q3) fun w' s4 ⟨z', H4, I4, r4, q4⟩ => ho' pins s4 U H4 y z' u w' Q I4 r2 r4 q4))
theorem ZIs {op op' : CmpOp} {r r' : R2} (ho : OpR X (compareOp op) r) (ho' : OpR X (compareOp op') r') (ha : PE X a ta) (hb : PE X b tb) (hc : PE X c tc)
  (hm : lastMarks [op, op'] [b, c] = false := by with_unfolding_all rfl) : PT X (.Compare a [op, op'] [b, c] pos) (ZDL (ZCO r r' ta tb tc)) := by
 intro pins s U H Q I h
 refine isTrue_chain (thn (ha pins s U H _ I h) fun v s1 ⟨x, H1, I1, r1, q1⟩ => test_link (thn (hb pins s1 U H1 _ I1 q1) fun u s2 ⟨y, H2, I2, r2, q2⟩ =>
  thn (ho pins s2 U H2 x y v u _ I2 r1 r2 q2) fun d s3 ⟨z, H3, I3, r3, k, e, q3⟩ => ?_)) hm
 subst e
 cases r3
 refine wpAny_truthy_bool ?_
 cases k with
 | false =>
  obtain ⟨k', e', q'⟩ := q3
  cases e'
  exact ite_ff ⟨H3, I3, q'⟩
 | true =>
  refine ite_tt (test_last (thn (hc pins s3 U H3 _ I3 q3) fun w' s4 ⟨z', H4, I4, r4, q4⟩ => thn (ho' pins s4 U H4 y z' u w' _ I4 r2 r4 q4) fun d' s5 ⟨z2, H5, I5, r5, k2, e2, q5⟩ => ?_))
  subst e2
  cases r5
  exact wpAny_truthy_bool ⟨H5, I5, q5⟩
theorem ZDM : (sizeLine : Nat) < 2 ^ 63 := by rw [sizeLine_eq]; decide
theorem ZGk {x : V} {us : List Value} (r : JP [x] us) : ∃ u, us = [u] /\ JQ x u := by
 cases r with
 | cons r1 r2 => cases r2; exact ⟨_, rfl, r1⟩
theorem ZJ0 {x y : V} {us : List Value} (r : JP [x, y] us) : ∃ u w', us = [u, w'] /\ JQ x u /\ JQ y w' := by
 cases r with
 | cons r1 r2 =>
  cases r2 with
  | cons r3 r4 => cases r4; exact ⟨_, _, rfl, r1, r3⟩
theorem ZIt : J2 X (.builtin "abs") (fun xs H Q => ∃ i, xs = [.int i] /\ Q (.int (if i < 0 then -i else i)) H) := by
 intro pins s U H xs us Q I r h
 obtain ⟨i, rfl, q⟩ := h
 obtain ⟨u, rfl, t, rfl⟩ := ZGk r
 exact call_abs_int fun u tk => ⟨.int (if i < 0 then -i else i), H, I.tok _, ⟨_, rfl⟩, q⟩
theorem ZHZ (hc : X.calm = true) : J2 X (.builtin "max") (fun xs H Q => ∃ i j, xs = [.int i, .int j] /\ Q (.int (if j > i then j else i)) H) := by
 intro pins s U H xs us Q I r h
 obtain ⟨i, j, rfl, q⟩ := h
 obtain ⟨u, w', rfl, ⟨t, rfl⟩, ⟨t', rfl⟩⟩ := ZJ0 r
 refine max_two_ints (I.ok.hd hc) fun h' tk k => ⟨_, H, I.kept k, ?_, q⟩
 by_cases hj : j > i
 ·rw [if_pos hj, if_pos hj]; exact ⟨_, rfl⟩
 ·rw [if_neg hj, if_neg hj]; exact ⟨_, rfl⟩
theorem ZHa (hc : X.calm = true) : J2 X (.builtin "min") (fun xs H Q => ∃ i j, xs = [.int i, .int j] /\ Q (.int (if j < i then j else i)) H) := by
 intro pins s U H xs us Q I r h
 obtain ⟨i, j, rfl, q⟩ := h
 obtain ⟨u, w', rfl, ⟨t, rfl⟩, ⟨t', rfl⟩⟩ := ZJ0 r
 refine min_two_ints (I.ok.hd hc) fun h' tk k => ⟨_, H, I.kept k, ?_, q⟩
 by_cases hj : j < i
 ·rw [if_pos hj, if_pos hj]; exact ⟨_, rfl⟩
 ·rw [if_neg hj, if_neg hj]; exact ⟨_, rfl⟩
end
structure ZIu (h : Heap) (x dx C : Addr) (mA : Str -> Option Value) : Prop where
 obj : h.get? x = some (PySem.W.instObj C dx)
 ns : h.Ns1 dx mA
 ne : dx ≠ x
theorem ZHb {h : Heap} {dx : Addr} {mA : Str -> Option Value} (n : h.Ns1 dx mA) : ∃ od, h.get? dx = some od /\ ∀ name, PySem.W.lookIn name od = some (mA name) := by
 obtain ⟨o, es, ep, ho, hd, hk, _, hm⟩ := n
 refine ⟨o, ho, fun name => ?_⟩
 have e := hm name
 unfold nsFind findBy at e
 rw [<- Array.find?_toList] at e
 unfold PySem.W.lookIn
 rw [hd]
 dsimp only
 split
 ·rename_i y q
  rw [q] at e
  exact congrArg some e
 ·rename_i q
  rw [q] at e
  have a : es.toList.any (·.refKey) = false := by
   rw [List.any_eq_false]
   intro y hy
   obtain ⟨z, t, hkey⟩ := hk y (Vl.mp hy)
   simp [DictEntry.refKey, hkey]
  have a' : ¬ es.toList.any (·.refKey) = true := by rw [a]; exact Ut
  rw [if_neg a']
  exact congrArg some e
theorem ZIu.look {h : Heap} {x dx C : Addr} {mA : Str -> Option Value} (I : ZIu h x dx C mA) : ∃ od, PySem.W.InstAt h x (PySem.W.instObj C dx) C (some od) /\ ∀ name, PySem.W.lookIn name od = some (mA name) :=
 let ⟨od, ho, hl⟩ := ZHb I.ns
 ⟨od, ⟨I.obj, rfl, rfl, ho⟩, hl⟩
theorem ZBT.some_of {v : V} {o : Option Value} (r : ZBT (some v) o) : ∃ u, o = some u /\ JQ v u := by
 cases o with
 | none => exact (show False from r).elim
 | some u => exact ⟨u, rfl, r⟩
section
variable {P : Program} {w : World} {H H' : Hp} {h h' : Heap} {a C dx : Addr} {fs fs' : List (Str × V)}
theorem ZKS (hok : HOk P w H h) (e : H a = some (.ins C dx fs)) : ∃ mA, ZIu h a dx C mA /\ (∀ f, ZBT (fs.lookup f) (mA f)) /\ PySem.Within mA (fs.map (·.1)) /\ fs.length <= 1000 /\ H dx = some (.own a) := by
 obtain ⟨d, z, ne, ob, mA, n, r, q⟩ := (show Jo P w H h a (.ins C dx fs) from hok a _ e)
 exact ⟨mA, ⟨ob, n, ne⟩, r, q, z, d⟩
end
structure Cls (K : W.Frag) (C : Addr) : Prop where
 pg : PySem.W.plainGet K C Str.empty = true
 hd : PySem.W.hasDictIn K C = true
 po : PySem.W.plainOver K C = true
 sa : W.findIn K (.ref C) "__setattr__" = some (some (.builtin "object.__setattr__"))
theorem Cls.get {K : W.Frag} {C : Addr} (c : Cls K C) (f : Str) : PySem.W.plainGet K C f = true := c.pg
section
variable {X : Cx} {pins : List (Addr × Obj)} {U : St} {H : Hp} {s : Shared} {A : Around} {E : Value -> Shared -> Prop} {Q : Value -> Shared -> Prop} {c : Value} {b : Bool}
inductive ZAw (K : W.Frag) (H : Hp) : V -> Value -> Prop where
 | non : ZAw K H .non (.type "NoneType")
 | bl (x : Bool) : ZAw K H (.bl x) (.type "bool")
 | int (i : Int) : ZAw K H (.int i) (.type "int")
 | str (x : Str) : ZAw K H (.str x) (.type "str")
 | flt (x : UInt64) : ZAw K H (.flt x) (.type "float")
 | lst {a : Addr} {xs : List V} (e : H a = some (.lst xs)) : ZAw K H (.ref a) (.type "list")
 | frz {a : Addr} {o : Obj} {xs : List V} (e : H a = some (.frz o (.lst xs))) : ZAw K H (.ref a) (.type "list")
 | tup {a : Addr} {xs : List V} (e : H a = some (.tup xs)) : ZAw K H (.ref a) (.type "tuple")
 | dK {a : Addr} {kvs : List (Key × V)} (e : H a = some (.dK kvs)) : ZAw K H (.ref a) (.type "dict")
 | dT {a : Addr} {kvs : List (List Key × V)} (e : H a = some (.dT kvs)) : ZAw K H (.ref a) (.type "dict")
 | ins {a C dx : Addr} {fs : List (Str × V)} (e : H a = some (.ins C dx fs)) (cl : Cls K C) (ha : W.findIn K (.ref C) "__class__" = some (some (.builtin "object.__class__")))
  (hn : PySem.W.specialIn K (.builtin "object.__class__") "__get__" = some (some (.builtin "getset_descriptor.__get__"))) (htk : PySem.W.takesIn K (.builtin "object.__class__") = some true)
  (hm : PySem.W.mroIn K C (.type "object") = some true) : ZAw K H (.ref a) (.ref C)
theorem ZHc {x : V} {u t : Value} (I : Inv X pins U H s) (rx : JQ x u) (ty : ZAw X.K H x t) (e : W.kitOne X.K t c = some b) (h : ∀ tk, Q (.bool b) { s with toks := tk }) :
  wpAny (model X.prog X.w) A (call (.builtin "isinstance") [u, c]) Q E s := by
 cases ty with
 | non => cases (show u = Value.none from rx); exact PySem.W.kia_one PySem.W.kitx_none I.kIn True.intro e (fun z => nomatch z) h
 | bl y => cases (show u = Value.bool y from rx); exact PySem.W.kia_one PySem.W.kitx_bool I.kIn True.intro e (fun z => nomatch z) h
 | int i => obtain ⟨t, q⟩ := (show ∃ t, u = Value.int i t from rx); cases q; exact PySem.W.kia_one PySem.W.kitx_int I.kIn True.intro e (fun z => nomatch z) h
 | str y => obtain ⟨t, q⟩ := (show ∃ t, u = Value.str y t from rx); cases q; exact PySem.W.kia_one PySem.W.kitx_str I.kIn True.intro e (fun z => nomatch z) h
 | flt y => obtain ⟨t, q⟩ := (show ∃ t, u = Value.float y t from rx); cases q; exact PySem.W.kia_one PySem.W.kitx_float I.kIn True.intro e (fun z => nomatch z) h
 | @lst a xs ea =>
  cases (show u = Value.ref a from rx)
  obtain ⟨_, _, n, _, h1⟩ := (show Jo X.prog X.w H s.heap a (.lst xs) from I.hok a _ ea)
  exact PySem.W.kia_one PySem.W.kitx_list I.kIn ⟨_, h1, rfl⟩ e (fun z => nomatch z) h
 | @frz a ob xs ea =>
  cases (show u = Value.ref a from rx)
  obtain ⟨_, _, _, n, _, h1⟩ := (show Jo X.prog X.w H s.heap a (.frz ob (.lst xs)) from I.hok a _ ea)
  exact PySem.W.kia_one PySem.W.kitx_list I.kIn ⟨_, h1, rfl⟩ e (fun z => nomatch z) h
 | @tup a xs ea =>
  cases (show u = Value.ref a from rx)
  obtain ⟨_, _, _, p⟩ := (show Jo X.prog X.w H s.heap a (.tup xs) from I.hok a _ ea)
  obtain ⟨o, h1, h2, _⟩ := p
  exact PySem.W.kia_one PySem.W.kitx_tuple I.kIn ⟨o, h1, h2⟩ e (fun z => nomatch z) h
 | @dK a kvs ea =>
  cases (show u = Value.ref a from rx)
  obtain ⟨_, _, vs, _, p⟩ := (show Jo X.prog X.w H s.heap a (.dK kvs) from I.hok a _ ea)
  obtain ⟨o, es, ep, h1, h2, _⟩ := p
  exact PySem.W.kia_one PySem.W.kitx_dict I.kIn ⟨o, h1, h2.1⟩ e (fun z => nomatch z) h
 | @dT a kvs ea =>
  cases (show u = Value.ref a from rx)
  obtain ⟨_, _, xs, _, o, es, ep, h1, h2, _⟩ := (show Jo X.prog X.w H s.heap a (.dT kvs) from I.hok a _ ea)
  exact PySem.W.kia_one PySem.W.kitx_dict I.kIn ⟨o, h1, h2.1⟩ e (fun z => nomatch z) h
 | @ins a C dx fs ea cl ha hn htk hm =>
  cases (show u = Value.ref a from rx)
  obtain ⟨mA, O, _⟩ := ZKS I.hok ea
  obtain ⟨od, J, _⟩ := O.look
  exact PySem.W.kia_one (PySem.W.kitx_own (cl.get _) cl.hd ha hn htk hm) I.kIn J e (fun z => nomatch z) h
end
structure Room (k : Nat) (A : Around) : Prop where
 hd : A.handled = none
 dp : A.depth + 3 * k + 5 < recursionLimit
 un : A.units + 16 * k + 200 < cLine
 gd : A.guards = some []
theorem Room.mono {j k : Nat} {A : Around} (r : Room k A) (h : j <= k) : Room j A := ⟨r.hd, by have := r.dp; omega, by have := r.un; omega, r.gd⟩
theorem Room.deeper {k : Nat} {A : Around} (r : Room (k + 1) A) (env : Env) : Room k (A.deeper env) :=
 ⟨r.hd, by have := r.dp; show A.depth + 1 + 3 * k + 5 < _; omega, by have := r.un; show A.units + 3 + 16 * k + 200 < _; omega, r.gd⟩
theorem Room.depth {k : Nat} {A : Around} (r : Room k A) : A.depth < recursionLimit := by have := r.dp; omega
theorem Room.units {k : Nat} {A : Around} (r : Room k A) : A.units + 64 < cLine := by have := r.un; omega
def ZIv : TA := fun _ H Q => Q [] H
def ZEh (ta : TE) (tr : TA) : TA := fun U H Q => ta U H fun x H1 => tr U H1 fun xs H2 => Q (x :: xs) H2
section
variable {X : Cx} {e : Expr} {es : List Expr} {te : TE} {t : TA} {pos : Pos}
theorem ZLv : PA X [] ZIv := fun _ _ _ _ H Q I h => Calls.spliced_nil ⟨[], H, I, .nil, h⟩
theorem ZKT (ha : PE X e te) (hr : PA X es t) (hs : starEach (e :: es) X.env = (false, eval e X.env) :: starEach es X.env := by rfl) : PA X (e :: es) (ZEh te t) := by
 intro pos pins s U H Q I h
 rw [hs]
 show wpAny _ _ (spliced ((false, eval e X.env) :: backTo pos (starEach es X.env))) _ _ s
 refine Calls.spliced_cons (thn (ha pins s U H _ I h) fun u s1 ⟨x, H1, I1, r1, q1⟩ => ?_)
 exact thn (hr pos pins s1 U H1 _ I1 q1) fun us s2 ⟨xs, H2, I2, r2, q2⟩ => ⟨x :: xs, H2, I2, .cons r1 r2, q2⟩
def ZIw (t : TA) : TE := fun U H Q => t U H fun xs H1 => xs.length <= sizeLine /\ ∀ p, H1 p = none -> Q (.ref p) (upd H1 p (.tup xs))
def ZIx (t : TA) : TE := fun U H Q => t U H fun xs H1 => xs.length <= sizeLine /\ ∀ p, H1 p = none -> Q (.ref p) (upd H1 p (.lst xs))
theorem ZLw {x1} (h : PA X es t) : PE X (.Tuple es x1 pos) (ZIw t) := by
 intro pins s U H Q I hq
 refine wpAny_Tuple_spliced (thn (h pos pins s U H _ I hq) fun us s1 ⟨xs, H1, I1, r, z, q⟩ => ⟨by rw [<- r.length]; exact z, ?_⟩)
 have hf : H1 s1.heap.objs.size = none := I1.hok.fresh (Ue _)
 refine ⟨.ref s1.heap.objs.size, upd H1 s1.heap.objs.size (.tup xs), I1.laid (t' := s1.toks) (fun b u e => Ub _ e) (Ue _) ?_, rfl, q _ hf⟩
 exact ⟨⟨z, fun _ => ⟨_, Uj _ rfl, rfl, rfl⟩⟩, us, r, ⟨_, Uj _ rfl, rfl, _, rfl⟩⟩
theorem ZLx (h : PA X es t) : PE X (.List es pos) (ZIx t) := by
 intro pins s U H Q I hq
 refine wpAny_List_spliced (thn (h pos pins s U H _ I hq) fun us s1 ⟨xs, H1, I1, r, z, q⟩ => ⟨by rw [<- r.length]; exact z, ?_⟩)
 have hf : H1 s1.heap.objs.size = none := I1.hok.fresh (Ue _)
 refine ⟨.ref s1.heap.objs.size, upd H1 s1.heap.objs.size (.lst xs), I1.laid (t' := s1.toks) (fun b u e => Ub _ e) (Ue _) ?_, rfl, q _ hf⟩
 exact ⟨z, us, 0, r, Uj _ rfl⟩
end
abbrev Sp := List V -> Hp -> VK -> XK -> Prop
abbrev CXT := List Env -> Hp -> Shared -> XK -> Value -> Shared -> Prop
structure ZGl (P : Program) (w : World) (K : W.Frag) (mg : Str -> Option Value) (base : Heap) (A : Around) (outer : List Env) (s : Shared) (H : Hp) : Prop where
 frames : A.frames = some outer
 mod : Mod K mg base
 bs : ∀ b o, base.get? b = some o -> s.heap.get? b = some o /\ H b = none
 bsz : base.objs.size <= s.heap.objs.size
 funs : s.heap.FunFrames base outer
 frf : ∀ b ∈ frs outer, H b = none
 hok : HOk P w H s.heap
 bare : AllBare s.gens
def CE (outer : List Env) (P : Program) (w : World) (H : Hp) (s : Shared) (Q : VK) (u : Value) (s' : Shared) : Prop :=
 ∃ v H', s'.os = s.os /\ AllBare s'.gens /\ Un (frs outer) [] H H' s.heap s'.heap /\ HOk P w H' s'.heap /\ JQ v u /\ Q v H'
def CR (CX : CXT) (outer : List Env) (P : Program) (w : World) (H : Hp) (s : Shared) (Q : VK) (E : XK) (r : Result) (s' : Shared) : Prop :=
 match r with
 | .ok (.ret u) => CE outer P w H s Q u s'
 | .ok _ => False
 | .error e => CX outer H s E e s'
structure Jt (P : Program) (w : World) (K : W.Frag) (mg : Str -> Option Value) (base : Heap) (CX : CXT) (k : Nat) (f : Addr) (fd : FuncData) (ps : List Str) (sp : Sp) : Prop where
 len : ∀ vs H Q E, sp vs H Q E -> vs.length = ps.length
 run : ∀ (A : Around) (outer : List Env) (s : Shared) (H : Hp) (args : Args) (us : List Value) (vs : List V) (Q : VK) (E : XK), Room k A -> ZGl P w K mg base A outer s H -> BindsTo s fd args (ps.zip us) -> JP vs us -> sp vs H Q E ->
  codeAny (model P w) A (.call (.ref f) args) (CR CX outer P w H s Q E) s
section
variable {X : Cx} {pins : List (Addr × Obj)} {U : St} {H : Hp} {s s' : Shared}
theorem Inv.env0 (I : Inv X pins U H s) : ZGl X.prog X.w X.K X.mg X.base X.A X.stack s H :=
 ⟨I.ok.frames, I.ok.mod, I.bs, UP I.ok.bsz I.sz, I.stack, I.stkFree, I.hok, I.bare⟩
theorem Inv.after {Q : VK} {u : Value} (I : Inv X pins U H s) (h : CE X.stack X.prog X.w H s Q u s') : EP X pins U Q u s' := by
 obtain ⟨v, H', os, bare, un, hok, r, q⟩ := h
 obtain ⟨hh, g, d, t, os'⟩ := s'
 obtain rfl : os' = s.os := os
 exact ⟨v, H', I.call (h' := hh) (g' := g) (d' := d) (t' := t) (ch := []) un hok bare (fun b z => absurd z (by simp)), r, q⟩
end
def ZDN (sp : Sp) (dvs : List V) (E : XK) (t : TA) : TE := fun U H Q => t U H fun vs H1 => sp (vs ++ dvs) H1 Q E
def Jh (K : W.Frag) (fd : FuncData) (ps : List Str) (ds : List Value) : Prop :=
 ∀ (s : Shared) (us : List Value), K.In s.heap -> (us ++ ds).length = ps.length -> BindsTo s fd ⟨us, []⟩ (ps.zip (us ++ ds))
theorem Jh.all {K : W.Frag} {fd : FuncData} {ps : List Str} (h : ∀ us : List Value, us.length = ps.length -> bindArgs fd ⟨us, []⟩ = pure (ps.zip us)) : Jh K fd ps [] := fun s us _ hl => by
 rw [UL] at hl ⊢
 exact .of_eq (h us hl)
def ZCP (CX : CXT) (X : Cx) (E : XK) : Prop := ∀ (pins : List (Addr × Obj)) (U : St) (H : Hp) (s : Shared) (e : Value) (s' : Shared), Inv X pins U H s -> CX X.stack H s E e s' -> X.xe e s'
section
variable {X : Cx} {CX : CXT} {k : Nat} {f C : Addr} {fd : FuncData} {ps : List Str} {sp : Sp} {dvs : List V} {ds : List Value} {E : XK} {x m : Str} {p pos apos : Pos} {e o : Expr} {es : List Expr} {ta : TE} {t : TA}
theorem ZLy {pins : List (Addr × Obj)} {U : St} {H : Hp} {s : Shared} {Q : VK} {us : List Value} {vs : List V} (F : Jt X.prog X.w X.K X.mg X.base CX k f fd ps sp) (hr : Room k X.A) (hb : Jh X.K fd ps ds) (hd : JP dvs ds) (hx : ZCP CX X E)
  (I : Inv X pins U H s) (r : JP vs us) (h : sp (vs ++ dvs) H Q E) : wpAny (model X.prog X.w) X.A (call (.ref f) us) (EP X pins U Q) X.xe s := by
 have r2 : JP (vs ++ dvs) (us ++ ds) := r.append hd
 have hl : (us ++ ds).length = ps.length := by rw [<- r2.length]; exact F.len _ _ _ _ h
 refine wpAny_call (codeAny_mono (F.run X.A X.stack s H ⟨us, []⟩ (us ++ ds) (vs ++ dvs) Q E hr I.env0 (hb s us I.kIn hl) r2 h) fun r s' hq => ?_)
 cases r with
 | error e => exact hx pins U H s e s' I hq
 | ok fl =>
  cases fl with
  | ret u => exact I.after hq
  | next => exact False.elim hq
  | brk => exact False.elim hq
  | cont => exact False.elim hq
theorem ZKU (F : Jt X.prog X.w X.K X.mg X.base CX k f fd ps sp) (hr : Room k X.A) (hg : Gl X x) (hm : X.mg x = some (.ref f)) (hk : W.keepIn X.K (.ref f) = true) (hb : Jh X.K fd ps ds) (hd : JP dvs ds) (hx : ZCP CX X E)
  (ha : PA X (e :: es) t) (hdb : (x == ("__debug__" : Str)) = false := by decide) (he : starEach (e :: es) X.env = (false, eval e X.env) :: starEach es X.env := by rfl) (hpl : (backTo pos (starEach es X.env)).any (·.1) = false := by rfl) :
  PE X (.Call (.Name x p) (e :: es) [] pos) (ZDN sp dvs E t) := by
 intro pins s U H Q I h
 refine wpAny_Call_Name_kw (ZKG I hg hm ?_ hdb)
 refine PySem.W.callWith_K (h₀ := X.base) I.ok.mod.kin hk (thn (ha pos pins s U H _ I h) fun us s1 ⟨vs, H1, I1, r, q⟩ => ⟨I1.kIn, ?_⟩) he hpl
 exact ZLy F hr hb hd hx I1 r q
end
structure Jd (N P : List Str) (sc : Scope) : Prop where
 kind : sc.kind = .function
 co : sc.isCoroutine = false
 gen : sc.isGenerator = false
 nd : N.Nodup
 pre : N.take P.length = P
 par : ∀ x ∈ P, sc.names.lookup x = some .local \/ sc.names.lookup x = some .cell
 nofree : ∀ y ∈ sc.names, y.2 ≠ .free
theorem ZD6 {kindOf : Str -> Option NameKind} {x : Str} : ∀ {binds : List (Str × Value)} {m : Str -> Option Value}, (∀ v, (x, v) ∉ binds) -> bindL kindOf binds m x = m x
 | [], _, _ => rfl
 | (n, v) :: r, m, h => by
  unfold bindL
  rw [ZD6 fun w hw => h w (Um _ hw)]
  split
  ·have : x ≠ n := by rintro rfl; exact h v Us
   simp [this]
  ·rfl
theorem ZD7 {kindOf : Str -> Option NameKind} {x : Str} : ∀ {binds : List (Str × Value)} {m : Str -> Option Value}, (∀ v, (x, v) ∉ binds) -> bindC kindOf binds m x = m x
 | [], _, _ => rfl
 | (n, v) :: r, m, h => by
  unfold bindC
  rw [ZD7 fun w hw => h w (Um _ hw)]
  split
  ·rfl
  ·have : x ≠ n := by rintro rfl; exact h v Us
   simp [this]
theorem ZD8 {kindOf : Str -> Option NameKind} {x : Str} {v : Value} : ∀ {P : List Str} {vs : List Value} {i : Nat} {m : Str -> Option Value}, P.Nodup -> P[i]? = some x -> vs[i]? = some v -> kindOf x = some .local ->
  bindL kindOf (P.zip vs) m x = some v
 | [], _, _, _, _, h, _, _ => by simp at h
 | _ :: _, [], _, _, _, _, h, _ => by simp at h
 | p :: P, w :: vs, 0, m, nd, h1, h2, hk => by
  simp at h1 h2; subst h1; subst h2
  show bindL kindOf ((p, w) :: P.zip vs) m p = _
  unfold bindL
  rw [ZD6 fun v hv => (Vv.mp nd).1 (List.of_mem_zip hv).1, if_pos hk]
  simp
 | p :: P, w :: vs, i + 1, m, nd, h1, h2, hk => by
  show bindL kindOf ((p, w) :: P.zip vs) m x = _
  unfold bindL
  exact ZD8 (i := i) (Vv.mp nd).2 (by simpa using h1) (by simpa using h2) hk
theorem ZD9 {kindOf : Str -> Option NameKind} {x : Str} {v : Value} : ∀ {P : List Str} {vs : List Value} {i : Nat} {m : Str -> Option Value}, P.Nodup -> P[i]? = some x -> vs[i]? = some v -> kindOf x ≠ some .local ->
  bindC kindOf (P.zip vs) m x = some v
 | [], _, _, _, _, h, _, _ => by simp at h
 | _ :: _, [], _, _, _, _, h, _ => by simp at h
 | p :: P, w :: vs, 0, m, nd, h1, h2, hk => by
  simp at h1 h2; subst h1; subst h2
  show bindC kindOf ((p, w) :: P.zip vs) m p = _
  unfold bindC
  rw [ZD7 fun v hv => (Vv.mp nd).1 (List.of_mem_zip hv).1, if_neg hk]
  simp
 | p :: P, w :: vs, i + 1, m, nd, h1, h2, hk => by
  show bindC kindOf ((p, w) :: P.zip vs) m x = _
  unfold bindC
  exact ZD9 (i := i) (Vv.mp nd).2 (by simpa using h1) (by simpa using h2) hk
def start (N : List Str) (vs : List V) : St := vs.map some ++ List.replicate (N.length - vs.length) none
def ZDp (CX : CXT) (P : Program) (w : World) (K : W.Frag) (mg : Str -> Option Value) (base : Heap) (N : List Str) (qual : Str) (scope : Scope) (f : Addr) (cd : Value) (A : Around) (outer : List Env) (s : Shared) (H : Hp) (E : XK) : Cx where
 prog := P
 w := w
 K := K
 mg := mg
 base := base
 A := A.deeper (envOfC qual scope s.heap.objs.size f cd)
 N := N
 s₀ := s
 H₀ := H
 env := envOfC qual scope s.heap.objs.size f cd
 outer := outer
 stack := envOfC qual scope s.heap.objs.size f cd :: outer
 ex := []
 calm := true
 fn := fun _ => true
 pn := []
 xe := fun e s' => wpAny (model P w) (A.deeper (envOfC qual scope s.heap.objs.size f cd)) (leaving (envOfC qual scope s.heap.objs.size f cd) e) (fun _ s'' => CX outer H s E e s'') (fun e' s'' => CX outer H s E e' s'') s'
theorem ZEu {sc : Scope} {n : Nat} {x : Str} (h : sc.names.lookup x = some .cell) : ∃ c, (cellsFrom n sc.names []).lookup x = some c := by
 have q := PySem.W.cellsFrom_some sc.names n [] (.inl h)
 exact Option.isSome_iff_exists.mp q
theorem ZHd {CX : CXT} {P : Program} {w : World} {K : W.Frag} {mg : Str -> Option Value} {base : Heap} {N ps : List Str} {qual : Str} {scope : Scope} {f : Addr} {cd : Value} {A : Around} {outer : List Env} {s s1 : Shared} {H : Hp} {E : XK} {us : List Value} {vs : List V}
  (S : Jd N ps scope) (hd : A.handled = none) (e0 : ZGl P w K mg base A outer s H) (hl : vs.length = ps.length) (r : JP vs us)
  (x : InCallC s s.heap.objs.size (bindL (envOfC qual scope s.heap.objs.size f cd).kindOf (ps.zip us) fun _ => none) (cellsFrom (s.heap.objs.size + 1) scope.names []) (bindC (envOfC qual scope s.heap.objs.size f cd).kindOf (ps.zip us) fun _ => none) s1) :
  Inv (ZDp CX P w K mg base N qual scope f cd A outer s H E) [] (start N vs) H s1 := by
 have hpl : ps.length <= N.length := by have := congrArg List.length S.pre; rw [UI] at this; omega
 obtain ⟨h1, tk, rfl, hk⟩ := x.done
 have noA : ∀ b : Addr, b ∉ (ZDp CX P w K mg base N qual scope f cd A outer s H E).ex := fun b z => absurd (show b ∈ ([] : List Addr) from z) (by simp)
 refine ⟨⟨e0.mod, S.kind, rfl, rfl, Ue _, fun y z c h1 h2 => ?_, fun y hy => ?_, fun y c _ h => ?_, fun _ => hd, Around.frames_deeper e0.frames, .inr ⟨rfl, rfl⟩, fun b z => absurd z (noA b), e0.bs, e0.bsz, fun b _ _ => noA b, fun b z => absurd z (noA b), e0.funs, e0.frf⟩,
  rfl, e0.bare, Un.kept hk, ⟨_, x.toInCall.ns, fun i y v h1 h2 h3 => ?_⟩, fun y c h => ⟨_, x.cell y c h⟩, e0.hok.fresh (Ue _), fun y c h => ?_, fun p hp => absurd (show p ∈ ([] : List (Addr × Obj)) from hp) (by simp), e0.hok.kept hk, ?_⟩
 ·exact name_of_addr x.apart (PySem.mem_of_lookup h1) (PySem.mem_of_lookup h2)
 ·have hy : scope.names.lookup y = some .cell \/ scope.names.lookup y = some .free := hy
  rcases hy with hy | hy
  ·exact ZEu hy
  ·exact absurd rfl (S.nofree _ (PySem.mem_of_lookup hy))
 ·exact Nat.le_of_lt (x.above y c (PySem.mem_of_lookup h))
 ·have hi : i < vs.length := by
   unfold start at h2
   by_cases hi : i < vs.length
   ·exact hi
   ·rw [UQ (by simpa using hi)] at h2
    rw [List.getElem?_replicate] at h2
    split at h2 <;> cases h2
  have ha : vs[i]? = some v := by
   unfold start at h2
   rw [Vd (by simpa using hi), UB] at h2
   cases e : vs[i]? with
   | none => rw [e] at h2; cases h2
   | some a => rw [e] at h2; cases h2; rfl
  obtain ⟨u, hu, rv⟩ := r.get ha
  have hp : ps[i]? = some y := by
   rw [<- S.pre, List.getElem?_take_of_lt (by omega)]; exact h1
  have ndP : ps.Nodup := by rw [<- S.pre]; exact S.nd.sublist (List.take_sublist _ _)
  refine ⟨u, rv, ?_⟩
  rcases S.par y (Uu hp) with k | k
  ·exact .inl ⟨k, ZD8 ndP hp hu k⟩
  ·obtain ⟨c, e⟩ := ZEu (n := s.heap.objs.size + 1) k
   refine .inr ⟨.inl k, c, e, ?_⟩
   have q := x.cell y c e
   rw [ZD9 ndP hp hu (by show scope.names.lookup y ≠ _; rw [k]; decide)] at q
   exact q
 ·exact e0.hok.fresh (Nat.le_of_lt (x.above y c (PySem.mem_of_lookup h)))
 ·unfold start
  show _ = N.length
  rw [UE, Uv, List.length_replicate]
  omega
theorem ZNA {CX : CXT} {P : Program} {w : World} {K : W.Frag} {mg : Str -> Option Value} {base : Heap} {k : Nat} {f : Addr} {name qual : Str} {params : Arguments} {body : List Stmt} {scope : Scope} {dV kV doc pm cdv ct oc : Value} {an od : Option Addr}
  {osl : Array (Option Value)} {N ps : List Str} {sp : Sp} (lk : K.lookup f = some ⟨oc, od, .func (W.fnOf name qual params body scope dV kV doc pm an cdv ct), osl⟩) (hcd : W.codeIn K cdv qual = true) (S : Jd N ps scope)
  (len : ∀ vs H Q E, sp vs H Q E -> vs.length = ps.length)
  (hbody : ∀ (A : Around) (outer : List Env) (s : Shared) (H : Hp) (vs : List V) (Q : VK) (E : XK), Room k (A.deeper (envOfC qual scope s.heap.objs.size f cdv)) -> sp vs H Q E ->
   ∃ t, PSs (ZDp CX P w K mg base N qual scope f cdv A outer s H E) body t /\ t { nx := fun _ H' => Q .non H', rt := Q } (start N vs) H) :
  Jt P w K mg base CX (k + 1) f (W.fnOf name qual params body scope dV kV doc pm an cdv ct) ps sp := by
 refine ⟨len, fun A outer s H args us vs Q E hr e0 hb r hsp => ?_⟩
 have hl := len _ _ _ _ hsp
 have KX : K.In s.heap := e0.mod.kin.keeps fun b o e => (e0.bs b o e).1
 have lim : s.heap.NoLimit := e0.mod.nolimit.keeps fun b o e => (e0.bs b o e).1
 have hkind : ∀ y ∈ ps.zip us, scope.names.lookup y.1 = some .local \/ (scope.names.lookup y.1 = some .cell /\ ((cellsFrom (s.heap.objs.size + 1) scope.names []).lookup y.1).isSome = true) := fun ⟨n, v⟩ hy => by
  rcases S.par n (List.of_mem_zip hy).1 with q | q
  ·exact .inl q
  ·exact .inr ⟨q, PySem.W.cellsFrom_some _ _ _ (.inl q)⟩
 refine codeAny_call_function hr.depth (KX _ _ lk) rfl S.co S.gen rfl (PySem.W.codeRec_of KX hcd) (hb _ _ _ _ ?_)
 refine wpAny_newFunctionEnv_cells S.kind hkind fun env he s1 x => ?_
 subst he
 refine ⟨lim.keeps x.toInCall.keep, codeAny_func ?_⟩
 obtain ⟨t, ht, hq⟩ := hbody A outer s H vs Q E (hr.deeper _) hsp
 have I : Inv (ZDp CX P w K mg base N qual scope f cdv A outer s H E) [] (start N vs) H s1 := ZHd S hr.hd e0 hl r x
 refine UA (ht [] s1 (start N vs) H _ I hq) (fun fl s' hs => ?_) fun e s' hs => hs
 have fin : ∀ {U' : St} {H' : Hp} {v : V} {u : Value}, Inv (ZDp CX P w K mg base N qual scope f cdv A outer s H E) [] U' H' s' -> JQ v u -> Q v H' -> CE outer P w H s Q u s' :=
  fun {U' H' v u} J rv q => ⟨v, H', J.os, J.bare, J.base, J.hok, rv, q⟩
 cases fl with
 | ret u =>
  obtain ⟨v, U', H', J, rv, q⟩ := hs
  exact fin J rv q
 | next =>
  obtain ⟨U', H', J, q⟩ := hs
  exact fin (v := V.non) (u := Value.none) J rfl q
 | brk =>
  obtain ⟨_, _, _, q⟩ := hs
  exact False.elim q
 | cont =>
  obtain ⟨_, _, _, q⟩ := hs
  exact False.elim q
section
variable {X : Cx} {x : Str} {p pos : Pos} {e : Expr} {es : List Expr} {t : TA} {id T : String} {r : List V -> Hp -> VK -> Prop}
def tCB (r : List V -> Hp -> VK -> Prop) (t : TA) : TE := fun U H Q => t U H fun vs H1 => r vs H1 Q
theorem ZIy (hc : J2 X (.builtin id) r) (hg : Gl X x) (hm : X.mg x = none) (hv : bootBuiltins x = some (.builtin id)) (ha : PA X (e :: es) t) (hn : x ≠ "__name__" := by decide) (hdb : (x == ("__debug__" : Str)) = false := by decide)
  (he : starEach (e :: es) X.env = (false, eval e X.env) :: starEach es X.env := by rfl) (hpl : (backTo pos (starEach es X.env)).any (·.1) = false := by rfl) : PE X (.Call (.Name x p) (e :: es) [] pos) (tCB r t) := by
 intro pins s U H Q I h
 refine wpAny_Call_Name_kw (ZAt I hg hm hv ?_ hn hdb)
 exact PyProof.Rows.callWith_builtin1 (thn (ha pos pins s U H _ I h) fun us s1 ⟨vs, H1, I1, r1, q1⟩ => hc pins s1 U H1 vs us Q I1 r1 q1) he hpl
theorem ZHe (hc : J2 X (.type T) r) (hg : Gl X x) (hm : X.mg x = none) (hv : bootBuiltins x = some (.type T)) (ha : PA X (e :: es) t) (hn : x ≠ "__name__" := by decide) (hdb : (x == ("__debug__" : Str)) = false := by decide)
  (he : starEach (e :: es) X.env = (false, eval e X.env) :: starEach es X.env := by rfl) (hpl : (backTo pos (starEach es X.env)).any (·.1) = false := by rfl) : PE X (.Call (.Name x p) (e :: es) [] pos) (tCB r t) := by
 intro pins s U H Q I h
 refine wpAny_Call_Name_kw (ZAt I hg hm hv ?_ hn hdb)
 exact PyProof.Rows.callWith_type1 (thn (ha pos pins s U H _ I h) fun us s1 ⟨vs, H1, I1, r1, q1⟩ => hc pins s1 U H1 vs us Q I1 r1 q1) he hpl
end
end L2
namespace HT
open PySem PyProof.Rows
section
variable {prog : Program} {w : World} {A : Around} {E : Value -> Shared -> Prop} {s : Shared}
def sIx (n d : Nat) : Option Int -> Nat
 | none => d
 | some v => if v < 0 then (v + (n : Int)).toNat else min v.toNat n
theorem sIx_nat (n d k : Nat) : sIx n d (some (k : Int)) = min k n := by
 show (if (k : Int) < 0 then ((k : Int) + (n : Int)).toNat else min (k : Int).toNat n) = min k n
 rw [if_neg (by omega), Int.toNat_natCast]
end
end HT
namespace L2
open PySem PySem.Spec PyProof.Rows
abbrev TO := St -> Hp -> (Option Int -> Hp -> Prop) -> Prop
def PO (X : Cx) (e : Option Expr) (t : TO) : Prop :=
 ∀ (pins : List (Addr × Obj)) (s : Shared) (U : St) (H : Hp) (Q : Option Int -> Hp -> Prop), Inv X pins U H s -> t U H Q ->
  wpAny (model X.prog X.w) X.A (evalPart e X.env) (fun u s' => ∃ o H', Inv X pins U H' s' /\ IsPart u o /\ Q o H') X.xe s
def ZDq : TO := fun _ H Q => Q none H
def ZGm (t : TE) : TO := fun U H Q => t U H fun x H1 => ∃ i, x = .int i /\ Q (some i) H1
section
variable {X : Cx} {e : Expr} {te : TE} {lo hi : Option Expr} {tl th : TO} {pos p2 : Pos}
theorem ZKV : PO X none ZDq := by
 intro pins s U H Q I h
 rw [evalPart_none]
 exact Ud ⟨none, H, I, .none, h⟩
theorem ZKW (h : PE X e te) : PO X (some e) (ZGm te) := by
 intro pins s U H Q I hw
 rw [evalPart_some]
 refine thn (h pins s U H _ I hw) fun u s1 ⟨x, H1, I1, r1, q1⟩ => ?_
 obtain ⟨i, rfl, q⟩ := q1
 obtain ⟨t, rfl⟩ := r1
 exact ⟨some i, H1, I1, .int i t, q⟩
def SlR (X : Cx) (r : V -> Option Int -> Option Int -> Hp -> VK -> Prop) : Prop :=
 ∀ (pins : List (Addr × Obj)) (s : Shared) (U : St) (H : Hp) (x : V) (v vl vu : Value) (lo hi : Option Int) (sl : Addr) (Q : VK), Inv X pins U H s -> JQ x v -> s.heap.IsSliceOf sl vl vu .none -> IsPart vl lo -> IsPart vu hi -> r x lo hi H Q ->
  ∃ T id, typeLookup (.type T) "__getitem__" = pure (some (.builtin id)) /\ s.TypeIs v T /\ wpAny (model X.prog X.w) X.A (getItem v (.ref sl)) (EP X pins U Q) X.xe s
def tSl (r : V -> Option Int -> Option Int -> Hp -> VK -> Prop) (te : TE) (tl th : TO) : TE := fun U H Q => te U H fun x H1 => tl U H1 fun l H2 => th U H2 fun u H3 => r x l u H3 Q
theorem ZIz {r : V -> Option Int -> Option Int -> Hp -> VK -> Prop} (hr : SlR X r) (he : PE X e te) (hl : PO X lo tl) (hu : PO X hi th) : PE X (.Subscript e (.Slice lo hi none p2) pos) (tSl r te tl th) := by
 intro pins s U H Q I h
 refine Subscript_ (thn (he pins s U H _ I h) fun v s1 ⟨x, H1, I1, r1, q1⟩ => ?_)
 refine wpAny_Slice (thn (hl pins s1 U H1 _ I1 q1) fun vl s2 ⟨l, H2, I2, pl, q2⟩ => thn (hu pins s2 U H2 _ I2 q2) fun vu s3 ⟨u, H3, I3, pu, q3⟩ => ?_)
 rw [evalPart_none]
 refine Ud ?_
 have I4 : Inv X pins U H3 { s3 with heap := s3.heap.push { cls := .type "slice", data := .fields #[vl, vu, .none] } } := I3.kept (t' := s3.toks) fun b ob q => Ub _ q
 obtain ⟨T, id, hT, ht, hg⟩ := hr pins { s3 with heap := s3.heap.push { cls := .type "slice", data := .fields #[vl, vu, .none] } } U H3 x v vl vu l u s3.heap.objs.size Q I4 r1 (Heap.IsSliceOf.new ..) pl pu q3
 show wpAny (model X.prog X.w) X.A (subscriptTail e (.Slice lo hi none p2) v (.ref s3.heap.objs.size)) (EP X pins U Q) X.xe { s3 with heap := s3.heap.push { cls := .type "slice", data := .fields #[vl, vu, .none] } }
 exact tail_any (ops := [.ref s3.heap.objs.size, v]) ht hT hg (by with_unfolding_all rfl)
def ZCx (xs : List V) (lo hi : Option Int) : List V := (xs.drop (HT.sIx xs.length 0 lo)).take (HT.sIx xs.length xs.length hi - HT.sIx xs.length 0 lo)
theorem ZFd (xs : List V) (lo hi : Option Int) : (ZCx xs lo hi).length <= xs.length := by
 unfold ZCx
 rw [UI, Vr]
 omega
end
def ixN (n : Nat) (i : Int) : Option Nat := if 0 <= i then (if i < n then some i.toNat else none) else if -(n : Int) <= i then some (i + n).toNat else none
def atI {α : Type} (xs : List α) (i : Int) : Option α := (ixN xs.length i).bind fun j => xs[j]?
theorem ZFw {n : Nat} {i : Int} {j : Nat} (h : ixN n i = some j) : seqIndex? i n = some j /\ j < n /\ -(n : Int) <= i /\ i < n := by
 unfold ixN at h
 by_cases h0 : 0 <= i
 ·rw [if_pos h0] at h
  by_cases h1 : i < n
  ·rw [if_pos h1] at h
   have e : i.toNat = j := Option.some.inj h
   exact ⟨by rw [seqIndex_of h0 h1, e], by omega, by omega, h1⟩
  ·rw [if_neg h1] at h; cases h
 ·rw [if_neg h0] at h
  by_cases h1 : -(n : Int) <= i
  ·rw [if_pos h1] at h
   have e : (i + n).toNat = j := Option.some.inj h
   exact ⟨by rw [seqIndex_neg (by omega) h1, e], by omega, h1, by omega⟩
  ·rw [if_neg h1] at h; cases h
theorem ZFx {α : Type} {xs : List α} {i : Int} {v : α} (h : atI xs i = some v) : ∃ j, seqIndex? i xs.length = some j /\ xs[j]? = some v /\ j < xs.length /\ -(xs.length : Int) <= i /\ i < xs.length := by
 unfold atI at h
 cases e : ixN xs.length i with
 | none => rw [e] at h; cases h
 | some j =>
  rw [e] at h
  obtain ⟨h1, h2, h3, h4⟩ := ZFw e
  exact ⟨j, h1, h, h2, h3, h4⟩
theorem ZCd {α : Type} {xs : List α} {j : Nat} {v : α} (h : xs[j]? = some v) : atI xs (j : Int) = some v := by
 have hj : j < xs.length := (UC.mp h).1
 have e : ixN xs.length (j : Int) = some j := by
  unfold ixN
  rw [if_pos (by omega), if_pos (by omega)]; simp
 unfold atI; rw [e]; exact h
theorem ZI0 {α : Type} (xs : List α) (v : α) : atI (xs ++ [v]) (-1) = some v := by
 have hl : (xs ++ [v]).length = xs.length + 1 := by simp
 have e : ixN (xs ++ [v]).length (-1) = some xs.length := by
  unfold ixN
  rw [hl, if_neg (by decide), if_pos (by omega)]
  congr 1
  omega
 unfold atI
 rw [e]
 show (xs ++ [v])[xs.length]? = some v
 simp
def ZFy (b : Expr) : Prop := ∀ o i, subscripted b false o i = operate [o, i] (getItem o i)
def IxR (X : Cx) (r : R2) : Prop :=
 ∀ (value slice : Expr) (pins : List (Addr × Obj)) (s : Shared) (U : St) (H : Hp) (x y : V) (v u : Value) (Q : VK), Inv X pins U H s -> JQ x v -> JQ y u -> r x y H Q ->
  subscripted slice false v u = operate [v, u] (getItem v u) -> wpAny (model X.prog X.w) X.A (subscriptTail value slice v u) (EP X pins U Q) X.xe s
def MtR (X : Cx) (id : String) (r : V -> List V -> Hp -> VK -> Prop) : Prop :=
 ∀ (pins : List (Addr × Obj)) (s : Shared) (U : St) (H : Hp) (x : V) (xs : List V) (v : Value) (us : List Value) (Q : VK), Inv X pins U H s -> JQ x v -> JP xs us -> r x xs H Q ->
  wpAny (model X.prog X.w) X.A (call (.builtin id) (v :: us)) (EP X pins U Q) X.xe s
section
variable {X : Cx} {a b : Expr} {ta tb : TE} {pos : Pos}
theorem ZNB {r : R2} (hr : IxR X r) (ha : PE X a ta) (hb : PE X b tb) (hs : ZFy b) : PE X (.Subscript a b pos) (tOp r ta tb) := by
 intro pins s U H Q I h
 exact Subscript_ (ZIp ha hb I h fun v u s2 x y H2 I2 rx ry q => hr a b pins s2 U H2 x y v u Q I2 rx ry q (hs _ _))
def ZI1 (K : W.Frag) : R2 := fun x y H Q => ∃ p xs i v, x = .ref p /\ y = .int i /\ SqL K H p xs /\ atI xs i = some v /\ Q v H
def ZI2 (K : W.Frag) : R2 := fun x y H Q => ∃ p xs i v, x = .ref p /\ y = .int i /\ SqT K H p xs /\ atI xs i = some v /\ Q v H
theorem ZKX : IxR X (ZI1 X.K) := by
 intro value slice pins s U H x y v u Q I rx ry h hs
 obtain ⟨p, xs, i, z, rfl, rfl, hq, he, q⟩ := h
 cases rx
 obtain ⟨t, rfl⟩ := ry
 obtain ⟨its, r, pl, hz⟩ := I.list hq
 obtain ⟨j, h1, h2, h3, h4, h5⟩ := ZFx he
 obtain ⟨w, ew, rw'⟩ := r.get h2
 have hl := r.length
 have hn := ZDM
 have fin : EP X pins U Q w s := ⟨z, H, I, rw', q⟩
 by_cases h0 : 0 <= i
 ·have hj : i.toNat = j := by
   rw [seqIndex_of h0 h5] at h1
   exact Option.some.inj h1
  exact item_listR pl.isList h0 (by omega) (by rw [hj]; simpa using ew) fin hs
 ·have hj : (i + (its.toArray.size : Int)).toNat = j := by
   rw [seqIndex_neg (by omega) h4] at h1
   rw [Uq, <- hl]
   exact Option.some.inj h1
  exact subscriptTail_builtinR (x := w) pl.isList.typeIs slot_list_getitem.lookup
   (wpAny_getItem_list_neg (Q := fun r s' => r = w /\ EP X pins U Q r s') pl.isList (by omega) (by rw [Uq] <;> omega) (by omega) (by rw [hj]; simpa using ew) ⟨rfl, fin⟩) hs
theorem ZLz : IxR X (ZI2 X.K) := by
 intro value slice pins s U H x y v u Q I rx ry h hs
 obtain ⟨p, xs, i, z, rfl, rfl, hq, he, q⟩ := h
 cases rx
 obtain ⟨t, rfl⟩ := ry
 obtain ⟨its, r, pl, hz⟩ := I.tuple hq
 obtain ⟨j, h1, h2, h3, h4, h5⟩ := ZFx he
 obtain ⟨w, ew, rw'⟩ := r.get h2
 have hl := r.length
 have hn := ZDM
 have fin : EP X pins U Q w s := ⟨z, H, I, rw', q⟩
 exact subscriptTail_builtinR (x := w) pl.typeIs slot_tuple_getitem.lookup
  (getItem_tuple (j := j) (Q := fun r s' => r = w /\ EP X pins U Q r s') pl (by omega) (by omega) (by rw [Uq, <- hl]; exact h1) (by simpa using ew) ⟨rfl, fin⟩) hs
theorem ZGn (its : List Value) (n j : Nat) (u : Value) : Obj.mapSeq (·.setIfInBounds j u) { cls := .type "list", data := .seq its.toArray n } = { cls := .type "list", data := .seq (its.set j u).toArray n } := by
 simp [Obj.mapSeq]
theorem Inv.lst {pins : List (Addr × Obj)} {U : St} {H : Hp} {s : Shared} {p : Addr} {xs : List V} (I : Inv X pins U H s) (h : H p = some (.lst xs)) :
  ∃ (its : List Value) (n : Nat), JP xs its /\ s.heap.get? p = some { cls := .type "list", data := .seq its.toArray n } /\ xs.length <= sizeLine := by
 obtain ⟨z, its, n, r, e⟩ := I.hok p _ h
 exact ⟨its, n, r, e, z⟩
theorem Inv.lstUpd {pins : List (Addr × Obj)} {U : St} {H : Hp} {s : Shared} {p : Addr} {xs ys : List V} {its its' : List Value} {n n' : Nat} {f : Obj -> Obj} (I : Inv X pins U H s) (h : H p = some (.lst xs))
  (ho : s.heap.get? p = some { cls := .type "list", data := .seq its.toArray n }) (hf : f { cls := .type "list", data := .seq its.toArray n } = { cls := .type "list", data := .seq its'.toArray n' }) (r : JP ys its') (hz : ys.length <= sizeLine) (t : Nat) :
  Inv X pins U (upd H p (.lst ys)) { s with heap := s.heap.update p f, toks := t } := by
 have e : (s.heap.update p f).get? p = some { cls := .type "list", data := .seq its'.toArray n' } := by
  rw [UD f ho (by rw [hf] <;> rfl), hf]
 refine I.write (x := p) (e := p) (by rw [h]; trivial) (.inl rfl) (fun b u hb q => (Uz _ _ (Ne.symm hb)).trans q) ⟨_, e⟩ ?_
 exact ⟨hz, its', n', r, e⟩
def ZGo : V -> V -> V -> Hp -> (Hp -> Prop) -> Prop := fun o i v H Q => ∃ p xs k j, o = .ref p /\ i = .int k /\ H p = some (.lst xs) /\ ixN xs.length k = some j /\ Q (upd H p (.lst (xs.set j v)))
theorem ZCy : ZIi X ZGo := by
 intro pins s U H o i v ov iv u Q I ro ri rv h
 obtain ⟨p, xs, k, j, rfl, rfl, hp, hj, q⟩ := h
 cases ro
 obtain ⟨t, rfl⟩ := ri
 obtain ⟨its, n, r, ho, hz⟩ := I.lst hp
 obtain ⟨h1, h2, h3, h4⟩ := ZFw hj
 have hl := r.length
 have hn := ZDM
 have I' : Inv X pins U (upd H p (.lst (xs.set j v))) { s with heap := s.heap.update p (Obj.mapSeq (·.setIfInBounds j u)) } :=
  I.lstUpd hp ho (ZGn its n j u) (r.set rv j) (by rw [List.length_set]; exact hz) s.toks
 by_cases h0 : 0 <= k
 ·have hk : k.toNat = j := by
   rw [seqIndex_of h0 h4] at h1
   exact Option.some.inj h1
  exact PySem.W.ki_setAt ho h0 (by omega) (by rw [Uq, <- hl]; exact h4) (by rw [hk]; exact ⟨_, I', q⟩)
 ·have hk : (k + (its.toArray.size : Int)).toNat = j := by
   rw [seqIndex_neg (by omega) h3] at h1
   rw [Uq, <- hl]
   exact Option.some.inj h1
  exact PySem.W.ki_setBack ho (by omega) (by rw [Uq, <- hl]; exact h3) (by omega) (by rw [hk]; exact ⟨_, I', q⟩)
theorem ZEv (lo hi : Option Int) (n : Nat) : (sliceBounds lo hi none n).1 = ((HT.sIx n 0 lo : Nat) : Int) /\ (sliceBounds lo hi none n).2.1 = ((HT.sIx n n hi : Nat) : Int) /\ (sliceBounds lo hi none n).2.2 = 1 := by
 refine ⟨?_, ?_, rfl⟩
 ·cases lo with
  | none => simp [sliceBounds, HT.sIx]
  | some i =>
   simp only [sliceBounds, HT.sIx, Option.getD_none, show (1 : Int) > 0 by decide, if_true]
   by_cases h : i < 0
   ·simp only [h, if_true] <;> omega
   ·simp only [h, if_false] <;> omega
 ·cases hi with
  | none => simp [sliceBounds, HT.sIx]
  | some i =>
   simp only [sliceBounds, HT.sIx, Option.getD_none, show (1 : Int) > 0 by decide, if_true]
   by_cases h : i < 0
   ·simp only [h, if_true] <;> omega
   ·simp only [h, if_false] <;> omega
theorem ZEY (its : List Value) (lo hi : Option Int) : slicePick its.toArray lo hi none = ((its.drop (HT.sIx its.length 0 lo)).take (HT.sIx its.length its.length hi - HT.sIx its.length 0 lo)).toArray := by
 obtain ⟨h1, h2, h3⟩ := ZEv lo hi its.toArray.size
 unfold slicePick
 rw [h1, h2, h3]
 simp only [sliceRange_one, pick_run, Uq] <;> rfl
def ZGp (K : W.Frag) : V -> Option Int -> Option Int -> Hp -> VK -> Prop := fun x lo hi H Q => ∃ a xs, x = .ref a /\ SqL K H a xs /\ ∀ p, H p = none -> Q (.ref p) (upd H p (.lst (ZCx xs lo hi)))
theorem ZKY : SlR X (ZGp X.K) := by
 intro pins s U H x v vl vu lo hi sl Q I rx hs pl pu h
 obtain ⟨a, xs, rfl, hx, q⟩ := h
 cases rx
 obtain ⟨its, r, ht, hz⟩ := I.list hx
 have hlen := r.length
 refine ⟨"list", _, slot_list_getitem.lookup, ht.isList.typeIs, ?_⟩
 refine wpAny_getItem_list_slice ht.isList hs pl pu .none (by simp) ?_ (by rw [Uq] <;> omega)
 rw [ZEY, <- hlen]
 refine ⟨.ref s.heap.objs.size, _, I.laid (t' := s.toks) (o := .lst (ZCx xs lo hi)) (fun b ob q => Ub _ q) (Ue _) ?_, rfl, q _ (I.hok.fresh (Ue _))⟩
 exact ⟨UP (ZFd xs lo hi) hz, _, 0, (r.drop (HT.sIx xs.length 0 lo)).take (HT.sIx xs.length xs.length hi - HT.sIx xs.length 0 lo), Uj _ rfl⟩
theorem ZEw : J2 X (.builtin "len") (fun xs H Q => ∃ p ys, xs = [.ref p] /\ (SqL X.K H p ys \/ SqT X.K H p ys) /\ Q (.int ys.length) H) := by
 intro pins s U H xs us Q I r h
 obtain ⟨p, ys, rfl, hq, q⟩ := h
 obtain ⟨u, rfl, rx⟩ := ZGk r
 cases rx
 have hn := ZDM
 rcases hq with hq | hq
 ·obtain ⟨its, r', pl, hz⟩ := I.list hq
  have hlen := r'.length
  exact Calls.call_len_list pl.isList (by simp only [Uq] <;> omega) ⟨.int ys.length, H, I.tok _, ⟨s.toks + 1, by rw [Uq, hlen]⟩, q⟩
 ·obtain ⟨its, r', pl, hz⟩ := I.tuple hq
  have hlen := r'.length
  exact len_tuple pl (by simp only [Uq] <;> omega) ⟨.int ys.length, H, I.tok _, ⟨s.toks + 1, by rw [Uq, hlen]⟩, q⟩
theorem ZEZ : J2 X (.type "tuple") (fun xs H Q => ∃ p ys, xs = [.ref p] /\ ((SqL X.K H p ys /\ ∀ l, H l = none -> Q (.ref l) (upd H l (.tup ys))) \/ (SqT X.K H p ys /\ Q (.ref p) H))) := by
 intro pins s U H xs us Q I r h
 obtain ⟨p, ys, rfl, h⟩ := h
 obtain ⟨u, rfl, rx⟩ := ZGk r
 cases rx
 rcases h with ⟨hq, q⟩ | ⟨hq, q⟩
 ·obtain ⟨its, r', pl, hz⟩ := I.list hq
  have hlen := r'.length
  refine call_tuple_list pl.isList (fun h' kp => ?_) (by simp only [Uq] <;> omega)
  have I1 : Inv X pins U H { s with heap := h' } := I.kept (t' := s.toks) kp
  have I2 : Inv X pins U (upd H h'.objs.size (.tup ys)) { s with heap := h'.push { cls := .type "tuple", data := .seq its.toArray } } :=
   I1.laid (t' := s.toks) (fun b o e => Ub _ e) (Ue _) (show Jo X.prog X.w _ _ _ (.tup ys) from ⟨⟨hz, fun _ => ⟨_, Uj _ rfl, rfl, rfl⟩⟩, its, r', IsTup.new _ _⟩)
  exact ⟨.ref h'.objs.size, _, I2, rfl, q _ (I1.hok.fresh (Ue _))⟩
 ·obtain ⟨its, r', pl, hz⟩ := I.tuple hq
  exact call_tuple_same pl ⟨.ref p, H, I, rfl, q⟩
def tyV (K : W.Frag) (T : String) (x : V) (H : Hp) : Prop := match x with
 | .str _ => T = "str"
 | .int _ => T = "int"
 | .ref p => (T = "list" /\ ∃ xs, SqL K H p xs) \/ (T = "tuple" /\ ∃ o, K.lookup p = some o /\ o.cls = .type "tuple" /\ o.dict = none) \/
  (T = "dict" /\ ((∃ kvs, H p = some (.dK kvs)) \/ ∃ kvs, H p = some (.dT kvs))) \/ (T = "set" /\ ∃ S n, H p = some (.set S n))
 | _ => False
theorem ZL0 {pins : List (Addr × Obj)} {U : St} {H : Hp} {s : Shared} {T : String} {x : V} {v : Value} (I : Inv X pins U H s) (r : JQ x v) (ty : tyV X.K T x H) :
  s.TypeIs v T /\ ∀ a, v = .ref a -> ∃ ob, s.heap.get? a = some ob /\ ob.dict = none := by
 cases x with
 | str z =>
  obtain ⟨t, rfl⟩ := r
  cases (show T = "str" from ty)
  exact ⟨typeIs_str s z t, fun _ e => nomatch e⟩
 | int i =>
  obtain ⟨t, rfl⟩ := r
  cases (show T = "int" from ty)
  exact ⟨typeIs_int s i t, fun _ e => nomatch e⟩
 | ref p =>
  cases r
  rcases ty with ⟨rfl, xs, hq⟩ | ⟨rfl, o, hk, hc, hd⟩ | ⟨rfl, hk⟩ | ⟨rfl, S, n, hk⟩
  ·obtain ⟨its, _, pl, _⟩ := I.list hq
   refine ⟨pl.isList.typeIs, fun a e => ?_⟩
   cases e
   obtain ⟨o, n, e, c, hd, _⟩ := pl
   exact ⟨o, e, hd⟩
  ·refine ⟨⟨o, I.kIn p o hk, hc⟩, fun a e => ?_⟩
   cases e
   exact ⟨o, I.kIn _ o hk, hd⟩
  ·have z : ∃ o, s.heap.get? p = some o /\ o.ExactDict := by
    rcases hk with ⟨kvs, hk⟩ | ⟨kvs, hk⟩
    ·obtain ⟨_, _, _, _, o, _, _, e, ex, _⟩ := I.hok p _ hk
     exact ⟨o, e, ex⟩
    ·obtain ⟨_, _, _, _, o, _, _, e, ex, _⟩ := I.hok p _ hk
     exact ⟨o, e, ex⟩
   obtain ⟨o, e, ex⟩ := z
   refine ⟨⟨o, e, ex.1⟩, fun a e2 => ?_⟩
   cases e2
   exact ⟨o, e, ex.2.1⟩
  ·obtain ⟨o, _, _, _, e, ex, _⟩ := I.hok p _ hk
   refine ⟨⟨o, e, ex.1⟩, fun a e2 => ?_⟩
   cases e2
   exact ⟨o, e, ex.2.1⟩
 | _ => exact False.elim ty
def tBM (K : W.Frag) (T : String) (r : V -> List V -> Hp -> VK -> Prop) (to : TE) (t : TA) : TE := fun U H Q => to U H fun x H1 => tyV K T x H1 /\ t U H1 fun xs H2 => r x xs H2 Q
variable {o e : Expr} {es : List Expr} {to : TE} {t : TA} {name : Str} {apos cpos : Pos} {T id : String} {r : V -> List V -> Hp -> VK -> Prop}
theorem ZNC (pa : PlainAttrs T) (slot : Slot T name id) (hty : typeOf (.builtin id) = pure (.type "method_descriptor")) (hm : MtR X id r) (ho : PE X o to) (ha : PA X (e :: es) t)
  (hbase : attributeBase o name X.env (eval o X.env) = eval o X.env := by rfl)
  (hfew : ((backTo cpos (starEach (e :: es) X.env)).all (fun x => !x.1) && (backToKw cpos (keywordEach [] X.env)).all (fun x => x.1.isSome)
   && decide ((e :: es).length + ([] : List Keyword).length + (if ([] : List Keyword).isEmpty then 0 else 1) < 30)) = true := by rfl)
  (hline : (apos.endLine == cpos.line) = true := by rfl) (hs : starEach (e :: es) X.env = (false, eval e X.env) :: starEach es X.env := by rfl) (hplain : (backTo cpos (starEach es X.env)).any (·.1) = false := by rfl) :
  PE X (.Call (.Attribute o name apos) (e :: es) [] cpos) (tBM X.K T r to t) := by
 intro pins s U H Q I h
 refine wpAny_Call_method_late hbase hfew hline rfl (thn (ho pins s U H _ I h) fun v s1 ⟨x, H1, I1, r1, ty, q1⟩ => ?_)
 obtain ⟨h1, h2⟩ := ZL0 I1 r1 ty
 refine ⟨T, id, pa, slot, hty, h1, h2, ?_⟩
 have hA := ha cpos pins s1 U H1 _ I1 q1
 rw [hs] at hA ⊢
 refine Calls.callWith_builtin (by show (false || (backTo cpos (starEach es X.env)).any (·.1)) = false; rw [hplain] <;> rfl) (Calls.evalArgs_plain ?_)
 exact thn hA fun us s2 ⟨vs, H2, I2, r2, q2⟩ => hm pins s2 U H2 x vs v us Q I2 r1 r2 q2
end
def MtM (X : Cx) (id : String) (r : V -> List V -> Hp -> VK -> Prop) : Prop :=
 ∀ (pins : List (Addr × Obj)) (s : Shared) (U : St) (H : Hp) (x : V) (xs : List V) (v : Value) (us : List Value) (Q : VK), Inv X pins U H s -> JQ x v -> JP xs us -> r x xs H Q ->
  wpAny (model X.prog X.w) X.A (call (.builtin id) (v :: us)) (EP X pins U Q) X.xe s
theorem JP.one : ∀ {x : V} {us : List Value}, JP [x] us -> ∃ u, us = [u] /\ JQ x u
 | _, _, .cons r .nil => ⟨_, rfl, r⟩
theorem JP.two : ∀ {x y : V} {us : List Value}, JP [x, y] us -> ∃ u v, us = [u, v] /\ JQ x u /\ JQ y v
 | _, _, _, .cons r (.cons q .nil) => ⟨_, _, rfl, r, q⟩
section
variable {X : Cx} {pins : List (Addr × Obj)} {U : St} {H : Hp} {s : Shared} {l b : Addr} {xs ys zs : List V}
theorem Inv.lset {its its' : List Value} {n : Nat} {f : Array Value -> Array Value} {t' : Nat} (I : Inv X pins U H s) (hH : H l = some (.lst xs))
  (e : s.heap.get? l = some { cls := .type "list", data := .seq its.toArray n }) (hf : f its.toArray = its'.toArray) (hv : JP ys its') (hz : ys.length <= sizeLine) :
  Inv X pins U (upd H l (.lst ys)) { s with heap := s.heap.update l (Obj.mapSeq f), toks := t' } := by
 have q := PySem.IsL.update e f
 rw [hf] at q
 refine I.write (x := l) (e := l) (by rw [hH]; exact trivial) (.inl rfl) (fun b' u hb hu => (Uz s.heap (Obj.mapSeq f) (Ne.symm hb)).trans hu) ⟨_, q⟩ ?_
 exact ⟨hz, its', _, hv, q⟩
theorem Inv.lstM (I : Inv X pins U H s) (hH : H l = some (.lst xs)) : xs.length <= sizeLine /\ ∃ (its : List Value) (n : Nat), JP xs its /\ xs.length = its.length /\ s.heap.get? l = some { cls := .type "list", data := .seq its.toArray n } := by
 obtain ⟨z, its, n, r, e⟩ := I.hok l _ hH
 exact ⟨z, its, n, r, r.length, e⟩
end
section
variable {X : Cx}
def ZFz : V -> List V -> Hp -> VK -> Prop := fun x vs H Q => ∃ l xs y, x = .ref l /\ vs = [y] /\ H l = some (.lst xs) /\ xs.length < sizeLine /\ Q .non (upd H l (.lst (xs ++ [y])))
theorem ZAI : MtM X "list.append" ZFz := by
 intro pins s U H x vs v us Q I rx rv h
 obtain ⟨l, xs, y, rfl, rfl, hH, hz, q⟩ := h
 cases rx
 obtain ⟨u, rfl, ru⟩ := rv.one
 obtain ⟨z, its, n, r, hl, e⟩ := I.lstM hH
 refine call_meets F.slot_list_append ⟨_, e, rfl⟩ F.entry_list_append (F.args_list_append_2 _ _) (PySem.list_append l its.toArray n u (by rw [Uq]; omega)) ⟨e, ?_⟩
 refine ⟨.non, _, I.lset (its' := its ++ [u]) hH e (by simp) (r.append (.cons ru .nil)) ?_, rfl, q⟩
 rw [UE, List.length_singleton]
 omega
end
end L2
namespace Att
open PySem PySem.W PySem.Calls PyProof.Rows
theorem ZDO {P : Params} {h : Heap} : ∀ (ns : List Int) (vs : List Value), WellAll P h vs (ns.map WData.int) -> IntsAre vs ns := by
 intro ns
 induction ns with
 | nil =>
  intro vs w
  rw [List.map_nil] at w
  cases w
  exact .nil
 | cons n ns ih =>
  intro vs w
  rw [UJ] at w
  cases w with
  | cons a b =>
   cases a
   exact .cons _ _ (ih _ b)
theorem ZHf {l : OpenLaw} {n : Nat} (hn : l.most = some n) {P : Params} {h : Heap} {args : List WData} {vals : List Value}
  (hpre : l.row.toRowW.claim.pre args = true) (hwl : WellAll P h vals args) :
  ∃ a vs ns, vals = [Value.ref a] /\ args = [WData.list (ns.map WData.int)] /\ h.get? a = some { cls := .type "list", data := .seq vs.toArray } /\ IntsAre vs ns /\ ns.length <= n := by
 have hsh : WShape.hasAll [] args [.list .int] = true := (pre_splitW hpre).1
 have hc : l.pre.holds [] { args := args } = true := (pre_splitW hpre).2
 obtain ⟨d, r, rfl, h1, h2⟩ := hasAllW_cons hsh
 obtain rfl := hasAllW_nil h2
 obtain ⟨xs, rfl, h3⟩ := hasW_list h1
 obtain ⟨ns, rfl⟩ := items_int h3
 have hlen : ns.length <= n := by
  unfold OpenLaw.pre at hc
  have h4 : (WTm.not (.lt (.lit (.int (n : Int))) (.len (.arg 0)))).holds [] { args := [.list (ns.map .int)] } = true := by
   have h4 := (holds_andW hc).1
   rw [hn] at h4
   exact h4
  have h5 := condW_of h4 (w_not (w_lt w_lit (w_len_list (w_arg rfl))))
  rw [Uv] at h5
  refine Nat.le_of_not_lt fun q => ?_
  have q' : (n : Int) < ((ns.length : Nat) : Int) := by omega
  first
   | (rw [decide_eq_true q'] at h5; exact absurd h5 (by decide))
   | (simp at h5; omega)
 cases hwl with
 | cons w1 w2 =>
  cases w2
  cases w1 with
  | list ho hall => exact ⟨_, _, ns, rfl, rfl, ho, ZDO ns _ hall, hlen⟩
theorem ZHg (l : OpenLaw) (args : List WData) : l.row.toRowW.claim.post args (.bool true) args = true :=
 postW_of (r := l.row.toRowW) (X := (true == true))
  (show WShape.has [] (.bool true) .bool = true by first | rfl | decide | simp [WShape.has, WShape.arms, WShape.armsAll])
  (show (WTm.eq .res (.lit (.bool true))).value [] { args := args, res := some (.bool true), after := args } = some (.bool (true == true)) from w_eq_bool (w_res rfl) w_lit) rfl
theorem attach_call {l : OpenLaw} {n : Nat} {q : Program} {loose : List Str} {XP : (Str -> Option Value) -> Heap -> Prop} {YP : World -> Heap -> Prop} {d : DefRec}
  (hn : l.most = some n) (hdf : d.params.defaults = [])
  (call : ∀ (w : World) (s₀ s₁ : Shared) (mg mb : Str -> Option Value) (fa : Addr) (o : Obj) (pm cd doc : Value) (a : Addr) (vs : List Value) (ns : List Int),
   Ground q loose [] XP w s₀ mg mb s₁.heap -> YP w s₁.heap ->
   s₁.heap.get? fa = some o -> o.data = .func (docDef d.name d.params d.body d.scope pm cd doc) -> s₁.heap.CodeRec cd d.name -> mg d.name = some (.ref fa) ->
   s₁.heap.get? a = some { cls := .type "list", data := .seq vs.toArray } -> IntsAre vs ns -> ns.length <= n -> s₁.gens = #[] ->
   codeAny (model l.prog w) callerA (.call (.ref fa) ⟨[.ref a], []⟩) (fun r s' => r = .ok (.ret (.bool true)) /\ OldK s₁.heap s'.heap /\ s'.os = s₁.os /\ AllBare s'.gens) s₁) :
  WalkO q loose XP YP l.row.toRowW d [] (fun f vs => PySem.call f vs) := by
 intro w s₀ s₁ mg mb G Y fa o pm cd doc dV kV ho hd hcd hD hmg hg args vals as hpre hlay hrd hwl hlo
 obtain rfl : dV = .none := Dflts.none hD hdf
 obtain rfl : kV = .none := Dflts.noKw hD
 obtain ⟨a, vs, ns, rfl, rfl, hobj, hints, hlen⟩ := ZHf hn hpre hwl
 refine enter_call (codeAny_mono (call w s₀ s₁ mg mb fa o pm cd doc a vs ns G Y ho (fd_plain hd) hcd hmg hobj hints hlen hg) fun r s' hq => ?_)
 obtain ⟨rfl, h2, h3, h4⟩ := hq
 exact ⟨.inl ⟨.bool true, .bool true, [], rfl, fun _ => rfl, .bool true, ZHg l _, fun _ => ⟨List.Pairwise.nil, fun _ hm => (nomatch hm)⟩⟩, h2, h3, h4⟩
section
variable {prog : Program} {w : World} {A : Around} {E : Value -> Shared -> Prop} {s : Shared} {K : Frag}
def ZNi (h : Heap) (L d : Addr) : List (Addr × Obj) := (Vj h.objs.size).filterMap fun a => if a = L \/ a = d then none else (h.get? a).map fun o => (a, o)
end
end Att
namespace L2
open PySem PySem.Spec PyProof.Rows
theorem ZEA : ∀ {vs : List Value} {ns : List Int}, IntsAre vs ns -> JP (ns.map V.int) vs
 | _, _, .nil => .nil
 | _, _, .cons n t h => .cons ⟨t, rfl⟩ (ZEA h)
def ZI3 (H : Hp) : Prop := ∀ b, H b = none \/ ∃ o xs, H b = some (.frz o (.lst xs))
theorem ZI4 {P : Program} {w : World} {K : W.Frag} {mg mb : Str -> Option Value} {CX : CXT} {k : Nat} {fa a : Addr} {fd : FuncData} {x : Str} {sp : Sp} {s₁ : Shared} {vs : List Value} {ns : List Int}
  (KX : K.In s₁.heap) (hns : s₁.heap.Ns mainGlobals mg) (hb : s₁.heap.Ns builtinsNs mb) (hbb : ∀ x : Str, x ≠ "__name__" -> mb x = bootBuiltins x) (hlim : s₁.heap.NoLimit) (hg : s₁.gens = #[])
  (ha : s₁.heap.get? a = some { cls := .type "list", data := .seq vs.toArray }) (hi : IntsAre vs ns) (hl : ns.length <= sizeLine) (hr : Room k callerA)
  (F : ∀ base : Heap, K.In base -> base.Ns mainGlobals mg -> Jt P w K mg base CX k fa fd [x] sp) (hbind : ∀ (s : Shared) (u : Value), BindsTo s fd ⟨[u], []⟩ [(x, u)])
  (hsp : ∀ H : Hp, ZI3 H -> SqL K H a (ns.map V.int) -> sp [.ref a] H (fun v _ => v = .bl true) fun _ _ _ => False)
  (hCX : ∀ H e s', CX [] H s₁ (fun _ _ _ => False) e s' -> False) :
  codeAny (model P w) callerA (.call (.ref fa) ⟨[.ref a], []⟩) (fun r s' => r = .ok (.ret (.bool true)) /\ OldK s₁.heap s'.heap /\ s'.os = s₁.os /\ AllBare s'.gens) s₁ := by
 have rv := ZEA hi
 have lenV := hi.length
 -- from an abstract heap in which nothing but the script may be tracked
 have core : ∀ H : Hp, ZI3 H -> SqL K H a (ns.map V.int) -> HOk P w H s₁.heap -> (∀ b, H b ≠ none -> b = a) -> (H a ≠ none -> K.lookup a = none) ->
   codeAny (model P w) callerA (.call (.ref fa) ⟨[.ref a], []⟩) (fun r s' => r = .ok (.ret (.bool true)) /\ OldK s₁.heap s'.heap /\ s'.os = s₁.os /\ AllBare s'.gens) s₁ := by
  intro H hO hS hok hA hK
  have base_of : ∀ {b : Addr} {o : Obj}, s₁.heap.get? b = some o -> H b = none -> (ZB7 s₁.heap H).get? b = some o := fun e n => ZIZ e n
  have noA : ∀ {b : Addr} {o : Obj} {es : Array DictEntry} {ep : Nat}, s₁.heap.get? b = some o -> o.data = .dict es ep -> H b = none := fun {b o es ep} e d => by
   cases q : H b with
   | none => rfl
   | some u =>
    have e' : b = a := hA b (by rw [q]; simp)
    subst e'
    rw [ha] at e; cases e
    have d' : Data.seq vs.toArray _ = Data.dict es ep := d
    cases d'
  have nsK : ∀ {b : Addr} {m : Str -> Option Value}, s₁.heap.Ns b m -> (ZB7 s₁.heap H).Ns b m := fun {b m} ⟨o, es, ep, e, d, r⟩ => ⟨o, es, ep, base_of e (noA e d), d, r⟩
  have hKb : K.In (ZB7 s₁.heap H) := fun b o e => base_of (KX b o e) (by
   cases q : H b with
   | none => rfl
   | some u =>
    have e' : b = a := hA b (by rw [q]; simp)
    subst e'
    rw [hK (by rw [q]; simp)] at e; cases e)
  have hM : Mod K mg (ZB7 s₁.heap H) := ⟨hKb, nsK hns, ⟨mb, nsK hb, hbb⟩, let ⟨mc, h1, h2⟩ := hlim; ⟨mc, nsK h1, h2⟩⟩
  have e0 : ZGl P w K mg (ZB7 s₁.heap H) callerA [] s₁ H := ⟨rfl, hM, fun b o e => ZKE e, Nat.le_of_eq (ZHR _ _), trivial, fun b hb => absurd (show b ∈ ([] : List Addr) from hb) (by simp), hok, .of_eq hg⟩
  refine codeAny_mono ((F _ hKb (nsK hns)).run callerA [] s₁ H ⟨[.ref a], []⟩ [.ref a] [.ref a] _ _ hr e0 (hbind s₁ (.ref a)) (.cons rfl .nil) (hsp H hO hS)) fun r s' h => ?_
  cases r with
  | error e => exact (hCX H e s' h).elim
  | ok fl =>
   cases fl with
   | next => exact False.elim h
   | brk => exact False.elim h
   | cont => exact False.elim h
   | ret u =>
    obtain ⟨v, H', os, bare, un, hok', r', q⟩ := h
    have q' : v = .bl true := q
    subst q'
    obtain rfl : u = Value.bool true := r'
    refine ⟨rfl, OldK.of_keep fun b o e => ?_, os, bare⟩
    cases q : H b with
    | none => exact un.keep b o e q (by intro z; exact absurd (show b ∈ ([] : List Addr) from z) (by simp)) (by simp)
    | some u =>
     rcases hO b with z | ⟨ob, xs, z⟩
     ·rw [q] at z; cases z
     ·have z2 := un.frzs b ob _ z
      obtain ⟨e1, _⟩ := hok b _ z
      obtain ⟨e2, _⟩ := hok' b _ z2
      rw [e] at e1; cases e1
      exact e2
 cases hk : K.lookup a with
 | some o =>
  -- the script is one of the module's own objects
  have e := KX a o hk
  rw [ha] at e
  cases e
  refine core (fun _ => none) (fun _ => .inl rfl) (.inr ⟨_, vs.toArray, _, hk, rfl, rfl, rfl, by rw [Uq, lenV]; exact hl, by simpa using rv⟩) (fun b u z => by have z' : (none : Option HO) = some u := z; cases z') (fun b z => absurd rfl z) fun z => absurd rfl z
 | none =>
  refine core (fun b => if b = a then some (.frz { cls := .type "list", data := .seq vs.toArray } (.lst (ns.map V.int))) else none) (fun b => ?_) (.inl (.inr ⟨{ cls := .type "list", data := .seq vs.toArray }, if_pos rfl⟩)) (fun b u z => ?_) (fun b z => ?_) fun _ => hk
  ·by_cases hb : b = a
   ·exact .inr ⟨_, _, if_pos hb⟩
   ·exact .inl (if_neg hb)
  ·by_cases hb : b = a
   ·have z' := (if_pos hb).symm.trans z
    cases z'
    subst hb
    exact ⟨ha, by rw [Uv]; exact hl, vs, _, rv, ha⟩
   ·have z' := (if_neg hb).symm.trans z
    cases z'
  ·by_cases hb : b = a
   ·exact hb
   ·exact absurd (if_neg hb) z
theorem walk_of {l : PySem.W.OpenLaw} {n k : Nat} {q : Program} {loose : List Str} {XP : (Str -> Option Value) -> Heap -> Prop} {YP : World -> Heap -> Prop} {d : DefRec} {K : Params -> W.Frag} {CX : World -> CXT} {sp : World -> Sp} {x : Str}
  (hn : l.most = some n) (hn2 : n <= sizeLine) (hdf : d.params.defaults = []) (hr : Room k callerA)
  (hY : ∀ (w : World) (h : Heap), YP w h -> (K w.params).In h)
  (F : ∀ (w : World) (mg : Str -> Option Value) (fa : Addr) (h : Heap), (K w.params).In h -> h.Ns mainGlobals mg -> mg d.name = some (.ref fa) ->
   ∃ fd : FuncData, (∀ (s : Shared) (u : Value), BindsTo s fd ⟨[u], []⟩ [(x, u)]) /\
    ∀ base : Heap, (K w.params).In base -> base.Ns mainGlobals mg -> Jt l.prog w (K w.params) mg base (CX w) k fa fd [x] (sp w))
  (hsp : ∀ (w : World) (H : Hp) (a : Addr) (ns : List Int), ns.length <= n -> ZI3 H -> SqL (K w.params) H a (ns.map V.int) -> sp w [.ref a] H (fun v _ => v = .bl true) fun _ _ _ => False)
  (hCX : ∀ (w : World) (H : Hp) (s : Shared) (e : Value) (s' : Shared), CX w [] H s (fun _ _ _ => False) e s' -> False) :
  PySem.W.WalkO q loose XP YP l.row.toRowW d [] (fun f vs => PySem.call f vs) := by
 refine Att.attach_call hn hdf fun w s₀ s₁ mg mb fa o pm cd doc a vs ns G Y ho hd hcd hmg hobj hints hlen hg => ?_
 have KX := hY w _ Y
 obtain ⟨fd, hb, hF⟩ := F w mg fa _ KX G.T.g hmg
 exact ZI4 KX G.T.g G.T.b G.T.builtins G.T.nolimit hg hobj hints (UP hlen hn2) hr hF hb (fun H hO hS => hsp w H a ns hlen hO hS) fun H e s' => hCX w H s₁ e s'
end L2
namespace L2
open PySem PySem.Spec PyProof.Rows
def ZAN (s : Stmt) : Arguments := match s with
 | .FunctionDef _ a _ _ _ _ _ _ _ _ => a
 | _ => { posonlyargs := [], args := [], vararg := none, kwonlyargs := [], kw_defaults := [], kwarg := none, defaults := [] }
def ZAG (s : Stmt) : List Stmt := match s with
 | .FunctionDef _ _ b _ _ _ _ _ _ _ => b
 | _ => []
def JL (s : Stmt) : Scope := match s with
 | .FunctionDef _ _ _ _ _ _ sc _ _ _ => sc
 | _ => { kind := .function, names := [], isGenerator := false, isCoroutine := false }
abbrev CX0 : CXT := fun _ _ _ _ _ _ => False
abbrev E0 : XK := fun _ _ _ => False
theorem ZND {X : Cx} : ZCP CX0 X E0 := fun _ _ _ _ _ _ _ h => h.elim
structure Fun (K : W.Frag) (x qual : Str) (st : Stmt) (f : Addr) (fd : FuncData) : Prop where
 ex : ∃ (oc : Value) (od : Option Addr) (kV doc pm : Value) (an : Option Addr) (cdv ct : Value) (osl : Array (Option Value)),
  fd = W.fnOf x qual (ZAN st) (ZAG st) (JL st) .none kV doc pm an cdv ct /\ K.lookup f = some ⟨oc, od, .func fd, osl⟩ /\ W.codeIn K cdv qual = true
 kp : W.keepIn K (.ref f) = true
section
variable {P : Program} {w : World} {K : W.Frag} {mg : Str -> Option Value} {base : Heap}
theorem Fun.ok {x qual : Str} {st : Stmt} {f : Addr} {fd : FuncData} {N ps : List Str} {k : Nat} {sp : Sp} (F : Fun K x qual st f fd) (S : Jd N ps (JL st)) (len : ∀ vs H Q E, sp vs H Q E -> vs.length = ps.length)
  (hbody : ∀ (cdv : Value) (A : Around) (outer : List Env) (s : Shared) (H : Hp) (vs : List V) (Q : VK) (E : XK), Room k (A.deeper (envOfC qual (JL st) s.heap.objs.size f cdv)) -> sp vs H Q E ->
   ∃ t, PSs (ZDp CX0 P w K mg base N qual (JL st) f cdv A outer s H E).nox (ZAG st) t /\ t { nx := fun _ H' => Q .non H', rt := Q } (start N vs) H) : Jt P w K mg base CX0 (k + 1) f fd ps sp := by
 obtain ⟨oc, od, kV, doc, pm, an, cdv, ct, osl, rfl, lk, hcd⟩ := F.ex
 refine ZNA lk hcd S len fun A outer s H vs Q E hr hsp => ?_
 obtain ⟨t, h, q⟩ := hbody cdv A outer s H vs Q E hr hsp
 exact ⟨t, h.nox, q⟩
theorem Fun.binds {x qual : Str} {st : Stmt} {f : Addr} {fd : FuncData} {ps : List Str} (F : Fun K x qual st f fd)
  (h : ∀ (kV doc pm : Value) (an : Option Addr) (cdv ct : Value) (us : List Value), us.length = ps.length -> bindArgs (W.fnOf x qual (ZAN st) (ZAG st) (JL st) .none kV doc pm an cdv ct) ⟨us, []⟩ = pure (ps.zip us)) : Jh K fd ps [] := by
 obtain ⟨oc, od, kV, doc, pm, an, cdv, ct, osl, rfl, lk, hcd⟩ := F.ex
 exact .all (h kV doc pm an cdv ct)
theorem fun_mk {x qual : Str} {st : Stmt} {f : Addr} {oc : Value} {od an : Option Addr} {osl : Array (Option Value)} {kV doc pm cdv ct : Value} (l : K.lookup f = some ⟨oc, od, .func (W.fnOf x qual (ZAN st) (ZAG st) (JL st) .none kV doc pm an cdv ct), osl⟩)
 (c : W.codeIn K cdv qual = true) (k : W.keepIn K (.ref f) = true) : Fun K x qual st f (W.fnOf x qual (ZAN st) (ZAG st) (JL st) .none kV doc pm an cdv ct) := ⟨⟨oc, od, kV, doc, pm, an, cdv, ct, osl, rfl, l, c⟩, k⟩
end
theorem ZCe {A : Around} {k : Nat} (hr : Room k A) : A.units + 1 < cLine := Up (Nat.add_le_add_left (by decide : 1 <= 64) _) hr.units
theorem Jp {A B : Prop} (h : B) : if false = true then A else B := by
 rw [if_neg Ut]
 exact h
theorem ZAn {A B : Prop} (h : A) : if true = true then A else B := by
 rw [if_pos rfl]
 exact h
def JM (H H' : Hp) : Prop := ∀ b o, H b = some o -> H' b = some o
theorem JM.refl (H : Hp) : JM H H := fun _ _ h => h
theorem JM.trans {H H1 H2 : Hp} (a : JM H H1) (b : JM H1 H2) : JM H H2 := fun c o h => b c o (a c o h)
theorem JM.seq {K : W.Frag} {H H' : Hp} {a : Addr} {xs : List V} (e : JM H H') (h : SqL K H a xs) : SqL K H' a xs := by
 rcases h with (h | ⟨o, h⟩) | h
 ·exact .inl (.inl (e _ _ h))
 ·exact .inl (.inr ⟨o, e _ _ h⟩)
 ·exact .inr h
end L2
namespace L2
open PySem PySem.Spec PyProof.Rows PySem.W
section
variable {X : Cx}
theorem Ji : OpR X (binaryOp .Mult) (rI IntMulOk fun i j => .int (i * j)) := opI fun _ _ _ _ _ _ _ hc q => mul_int q hc
def ZCf (_ j : Int) : Prop := 0 < j /\ j.natAbs.log2 < 9000
theorem ZEx : OpR X (binaryOp .FloorDiv) (rI ZCf fun i j => .int (i / j)) := opI fun i j _ _ _ _ _ hc q => by
 have h1 : (0 : Int) < j := hc.1
 exact floordiv_int (by omega) (by rw [Int.fdiv_eq_ediv_of_nonneg i (by omega)]; exact q) (.inl (PyProof.noPylong_of_log2 hc.2))
theorem ZCf.of {i j : Int} (h : 0 < j) {k : Nat} (h2 : j < 2 ^ k) (hk : k <= 9000) : ZCf i j := by
 refine ⟨h, ?_⟩
 have h3 : j.natAbs < 2 ^ k := by
  have e : ((j.natAbs : Nat) : Int) = j := by omega
  have e2 : ((2 ^ k : Nat) : Int) = (2 : Int) ^ k := by simp
  have : ((j.natAbs : Nat) : Int) < ((2 ^ k : Nat) : Int) := by rw [e, e2]; exact h2
  exact Int.ofNat_lt.mp this
 have h4 : j.natAbs.log2 < k := (Nat.log2_lt (by omega)).mpr h3
 omega
theorem ZNY {i j : Int} (h1 : -(2 ^ 64) < i) (h2 : i < 2 ^ 64) : IntMulOk i j := .of_left (intBits_le_64 h1 h2)
theorem ZNZ {i j : Int} (h1 : -(2 ^ 64) < j) (h2 : j < 2 ^ 64) : IntMulOk i j := .of_right (intBits_le_64 h1 h2)
theorem JQ.bool_iff {x : V} {v : Value} {b : Bool} (r : JQ x v) : (v == Value.bool b) = decide (x = .bl b) := by
 cases x with
 | non => cases r; rfl
 | bl c => cases r; cases b <;> cases c <;> rfl
 | int _ => obtain ⟨t, rfl⟩ := r; rfl
 | str _ => obtain ⟨t, rfl⟩ := r; rfl
 | byt _ => obtain ⟨t, rfl⟩ := r; rfl
 | flt _ => obtain ⟨t, rfl⟩ := r; rfl
 | ref _ => cases r; rfl
 | ty _ => cases r; rfl
theorem JQ.plainB {x : V} {v : Value} {b : Bool} (r : JQ x v) : plainIs v (.bool b) = true := by
 cases x with
 | non => cases r; rfl
 | bl c => cases r; rfl
 | int _ => obtain ⟨t, rfl⟩ := r; rfl
 | str _ => obtain ⟨t, rfl⟩ := r; rfl
 | byt _ => obtain ⟨t, rfl⟩ := r; rfl
 | flt _ => obtain ⟨t, rfl⟩ := r; rfl
 | ref _ => cases r; rfl
 | ty _ => cases r; rfl
theorem ZKZ : OpR X (compareOp .IsNot) (fun x y H Q => ∃ b, y = .bl b /\ Q (.bl (!decide (x = .bl b))) H) := by
 intro pins s U H x y v u Q I rx ry h
 obtain ⟨b, rfl, q⟩ := h
 obtain rfl : u = Value.bool b := ry
 exact wpAny_isNot_plain rx.plainB ⟨.bl _, H, I, by rw [rx.bool_iff]; rfl, q⟩
def ZI5 (K : W.Frag) : List V -> Hp -> VK -> Prop := fun xs H Q => ∃ x n t b, xs = [x, .ty n] /\ ZAw K H x t /\ W.kitOne K t (.type n) = some b /\ Q (.bl b) H
theorem ZI6 : J2 X (.builtin "isinstance") (ZI5 X.K) := by
 intro pins s U H xs us Q I r h
 obtain ⟨x, n, t, b, rfl, ty, e, q⟩ := h
 obtain ⟨u, v, rfl, ru, rv⟩ := r.two
 obtain rfl : v = Value.type n := rv
 exact ZHc I ru ty e fun tk => ⟨.bl b, H, I.tok _, rfl, q⟩
end
theorem ZEa {l : List (Str × Addr)} {x : Str} {c : Addr} (h : (x, c) ∈ l) : ∃ d, l.lookup x = some d := by
 induction l with
 | nil => cases h
 | cons p r ih =>
  obtain ⟨y, d⟩ := p
  cases hx : x == y with
  | true => exact ⟨d, by simp [List.lookup_cons, hx]⟩
  | false =>
   have hr : (x, c) ∈ r := by
    rcases Ul.mp h with e | e
    ·cases e
     simp at hx
    ·exact e
   obtain ⟨d', e⟩ := ih hr
   exact ⟨d', by simp only [List.lookup_cons, hx]; exact e⟩
theorem ZBU {env : Env} : ∀ (names : List (Str × NameKind)) (acc : List (Str × Addr)), (∀ y ∈ names, y.2 = NameKind.free -> ∃ c, env.cells.lookup y.1 = some c) -> (∀ p ∈ acc, env.cells.lookup p.1 = some p.2) ->
  ∃ cl : List (Str × Addr), (forIn names acc fun (x : Str × NameKind) (r : List (Str × Addr)) => (match x with | (name, kind) => if (kind == NameKind.free) = true then (do let a <- cellOf env name; pure (ForInStep.yield ((name, a) :: r))) else pure (ForInStep.yield r) : Sem (ForInStep (List (Str × Addr))))) = pure cl
   /\ (∀ p ∈ cl, env.cells.lookup p.1 = some p.2) /\ (∀ p ∈ acc, p ∈ cl) /\ ∀ y ∈ names, y.2 = NameKind.free -> ∃ c, (y.1, c) ∈ cl
 | [], acc, _, ha => ⟨acc, by simp, ha, fun _ h => h, fun y h => by cases h⟩
 | (n, k) :: r, acc, h, ha => by
  by_cases hk : k = NameKind.free
  ·subst hk
   obtain ⟨c, hc⟩ := h (n, .free) Us rfl
   obtain ⟨cl, e, h1, h2, h3⟩ := ZBU r ((n, c) :: acc) (fun y hy => h y (Um _ hy)) (fun p hp => by
    rcases Ul.mp hp with rfl | hp
    ·exact hc
    ·exact ha p hp)
   refine ⟨cl, ?_, h1, fun p hp => h2 p (Um _ hp), fun y hy hf => ?_⟩
   ·rw [List.forIn_cons]
    simp only [beq_self_eq_true, if_true, cellOf, hc, pure_bind]
    exact e
   ·rcases Ul.mp hy with rfl | hy
    ·exact ⟨c, h2 _ Us⟩
    ·exact h3 y hy hf
  ·obtain ⟨cl, e, h1, h2, h3⟩ := ZBU r acc (fun y hy => h y (Um _ hy)) ha
   have hb : (k == NameKind.free) = false := by simpa using hk
   refine ⟨cl, ?_, h1, h2, fun y hy hf => ?_⟩
   ·rw [List.forIn_cons]
    simp only [hb, Uh, if_false, pure_bind]
    exact e
   ·rcases Ul.mp hy with rfl | hy
    ·exact absurd hf hk
    ·exact h3 y hy hf
theorem ZDP {scope : Scope} {env : Env} (h : ∀ y ∈ scope.names, y.2 = NameKind.free -> ∃ c, env.cells.lookup y.1 = some c) :
  ∃ cl, closureFor scope env = pure cl /\ (∀ x c, cl.lookup x = some c -> env.cells.lookup x = some c) /\ ∀ y ∈ scope.names, y.2 = .free -> ∃ c, cl.lookup y.1 = some c := by
 obtain ⟨cl, e, h1, _, h3⟩ := ZBU scope.names [] h (fun p hp => by cases hp)
 refine ⟨cl, ?_, fun x c hx => h1 (x, c) (PySem.mem_of_lookup hx), fun y hy hf => ?_⟩
 ·simp only [closureFor]
  rw [e]
  rfl
 ·obtain ⟨c, hc⟩ := h3 y hy hf
  exact ZEa hc
theorem ZA6 {env : Env} : ∀ (names : List (Str × NameKind)) (x : Str),
  (names.map fun (n, k) => if (k == NameKind.free && env.scope.kind == .function && env.kindOf n == some .cell) then (n, NameKind.cell) else (n, k)).lookup x =
   (names.lookup x).map fun k => if (k == NameKind.free && env.scope.kind == .function && env.kindOf x == some .cell) then NameKind.cell else k
 | [], _ => rfl
 | (n, k) :: r, x => by
  have ih := ZA6 (env := env) r x
  show List.lookup x ((if (k == NameKind.free && env.scope.kind == .function && env.kindOf n == some .cell) = true then (n, NameKind.cell) else (n, k)) :: _) = _
  cases hx : x == n with
  | true =>
   have e : x = n := eq_of_beq hx
   subst e
   by_cases hc : (k == NameKind.free && env.scope.kind == .function && env.kindOf x == some .cell) = true
   ·rw [if_pos hc]
    simp only [List.lookup_cons, beq_self_eq_true, Vi]
    rw [if_pos hc]
   ·rw [if_neg hc]
    simp only [List.lookup_cons, beq_self_eq_true, Vi]
    rw [if_neg hc]
  | false =>
   by_cases hc : (k == NameKind.free && env.scope.kind == .function && env.kindOf n == some .cell) = true
   ·rw [if_pos hc]; simp only [List.lookup_cons, hx]; exact ih
   ·rw [if_neg hc]; simp only [List.lookup_cons, hx]; exact ih
structure ZCQ (N : List Str) (sc : Scope) (own caps : List Str) (ks : List Nat) (scope : Scope) : Prop where
 kind : scope.kind = .function
 nocell : ∀ y ∈ scope.names, y.2 ≠ .cell
 names : ∀ y ∈ scope.names, y.2 = .local -> scope.names.lookup y.1 = some .local
 free : ∀ y ∈ scope.names, y.2 = .free -> sc.names.lookup y.1 = some .cell
 nd : (own ++ caps).Nodup
 cap : ks.map (fun k => N[k]?) = caps.map some
 fr : ∀ x ∈ caps, scope.names.lookup x = some .free
def JU (X : Cx) (N' : List Str) (scope : Scope) (cl : List (Str × Addr)) (C : Addr) (s₂ : Shared) (H₂ : Hp) (fp : List Addr) : Cx :=
 { X with N := N', s₀ := s₂, H₀ := H₂, env := compEnvC scope cl C X.env, outer := X.stack, stack := X.stack, ex := fp, fn := fun _ => false, pn := [], xe := fun _ _ => False }
def ZAl (own : Nat) (ks : List Nat) (U : St) : St := List.replicate own none ++ ks.map fun k => (U[k]?).join
section
variable {prog : Program} {w : World} {A : Around} {R : Result -> Shared -> Prop} {s : Shared}
theorem ZAx {elt target iter : Expr} {ifs : List Expr} {scope : Scope} {pos : Pos} {it acc : Value} {env : Env} (I : Nat -> Shared -> Prop)
  (turn : ∀ n s, I n s -> wpAny (model prog w) A (pyNext it) (fun r s₁ => match r with
   | none => R (.ok .next) s₁
   | some v => wpAny (model prog w) A (letOwnedTupleGo target it v) (fun _ s₁' => wpAny (model prog w) A (assign target env v) (fun _ s₂ =>
    wpAny (model prog w) A (forIn ifs true fun c r => if r = true then do let ok <- isTrue c env (eval c env); pure (ForInStep.yield ok) else pure (ForInStep.yield r)) (fun ok s₃ =>
     if ok = true then wpAny (model prog w) A (eval elt env) (fun x s₄ =>
      wpAny (model prog w) A (call (.builtin "list.append") [acc, x]) (fun _ s₅ => ∃ m, m < n /\ I m s₅) (notedBy (model prog w) A env fun e s' => R (.error e) s') s₄) (notedBy (model prog w) A env fun e s' => R (.error e) s') s₃
     else ∃ m, m < n /\ I m s₃) (notedBy (model prog w) A env fun e s' => R (.error e) s') s₂) (notedBy (model prog w) A env fun e s' => R (.error e) s') s₁') (notedBy (model prog w) A env fun e s' => R (.error e) s') s₁) (notedBy (model prog w) A env fun e s' => R (.error e) s') s)
  (n : Nat) (h : I n s) :
  codeAny (model prog w) A (.compLoop (.ListComp elt [⟨target, iter, ifs, 0⟩] scope pos) 0 it acc env) R s := by
 refine codeAny_loop rfl I (fun n s hI => ?_) n h
 show wpAny _ A ((compTurn (.ListComp elt [⟨target, iter, ifs, 0⟩] scope pos) 0 it acc env).onRaise (fun x => do noteFrame x env; theTreesLotGoes x)) _ _ s
 refine wpAny_noted ?_
 rw [compTurn_list]
 refine Ua (wpAny_standAt (Ua (UA (turn n s hI) (fun r s₁ h₁ => ?_) fun _ _ h' => h')))
 cases r with
 | none => exact Ud h₁
 | some v =>
  refine Ua (UA h₁ (fun _ s₁' h₁' => ?_) fun _ _ h' => h')
  refine Ua (UA h₁' (fun _ s₂ h₂ => Ua (UA h₂ (fun ok s₃ h₃ => ?_) fun _ _ h' => h')) fun _ _ h' => h')
  cases ok with
  | false => exact Ud ⟨rfl, h₃⟩
  | true =>
   exact Ua (Ua (UA h₃ (fun x s₄ h₄ => Ua (UA h₄ (fun _ s₅ h₅ => Ud (Ud ⟨rfl, h₅⟩)) fun _ _ h' => h')) fun _ _ h' => h'))
end
def ZDr (X : Cx) (ifs : List Expr) (t : TT) : Prop :=
 ∀ (pins : List (Addr × Obj)) (s : Shared) (U : St) (H : Hp) (Q : Bool -> Hp -> Prop), Inv X pins U H s -> t U H Q ->
  wpAny (model X.prog X.w) X.A (forIn ifs true fun c r => if r = true then do let ok <- isTrue c X.env (eval c X.env); pure (ForInStep.yield ok) else pure (ForInStep.yield r)) (TP X pins U Q) X.xe s
def ZGq : TT := fun _ H Q => Q true H
section
variable {X : Cx}
theorem ZI7 : ZDr X [] ZGq := fun _ _ _ H _ I h => wpAny_tests_nil ⟨H, I, h⟩
theorem ZI8 {c : Expr} {t : TT} (hc : PT X c t) : ZDr X [c] t := fun pins s U H Q I h => wpAny_tests_one (hc pins s U H Q I h)
def ZCg (own : Nat) (ks : List Nat) (wi : TI) (g : TG) (tt : TT) (te : TE) : TE := fun U H Q => wi U H fun J H1 => ∀ l, H1 l = none ->
 ∃ W : Nat -> Nat -> St -> Hp -> Prop, (∃ m, W 0 m (ZAl own ks U) (upd H1 l (.lst []))) /\ ∀ i m U' H', W i m U' H' ->
  (J.stop i H' /\ Q (.ref l) H') \/ (J.go i H' /\ ∃ N : St -> Hp -> Prop, (∀ U2 H2, N U2 H2 -> ∃ m', m' < m /\ W (i + 1) m' U2 H2) /\
   ∀ x H'', J.yld i H' x H'' -> g x U' H'' fun U2 H2 => tt U2 H2 fun b H3 =>
    if b = true then te U2 H3 fun v H4 => ∃ xs, H4 l = some (.lst xs) /\ xs.length < sizeLine /\ N U2 (upd H4 l (.lst (xs ++ [v]))) else N U2 H3)
theorem ZEB {α : Type} {o : Option (Option α)} {v : α} (h : o.join = some v) : o = some (some v) := by
 cases o with
 | none => cases h
 | some x => exact congrArg some h
theorem ZKa {N : List Str} {sc : Scope} {own caps : List Str} {ks : List Nat} {elt tg iter : Expr} {ifs : List Expr} {scope : Scope} {pos : Pos} {wi : TI} {g : TG} {tt : TT} {te : TE}
  (hN : X.N = N) (hsc : X.env.scope = sc) (hc : X.calm = true) (S : ZCQ N sc own caps ks scope) (hi : PI X tg iter wi)
  (hg : ∀ cl C s₂ H₂ fp, PG (JU X (own ++ caps) scope cl C s₂ H₂ fp) tg g)
  (ht : ∀ cl C s₂ H₂ fp, ZDr (JU X (own ++ caps) scope cl C s₂ H₂ fp) ifs tt)
  (he : ∀ cl C s₂ H₂ fp, PE (JU X (own ++ caps) scope cl C s₂ H₂ fp) elt te)
  (hs : ∀ x, foldedSetIterable iter X.env x = pure x := by intro _; rfl) :
  PE X (.ListComp elt [⟨tg, iter, ifs, 0⟩] scope pos) (ZCg own.length ks wi g tt te) := by
 intro pins s U H Q I h
 subst hN hsc
 rw [eval_ListComp]
 obtain ⟨cl, hclos, hcl, hclf⟩ := ZDP (scope := scope) (env := X.env) fun y hy hf => I.ok.has y.1 (.inl (S.free y hy hf))
 refine wpAny_comprehension_free (use := none) rfl hs hclos S.kind S.names (UA (hi pins s U H _ I h) (fun xv s₁ h₁ => UA h₁ (fun it s₂ h₂ => ?_) fun _ _ e => e) fun _ _ e => e)
 obtain ⟨it, fp, tn, J, H2, e, I2, T, st2, f2, q⟩ := h₂
 subst e
 refine wpAny_newObj_type (wpAny_newFunctionEnv S.nocell (by intro y hy; simp at hy) (fun h₁ hns₁ hsb₁ => ?_) S.kind)
 dsimp only at hns₁ hsb₁ ⊢
 generalize hH2 : s₂.heap.push { cls := .type "list", dict := none, data := .seq ([] : List Value).toArray } = HP at hns₁ hsb₁ ⊢
 have hC : HP.objs.size = s₂.heap.objs.size + 1 := by rw [<- hH2, UU]
 have hDC : s₂.heap.objs.size ≠ HP.objs.size := by rw [hC]; exact Uk (Vc _)
 have hCle : s₂.heap.objs.size <= HP.objs.size := by rw [hC]; exact Nat.le_succ _
 have old : ∀ b o, s₂.heap.get? b = some o -> h₁.get? b = some o := fun b o e => by
  have hb : b < s₂.heap.objs.size := Ug e
  exact hsb₁.extBut b o (by rw [hC]; exact Uk (Vm hb)) (Ub _ (hH2 ▸ Ub _ e))
 have hacc : h₁.get? s₂.heap.objs.size = some { cls := .type "list", dict := none, data := .seq ([] : List Value).toArray } := hsb₁.extBut _ _ hDC (Ub _ (hH2 ▸ Uj _ rfl))
 have fpl : ∀ b ∈ fp, b < s₂.heap.objs.size := fun b hb => by
  obtain ⟨o, e, _⟩ := T.obj _ _ st2 b hb
  exact Ug e
 have hfD : H2 s₂.heap.objs.size = none := I2.hok.fresh (Ue _)
 obtain ⟨W, ⟨m0, w0⟩, turn⟩ := q s₂.heap.objs.size hfD
 have hkr : ∀ x, (compEnvC scope cl HP.objs.size X.env).kindOf x = (scope.names.lookup x).map fun k => if (k == NameKind.free && X.env.scope.kind == .function && X.env.kindOf x == some .cell) then NameKind.cell else k := fun x => ZA6 (env := X.env) scope.names x
 have cellOfN : ∀ x, scope.names.lookup x = some .free -> X.env.kindOf x = some .cell := fun x e => S.free (x, .free) (PySem.mem_of_lookup e) rfl
 -- the context within
 have ok : (JU X (own ++ caps) scope cl HP.objs.size s₂ H2 fp).Ok := by
  refine ⟨I2.ok.mod, S.kind, I2.ok.glob, I2.ok.blt, hCle, fun x y c e1 e2 => I2.ok.inj x y c (hcl x c e1) (hcl y c e2), fun x hx => ?_, fun x c z => (by cases z), I2.ok.hd, I2.ok.frames, .inl rfl, fun b hb => ⟨?_, fun x c e => (f2 b hb).2.2.2.2.1 x c (hcl x c e)⟩,
   I2.bs, UP I2.ok.bsz I2.sz, fun b o e hb => ?_, fun b hb z => ?_, I2.stack, I2.stkFree⟩
  ·have hx' : (scope.names.lookup x).map (fun k => if (k == NameKind.free && X.env.scope.kind == .function && X.env.kindOf x == some .cell) then NameKind.cell else k) = some .cell \/
     (scope.names.lookup x).map (fun k => if (k == NameKind.free && X.env.scope.kind == .function && X.env.kindOf x == some .cell) then NameKind.cell else k) = some .free := by rw [<- hkr x]; exact hx
   cases e : scope.names.lookup x with
   | none => rw [e] at hx'; rcases hx' with z | z <;> cases z
   | some k =>
    have hm := PySem.mem_of_lookup e
    have hk : k = .free := by
     by_cases hkf : k = .free
     ·exact hkf
     ·have hb : (k == NameKind.free) = false := by simpa using hkf
      rw [e] at hx'
      simp only [Vi, hb, Bool.false_and, Uh, if_false, Option.some.injEq] at hx'
      rcases hx' with z | z
      ·exact absurd z (S.nocell _ hm)
      ·exact z
    exact hclf _ hm hk
  ·exact Uk (Uf (fpl b hb) hCle)
  ·rcases (f2 b hb).2.2.2.1 with z | z
   ·exact I2.ok.noex b o e z
   ·exact absurd (Uf (Ug e) (UP I2.ok.bsz z)) (Nat.lt_irrefl _)
  ·rcases Ul.mp (I2.stkSub b z) with r | r
   ·exact (f2 b hb).2.1 r
   ·exact (f2 b hb).2.2.1 r
 have hlen : (ZAl own.length ks U).length = (own ++ caps).length := by
  have := congrArg List.length S.cap
  simp only [Uv] at this
  simp [ZAl, this]
 have I4 : Inv (JU X (own ++ caps) scope cl HP.objs.size s₂ H2 fp) [] (ZAl own.length ks U) (upd H2 s₂.heap.objs.size (.lst [])) { s₂ with heap := h₁, toks := s₂.toks + ([] : List (Str × Value)).length } := by
  obtain ⟨mX, hnX, hlX⟩ := I2.loc
  refine ⟨ok, rfl, I2.bare, Un.laid old (Ue _) hfD, ⟨_, hns₁, fun i x v e1 e2 e3 => ?_⟩, fun x c e => ?_, ?_, fun x c e => ?_, fun p hp => (by cases hp), I2.hok.laid old (Ue _) ⟨UF _, [], 0, .nil, hacc⟩, hlen⟩
  ·have e1 : (own ++ caps)[i]? = some x := e1
   by_cases hio : i < own.length
   ·unfold ZAl at e2
    rw [Vd (by simpa using hio), List.getElem?_replicate] at e2
    rw [if_pos hio] at e2
    cases e2
   ·unfold ZAl at e2
    rw [UQ (by simpa using hio), List.length_replicate, UB] at e2
    rw [UQ (by simpa using hio)] at e1
    cases ek : ks[i - own.length]? with
    | none => rw [ek] at e2; cases e2
    | some k =>
     rw [ek] at e2
     have e2' := ZEB (Option.some.inj e2)
     have hcap := congrArg (fun l => l[i - own.length]?) S.cap
     simp only [UB, ek, e1, Vi] at hcap
     have hNk : X.N[k]? = some x := Option.some.inj hcap
     have hfx := S.fr x (Uu e1)
     have hkX := cellOfN x hfx
     obtain ⟨u, ru, lk⟩ := hlX k x v hNk e2' (.inr (.inl hkX))
     refine ⟨u, ru, .inr ⟨.inl ?_, ?_⟩⟩
     ·show (compEnvC scope cl HP.objs.size X.env).kindOf x = some .cell
      rw [hkr x, hfx]
      simp [I2.ok.kind, hkX]
     ·rcases lk with ⟨z, _⟩ | ⟨_, c, ec, o, ho, hd⟩
      ·rw [hkX] at z; cases z
      ·obtain ⟨c', ec'⟩ := hclf (x, .free) (PySem.mem_of_lookup hfx) rfl
       have := hcl _ _ ec'
       rw [ec] at this
       cases this
       exact ⟨c, ec', o, old _ _ ho, hd⟩
  ·obtain ⟨v, o, ho, hd⟩ := I2.cell x c (hcl x c e)
   exact ⟨v, o, old _ _ ho, hd⟩
  ·show upd H2 s₂.heap.objs.size (.lst []) HP.objs.size = none
   rw [JT (Ne.symm hDC)]
   exact I2.hok.fresh hCle
  ·obtain ⟨v, o, ho, hd⟩ := I2.cell x c (hcl x c e)
   show upd H2 s₂.heap.objs.size (.lst []) c = none
   rw [JT (Uk (Ug ho))]
   exact I2.freeC x c (hcl x c e)
 -- the way out
 have out : ∀ {U' : St} {H' : Hp} {s' : Shared}, Inv (JU X (own ++ caps) scope cl HP.objs.size s₂ H2 fp) [] U' H' s' -> Q (.ref s₂.heap.objs.size) H' ->
   ∃ m, s'.heap.Ns HP.objs.size m /\ ∀ h', Heap.SameBut HP.objs.size s'.heap h' -> EP X pins U Q (.ref s₂.heap.objs.size) { s' with heap := h' } := fun {U' H' s'} I' q' => by
  obtain ⟨m, hn, _⟩ := I'.loc
  refine ⟨m, hn, fun h' hs' => ⟨.ref s₂.heap.objs.size, H', ?_, rfl, q'⟩⟩
  have hfree : H' HP.objs.size = none := I'.free
  have neC : ∀ {b : Addr} {o : Obj}, s₂.heap.get? b = some o -> b ≠ HP.objs.size := fun e => Uk (Uf (Ug e) hCle)
  refine I2.call' (ch := fp) (s' := { s' with heap := h' }) I'.os ⟨fun b o e n hb hx => ?_, fun b o e n hb hx => ?_, I'.base.free, fun b o e hx => ?_, I'.base.tups, I'.base.frzs, I'.base.tbls⟩ (fun b ob e => ?_) I'.bare fun b hb => ⟨(f2 b hb).2.2.2.1, (f2 b hb).2.1, (f2 b hb).2.2.2.2.1, (f2 b hb).2.2.2.2.2⟩
  ·exact (hs'.2 b (neC e)).trans (I'.base.keep b o e n hb hx)
  ·obtain ⟨sl, e1⟩ := I'.base.slot b o e n hb hx
   exact ⟨sl, (hs'.2 b (neC e)).trans e1⟩
  ·obtain ⟨o', e1⟩ := I'.base.there b o e hx
   exact ⟨o', (hs'.2 b (neC e)).trans e1⟩
  ·refine (I'.hok b ob e).stay (fun c w' hc q => (hs'.2 c ?_).trans q) (fun _ q => q) fun _ _ q => q
   rintro rfl
   rcases hc with rfl | hc
   ·rw [hfree] at e; cases e
   ·rw [hfree] at hc; cases hc
 have stat : ∀ {H' : Hp}, (∀ b ∈ fp, H' b = none) -> ∀ b ∈ fp, ZBu (JU X (own ++ caps) scope cl HP.objs.size s₂ H2 fp) [] H' b := fun hn b hb =>
  ⟨hn b hb, Uk (Uf (fpl b hb) hCle), ok.exfs b hb, .inl hb, (ok.exf b hb).2, fun p hp => by cases hp⟩
 have fr4 : ∀ b ∈ fp, upd H2 s₂.heap.objs.size (.lst []) b = none := fun b hb => by
  rw [JT (Uk (fpl b hb))]
  exact (f2 b hb).1
 have tn4 : tn 0 h₁ := T.keep _ _ _ st2 fun b _ o e => old b o e
 have loop : ∀ s4 : Shared, s4 = { s₂ with heap := h₁, toks := s₂.toks + ([] : List (Str × Value)).length } ->
   codeAny (model X.prog X.w) X.A (.compLoop (.ListComp elt [⟨tg, iter, ifs, 0⟩] scope pos) 0 (.ref it) (.ref s₂.heap.objs.size) (compEnvC scope cl HP.objs.size X.env))
    (compPost (model X.prog X.w) X.A X.xe none (EP X pins U Q) (.ref s₂.heap.objs.size) HP.objs.size) s4 := by
  rintro s4 rfl
  refine ZAx (fun n s' => ∃ i U' H', Inv (JU X (own ++ caps) scope cl HP.objs.size s₂ H2 fp) [] U' H' s' /\ tn i s'.heap /\ (∀ b ∈ fp, H' b = none) /\ W i n U' H') ?_ m0 ⟨0, _, _, I4, tn4, fr4, w0⟩
  rintro n s3 ⟨i, U3, H3, I3, st3, fr3, w3⟩
  rcases turn i n U3 H3 w3 with ⟨stop, qn⟩ | ⟨go, N, hN, step⟩
  ·refine UA (T.done (JU X (own ++ caps) scope cl HP.objs.size s₂ H2 fp) rfl rfl rfl hc i [] s3 U3 H3 (fun _ _ => False) I3 (stat fr3) st3 stop) (fun r s4 ⟨hr, I4'⟩ => ?_) fun _ _ z => False.elim z
   subst hr
   exact out I4' qn
  ·refine UA (T.item (JU X (own ++ caps) scope cl HP.objs.size s₂ H2 fp) rfl rfl rfl hc i [] s3 U3 H3 (fun _ _ => False) I3 (stat fr3) st3 go) (fun r s4 ⟨u, hr, h4⟩ => ?_) fun _ _ z => False.elim z
   subst hr
   refine UA h4 (fun _ s5 ⟨x, H5, I5, r5, y5, st5, fr5⟩ => ?_) fun _ _ z => False.elim z
   have I5' := I5.pinned (stat fr5) (T.obj _ _ st5)
   have back : ∀ {s7 : Shared} {U7 : St} {H7 : Hp}, Inv (JU X (own ++ caps) scope cl HP.objs.size s₂ H2 fp) ([] ++ ZBx fp s5.heap) U7 H7 s7 -> N U7 H7 ->
     ∃ m, m < n /\ ∃ i U' H', Inv (JU X (own ++ caps) scope cl HP.objs.size s₂ H2 fp) [] U' H' s7 /\ tn i s7.heap /\ (∀ b ∈ fp, H' b = none) /\ W i m U' H' := fun {s7 U7 H7} I7 n7 => by
    obtain ⟨m', hm, w7⟩ := hN U7 H7 n7
    refine ⟨m', hm, i + 1, U7, H7, I7.unpinned, T.keep _ _ _ st5 fun b hb o e => (I7.pin (b, o) (Uo _ (Uo _ (ZAf hb e)))).1, fun b hb => ?_, w7⟩
    obtain ⟨o, e, d⟩ := T.obj _ _ st5 b hb
    exact (I7.pin (b, o) (Uo _ (Uo _ (ZAf hb e)))).2.1
   refine UA (hg _ _ _ _ _ _ s5 U3 H5 x u _ I5' r5 (step x H5 y5)) (fun _ s6 ⟨U6, H6, I6, q6⟩ => ?_) fun _ _ z => False.elim z
   refine UA (ht _ _ _ _ _ _ s6 U6 H6 _ I6 q6) (fun b s7 ⟨H7, I7, q7⟩ => ?_) fun _ _ z => False.elim z
   cases b with
   | false =>
    rw [if_neg Ut]
    rw [if_neg Ut] at q7
    exact back I7 q7
   | true =>
    rw [if_pos rfl]
    rw [if_pos rfl] at q7
    refine UA (he _ _ _ _ _ _ s7 U6 H7 _ I7 q7) (fun y s8 ⟨v, H8, I8, r8, xs, hx8, hz8, n8⟩ => ?_) fun _ _ z => False.elim z
    refine UA (ZAI (X := JU X (own ++ caps) scope cl HP.objs.size s₂ H2 fp) _ s8 U6 H8 (.ref s₂.heap.objs.size) [v] (.ref s₂.heap.objs.size) [y] (fun _ H' => N U6 H') I8 rfl (.cons r8 .nil) ⟨_, xs, v, rfl, rfl, hx8, hz8, n8⟩) (fun _ s9 ⟨_, H9, I9, _, n9⟩ => ?_) fun _ _ z => False.elim z
    exact back I9 n9
 exact codeAny_compStart_list (loop _ rfl) (T.self _ 0 _ _ _ tn4 (loop _ rfl))
end
theorem ZHh : bootBuiltins "int" = some (.type "int") := by decide +kernel
theorem ZKb : bootBuiltins "bool" = some (.type "bool") := by decide +kernel
theorem ZA7 : bootBuiltins "tuple" = some (.type "tuple") := by decide +kernel
theorem ZBV : bootBuiltins "len" = some (.builtin "len") := by decide +kernel
theorem ZL1 : bootBuiltins "abs" = some (.builtin "abs") := by decide +kernel
theorem ZHi : bootBuiltins "max" = some (.builtin "max") := by decide +kernel
theorem ZHj : bootBuiltins "min" = some (.builtin "min") := by decide +kernel
theorem ZEC : bootBuiltins "sorted" = some (.builtin "sorted") := by decide +kernel
theorem J4 : bootBuiltins "isinstance" = some (.builtin "isinstance") := by decide +kernel
def ZAb : Expr -> Bool
 | .Starred _ _ => true
 | _ => false
def Jy (es : List Expr) : Bool := es.all fun e => !ZAb e
theorem ZAQ {e : Expr} {es : List Expr} {env : Env} (h : ZAb e = false) : starEach (e :: es) env = (false, eval e env) :: starEach es env := by
 cases e <;> first | rfl | cases h
theorem ZBz {e : Expr} {es : List Expr} {env : Env} (h : Jy (e :: es) = true) : starEach (e :: es) env = (false, eval e env) :: starEach es env := by
 refine ZAQ ?_
 unfold Jy at h
 rw [List.all_cons, Bool.and_eq_true] at h
 simpa using h.1
theorem ZBW {pos : Pos} {env : Env} : ∀ {es : List Expr}, Jy es = true -> (backTo pos (starEach es env)).any (·.1) = false
 | [], _ => rfl
 | e :: es, h => by
  rw [ZBz h]
  have h2 : Jy es = true := by
   unfold Jy at h ⊢
   rw [List.all_cons, Bool.and_eq_true] at h
   exact h.2
  exact ZBW h2
theorem ZBn {e : Expr} {es : List Expr} (h : Jy (e :: es) = true) : Jy es = true := by
 unfold Jy at h ⊢
 rw [List.all_cons, Bool.and_eq_true] at h
 exact h.2
section
variable {X : Cx} {CX : CXT} {k : Nat} {f : Addr} {fd : FuncData} {ps : List Str} {sp : Sp} {dvs : List V} {ds : List Value} {E : XK} {x : Str} {p pos : Pos} {e : Expr} {es : List Expr} {te : TE} {t : TA} {id T : String} {r : List V -> Hp -> VK -> Prop}
theorem ZNa (ha : PE X e te) (hr : PA X es t) (hs : ZAb e = false := by rfl) : PA X (e :: es) (ZEh te t) := ZKT ha hr (ZAQ hs)
theorem ZI9 (F : Jt X.prog X.w X.K X.mg X.base CX k f fd ps sp) (hr : Room k X.A) (hg : Gl X x) (hm : X.mg x = some (.ref f)) (hk : W.keepIn X.K (.ref f) = true) (hb : Jh X.K fd ps ds) (hd : JP dvs ds) (hx : ZCP CX X E)
  (ha : PA X (e :: es) t) (hns : Jy (e :: es) = true := by rfl) (hdb : (x == ("__debug__" : Str)) = false := by decide) : PE X (.Call (.Name x p) (e :: es) [] pos) (ZDN sp dvs E t) :=
 ZKU F hr hg hm hk hb hd hx ha hdb (ZBz hns) (ZBW (ZBn hns))
theorem ZHk (hc : J2 X (.builtin id) r) (hg : Gl X x) (hm : X.mg x = none) (hv : bootBuiltins x = some (.builtin id)) (ha : PA X (e :: es) t) (hns : Jy (e :: es) = true := by rfl) (hn : x ≠ "__name__" := by decide) (hdb : (x == ("__debug__" : Str)) = false := by decide) :
 PE X (.Call (.Name x p) (e :: es) [] pos) (tCB r t) := ZIy hc hg hm hv ha hn hdb (ZBz hns) (ZBW (ZBn hns))
theorem ZGr (hc : J2 X (.type T) r) (hg : Gl X x) (hm : X.mg x = none) (hv : bootBuiltins x = some (.type T)) (ha : PA X (e :: es) t) (hns : Jy (e :: es) = true := by rfl) (hn : x ≠ "__name__" := by decide) (hdb : (x == ("__debug__" : Str)) = false := by decide) :
 PE X (.Call (.Name x p) (e :: es) [] pos) (tCB r t) := ZHe hc hg hm hv ha hn hdb (ZBz hns) (ZBW (ZBn hns))
end
def ZAp : Expr -> Bool
 | .ListComp _ _ _ _ => true
 | .SetComp _ _ _ _ => true
 | .DictComp _ _ _ _ _ => true
 | _ => false
theorem ZB8 {e : Expr} {tg : Option Expr} {n : Nat} {env : Env} (h : ZAp e = false) : swapsWith e tg n env = pure false := by
 cases e <;> first | rfl | cases h
section
variable {X : Cx} {e : Expr} {te : TE} {pos : Pos}
theorem ZJA (he : PE X e te) (hs : ZAp e = false := by rfl) : PS X (.Expr e pos) (ZEf te) := ZKL he (ZB8 hs)
theorem ZKc {i : Nat} {x : Str} {pos' : Pos} (hN : X.N.Nodup) (hi : X.N[i]? = some x) (hx : Loc X.env.scope x) (he : PE X e te) (hs : ZAp e = false := by rfl) (hf : X.fn x = true \/ X.env.scope.names.lookup x = some .local := by first | exact .inl rfl | exact .inr rfl | assumption) :
 PS X (.Assign [.Name x pos'] e pos) (ZBt te (ZAu i)) := ZHT hN hi hx he (ZB8 hs) hf
end
def ZGs (K : W.Frag) : List V -> Hp -> VK -> Prop := fun xs H Q => ∃ p ys, xs = [.ref p] /\ (SqL K H p ys \/ SqT K H p ys) /\ Q (.int ys.length) H
def ZL2 : List V -> Hp -> VK -> Prop := fun xs H Q => ∃ i, xs = [.int i] /\ Q (.int (if i < 0 then -i else i)) H
def ZL3 : List V -> Hp -> VK -> Prop := fun xs H Q => ∃ i j, xs = [.int i, .int j] /\ Q (.int (if j > i then j else i)) H
def ZL4 : List V -> Hp -> VK -> Prop := fun xs H Q => ∃ i j, xs = [.int i, .int j] /\ Q (.int (if j < i then j else i)) H
def ZEy (K : W.Frag) : List V -> Hp -> VK -> Prop := fun xs H Q => ∃ p ys, xs = [.ref p] /\ ((SqL K H p ys /\ ∀ l, H l = none -> Q (.ref l) (upd H l (.tup ys))) \/ (SqT K H p ys /\ Q (.ref p) H))
def ZJ1 : R2 := fun x y H Q => ∃ b, y = .bl b /\ Q (.bl (!decide (x = .bl b))) H
section
variable {X : Cx}
theorem ZL5 : J2 X (.builtin "len") (ZGs X.K) := ZEw
theorem ZL6 : J2 X (.builtin "abs") ZL2 := ZIt
theorem ZHl (hc : X.calm = true) : J2 X (.builtin "max") ZL3 := ZHZ hc
theorem ZHm (hc : X.calm = true) : J2 X (.builtin "min") ZL4 := ZHa hc
theorem ZJB : J2 X (.type "tuple") (ZEy X.K) := ZEZ
theorem ZF0 : OpR X (compareOp .IsNot) ZJ1 := ZKZ
end
section
variable {K : W.Frag} {U : St} {H : Hp} {Q : VK} {D : J8}
theorem ZL7 {t u : TS} (h : t { D with nx := u D } U H) : ZIe t u D U H := h
theorem ZL8 {te : TE} (h : te U H D.rt) : ZIg te D U H := h
theorem ZKd {te : TE} (h : te U H fun _ H1 => D.nx U H1) : ZEf te D U H := h
theorem ZKe (h : D.nx U H) : ZGa D U H := h
theorem ZL9 {te : TE} {g : TG} (h : te U H fun x H1 => g x U H1 D.nx) : ZBt te g D U H := h
theorem ZJC {i : Nat} {v : V} {R : St -> Hp -> Prop} (h : R (U.set i (some v)) H) : ZAu i v U H R := h
theorem ZKf {R : St -> Hp -> Prop} (h : R U H) : ZIj [] U H R := ⟨rfl, h⟩
theorem ZJD {t : TG} {u : TGs} {v : V} {r : List V} {R : St -> Hp -> Prop} (h : t v U H fun U' H' => u r U' H' R) : ZGb t u (v :: r) U H R := ⟨v, r, rfl, h⟩
theorem ZKg {to ti : TE} {t : ZEs} {v : V} {R : St -> Hp -> Prop} (h : to U H fun o H1 => ti U H1 fun i H2 => t o i v H2 fun H3 => R U H3) : ZIl to ti t v U H R := h
theorem ZMA {c : TT} {t u : TS} (h : c U H fun b H1 => if b = true then t D U H1 else u D U H1) : ZEr c t u D U H := h
theorem ZKh {t : TE} {R : Bool -> Hp -> Prop} (h : t U H fun x H' => ∃ k, x = .bl k /\ R k H') : ZDL t U H R := h
theorem ZNb {t : TE} {R : Bool -> Hp -> Prop} (h : t U H fun x H' => ∃ k, x = .bl k /\ R k H') : tB t U H R := h
theorem ZJE {b : Bool} {R : Bool -> Prop} (h : R b) : ∃ k, V.bl b = .bl k /\ R k := ⟨b, rfl, h⟩
theorem ZMB {t u : TT} {R : Bool -> Hp -> Prop} (h : t U H fun c H1 => if c = true then u U H1 R else R false H1) : ZIb t u U H R := h
theorem ZNE {t u : TT} {R : Bool -> Hp -> Prop} (h : t U H fun c H1 => if c = true then R true H1 else u U H1 R) : tOr t u U H R := h
theorem ZMC {t : TT} {R : Bool -> Hp -> Prop} (h : t U H fun c H1 => R (!c) H1) : ZIc t U H R := h
theorem ZKi {t u : TE} (h : t U H fun x H1 => ∃ c, x = .bl c /\ if c = true then u U H1 Q else Q (.bl false) H1) : ZGY t u U H Q := h
theorem ZKj {t : TE} (h : t U H fun x H1 => ∃ c, x = .bl c /\ Q (.bl (!c)) H1) : ZGZ t U H Q := h
theorem ZNF {t : TT} {ta tb : TE} (h : t U H fun c H1 => if c = true then ta U H1 Q else tb U H1 Q) : tIf t ta tb U H Q := h
theorem ZMD {i : Nat} {v : V} (e : U[i]? = some (some v)) (h : Q v H) : ZIa i U H Q := ⟨v, e, h⟩
theorem ZEz {i j : Int} (h1 : 0 <= j) (h2 : j <= 1000000) (h3 : i.natAbs < 2 ^ 64) : ZIq i j := ⟨h1, h2, h3⟩
theorem ZNc {v : V} (h : Q v H) : tC v U H Q := h
theorem ZNG {r : R2} {ta tb : TE} (h : ta U H fun x H1 => tb U H1 fun y H2 => r x y H2 Q) : tOp r ta tb U H Q := h
theorem ZNH {r : V -> Hp -> VK -> Prop} {ta : TE} (h : ta U H fun x H1 => r x H1 Q) : tUn r ta U H Q := h
theorem ZNI {g : Int -> Int -> V} {i j : Int} (h : Q (g i j) H) : rI0 g (.int i) (.int j) H Q := ⟨i, j, rfl, rfl, h⟩
theorem ZDs {C : Int -> Int -> Prop} {g : Int -> Int -> V} {i j : Int} (c : C i j) (h : Q (g i j) H) : rI C g (.int i) (.int j) H Q := ⟨i, j, rfl, rfl, c, h⟩
theorem ZNd {g : Int -> V} {i : Int} (h : Q (g i) H) : rU g (.int i) H Q := ⟨i, rfl, h⟩
theorem ZME {i j : Int} (h : Q (.bl (decide (V.int i = V.int j))) H) : rEq (.int i) (.int j) H Q := ⟨rfl, h⟩
theorem ZMF {i j : Int} (h : Q (.bl (!decide (V.int i = V.int j))) H) : rNe (.int i) (.int j) H Q := ⟨rfl, h⟩
theorem ZNJ {r : List V -> Hp -> VK -> Prop} {t : TA} (h : t U H fun vs H1 => r vs H1 Q) : tCB r t U H Q := h
theorem ZKk {sp : Sp} {dvs : List V} {E : XK} {t : TA} (h : t U H fun vs H1 => sp (vs ++ dvs) H1 Q E) : ZDN sp dvs E t U H Q := h
theorem ZKl {ta : TE} {tr : TA} {R : List V -> Hp -> Prop} (h : ta U H fun x H1 => tr U H1 fun xs H2 => R (x :: xs) H2) : ZEh ta tr U H R := h
theorem ZMG {R : List V -> Hp -> Prop} (h : R [] H) : ZIv U H R := h
def ZJF (n : Nat) (o : HO) (H : Hp) (Q : VK) : Prop := n <= sizeLine /\ ∀ p, H p = none -> Q (.ref p) (upd H p o)
theorem ZMH {t : TA} (h : t U H fun xs H1 => ZJF xs.length (.tup xs) H1 Q) : ZIw t U H Q := h
theorem ZMI {t : TA} (h : t U H fun xs H1 => ZJF xs.length (.lst xs) H1 Q) : ZIx t U H Q := h
theorem JR {n : Nat} {o : HO} (hz : n <= sizeLine) (h : ∀ p H2, H p = none -> H2 p = some o -> JM H H2 -> Q (.ref p) H2) : ZJF n o H Q :=
 ⟨hz, fun p hp => h p _ hp JO (fun b u e => by rw [JT (Jn e hp)]; exact e)⟩
theorem ZJG {r r' : R2} {ta tb tc : TE} (h : ta U H fun x H1 => tb U H1 fun y H2 => r x y H2 fun z H3 => ∃ k, z = .bl k /\ (if k = true then tc U H3 fun w' H4 => r' y w' H4 Q else Q (.bl false) H3)) : ZCO r r' ta tb tc U H Q := h
theorem ZB0 {p : Addr} {xs : List V} {i : Int} {v : V} (h1 : SqL K H p xs) (h2 : atI xs i = some v) (h : Q v H) : ZI1 K (.ref p) (.int i) H Q := ⟨p, xs, i, v, rfl, rfl, h1, h2, h⟩
theorem ZMJ {p : Addr} {xs : List V} {i : Int} {v : V} (h1 : SqT K H p xs) (h2 : atI xs i = some v) (h : Q v H) : ZI2 K (.ref p) (.int i) H Q := ⟨p, xs, i, v, rfl, rfl, h1, h2, h⟩
theorem ZF1 {p : Addr} {xs : List V} {k : Int} {j : Nat} {v : V} {R : Hp -> Prop} (h1 : H p = some (.lst xs)) (h2 : ixN xs.length k = some j)
  (h : ∀ H2, H2 p = some (.lst (xs.set j v)) -> (∀ q o, H q = some o -> q ≠ p -> H2 q = some o) -> R H2) : ZGo (.ref p) (.int k) v H R :=
 ⟨p, xs, k, j, rfl, rfl, h1, h2, h _ JO fun q o e n => by rw [JT n]; exact e⟩
theorem ZKm {p : Addr} {xs : List V} {k : Int} {j : Nat} {v : V} {R : Hp -> Prop} (h1 : H p = some (.lst xs)) (h2 : ixN xs.length k = some j) (h : R (upd H p (.lst (xs.set j v)))) : ZGo (.ref p) (.int k) v H R := ⟨p, xs, k, j, rfl, rfl, h1, h2, h⟩
def rFor (J : It) (g : TG) (tb : TS) (D : J8) (U : St) (H : Hp) : Prop := ∃ W : Nat -> Nat -> St -> Hp -> Prop, (∃ m, W 0 m U H) /\ ∀ i m U H, W i m U H ->
 (J.stop i H /\ D.nx U H) \/ (J.go i H /\ ∃ N : St -> Hp -> Prop, (∀ U' H', N U' H' -> ∃ m', m' < m /\ W (i + 1) m' U' H') /\ ∀ x H', J.yld i H x H' -> g x U H' fun U2 H2 => tb { D with nx := N, ct := N, bk := D.nx } U2 H2)
theorem ZMK {wi : TI} {g : TG} {tb : TS} (h : wi U H fun J H1 => rFor J g tb D U H1) : ZIn wi g tb D U H := h
def ZJ2 (vs : List V) (H : Hp) (R : It -> Hp -> Prop) : Prop := ∃ j : Int, vs = [.int j] /\ -(2 ^ 62) <= j /\ j < 2 ^ 62 /\ R (Itr 0 j.toNat) H
theorem ZKn {ta : TA} {R : It -> Hp -> Prop} (h : ta U H fun vs H1 => ZJ2 vs H1 R) : ZGg ta U H R := h
theorem ZE0 {j : Int} {R : It -> Hp -> Prop} (h1 : -(2 ^ 62) <= j) (h2 : j < 2 ^ 62) (h : R (Itr 0 j.toNat) H) : ZJ2 [.int j] H R := ⟨j, rfl, h1, h2, h⟩
theorem ZML {i : Int} (h : Q (.int (if i < 0 then -i else i)) H) : ZL2 [.int i] H Q := ⟨i, rfl, h⟩
theorem ZMM {i j : Int} (h : Q (.int (if j > i then j else i)) H) : ZL3 [.int i, .int j] H Q := ⟨i, j, rfl, h⟩
theorem ZMN {i j : Int} (h : Q (.int (if j < i then j else i)) H) : ZL4 [.int i, .int j] H Q := ⟨i, j, rfl, h⟩
theorem ZKo {p : Addr} {ys : List V} (h1 : SqL K H p ys) (h : Q (.int ys.length) H) : ZGs K [.ref p] H Q := ⟨p, ys, rfl, .inl h1, h⟩
theorem ZKp {p : Addr} {ys : List V} (h1 : SqT K H p ys) (h : Q (.int ys.length) H) : ZGs K [.ref p] H Q := ⟨p, ys, rfl, .inr h1, h⟩
theorem ZBX {x : V} {n : String} {t : Value} {b : Bool} (ty : ZAw K H x t) (e : W.kitOne K t (.type n) = some b) (h : Q (.bl b) H) : ZI5 K [x, .ty n] H Q := ⟨x, n, t, b, rfl, ty, e, h⟩
theorem ZKq {x : V} {b : Bool} (h : Q (.bl (!decide (x = .bl b))) H) : ZJ1 x (.bl b) H Q := ⟨b, rfl, h⟩
theorem ZKr {n : Nat} {t : TGs} {p : Addr} {xs : List V} {R : St -> Hp -> Prop} (h1 : SqT K H p xs) (h2 : xs.length = n) (h : t xs U H R) : ZGc K n t (.ref p) U H R := ⟨p, xs, rfl, h1, h2, h⟩
theorem ZF2 {p : Addr} {ys : List V} (h1 : SqL K H p ys) (h : ∀ l H2, H l = none -> H2 l = some (.tup ys) -> JM H H2 -> Q (.ref l) H2) :
  ZEy K [.ref p] H Q :=
 ⟨p, ys, rfl, .inl ⟨h1, fun l hl => h l _ hl JO (fun b u e => by rw [JT (Jn e hl)]; exact e)⟩⟩
theorem ZMO {p : Addr} {xs : List V} {lo hi : Option Int} (h1 : SqL K H p xs) (h : ∀ l H2, H l = none -> H2 l = some (.lst (ZCx xs lo hi)) -> JM H H2 -> Q (.ref l) H2) : ZGp K (.ref p) lo hi H Q :=
 ⟨p, xs, rfl, h1, fun l hl => h l _ hl JO (fun b u e => by rw [JT (Jn e hl)]; exact e)⟩
theorem ZNK {r : V -> Option Int -> Option Int -> Hp -> VK -> Prop} {te : TE} {tl th : TO} (h : te U H fun x H1 => tl U H1 fun l H2 => th U H2 fun u H3 => r x l u H3 Q) : tSl r te tl th U H Q := h
theorem ZHn {R : Option Int -> Hp -> Prop} (h : R none H) : ZDq U H R := h
theorem ZKs {t : TE} {R : Option Int -> Hp -> Prop} (h : t U H fun x H1 => ∃ i, x = .int i /\ R (some i) H1) : ZGm t U H R := h
theorem ZNe {i : Int} {R : Int -> Prop} (h : R i) : ∃ j, V.int i = .int j /\ R j := ⟨i, rfl, h⟩
theorem Ju {c A B : Prop} [Decidable c] (h1 : c -> A) (h2 : ¬ c -> B) : if decide c = true then A else B := by
 by_cases h : c
 ·rw [decide_eq_true h]; exact ZAn (h1 h)
 ·rw [decide_eq_false h]; exact Jp (h2 h)
theorem ZGt {c A B : Prop} [Decidable c] (h1 : ¬ c -> A) (h2 : c -> B) : if (!decide c) = true then A else B := by
 by_cases h : c
 ·rw [decide_eq_true h]; exact Jp (h2 h)
 ·rw [decide_eq_false h]; exact ZAn (h1 h)
theorem ZAY {i j : Int} : decide (V.int i = V.int j) = decide (i = j) := by
 by_cases h : i = j
 ·subst h; simp
 ·rw [decide_eq_false h, decide_eq_false (fun z => h (V.int.inj z))]
theorem ZF3 {lo : Int} {n : Nat} {g : TG} {tb : TS} (Pv : Nat -> St -> Hp -> Prop) (h0 : Pv 0 U H)
 (hs : ∀ i U H, i < n -> Pv i U H -> g (.int (lo + i)) U H fun U2 H2 => tb { D with nx := Pv (i + 1), ct := Pv (i + 1), bk := D.nx } U2 H2) (hd : ∀ U H, Pv n U H -> D.nx U H) :
 rFor (Itr lo n) g tb D U H := ZHW Pv h0 hs hd
theorem ZDt {a : Addr} {xs : List V} {g : TG} {tb : TS} (Pv : Nat -> St -> Hp -> Prop) (h0 : Pv 0 U H) (hl : ∀ i U H, i <= xs.length -> Pv i U H -> SqL K H a xs)
 (hs : ∀ i x U H, xs[i]? = some x -> Pv i U H -> g x U H fun U2 H2 => tb { D with nx := Pv (i + 1), ct := Pv (i + 1), bk := D.nx } U2 H2) (hd : ∀ U H, Pv xs.length U H -> D.nx U H) :
 rFor (Itl K a) g tb D U H := ZIo Pv h0 hl hs hd
theorem ZF4 {a : Addr} {xs : List V} {g : TG} {tb : TS} (Pv : Nat -> St -> Hp -> Prop) (h0 : Pv 0 U H) (hl : ∀ i U H, i <= xs.length -> Pv i U H -> SqT K H a xs)
 (hs : ∀ i x U H, xs[i]? = some x -> Pv i U H -> g x U H fun U2 H2 => tb { D with nx := Pv (i + 1), ct := Pv (i + 1), bk := D.nx } U2 H2) (hd : ∀ U H, Pv xs.length U H -> D.nx U H) :
 rFor (Itt K a) g tb D U H := ZKP Pv h0 hl hs hd
def ZJ3 (J : It) (g : TG) (tt : TT) (te : TE) (l : Addr) (U0 : St) (H : Hp) (Q : VK) : Prop :=
 ∃ W : Nat -> Nat -> St -> Hp -> Prop, (∃ m, W 0 m U0 (upd H l (.lst []))) /\ ∀ i m U' H', W i m U' H' ->
  (J.stop i H' /\ Q (.ref l) H') \/ (J.go i H' /\ ∃ N : St -> Hp -> Prop, (∀ U2 H2, N U2 H2 -> ∃ m', m' < m /\ W (i + 1) m' U2 H2) /\
   ∀ x H'', J.yld i H' x H'' -> g x U' H'' fun U2 H2 => tt U2 H2 fun b H3 =>
    if b = true then te U2 H3 fun v H4 => ∃ xs, H4 l = some (.lst xs) /\ xs.length < sizeLine /\ N U2 (upd H4 l (.lst (xs ++ [v]))) else N U2 H3)
theorem ZAH {J : It} {g : TG} {tt : TT} {te : TE} {U0 : St} {l : Addr} (n : Nat) (Pv : Nat -> St -> Hp -> Prop) (h0 : Pv 0 U0 (upd H l (.lst [])))
  (stop : ∀ U H, Pv n U H -> J.stop n H /\ Q (.ref l) H)
  (go : ∀ i U H, i < n -> Pv i U H -> J.go i H /\ ∀ x H', J.yld i H x H' -> g x U H' fun U2 H2 => tt U2 H2 fun b H3 =>
   if b = true then te U2 H3 fun v H4 => ∃ xs, H4 l = some (.lst xs) /\ xs.length < sizeLine /\ Pv (i + 1) U2 (upd H4 l (.lst (xs ++ [v]))) else Pv (i + 1) U2 H3) :
  ZJ3 J g tt te l U0 H Q := by
 refine ⟨fun i m U H => m = n - i /\ i <= n /\ Pv i U H, ⟨n, by simp, UF _, h0⟩, ?_⟩
 rintro i m U H ⟨rfl, hi, p⟩
 by_cases hlt : i < n
 ·obtain ⟨hgo, h⟩ := go i U H hlt p
  exact .inr ⟨hgo, Pv (i + 1), fun U' H' p' => ⟨n - (i + 1), by omega, rfl, hlt, p'⟩, h⟩
 ·have e : i = n := by omega
  subst e
  exact .inl (stop U H p)
theorem ZKt {own : Nat} {ks : List Nat} {wi : TI} {g : TG} {tt : TT} {te : TE} (h : wi U H fun J H1 => ∀ l, H1 l = none -> ZJ3 J g tt te l (ZAl own ks U) H1 Q) : ZCg own ks wi g tt te U H Q := h
def ZMP (K : W.Frag) (x : V) (H : Hp) (R : It -> Hp -> Prop) : Prop := ∃ a, x = .ref a /\ (∃ xs, SqT K H a xs) /\ R (Itt K a) H
def ZMQ (K : W.Frag) (x : V) (H : Hp) (R : It -> Hp -> Prop) : Prop := ∃ a, x = .ref a /\ (∃ xs, SqL K H a xs) /\ R (Itl K a) H
theorem ZKu {tl : TE} {R : It -> Hp -> Prop} (h : tl U H fun x H1 => ZMP K x H1 R) : ZGf K tl U H R := h
theorem ZJH {tl : TE} {R : It -> Hp -> Prop} (h : tl U H fun x H1 => ZMQ K x H1 R) : ZEg K tl U H R := h
theorem ZMR {p : Addr} {xs : List V} {R : It -> Hp -> Prop} (h1 : SqT K H p xs) (h : R (Itt K p) H) : ZMP K (.ref p) H R := ⟨p, rfl, ⟨xs, h1⟩, h⟩
theorem ZMS {p : Addr} {xs : List V} {R : It -> Hp -> Prop} (h1 : SqL K H p xs) (h : R (Itl K p) H) : ZMQ K (.ref p) H R := ⟨p, rfl, ⟨xs, h1⟩, h⟩
theorem ZKv {R : Bool -> Hp -> Prop} (h : R true H) : ZGq U H R := h
end
theorem JM.seqT {K : W.Frag} {H H' : Hp} {a : Addr} {xs : List V} (e : JM H H') (h : SqT K H a xs) : SqT K H' a xs := by
 rcases h with (h | ⟨o, h⟩) | h
 ·exact .inl (.inl (e _ _ h))
 ·exact .inl (.inr ⟨o, e _ _ h⟩)
 ·exact .inr h
def Kp (p : Addr) (H H' : Hp) : Prop := ∀ q o, H q = some o -> q ≠ p -> H' q = some o
theorem Kp.refl (p : Addr) (H : Hp) : Kp p H H := fun _ _ h _ => h
theorem Kp.trans {p : Addr} {H H1 H2 : Hp} (a : Kp p H H1) (b : Kp p H1 H2) : Kp p H H2 := fun q o h n => b q o (a q o h n) n
theorem Kp.upd {p : Addr} {H : Hp} {o : HO} : Kp p H (upd H p o) := fun q u h n => by rw [JT n]; exact h
theorem Kp.same {p : Addr} {H H' : Hp} (a : JM H H') : Kp p H H' := fun q o h _ => a q o h
theorem JM.new {H : Hp} {l : Addr} {o : HO} (h : H l = none) : JM H (upd H l o) := fun b u e => by rw [JT (Jn e h)]; exact e
theorem Kp.then {H H1 H2 : Hp} {p : Addr} (h : Kp p H H1) (s : JM H1 H2) : Kp p H H2 := h.trans (Kp.same s)
structure QE (X : Cx) (e : Expr) (t : TE) : Prop where
 h : PE X e t
structure QT (X : Cx) (e : Expr) (t : TT) : Prop where
 h : PT X e t
structure QW (X : Cx) (e : Expr) (t : TT) : Prop where
 h : PW X e t
structure QA (X : Cx) (es : List Expr) (t : TA) : Prop where
 h : PA X es t
structure QS (X : Cx) (st : Stmt) (t : TS) : Prop where
 h : PS X st t
structure QB (X : Cx) (st : List Stmt) (t : TS) : Prop where
 h : PSs X st t
structure QG (X : Cx) (e : Expr) (t : TG) : Prop where
 h : PG X e t
structure QGs (X : Cx) (es : List Expr) (t : TGs) : Prop where
 h : PGs X es t
structure QI (X : Cx) (tg e : Expr) (t : TI) : Prop where
 h : PI X tg e t
structure QF (X : Cx) (es : List Expr) (t : TT) : Prop where
 h : ZDr X es t
structure QO (X : Cx) (e : Option Expr) (t : TO) : Prop where
 h : PO X e t
def ZEi : Expr -> Bool
 | .Slice _ _ _ _ => true
 | _ => false
theorem ZKw {b : Expr} (h : ZEi b = false) : ZFy b := by
 intro o i
 cases b <;> first | rfl | cases h
def ZE1 : Expr -> Bool
 | .UnaryOp _ _ _ => false
 | .BoolOp _ _ _ => false
 | .IfExp _ _ _ _ => false
 | .Compare _ _ _ _ => false
 | _ => true
theorem ZMT {e : Expr} {env : Env} (h : ZE1 e = true) : ∀ whole, isTrue e env whole = (do let v <- whole; standAt e.pos; holding [v] (truthy v)) := by
 intro whole
 cases e <;> first | rfl | cases h
section
variable {X : Cx} {a b c e o : Expr} {es Js : List Expr} {ta tb tc te to ti : TE} {tA tB' : TT} {t tr : TA} {pos p p2 pos' : Pos} {x : Str}
theorem qv (i : Nat) {x : Str} {pos : Pos} (hN : X.N[i]? = some x := by rfl) (hv : Vis X.env.scope x := by first | exact Or.inl rfl | exact Or.inr (Or.inl rfl) | exact Or.inr (Or.inr rfl)) (hd : (x == ("__debug__" : Str)) = false := by decide)
 (hcd : (x == ("__classdict__" : Str)) = false := by decide) : QE X (.Name x pos) (ZIa i) := ⟨ZLe hN hv hd hcd⟩
theorem JF {i j pos} : QE X (.Constant (.int i) j pos) (tC (.int i)) := ⟨ZLf⟩
theorem ZAZ {b j pos} : QE X (.Constant (.bool b) j pos) (tC (.bl b)) := ⟨ZM4⟩
theorem ZA8 {v : V} {u : Value} (hg : Gl X x) (hm : X.mg x = none) (hv : bootBuiltins x = some u) (r : JQ v u) (hn : x ≠ "__name__" := by decide) (hd : (x == ("__debug__" : Str)) = false := by decide) : QE X (.Name x pos) (tC v) := ⟨ZKH hg hm hv r hn hd⟩
theorem JN {op : Operator} {r : R2} (ho : OpR X (binaryOp op) r) (ha : QE X a ta) (hb : QE X b tb) : QE X (.BinOp a op b pos) (tOp r ta tb) := ⟨ZM7 ho ha.h hb.h⟩
theorem ZJ4 {op : UnaryOp} {r : V -> Hp -> VK -> Prop} (ho : UnR X (unaryOp op) r) (ha : QE X a ta) : QE X (.UnaryOp op a pos) (tUn r ta) := ⟨ZM8 ho ha.h⟩
theorem ZMU (ha : QE X a ta) : QE X (.UnaryOp .Not a pos) (ZGZ ta) := ⟨ZLm ha.h⟩
theorem ZE2 {op} (h : QE X a ta) : QE X (.BoolOp op [a] pos) ta := ⟨ZLk h.h⟩
theorem ZDQ (ha : QE X a ta) (hb : QE X (.BoolOp .And (b :: Js) pos) tb) : QE X (.BoolOp .And (a :: b :: Js) pos) (ZGY ta tb) := ⟨ZLl ha.h hb.h⟩
theorem ZE3 (hc : QT X c tA) (ha : QE X a ta) (hb : QE X b tb) : QE X (.IfExp c a b pos) (tIf tA ta tb) := ⟨ZId hc.h ha.h hb.h⟩
theorem ZBO {op : CmpOp} {r : R2} (ho : OpR X (compareOp op) r) (ha : QE X a ta) (hb : QE X b tb) (hm : behindInMarks op b = false) : QE X (.Compare a [op] [b] pos) (tOp r ta tb) := ⟨ZKQ ho ha.h hb.h hm⟩
theorem JZ {op : CmpOp} {r : R2} (ho : OpR X (compareOp op) r) (ha : QE X a ta) (hb : QE X b tb) (hm : behindInMarks op b = false) : QT X (.Compare a [op] [b] pos) (ZDL (tOp r ta tb)) := ⟨ZKR ho ha.h hb.h hm⟩
theorem ZJI {op op' : CmpOp} {r r' : R2} (ho : OpR X (compareOp op) r) (ho' : OpR X (compareOp op') r') (ha : QE X a ta) (hb : QE X b tb) (hc : QE X c tc)
 (hm : lastMarks [op, op'] [b, c] = false := by with_unfolding_all rfl) : QE X (.Compare a [op, op'] [b, c] pos) (ZCO r r' ta tb tc) := ⟨ZIr ho ho' ha.h hb.h hc.h hm⟩
theorem ZA9 {op op' : CmpOp} {r r' : R2} (ho : OpR X (compareOp op) r) (ho' : OpR X (compareOp op') r') (ha : QE X a ta) (hb : QE X b tb) (hc : QE X c tc)
 (hm : lastMarks [op, op'] [b, c] = false := by with_unfolding_all rfl) : QT X (.Compare a [op, op'] [b, c] pos) (ZDL (ZCO r r' ta tb tc)) := ⟨ZIs ho ho' ha.h hb.h hc.h hm⟩
theorem ZAJ (h : QE X e te) (he : ZE1 e = true := by rfl) : QT X e (tB te) := ⟨ZLg h.h (ZMT he)⟩
theorem QW.pt (h : QW X e tA) : QT X e tA := ⟨h.h.pt⟩
theorem ZCh (ha : QT X a tA) : QW X (.BoolOp .And [a] pos) tA := ⟨ZKI ha.h⟩
theorem ZBY (ha : QT X a tA) : QW X (.BoolOp .Or [a] pos) tA := ⟨ZLh ha.h⟩
theorem ZDR (ha : QT X a tA) (hb : QW X (.BoolOp .And (b :: Js) pos) tB') : QW X (.BoolOp .And (a :: b :: Js) pos) (ZIb tA tB') := ⟨ZLi ha.h hb.h⟩
theorem ZB9 (ha : QT X a tA) (hb : QW X (.BoolOp .Or (b :: Js) pos) tB') : QW X (.BoolOp .Or (a :: b :: Js) pos) (tOr tA tB') := ⟨ZM5 ha.h hb.h⟩
theorem J7 (ha : QT X a tA) : QT X (.UnaryOp .Not a pos) (ZIc tA) := ⟨ZLj ha.h⟩
theorem JH : QA X [] ZIv := ⟨ZLv⟩
theorem JG (ha : QE X e te) (hr : QA X es t) (hs : ZAb e = false := by rfl) : QA X (e :: es) (ZEh te t) := ⟨ZNa ha.h hr.h hs⟩
theorem ZAD {x1} (h : QA X es t) : QE X (.Tuple es x1 pos) (ZIw t) := ⟨ZLw h.h⟩
theorem ZAi (h : QA X es t) : QE X (.List es pos) (ZIx t) := ⟨ZLx h.h⟩
theorem JW {r : R2} (hr : IxR X r) (ha : QE X a ta) (hb : QE X b tb) (hs : ZEi b = false := by rfl) : QE X (.Subscript a b pos) (tOp r ta tb) := ⟨ZNB hr ha.h hb.h (ZKw hs)⟩
theorem ZKx : QO X none ZDq := ⟨ZKV⟩
theorem ZKy (h : QE X e te) : QO X (some e) (ZGm te) := ⟨ZKW h.h⟩
theorem ZJJ {lo hi : Option Expr} {tl th : TO} {r : V -> Option Int -> Option Int -> Hp -> VK -> Prop} (hr : SlR X r) (he : QE X e te) (hl : QO X lo tl) (hu : QO X hi th) : QE X (.Subscript e (.Slice lo hi none p2) pos) (tSl r te tl th) := ⟨ZIz hr he.h hl.h hu.h⟩
theorem ZJK {CX : CXT} {k : Nat} {f : Addr} {fd : FuncData} {ps : List Str} {sp : Sp} {dvs : List V} {ds : List Value} {E : XK} (F : Jt X.prog X.w X.K X.mg X.base CX k f fd ps sp) (hr : Room k X.A) (hg : Gl X x) (hm : X.mg x = some (.ref f)) (hk : W.keepIn X.K (.ref f) = true) (hb : Jh X.K fd ps ds) (hd : JP dvs ds) (hx : ZCP CX X E)
 (ha : QA X (e :: es) t) (hns : Jy (e :: es) = true := by rfl) (hdb : (x == ("__debug__" : Str)) = false := by decide) : QE X (.Call (.Name x p) (e :: es) [] pos) (ZDN sp dvs E t) := ⟨ZI9 F hr hg hm hk hb hd hx ha.h hns hdb⟩
theorem Je {id : String} {r : List V -> Hp -> VK -> Prop} (hc : J2 X (.builtin id) r) (hg : Gl X x) (hm : X.mg x = none) (hv : bootBuiltins x = some (.builtin id)) (ha : QA X (e :: es) t) (hns : Jy (e :: es) = true := by rfl) (hn : x ≠ "__name__" := by decide) (hdb : (x == ("__debug__" : Str)) = false := by decide) :
 QE X (.Call (.Name x p) (e :: es) [] pos) (tCB r t) := ⟨ZHk hc hg hm hv ha.h hns hn hdb⟩
theorem ZDS {T : String} {r : List V -> Hp -> VK -> Prop} (hc : J2 X (.type T) r) (hg : Gl X x) (hm : X.mg x = none) (hv : bootBuiltins x = some (.type T)) (ha : QA X (e :: es) t) (hns : Jy (e :: es) = true := by rfl) (hn : x ≠ "__name__" := by decide) (hdb : (x == ("__debug__" : Str)) = false := by decide) :
 QE X (.Call (.Name x p) (e :: es) [] pos) (tCB r t) := ⟨ZGr hc hg hm hv ha.h hns hn hdb⟩
theorem ZCA : QF X [] ZGq := ⟨ZI7⟩
theorem ZAc (hc : QT X c tA) : QF X [c] tA := ⟨ZI8 hc.h⟩
theorem ZKz {tg : Expr} (hl : QE X e te) : QI X tg e (ZEg X.K te) := ⟨ZKO hl.h⟩
theorem ZMV {tg : Expr} (hl : QE X e te) : QI X tg e (ZGf X.K te) := ⟨ZLr hl.h⟩
theorem ZCR {tg : Expr} (hg : Gl X "range") (hm : X.mg "range" = none) (ha : QA X [a] t) (hs : ZAb a = false := by rfl) : QI X tg (.Call (.Name "range" p) [a] [] pos) (ZGg t) := ⟨ZHU hg hm ha.h (ZAQ hs)⟩
theorem J3 {i : Nat} (hN : X.N.Nodup) (hi : X.N[i]? = some x) (hx : Loc X.env.scope x) (hf : X.fn x = true \/ X.env.scope.names.lookup x = some .local := by first | exact .inl rfl | exact .inr rfl | assumption) : QG X (.Name x pos) (ZAu i) := ⟨ZKM hN hi hx hf⟩
theorem ZAg : QGs X [] ZIj := ⟨ZKN⟩
theorem ZHo {e : Expr} {es : List Expr} {env : Env} (h : ZAb e = false) : (assignEach (e :: es) env).map (·.2) = assign e env :: (assignEach es env).map (·.2) := by
 cases e <;> first | rfl | cases h
theorem Jc {g : TG} {u : TGs} (h1 : QG X e g) (h2 : QGs X es u) (hs : ZAb e = false := by rfl) : QGs X (e :: es) (ZGb g u) := ⟨ZIk h1.h h2.h (ZHo hs)⟩
theorem ZMW {k : Nat} {u : TGs} {n : Nat} (hc : X.calm = true) (h : QGs X es u) (hn : (assignEach es X.env).length = n := by rfl) (hst : (assignEach es X.env).findIdx? (·.1) = none := by rfl) : QG X (.Tuple es k pos) (ZGc X.K n u) := ⟨ZLo hc h.h hn hst⟩
theorem ZE4 {s : ZEs} (ho : QE X o to) (hi : QE X e ti) (hs : ZIi X s)
 (ha : ∀ v, assign (.Subscript o e pos) X.env v = (do
  let ov <- holding [v] (eval o X.env)
  let iv <- holding [v, ov] (eval e X.env)
  standAt pos
  holding [v, ov, iv] (setItem ov iv v)
  release [v, ov, iv] []) := by intro _; rfl) : QG X (.Subscript o e pos) (ZIl to ti s) := ⟨ZLp ho.h hi.h hs ha⟩
theorem ZBP {N : List Str} {sc : Scope} {own caps : List Str} {ks : List Nat} {elt tg iter : Expr} {ifs : List Expr} {scope : Scope} {wi : TI} {g : TG} {tt : TT}
  (hN : X.N = N) (hsc : X.env.scope = sc) (hc : X.calm = true) (S : ZCQ N sc own caps ks scope) (hi : QI X tg iter wi)
  (hg : ∀ cl C s₂ H₂ fp, QG (JU X (own ++ caps) scope cl C s₂ H₂ fp) tg g)
  (ht : ∀ cl C s₂ H₂ fp, QF (JU X (own ++ caps) scope cl C s₂ H₂ fp) ifs tt)
  (he : ∀ cl C s₂ H₂ fp, QE (JU X (own ++ caps) scope cl C s₂ H₂ fp) elt te)
  (hs : ∀ x, foldedSetIterable iter X.env x = pure x := by intro _; rfl) :
  QE X (.ListComp elt [⟨tg, iter, ifs, 0⟩] scope pos) (ZCg own.length ks wi g tt te) :=
 ⟨ZKa hN hsc hc S hi.h (fun cl C s₂ H₂ fp => (hg cl C s₂ H₂ fp).h) (fun cl C s₂ H₂ fp => (ht cl C s₂ H₂ fp).h) (fun cl C s₂ H₂ fp => (he cl C s₂ H₂ fp).h) hs⟩
theorem ZCB {T : String} {name : Str} {id : String} {r : V -> List V -> Hp -> VK -> Prop} {apos cpos : Pos} (pa : PlainAttrs T) (slot : Slot T name id) (hty : typeOf (.builtin id) = pure (.type "method_descriptor")) (hm : MtR X id r) (ho : QE X o to) (ha : QA X (e :: es) t)
  (hst : Jy (e :: es) = true := by rfl) (hbase : attributeBase o name X.env (eval o X.env) = eval o X.env := by rfl)
  (hfew : ((backTo cpos (starEach (e :: es) X.env)).all (fun x => !x.1) && (backToKw cpos (keywordEach [] X.env)).all (fun x => x.1.isSome)
   && decide ((e :: es).length + ([] : List Keyword).length + (if ([] : List Keyword).isEmpty then 0 else 1) < 30)) = true := by rfl)
  (hline : (apos.endLine == cpos.line) = true := by rfl) : QE X (.Call (.Attribute o name apos) (e :: es) [] cpos) (tBM X.K T r to t) :=
 ⟨ZNC pa slot hty hm ho.h ha.h hbase hfew hline (ZBz hst) (ZBW (ZBn hst))⟩
end
section
variable {X : Cx} {st : Stmt} {Js sa sb : List Stmt} {t u : TS} {e c : Expr} {te : TE} {tA : TT} {pos pos' : Pos} {x : Str}
theorem Ja : QB X [] ZGa := ⟨ZKJ⟩
theorem JI (h1 : QS X st t) (h2 : QB X Js u) : QB X (st :: Js) (ZIe t u) := ⟨ZIf h1.h h2.h⟩
theorem JK (h1 : QS X st t) : QB X [st] t := ⟨ZKK h1.h⟩
theorem ZAd (he : QE X e te) (hs : ZAp e = false := by rfl) : QS X (.Expr e pos) (ZEf te) := ⟨ZJA he.h hs⟩
theorem JX (he : QE X e te) : QS X (.Return (some e) pos) (ZIg te) := ⟨ZLn he.h⟩
theorem Jq (hc : QT X c tA) (ha : QB X sa t) (hb : QB X sb u) : QS X (.If c sa sb pos) (ZEr tA t u) := ⟨ZM6 hc.h ha.h hb.h⟩
theorem ZBZ : QS X st ZHS := ⟨ZIh⟩
theorem ZK0 {i : Nat} (hN : X.N.Nodup) (hi : X.N[i]? = some x) (hx : Loc X.env.scope x) (he : QE X e te) (hs : ZAp e = false := by rfl) (hf : X.fn x = true \/ X.env.scope.names.lookup x = some .local := by first | exact .inl rfl | exact .inr rfl | assumption) :
 QS X (.Assign [.Name x pos'] e pos) (ZBt te (ZAu i)) := ⟨ZKc hN hi hx he.h hs hf⟩
theorem ZAy {tg : Expr} {g : TG} (he : QE X e te) (hg : QG X tg g) (hs : ZAp e = false := by rfl) (hw : swappedStores [tg] e X.env = pure none := by rfl)
 (h1 : (assignEach [tg] X.env).map (·.2) = [assign tg X.env] := by rfl) : QS X (.Assign [tg] e pos) (ZBt te g) := ⟨ZLq he.h hg.h (ZB8 hs) hw h1⟩
theorem ZBa {tg iter : Expr} {wi : TI} {g : TG} (hp : PassesOwn (model X.prog X.w) X.A X.env X.xe) (hc : X.calm = true) (hi : QI X tg iter wi) (hg : QG X tg g) (hb : QB X sa t)
 (hs : ∀ x, foldedSetIterable iter X.env x = pure x := by intro _; rfl) : QS X (.For tg iter sa [] pos) (ZIn wi g t) := ⟨ZLs hp hc hi.h hg.h hb.h hs⟩
end
section
variable {X : Cx} {e : Expr} {es : List Expr} {te : TE} {pos : Pos} (K : W.Frag) (h : X.K = K)
include h
theorem ZB1 : J2 X (.builtin "len") (ZGs K) := h ▸ ZL5
theorem ZE5 : J2 X (.type "tuple") (ZEy K) := h ▸ ZJB
theorem ZBb : J2 X (.builtin "isinstance") (ZI5 K) := h ▸ ZI6
theorem ZAC : IxR X (ZI1 K) := h ▸ ZKX
theorem Jf : IxR X (ZI2 K) := h ▸ ZLz
theorem ZK1 : SlR X (ZGp K) := h ▸ ZKY
theorem ZBA {tg : Expr} (hl : QE X e te) : QI X tg e (ZEg K te) := h ▸ ZKz hl
theorem ZBc {tg : Expr} (hl : QE X e te) : QI X tg e (ZGf K te) := h ▸ ZMV hl
theorem ZAz {k : Nat} {u : TGs} {n : Nat} (hc : X.calm = true) (hg : QGs X es u) (hn : (assignEach es X.env).length = n := by rfl) (hst : (assignEach es X.env).findIdx? (·.1) = none := by rfl) : QG X (.Tuple es k pos) (ZGc K n u) := h ▸ ZMW hc hg hn hst
end
mutual
inductive Dat (K : W.Frag) (H : Hp) : V -> PyData -> Prop
 | non : Dat K H .non .none
 | bl (b : Bool) : Dat K H (.bl b) (.bool b)
 | int (i : Int) : Dat K H (.int i) (.int i)
 | str (x : Str) : Dat K H (.str x) (.str x)
 | tup {a : Addr} {xs : List V} {ds : List PyData} (h : SqT K H a xs) (r : ZAU K H xs ds) : Dat K H (.ref a) (.tuple ds)
 | lst {a : Addr} {xs : List V} {ds : List PyData} (h : SqL K H a xs) (r : ZAU K H xs ds) : Dat K H (.ref a) (.list ds)
inductive ZAU (K : W.Frag) (H : Hp) : List V -> List PyData -> Prop
 | nil : ZAU K H [] []
 | cons {x : V} {d : PyData} {xs : List V} {ds : List PyData} (h : Dat K H x d) (r : ZAU K H xs ds) : ZAU K H (x :: xs) (d :: ds)
end
section
variable {X : Cx} {pins : List (Addr × Obj)} {U : St} {H : Hp} {s : Shared}
mutual
theorem Dat.reads (I : Inv X pins U H s) : ∀ {x : V} {d : PyData} {u : Value}, Dat X.K H x d -> JQ x u -> ∃ as, Reads s.heap u d as
 | _, _, u, .non, r => by cases (show u = Value.none from r); exact ⟨_, .none⟩
 | _, _, u, .bl b, r => by cases (show u = Value.bool b from r); exact ⟨_, .bool b⟩
 | _, _, u, .int i, r => by obtain ⟨t, rfl⟩ := (show ∃ t, u = Value.int i t from r); exact ⟨_, .int i t⟩
 | _, _, u, .str x, r => by obtain ⟨t, rfl⟩ := (show ∃ t, u = Value.str x t from r); exact ⟨_, .str x t⟩
 | _, _, u, @Dat.tup _ _ a xs ds h rs, r => by
  cases (show u = Value.ref a from r)
  obtain ⟨its, rv, ⟨o, ho, hc, n, hd⟩, _⟩ := I.tuple h
  obtain ⟨as, ra⟩ := ZAU.reads I rs rv
  exact ⟨_, .tuple ho hc hd (by simpa using ra)⟩
 | _, _, u, @Dat.lst _ _ a xs ds h rs, r => by
  cases (show u = Value.ref a from r)
  obtain ⟨its, rv, ⟨o, n, ho, hc, _, hd⟩, _⟩ := I.list h
  obtain ⟨as, ra⟩ := ZAU.reads I rs rv
  exact ⟨_, .list ho hc hd (by simpa using ra)⟩
theorem ZAU.reads (I : Inv X pins U H s) : ∀ {xs : List V} {ds : List PyData} {us : List Value}, ZAU X.K H xs ds -> JP xs us -> ∃ as, ReadsAll s.heap us ds as
 | _, _, _, .nil, .nil => ⟨_, .nil⟩
 | _, _, _, .cons h r, .cons r1 r2 => by
  obtain ⟨as, ra⟩ := Dat.reads I h r1
  obtain ⟨bs, rb⟩ := ZAU.reads I r r2
  exact ⟨_, .cons ra rb⟩
end
end
section
variable {X : Cx}
def ZJL (K : W.Frag) : R2 := fun x y H Q => ∃ d e, Dat K H x d /\ Dat K H y e /\ d.canLay0 = true /\ e.canLay0 = true /\ d.depth <= 60 /\ Q (.bl (PyData.eqv d e)) H
def ZE6 (K : W.Frag) : R2 := fun x y H Q => ∃ d e, Dat K H x d /\ Dat K H y e /\ d.canLay0 = true /\ e.canLay0 = true /\ d.depth <= 60 /\ Q (.bl (!PyData.eqv d e)) H
theorem ZMX (K : W.Frag) (hK : X.K = K) (hu : X.A.units + 64 < cLine) : OpR X (compareOp .Eq) (ZJL K) := by
 subst hK
 intro pins s U H x y v u Q I rx ry h
 obtain ⟨d, e, h1, h2, c1, c2, hd, q⟩ := h
 obtain ⟨as, ra⟩ := h1.reads I rx
 obtain ⟨bs, rb⟩ := h2.reads I ry
 exact SeqAt.compareEq_reads ra rb c1 c2 (by have := Nat.min_le_left d.depth e.depth; omega) ⟨.bl _, H, I, rfl, q⟩
theorem ZDT (K : W.Frag) (hK : X.K = K) (hu : X.A.units + 64 < cLine) : OpR X (compareOp .NotEq) (ZE6 K) := by
 subst hK
 intro pins s U H x y v u Q I rx ry h
 obtain ⟨d, e, h1, h2, c1, c2, hd, q⟩ := h
 obtain ⟨as, ra⟩ := h1.reads I rx
 obtain ⟨bs, rb⟩ := h2.reads I ry
 exact SeqAt.compareNe_reads ra rb c1 c2 (by have := Nat.min_le_left d.depth e.depth; omega) ⟨.bl _, H, I, rfl, q⟩
theorem ZMY {K : W.Frag} {H : Hp} {Q : VK} {x y : V} {d e : PyData} (h1 : Dat K H x d) (h2 : Dat K H y e) (c1 : d.canLay0 = true) (c2 : e.canLay0 = true) (hd : d.depth <= 60) (h : Q (.bl (PyData.eqv d e)) H) : ZJL K x y H Q := ⟨d, e, h1, h2, c1, c2, hd, h⟩
theorem ZE7 {K : W.Frag} {H : Hp} {Q : VK} {x y : V} {d e : PyData} (h1 : Dat K H x d) (h2 : Dat K H y e) (c1 : d.canLay0 = true) (c2 : e.canLay0 = true) (hd : d.depth <= 60) (h : Q (.bl (!PyData.eqv d e)) H) : ZE6 K x y H Q := ⟨d, e, h1, h2, c1, c2, hd, h⟩
theorem ZNL {K : W.Frag} {T : String} {r : V -> List V -> Hp -> VK -> Prop} {to : TE} {t : TA} {U : St} {H : Hp} {Q : VK} (h : to U H fun x H1 => tyV K T x H1 /\ t U H1 fun xs H2 => r x xs H2 Q) : tBM K T r to t U H Q := h
theorem tyL {K : W.Frag} {H : Hp} {p : Addr} {xs : List V} (h : H p = some (.lst xs)) : tyV K "list" (.ref p) H := .inl ⟨rfl, xs, SqL.of h⟩
theorem ZAR {H : Hp} {Q : VK} {p : Addr} {xs : List V} {y : V} (h1 : H p = some (.lst xs)) (hz : xs.length < sizeLine) (h : ∀ H2, H2 p = some (.lst (xs ++ [y])) -> Kp p H H2 -> Q .non H2) : ZFz (.ref p) [y] H Q :=
 ⟨p, xs, y, rfl, rfl, h1, hz, h _ JO Kp.upd⟩
end
def JJ (H : Hp) (vs : List V) (l : PL) : Prop := Paired (fun v (p : Int × Int) => ∃ a, v = V.ref a /\ H a = some (.tup [.int p.1, .int p.2])) vs l
theorem JJ.same {H H' : Hp} {vs : List V} {l : PL} (h : JJ H vs l) (s : JM H H') : JJ H' vs l := Paired.mapP h fun _ _ ⟨a, e, z⟩ => ⟨a, e, s _ _ z⟩
section
variable {κ : Type} [DecidableEq κ]
def J9 (kvs : List (κ × V)) (k : κ) : Option V := (kvs.find? fun kv => decide (kv.1 = k)).map (·.2)
def ZAo (kvs : List (κ × V)) (k : κ) (v : V) : List (κ × V) :=
 if (kvs.any fun kv => decide (kv.1 = k)) = true then kvs.map (fun kv => if kv.1 = k then (kv.1, v) else kv) else kvs ++ [(k, v)]
theorem J5 {p : κ × V} {r : List (κ × V)} {k : κ} (e : p.1 = k) : J9 (p :: r) k = some p.2 := by simp [J9, UT, e]
theorem J6 {p : κ × V} {r : List (κ × V)} {k : κ} (e : ¬ p.1 = k) : J9 (p :: r) k = J9 r k := by simp [J9, UT, e]
theorem ZCC (k : κ) : ∀ kvs : List (κ × V), (kvs.any fun kv => decide (kv.1 = k)) = (J9 kvs k).isSome
 | [] => rfl
 | p :: r => by
  rw [List.any_cons]
  by_cases e : p.1 = k
  ·simp only [J5 e, decide_eq_true e, Bool.true_or, Option.isSome_some]
  ·rw [J6 e, decide_eq_false e, Bool.false_or]; exact ZCC k r
theorem ZE8 (k j : κ) (y : V) : ∀ kvs : List (κ × V), J9 (kvs.map fun kv => if kv.1 = k then (kv.1, y) else kv) j = (J9 kvs j).map fun x => if j = k then y else x
 | [] => rfl
 | p :: r => by
  have ih := ZE8 k j y r
  rw [UJ]
  by_cases h : p.1 = k
  ·rw [if_pos h]
   by_cases e : p.1 = j
   ·rw [J5 (p := (p.1, y)) e, J5 e, Vi, if_pos (e.symm.trans h)]
   ·rw [J6 (p := (p.1, y)) e, J6 e, ih]
  ·rw [if_neg h]
   by_cases e : p.1 = j
   ·rw [J5 (p := p) e, J5 e, Vi, if_neg (fun z => h (e.trans z))]
   ·rw [J6 (p := p) e, J6 e, ih]
theorem ZED (k j : κ) (y : V) : ∀ kvs : List (κ × V), J9 kvs k = none -> J9 (kvs ++ [(k, y)]) j = if j = k then some y else J9 kvs j
 | [], _ => by
  by_cases e : k = j
  ·rw [if_pos e.symm]; exact J5 (p := (k, y)) e
  ·rw [if_neg (fun z => e z.symm)]; exact J6 (p := (k, y)) e
 | p :: r, hn => by
  rw [List.cons_append]
  have hk : ¬ p.1 = k := fun z => by rw [J5 z] at hn; cases hn
  rw [J6 hk] at hn
  have ih := ZED k j y r hn
  by_cases e : p.1 = j
  ·rw [J5 e, J5 e, if_neg (fun z => hk (e.trans z))]
  ·rw [J6 e, J6 e, ih]
theorem ZJM (kvs : List (κ × V)) (k j : κ) (y : V) : J9 (ZAo kvs k y) j = if j = k then some y else J9 kvs j := by
 unfold ZAo
 by_cases a : (kvs.any fun kv => decide (kv.1 = k)) = true
 ·rw [if_pos a, ZE8]
  rw [ZCC] at a
  by_cases e : j = k
  ·obtain ⟨x, hx⟩ := Option.isSome_iff_exists.mp a
   rw [if_pos e, e, hx, Vi, if_pos rfl]
  ·rw [if_neg e]
   cases J9 kvs j with
   | none => rfl
   | some x => rw [Vi, if_neg e]
 ·rw [if_neg a]
  refine ZED k j y kvs ?_
  rw [ZCC] at a
  cases q : J9 kvs k with
  | none => rfl
  | some x => rw [q] at a; exact (a rfl).elim
theorem ZCo (kvs : List (κ × V)) (k : κ) (v : V) : (ZAo kvs k v).length <= kvs.length + 1 := by
 unfold ZAo
 split
 ·rw [Uv]; omega
 ·rw [UE, Vk, Vp]; omega
theorem ZBT.isSome_eq {o : Option V} {u : Option Value} (r : ZBT o u) : o.isSome = u.isSome := by
 cases o with
 | none => cases u with
  | none => rfl
  | some _ => exact (show False from r).elim
 | some _ => cases u with
  | none => exact (show False from r).elim
  | some _ => rfl
theorem KV.val {kvs : List (κ × V)} {vs : List (κ × Value)} (r : KV kvs vs) (k : κ) : ZBT (J9 kvs k) (valueAt vs k) := by
 unfold KV at r
 induction r with
 | nil => exact True.intro
 | @cons p q ps qs h t ih =>
  obtain ⟨h1, h2⟩ := h
  by_cases e : p.1 = k
  ·have e' : q.1 = k := h1.symm.trans e
   have b : valueAt (q :: qs) k = some q.2 := by simp [valueAt, UT, e']
   rw [J5 e, b]; exact h2
  ·have e' : ¬ q.1 = k := fun z => e (h1.trans z)
   have b : valueAt (q :: qs) k = valueAt qs k := by simp [valueAt, UT, e']
   rw [J6 e, b]; exact ih
theorem KV.any {kvs : List (κ × V)} {vs : List (κ × Value)} (r : KV kvs vs) (k : κ) : (kvs.any fun kv => decide (kv.1 = k)) = vs.any fun kv => decide (kv.1 = k) := by
 unfold KV at r
 induction r with
 | nil => rfl
 | cons h t ih => rw [List.any_cons, List.any_cons, ih, h.1]
theorem KV.repl {kvs : List (κ × V)} {vs : List (κ × Value)} (r : KV kvs vs) (k : κ) {y : V} {u : Value} (ry : JQ y u) :
  KV (kvs.map fun kv => if kv.1 = k then (kv.1, y) else kv) (vs.map fun kv => if kv.1 = k then (kv.1, u) else kv) := by
 unfold KV at r ⊢
 induction r with
 | nil => exact .nil
 | @cons p q ps qs h t ih =>
  rw [UJ, UJ]
  refine .cons ?_ ih
  obtain ⟨h1, h2⟩ := h
  by_cases e : p.1 = k
  ·rw [if_pos e, if_pos (h1.symm.trans e)]; exact ⟨h1, ry⟩
  ·rw [if_neg e, if_neg (fun z => e (h1.trans z))]; exact ⟨h1, h2⟩
theorem KV.put {kvs : List (κ × V)} {vs : List (κ × Value)} (r : KV kvs vs) (k : κ) {y : V} {u : Value} (ry : JQ y u) : KV (ZAo kvs k y) (stored vs k u) := by
 unfold ZAo stored
 rw [r.any k]
 by_cases e : (vs.any fun kv => decide (kv.1 = k)) = true
 ·rw [if_pos e, if_pos e]; exact r.repl k ry
 ·rw [if_neg e, if_neg e]; exact Paired.snoc r ⟨rfl, ry⟩
theorem KV.length {kvs : List (κ × V)} {vs : List (κ × Value)} (r : KV kvs vs) : kvs.length = vs.length := Paired.length r
end
theorem ZGu {P : Program} {w : World} {k : Key} {u : Value} (r : JQ (kV k) u) : (ZAB P w).is k u = true := by
 cases k with
 | inl i => obtain ⟨t, e⟩ := (show ∃ t, u = Value.int i t from r); subst e; exact ZFb P w i t
 | inr x => obtain ⟨t, e⟩ := (show ∃ t, u = Value.str x t from r); subst e; exact ZFc P w x t
theorem ZEE {P : Program} {w : World} : ∀ {ks : List Key} {us : List Value}, JP (ks.map kV) us -> ItemsAre (ZAB P w) ks us
 | [], _, r => by rw [List.map_nil] at r; cases r; exact .nil
 | k :: ks, _, r => by
  rw [UJ] at r
  cases r with
  | cons h t => exact .cons (ZGu h) (ZEE t)
abbrev KT (H : Hp) : List (List Key × V) -> List (List Key × Addr × Value) -> Prop := Paired fun p q => p.1 = q.1 /\ H q.2.1 = some (.tup (p.1.map kV)) /\ JQ p.2 q.2.2
theorem KT.val {H : Hp} {kvs : List (List Key × V)} {xs : List (List Key × Addr × Value)} (r : KT H kvs xs) (k : List Key) : ZBT (J9 kvs k) ((atKey xs k).map (·.2)) := by
 induction r with
 | nil => exact True.intro
 | @cons p q ps qs h t ih =>
  obtain ⟨h1, _, h2⟩ := h
  by_cases e : p.1 = k
  ·have e' : q.1 = k := h1.symm.trans e
   have b : atKey (q :: qs) k = some q.2 := by simp [atKey, UT, e']
   rw [J5 e, b]; exact h2
  ·have e' : ¬ q.1 = k := fun z => e (h1.trans z)
   have b : atKey (q :: qs) k = atKey qs k := by simp [atKey, UT, e']
   rw [J6 e, b]; exact ih
theorem KT.repl {H : Hp} {kvs : List (List Key × V)} {xs : List (List Key × Addr × Value)} (r : KT H kvs xs) (k : List Key) {y : V} {u : Value} (ry : JQ y u) :
  KT H (kvs.map fun kv => if kv.1 = k then (kv.1, y) else kv) (xs.map (putAt k u)) := by
 induction r with
 | nil => exact .nil
 | @cons p q ps qs h t ih =>
  rw [UJ, UJ]
  refine .cons ?_ ih
  obtain ⟨h1, h2, h3⟩ := h
  unfold putAt
  by_cases e : p.1 = k
  ·rw [if_pos e, if_pos (h1.symm.trans e)]; exact ⟨h1, h2, ry⟩
  ·rw [if_neg e, if_neg (fun z => e (h1.trans z))]; exact ⟨h1, h2, h3⟩
theorem KT.put {H : Hp} {kvs : List (List Key × V)} {xs : List (List Key × Addr × Value)} (r : KT H kvs xs) (k : List Key) {b : Addr} {y : V} {u : Value} (hb : H b = some (.tup (k.map kV))) (ry : JQ y u) :
  KT H (ZAo kvs k y) (storedH xs k b u) := by
 have e : (kvs.any fun kv => decide (kv.1 = k)) = (atKey xs k).isSome := by
  rw [ZCC, (r.val k).isSome_eq, Option.isSome_map]
 unfold ZAo storedH
 rw [e]
 by_cases q : (atKey xs k).isSome = true
 ·rw [if_pos q, if_pos q]; exact r.repl k ry
 ·rw [if_neg q, if_neg q]; exact Paired.snoc r ⟨rfl, hb, ry⟩
theorem KT.keeps {H H' : Hp} {kvs : List (List Key × V)} {xs : List (List Key × Addr × Value)} (r : KT H kvs xs) (ht : ∀ b ys, H b = some (.tup ys) -> H' b = some (.tup ys)) : KT H' kvs xs :=
 Paired.mapP r fun _ _ z => ⟨z.1, ht _ _ z.2.1, z.2.2⟩
section
variable {P : Program} {w : World} {H : Hp} {h : Heap} {a : Addr}
theorem ZJ5 {u : HO} (ok : HOk P w H h) (e : Rd H a u) : Jo P w H h a u := e.ok ok
theorem ZEj {kvs : List (Key × V)} (ok : HOk P w H h) (e : Rd H a (.dK kvs)) : kvs.length <= sizeLine /\ (a == sysModules) = false /\ ∃ vs, KV kvs vs /\ h.DictOf (ZAB P w) a vs :=
 show Jo P w H h a (.dK kvs) from ZJ5 ok e
theorem ZNM {kvs : List (Key × V)} (ok : HOk P w H h) (e : H a = some (.dK kvs)) : kvs.length <= sizeLine /\ (a == sysModules) = false /\ ∃ vs, KV kvs vs /\ h.DictOf (ZAB P w) a vs := ZEj ok (.inl e)
theorem ZE9 {ks : List Key} (ok : HOk P w H h) (e : H a = some (.tup (ks.map kV))) : (tupleKind (ZAB P w)).is h ks a := by
 obtain ⟨_, its, r, o, h1, h2, n, h3⟩ := (show Jo P w H h a (.tup (ks.map kV)) from ok a _ e)
 exact ⟨o, its.toArray, n, h1, h2, h3, by simpa using ZEE r⟩
theorem ZGv {kvs : List (List Key × V)} (ok : HOk P w H h) (e : Rd H a (.dT kvs)) : kvs.length <= sizeLine /\ (a == sysModules) = false /\
  ∃ xs, KT H kvs xs /\ h.DictOfH (tupleKind (ZAB P w)) a xs := by
 obtain ⟨z, y, xs, r, o, es, ep, h1, h2, h3, h4, h5⟩ := (show Jo P w H h a (.dT kvs) from ZJ5 ok e)
 refine ⟨z, y, xs, r, o, es, ep, h1, h2, h3, h4, fun x hx => ?_, h5⟩
 have all : ∀ {l : List (List Key × V)} {m : List (List Key × Addr × Value)}, KT H l m -> ∀ x ∈ m, (tupleKind (ZAB P w)).is h x.1 x.2.1 := by
  intro l m q
  induction q with
  | nil => intro x hx; exact nomatch hx
  | @cons p q ps qs hq t ih =>
   intro x hx
   rcases Ul.mp hx with e | hx
   ·subst e
    exact ZE9 ok (by rw [<- hq.1]; exact hq.2.1)
   ·exact ih x hx
 exact all r x hx
theorem ZNN {kvs : List (List Key × V)} (ok : HOk P w H h) (e : H a = some (.dT kvs)) : kvs.length <= sizeLine /\ (a == sysModules) = false /\
 ∃ xs, KT H kvs xs /\ h.DictOfH (tupleKind (ZAB P w)) a xs := ZGv ok (.inl e)
end
def ZCz (H : Hp) (a : Addr) (y : V) (r : Option V) : Prop :=
 (∃ kvs k, Rd H a (.dK kvs) /\ y = kV k /\ r = J9 kvs k) \/ ∃ kvs k b, Rd H a (.dT kvs) /\ y = .ref b /\ H b = some (.tup (k.map kV)) /\ r = J9 kvs k
def ZDu (H : Hp) (a : Addr) (y v : V) (H' : Hp) : Prop :=
 (∃ kvs k, H a = some (.dK kvs) /\ y = kV k /\ kvs.length < sizeLine /\ H' = upd H a (.dK (ZAo kvs k v))) \/
 ∃ kvs k b, H a = some (.dT kvs) /\ y = .ref b /\ H b = some (.tup (k.map kV)) /\ kvs.length < sizeLine /\ H' = upd H a (.dT (ZAo kvs k v))
theorem ZCz.k {H : Hp} {a : Addr} {kvs : List (Key × V)} {k : Key} (e : H a = some (.dK kvs)) : ZCz H a (kV k) (J9 kvs k) := .inl ⟨kvs, k, .inl e, rfl, rfl⟩
theorem ZDu.k {H : Hp} {a : Addr} {kvs : List (Key × V)} {k : Key} {v : V} (e : H a = some (.dK kvs)) (hl : kvs.length < sizeLine) : ZDu H a (kV k) v (upd H a (.dK (ZAo kvs k v))) := .inl ⟨kvs, k, e, rfl, hl, rfl⟩
section
variable {X : Cx} {pins : List (Addr × Obj)} {U : St} {H : Hp} {s : Shared} {a : Addr} {y v : V} {u r : Value} {o : Option V} {A : Around} {E : Value -> Shared -> Prop}
theorem Inv.big (I : Inv X pins U H s) : sysModules < s.heap.objs.size := by
 have h : mainGlobals < s.heap.objs.size := (I.mod.glob.keeps I.bk).lt
 exact Nat.lt_trans (by decide) h
theorem ZHp {Q : Value -> Shared -> Prop} (hu : A.units + 1 < cLine) (I : Inv X pins U H s) (g : ZCz H a y (some v)) (ry : JQ y u) (h : ∀ w' s', Inv X pins U H s' -> JQ v w' -> Q w' s') :
  wpAny (model X.prog X.w) A (getItem (.ref a) u) Q E s := by
 rcases g with ⟨kvs, k, e, ey, l⟩ | ⟨kvs, k, b, e, ey, eb, l⟩
 ·subst ey
  obtain ⟨z, hd, vs, rel, dd⟩ := ZEj I.hok e
  obtain ⟨w', hw, rw'⟩ := ZBT.some_of (v := v) (o := valueAt vs k) (by rw [l]; exact rel.val k)
  exact wpAny_getItem_of (ZGu ry) dd.mapOf hw (h w' _ (I.tok _) rw')
 ·subst ey
  cases (show u = Value.ref b from ry)
  obtain ⟨z, hd, xs, rel, dd⟩ := ZGv I.hok e
  obtain ⟨w', hw, rw'⟩ := ZBT.some_of (v := v) (o := (atKey xs k).map (·.2)) (by rw [l]; exact rel.val k)
  obtain ⟨p, hp, hp2⟩ := Option.map_eq_some_iff.mp hw
  refine wpAny_getItem_heap (tupleKind_room_in1 hu) (ZE9 I.hok eb) dd hp ?_
  rw [hp2]
  exact h w' _ (I.tok _) rw'
theorem ZF5 {h' : Heap} {t' : Nat} {ob : HO} (I : Inv X pins U H s) (mu : Mut (H a)) (hs : Heap.SameBut a s.heap h') (he : ∃ q, h'.get? a = some q) (new : Jo X.prog X.w (upd H a ob) h' a ob) :
  Inv X pins U (upd H a ob) { s with heap := h', toks := t' } :=
 I.write (x := a) (e := a) mu (.inl rfl) (fun b q hb z => (hs.2 b hb).trans z) he new
theorem ZMZ {P : Program} {w : World} {H' : Hp} {h' : Heap} {kvs : List (Key × V)} {vs : List (Key × Value)} (z : kvs.length <= sizeLine) (hd : (a == sysModules) = false) (rel : KV kvs vs) (dd : h'.DictOf (ZAB P w) a vs) :
 Jo P w H' h' a (.dK kvs) := ⟨z, hd, vs, rel, dd⟩
theorem ZHq {H' : Hp} {Q : Unit -> Shared -> Prop} (hu : A.units + 1 < cLine) (I : Inv X pins U H s) (g : ZDu H a y v H') (ry : JQ y u) (rv : JQ v r) (h : ∀ s', Inv X pins U H' s' -> Q () s') :
  wpAny (model X.prog X.w) A (setItem (.ref a) u r) Q E s := by
 rcases g with ⟨kvs, k, e, ey, l, eH⟩ | ⟨kvs, k, b, e, ey, eb, l, eH⟩
 ·subst ey eH
  obtain ⟨z, hd, vs, rel, dd⟩ := ZNM I.hok e
  have hz : vs.length <= sizeLine := by rw [<- rel.length]; exact z
  have hl : (ZAo kvs k v).length <= sizeLine := by have := ZCo kvs k v; omega
  refine wpAny_setItem_pairs (hsz := hz) (ZGu ry) dd fun h' dd' hs => h _ ?_
  have he : ∃ q, h'.get? a = some q := let ⟨q, _, _, hq, _⟩ := dd'; ⟨q, hq⟩
  exact ZF5 I (by rw [e]; exact True.intro) hs he (ZMZ hl hd (rel.put k rv) dd')
 ·subst ey eH
  cases (show u = Value.ref b from ry)
  obtain ⟨z, hd, xs, rel, dd⟩ := ZNN I.hok e
  have hz : xs.length <= sizeLine := by rw [<- Paired.length rel]; exact z
  have hl : (ZAo kvs k v).length <= sizeLine := by have := ZCo kvs k v; omega
  refine wpAny_setItem_heap (hsz := hz) (tupleKind_room_in1 hu) (ZE9 I.hok eb) dd fun h' dd' hs => h _ ?_
  obtain ⟨q, es, ep, hq, h2, h3, h4, _, h5⟩ := dd'
  refine ZF5 I (by rw [e]; exact True.intro) hs ⟨q, hq⟩ ⟨hl, hd, _, (rel.put k eb rv).keeps fun c ys ec => ?_, q, es, ep, hq, h2, h3, h4, h5⟩
  rw [JT (ZM3 ec e (fun z => nomatch z))]
  exact ec
end
def ZJN (i : Expr) : Prop := ∀ ov iv, subscripted i false ov iv = operate [ov, iv] (getItem ov iv)
theorem ZK2 {prog : Program} {w : World} {A : Around} {E : Value -> Shared -> Prop} {s : Shared} {env : Env} {value slice : Expr} {pos : Pos} {T id : String} {Q : Value -> Shared -> Prop}
  (hl : typeLookup (.type T) "__getitem__" = pure (some (.builtin id))) (hs : ZJN slice)
  (h : wpAny (model prog w) A (eval value env) (fun o s₁ => wpAny (model prog w) A (eval slice env) (fun i s₂ => s₂.TypeIs o T /\ wpAny (model prog w) A (getItem o i) Q E s₂) E s₁) E s) :
  wpAny (model prog w) A (eval (.Subscript value slice pos) env) Q E s := by
 refine Subscript_ (UA h (fun o s₁ h₁ => UA h₁ (fun i s₂ h₂ => ?_) fun _ _ x => x) fun _ _ x => x)
 obtain ⟨hT, h₂⟩ := h₂
 unfold subscriptTail
 refine Ua ?_
 rw [getitemInPython_of_ne hT.not_modules]
 refine Ua (wpAny_specialOf hT hl ?_)
 have fin : wpAny (model prog w) A (subscripted slice false o i) (fun r s₃ => wpAny (model prog w) A (letTemporaryGo value o r >>= fun _ => pure r) Q E s₃) E s₂ := by
  rw [hs o i]
  exact wpAny_operating (UA h₂ (fun r s₃ h₃ => Ua (wpAny_letTemporaryGo (Ud h₃))) fun _ _ x => x)
 first
  | exact Ud (Ua fin)
  | exact Ua (Ud (Ua fin))
  | exact Ua fin
theorem ZFe {X : Cx} {pins : List (Addr × Obj)} {U : St} {H : Hp} {s : Shared} {a : Addr} {y : V} {o : Option V} (I : Inv X pins U H s) (g : ZCz H a y o) : s.TypeIs (.ref a) "dict" := by
 rcases g with ⟨kvs, k, e, _, _⟩ | ⟨kvs, k, b, e, _, _, _⟩
 ·obtain ⟨_, _, vs, _, dd⟩ := ZEj I.hok e
  exact dd.typeIs
 ·obtain ⟨_, _, xs, _, dd⟩ := ZGv I.hok e
  exact dd.typeIs
def ZGw (td ty : TE) : TE := fun U H Q => td U H fun x H1 => ty U H1 fun y H2 => ∃ a v, x = .ref a /\ ZCz H2 a y (some v) /\ Q v H2
def ZGx (td ty tv : TE) : TS := fun D U H => tv U H fun v H1 => td U H1 fun x H2 => ty U H2 fun y H3 => ∃ a H4, x = .ref a /\ ZDu H3 a y v H4 /\ D.nx U H4
section
variable {X : Cx} {o i e value : Expr} {pos pos' tpos : Pos} {td ty tv : TE}
theorem ZK3 (hu : X.A.units + 1 < cLine) (ho : PE X o td) (hi : PE X i ty) (hs : ZJN i) : PE X (.Subscript o i pos) (ZGw td ty) := by
 intro pins s U H Q I h
 refine ZK2 PySem.F.slot_dict_getitem.lookup hs (thn (ho pins s U H _ I h) fun u s1 ⟨x, H1, I1, rx, q1⟩ => thn (hi pins s1 U H1 _ I1 q1) fun iv s2 ⟨y, H2, I2, ry, a, v, ex, g, q2⟩ => ?_)
 subst ex
 obtain rfl : u = Value.ref a := rx
 exact ⟨ZFe I2 g, ZHp hu I2 g ry fun w' s3 I3 rw' => ⟨v, H2, I3, rw', q2⟩⟩
theorem ZK4 (hu : X.A.units + 1 < cLine) (ho : PE X o td) (hi : PE X i ty) (hv : PE X value tv) (hs : swapsWith value (some (.Subscript o i pos')) pos.line X.env = pure false) :
  PS X (.Assign [.Subscript o i pos'] value pos) (ZGx td ty tv) := by
 intro pins s U H D I h
 refine wpAny_Assign_Subscript (thn (hv pins s U H _ I h) fun r s1 ⟨v, H1, I1, rv, q1⟩ => thn (ho pins s1 U H1 _ I1 q1) fun u s2 ⟨x, H2, I2, rx, q2⟩ => thn (hi pins s2 U H2 _ I2 q2) fun iv s3 ⟨y, H3, I3, ry, a, H4, ex, g, q3⟩ => ?_) hs
 subst ex
 obtain rfl : u = Value.ref a := rx
 exact ZHq hu I3 g ry rv fun s4 I4 => ⟨U, H4, I4, q3⟩
end
theorem ZJO {P : Program} {w : World} {H : Hp} (h : Heap) (hb : sysModules < h.objs.size) : Jo P w H (h.push { cls := .type "dict", data := .dict #[] }) h.objs.size (.dK []) :=
 ⟨UF _, beq_eq_false_iff_ne.mpr (Ne.symm (Uk hb)), [], .nil, Heap.DictOf.new h⟩
def ZFA : TE := fun _ H Q => ∀ p, H p = none -> Q (.ref p) (upd H p (.dK []))
section
variable {X : Cx} {pos : Pos}
theorem ZJP : PE X (.Dict [] [] pos) ZFA := fun pins s U H Q I h =>
 wpAny_Dict_empty ⟨.ref s.heap.objs.size, _, I.laid (a := s.heap.objs.size) (o := .dK []) (t' := s.toks) (fun _ _ q => Ub _ q) (Ue _) (ZJO s.heap I.big), rfl, h _ (I.hok.fresh (Ue _))⟩
end
def ZNf (H : Hp) (vs : List V) (prs : List (Key × V)) : Prop := Paired (fun v (p : Key × V) => ∃ a, v = V.ref a /\ H a = some (.tup [kV p.1, p.2])) vs prs
section
variable {prog : Program} {w : World} {A : Around} {E : Value -> Shared -> Prop} {s : Shared} {κ : Type} [DecidableEq κ] {knd : KeyKind prog w κ}
theorem ZFB {d : Addr} {kvs : List (κ × Value)} {ep : Nat} {Q : List Value -> Shared -> Prop} (hh : A.handled = none) (hd : (d == sysModules) = false) (hm : s.heap.DictAt knd d kvs ep) (hn : kvs.length <= sizeLine)
  (hQ : ∀ s' acc, (∀ b o, s.heap.get? b = some o -> s'.heap.get? b = some o) -> s'.gens = s.gens -> s'.drawn = s.drawn -> s'.os = s.os -> s.heap.objs.size < s'.heap.objs.size -> ItemsOf (fun i v => ∃ k x, kvs[i]? = some (k, x) /\ knd.is k v = true) acc kvs.length -> Q acc.toList s') :
  wpAny (model prog w) A (collect (.ref d)) Q E s := by
 have hdl : d < s.heap.objs.size := let ⟨_, _, ho, _⟩ := hm; Ug ho
 unfold collect
 refine Ua (wpAny_runValue (Vh F.entry_proto_collect ?_))
 rw [Around.under_plainId F.plain_proto_collect _]
 show wpAny _ A.in1 (newList [] >>= fun l => again (.builtin "list.__iadd__" ⟨[l, .ref d], []⟩)) _ _ s
 refine Ua (wpAny_newObj_type ?_)
 refine Ud ⟨plainId_quiet F.plain_list_iadd _, Vh F.entry_list_iadd ?_⟩
 rw [Around.under_plainId F.plain_list_iadd _]
 generalize hH : s.heap.push { cls := .type "list", data := .seq ([] : List Value).toArray } = H
 have hHs : H.objs.size = s.heap.objs.size + 1 := by rw [<- hH, UU]
 have hm1 : H.DictAt knd d kvs ep := hm.at' fun o e => hH ▸ Ub _ e
 have hT1 : (⟨H, s.gens, s.drawn, s.toks, s.os⟩ : Shared).TypeIs (.ref d) "dict" := hm1.dictOf.typeIs
 show wpAny _ A.in1 (Builtin.List.listExtendWith (.ref s.heap.objs.size) (.ref d) (.ref s.heap.objs.size)) _ _ (⟨H, s.gens, s.drawn, s.toks, s.os⟩ : Shared)
 unfold Builtin.List.listExtendWith
 refine Ua (wpAny_typeOf hT1 ?_)
 have h1 : Builtin.List.listSameRef (.ref s.heap.objs.size) (.ref d) = false := by
  simp only [Builtin.List.listSameRef]
  exact beq_eq_false_iff_ne.mpr (Nat.ne_of_gt hdl)
 have h2 : (Value.type "dict" == Value.type "list") = false := by decide
 have h3 : (Value.type "dict" == Value.type "tuple") = false := by decide
 simp only [h1, h2, h3, Bool.or_false, Uh, if_false]
 refine Ua (wpAny_pyIter_dict hd hm1 ?_)
 generalize hO : ({ cls := .type "dict_keyiterator", data := .fields #[.ref d, .int 0 0, .int kvs.length 0, .int ep 0] } : Obj) = O
 have hm2 : (H.push O).DictAt knd d kvs ep := hm1.at' fun o e => Ub _ e
 have hT2 : (⟨H.push O, s.gens, s.drawn, s.toks, s.os⟩ : Shared).TypeIs (.ref d) "dict" := hm2.dictOf.typeIs
 refine Ua (UR ?_)
 unfold Builtin.List.listLengthHint
 refine Ua (wpAny_specialOf hT2 PySem.F.slot_dict_len.lookup ?_)
 wp_delta
 refine Ua (wpAny_isInstance (b := true) hT2 (by rw [isSubtype_type]; kernel_rfl) ?_)
 show wpAny _ A.in1 (typeOf (Value.ref d) >>= _) _ _ _
 refine Ua (wpAny_typeOf hT2 ?_)
 refine Ud ?_
 show wpAny _ A.in1 (rule "list.extend.makes-room" >>= fun _ => Builtin.List.listTouch (.ref s.heap.objs.size) >>= fun _ =>
  again (.builtin "list.extend.loop" ⟨[.ref s.heap.objs.size, .ref H.objs.size, .ref s.heap.objs.size], []⟩)) _ _ _
 refine Ua (wpAny_rule ?_)
 have hS₁ : (H.push O).get? s.heap.objs.size = some { cls := .type "list", data := .seq ([] : List Value).toArray } := Ub _ (hH ▸ Uj _ rfl)
 refine Ua ?_
 show wpAny _ A.in1 (updateSeq s.heap.objs.size (·.push .none) >>= fun _ => updateSeq s.heap.objs.size (·.pop)) _ _ _
 refine Ua (wpAny_updateSeq hS₁ rfl ?_)
 have hS₂ := UD (Obj.mapSeq (·.push Value.none)) hS₁ rfl
 refine wpAny_updateSeq hS₂ rfl ?_
 have hS₃ := UD (Obj.mapSeq (·.pop)) hS₂ rfl
 have oth : ∀ b o, b ≠ s.heap.objs.size -> (H.push O).get? b = some o -> (((H.push O).update s.heap.objs.size (Obj.mapSeq (·.push Value.none))).update s.heap.objs.size (Obj.mapSeq (·.pop))).get? b = some o :=
  fun b o hb e => (Uz _ _ (Ne.symm hb)).trans ((Uz _ _ (Ne.symm hb)).trans e)
 have hdH : d < H.objs.size := by rw [hHs]; exact Vm hdl
 have hHne : H.objs.size ≠ s.heap.objs.size := by rw [hHs]; exact Nat.succ_ne_self _
 have hSf : s.heap.objs.size ∉ [H.objs.size, d] := fun z => by
  simp only [Ul, UH, or_false] at z
  rcases z with z | z
  ·exact hHne z.symm
  ·exact Nat.ne_of_gt hdl z
 have W := (Walks.dictKeys (knd := knd) (A := A.in1) hh H.objs.size d (Uk hdH) kvs ep).toS
 refine Ud ⟨plainId_quiet F.plain_extend_loop _, codeAny_extend_loopS (A := A) W hn _ hSf _ kvs.length 0 _ _ _ rfl (UF _) ⟨?_, ?_⟩ hS₃ (ItemsOf.nil _) fun s' acc' c' hmv hS' hacc => ?_⟩
 ·exact ⟨_, oth _ _ hHne (Uj _ (by rw [<- hO]; rfl)), by rw [<- hO], by rw [<- hO]; rfl⟩
 ·exact hm2.at' fun o e => oth _ _ (Uk hdl) e
 ·show wpAny _ A (load s.heap.objs.size >>= _) _ _ s'
  refine Ua (wpAny_load hS' ?_)
  refine Ud (hQ s' acc' (fun b ob e => hmv.heap b ob (fun hb => ?_) (oth _ _ (Uk (Ug e)) (Ub _ (hH ▸ Ub _ e)))) hmv.gens hmv.drawn hmv.os (Ug hS') hacc)
  have hlt := Ug e
  simp only [Ul, UH, or_false] at hb
  rcases hb with h | h
  ·exact Uk hlt h
  ·rw [h, hHs] at hlt; exact absurd hlt (Nat.not_lt.mpr (Nat.le_succ _))
theorem ZFf {d : Addr} {kvs : List (κ × Value)} {ep : Nat} {Q : Value -> Shared -> Prop} (hh : A.handled = none) (hd : (d == sysModules) = false) (hm : s.heap.DictAt knd d kvs ep) (h64 : kvs.length < 64)
  (hI : ∀ acc : Array Value, ItemsOf (fun i v => ∃ k x, kvs[i]? = some (k, x) /\ knd.is k v = true) acc kvs.length -> ∃ ns, IntsAre acc.toList ns /\ ∀ (s' : Shared) (l : Addr) (out : Array Value) (ns' : List Int) (e : Nat), s.heap.objs.size <= l -> (∀ b o, s.heap.get? b = some o -> s'.heap.get? b = some o) -> s'.gens = s.gens -> s'.drawn = s.drawn -> s'.os = s.os ->
   s'.heap.get? l = some (seqObj "list" out e) -> out.size = kvs.length -> IntsAre out.toList ns' -> ns'.Perm ns -> ns'.Pairwise (· <= ·) -> Q (.ref l) s') :
  wpAny (model prog w) A (call (.builtin "sorted") [.ref d]) Q E s := by
 refine Calls.call_function_entry kind_sorted plain_sorted entry_sorted (args_sorted1 _) ?_
 unfold Builtin.«sorted»
 refine Ua (m := checkCount "sorted" 1 1 _) (Ud ?_)
 refine Ua (ZFB (knd := knd) hh hd hm (by rw [sizeLine_eq]; omega) fun s1 acc hk e1 e2 e3 hlt hacc => ?_)
 obtain ⟨ns, hns, hQ⟩ := hI acc hacc
 refine Ua (wpAny_newList (hsz := by rw [Ui, hacc.1, sizeLine_eq]; omega) ?_)
 have hoL : (s1.heap.push (seqObj "list" acc.toList.toArray 0)).get? s1.heap.objs.size = some (seqObj "list" acc.toList.toArray 0) := Uj _ rfl
 show wpAny _ _ _ _ _ { s1 with heap := s1.heap.push (seqObj "list" acc.toList.toArray 0) }
 refine Ua (UR (wpAny_call_entry slot_list_sort ⟨_, hoL, rfl⟩ entry_list_sort (list_sort_tree hoL hns (by rw [Ui, hacc.1]; exact h64) fun out ns' a1 a2 a3 => ⟨_, rfl, ?_⟩) (args_list_sort _)))
 refine Ud ⟨_, rfl, ?_⟩
 obtain ⟨e, he⟩ := sortedHeap_at (out := out) hoL
 have hle : s.heap.objs.size <= s1.heap.objs.size := Nat.le_of_lt hlt
 refine hQ _ _ out ns' e hle (fun b o eb => ?_) e1 e2 e3 he ?_ a1 a2 a3
 ·have hb := Ug (hk _ _ eb)
  exact (sortedHeap_old (Uk hb) (by rw [UU]; exact Vm hb)).trans (Ub _ (hk _ _ eb))
 ·have l1 := IntsAre.length a1
  have l2 := IntsAre.length hns
  have l3 := a2.length_eq
  have l4 := hacc.1
  simp only [Ui] at l1 l2
  omega
end
theorem ZEF : ∀ (vs : List (Key × Value)) (ns : List Int) (l : List Value), vs.map (·.1) = ns.map Sum.inl -> l.length = vs.length -> (∀ (j : Nat) (v : Value), l[j]? = some v -> ∃ k x, vs[j]? = some (k, x) /\ ZB6 k v = true) -> IntsAre l ns
 | [], [], [], _, _, _ => .nil
 | [], [], _ :: _, _, h, _ => by simp at h
 | [], _ :: _, _, h, _, _ => by simp at h
 | _ :: _, [], _, h, _, _ => by simp at h
 | _ :: _, _ :: _, [], _, h, _ => by simp at h
 | (k, x) :: vs, n :: ns, v :: l, h1, h2, h3 => by
  simp only [UJ, List.cons.injEq] at h1
  obtain ⟨rfl, h1⟩ := h1
  obtain ⟨k', x', e, hk⟩ := h3 0 v rfl
  simp only [List.getElem?_cons_zero, Option.some.injEq, Prod.mk.injEq] at e
  obtain ⟨rfl, rfl⟩ := e
  rcases Jv hk with ⟨i, t, e1, e2⟩ | ⟨y, t, e1, e2⟩
  ·cases e1; cases e2
   refine .cons _ _ (ZEF vs ns l h1 (by simpa using h2) fun j v e => ?_)
   have := h3 (j + 1) v (by simpa using e)
   simpa using this
  ·cases e1
theorem KV.keysEq {κ : Type} : ∀ {kvs : List (κ × V)} {us : List (κ × Value)}, KV kvs us -> us.map (·.1) = kvs.map (·.1)
 | _, _, .nil => rfl
 | _, _, .cons h t => by rw [UJ, UJ, h.1, KV.keysEq t]
theorem IntsAre.vals : ∀ {vs : List Value} {ns : List Int}, IntsAre vs ns -> JP (ns.map V.int) vs
 | _, _, .nil => .nil
 | _, _, .cons _ t h => .cons ⟨t, rfl⟩ (IntsAre.vals h)
def ZFC : List V -> Hp -> VK -> Prop := fun xs H Q => ∃ (p : Addr) (kvs : List (Key × V)) (ns : List Int), xs = [.ref p] /\ Rd H p (.dK kvs) /\ kvs.map (·.1) = ns.map Sum.inl /\ kvs.length < 64 /\ ∀ (l : Addr) (ns' : List Int), H l = none -> ns'.Perm ns -> ns'.Pairwise (· <= ·) -> Q (.ref l) (upd H l (.lst (ns'.map V.int)))
theorem ZGy {X : Cx} (hc : X.calm = true) : J2 X (.builtin "sorted") ZFC := by
 intro pins s U H xs us Q I r h
 obtain ⟨p, kvs, ns, rfl, hd, hns, h64, q⟩ := h
 obtain ⟨u, rfl, ru⟩ := r.one
 cases ru
 obtain ⟨z, hd, vs, rel, dd⟩ := ZEj I.hok hd
 obtain ⟨ep, dd⟩ := dd.dictAt
 have hlen : vs.length = kvs.length := rel.length.symm
 refine ZFf (I.ok.hd hc) hd dd (by rw [hlen]; exact h64) fun acc hacc => ⟨ns, ?_, fun s' l out ns' e hl hk e1 e2 e3 he ho a1 a2 a3 => ?_⟩
 ·exact ZEF vs ns acc.toList (by rw [KV.keysEq rel]; exact hns) (by rw [Ui]; exact hacc.1) fun j v e => hacc.2 j v (by simpa using e)
 ·obtain ⟨h', g', d', tk, os'⟩ := s'
  simp only at e1 e2 e3
  subst e1 e2 e3
  refine ⟨.ref l, upd H l (.lst (ns'.map V.int)), I.laid (t' := tk) hk hl ?_, rfl, q l ns' (I.hok.fresh hl) a2 a3⟩
  refine ⟨?_, out.toList, e, IntsAre.vals a1, he⟩
  have l1 := a2.length_eq
  have l2 := congrArg List.length hns
  simp only [Uv] at l2 ⊢
  rw [sizeLine_eq]
  omega
section
variable {X : Cx} {o i value : Expr} {pos pos' : Pos} {td ty tv : TE}
theorem ZNg {b : Expr} (h : ZEi b = false) : ZJN b := by
 intro ov iv
 cases b <;> first | rfl | cases h
theorem ZK5 (hu : X.A.units + 1 < cLine) (ho : QE X o td) (hi : QE X i ty) (hs : ZEi i = false := by rfl) : QE X (.Subscript o i pos) (ZGw td ty) := ⟨ZK3 hu ho.h hi.h (ZNg hs)⟩
theorem ZK6 (hu : X.A.units + 1 < cLine) (hv : QE X value tv) (ho : QE X o td) (hi : QE X i ty) (hs : ZAp value = false := by rfl) : QS X (.Assign [.Subscript o i pos'] value pos) (ZGx td ty tv) := ⟨ZK4 hu ho.h hi.h hv.h (ZB8 hs)⟩
theorem ZJQ : QE X (.Dict [] [] pos) ZFA := ⟨ZJP⟩
end
section
variable {U : St} {H : Hp} {Q : VK} {D : J8}
def ZJ6 (x y : V) (H : Hp) (Q : VK) : Prop := ∃ a v, x = .ref a /\ ZCz H a y (some v) /\ Q v H
theorem ZJR {td ty : TE} (h : td U H fun x H1 => ty U H1 fun y H2 => ZJ6 x y H2 Q) : ZGw td ty U H Q := h
def ZJ7 (v x y : V) (H : Hp) (R : Hp -> Prop) : Prop := ∃ a H4, x = .ref a /\ ZDu H a y v H4 /\ R H4
theorem ZJS {td ty tv : TE} (h : tv U H fun v H1 => td U H1 fun x H2 => ty U H2 fun y H3 => ZJ7 v x y H3 (D.nx U)) : ZGx td ty tv D U H := h
def ZGz (H : Hp) (Q : VK) : Prop := ∀ p, H p = none -> Q (.ref p) (upd H p (.dK []))
theorem ZJT (h : ZGz H Q) : ZFA U H Q := h
theorem ZK7 (h : ∀ p H2, H p = none -> H2 p = some (.dK []) -> JM H H2 -> Q (.ref p) H2) : ZGz H Q := fun p hp => h p _ hp JO (JM.new hp)
end
def J1 (m : PL) (t : Int) : Option Int := (m.find? fun kv => decide (kv.1 = t)).map (·.2)
def ZAF (m : PL) (t h : Int) : PL := if (m.any fun kv => decide (kv.1 = t)) = true then m.map fun kv => if kv.1 = t then (kv.1, h) else kv else m ++ [(t, h)]
def dkE (p : Int × Int) : Key × V := (.inl p.1, .int p.2)
def ZAV (m : PL) : List (Key × V) := m.map dkE
theorem ZFD {a b : Int} : ((Sum.inl a : Key) = Sum.inl b) ↔ a = b := ⟨fun h => Sum.inl.inj h, fun h => h ▸ rfl⟩
theorem ZMa (m : PL) (t : Int) : ((ZAV m).any fun kv => decide (kv.1 = Sum.inl t)) = m.any fun kv => decide (kv.1 = t) := by
 unfold ZAV
 rw [List.any_map]
 congr 1
 funext p
 simp only [Function.comp, dkE, ZFD]
theorem ZHr (m : PL) (t h : Int) : ZAo (ZAV m) (.inl t) (.int h) = ZAV (ZAF m t h) := by
 unfold ZAo ZAF
 rw [ZMa]
 by_cases c : (m.any fun kv => decide (kv.1 = t)) = true
 ·rw [if_pos c, if_pos c]
  unfold ZAV
  rw [List.map_map, List.map_map]
  refine List.map_congr_left fun p _ => ?_
  simp only [Function.comp, dkE, ZFD]
  split <;> simp
 ·rw [if_neg c, if_neg c]
  simp [ZAV, dkE]
theorem ZDU (t : Int) : ∀ m : PL, J9 (ZAV m) (.inl t) = (J1 m t).map V.int
 | [] => rfl
 | p :: m => by
  have ih := ZDU t m
  by_cases e : p.1 = t
  ·have : J9 (ZAV (p :: m)) (.inl t) = some (.int p.2) := J5 (p := dkE p) (by simp [dkE, e])
   rw [this]
   simp [J1, UT, e]
  ·have : J9 (ZAV (p :: m)) (.inl t) = J9 (ZAV m) (.inl t) := J6 (p := dkE p) (by simp [dkE, e])
   rw [this, ih]
   simp [J1, UT, e]
theorem ZJU {H : Hp} {Q : VK} {p : Addr} {m : PL} {t v : Int} (h1 : H p = some (.dK (ZAV m))) (h2 : J1 m t = some v) (h : Q (.int v) H) : ZJ6 (.ref p) (.int t) H Q :=
 ⟨p, .int v, rfl, by
  have := ZCz.k (k := Sum.inl t) h1
  rw [ZDU, h2] at this
  exact this, h⟩
theorem ZJV {H : Hp} {R : Hp -> Prop} {p : Addr} {m : PL} {t v : Int} (h1 : H p = some (.dK (ZAV m))) (hz : m.length < sizeLine) (h : ∀ H2, H2 p = some (.dK (ZAV (ZAF m t v))) -> Kp p H H2 -> R H2) : ZJ7 (.int v) (.ref p) (.int t) H R :=
 ⟨p, _, rfl, ZDu.k (k := Sum.inl t) h1 (by simpa [ZAV] using hz), by
  rw [ZHr]
  exact h _ JO Kp.upd⟩
theorem ZJW {H : Hp} {Q : VK} (h : ∀ p H2, H p = none -> H2 p = some (.dK (ZAV [])) -> JM H H2 -> Q (.ref p) H2) : ZGz H Q := ZK7 h
theorem ZJX (m : PL) (t h j : Int) : J1 (ZAF m t h) j = if j = t then some h else J1 m j := by
 have e1 := ZDU j (ZAF m t h)
 rw [<- ZHr, ZJM] at e1
 have e2 := ZDU j m
 rw [e2] at e1
 simp only [ZFD] at e1
 by_cases e : j = t
 ·rw [if_pos e] at e1 ⊢
  cases hg : J1 (ZAF m t h) j with
  | none => rw [hg] at e1; cases e1
  | some x => rw [hg] at e1; simp at e1; rw [e1]
 ·rw [if_neg e] at e1 ⊢
  cases hg : J1 (ZAF m t h) j <;> cases hm : J1 m j <;> rw [hg, hm] at e1 <;> simp_all
theorem ZJY (m : PL) (t h : Int) : (ZAF m t h).length <= m.length + 1 := by
 unfold ZAF
 split <;> simp
theorem ZBo {t : Int} : ∀ {m : PL}, J1 m t = none ↔ t ∉ m.map (·.1)
 | [] => by simp [J1]
 | p :: m => by
  have ih := ZBo (t := t) (m := m)
  by_cases e : p.1 = t
  ·simp [J1, UT, e]
  ·have e' : ¬ t = p.1 := fun z => e z.symm
   have : J1 (p :: m) t = J1 m t := by simp [J1, UT, e]
   rw [this, ih]
   simp [e']
theorem ZHs (m : PL) (t h : Int) : (ZAF m t h).map (·.1) = if t ∈ m.map (·.1) then m.map (·.1) else m.map (·.1) ++ [t] := by
 have ha : (m.any fun kv => decide (kv.1 = t)) = true ↔ t ∈ m.map (·.1) := by simp
 unfold ZAF
 by_cases c : (m.any fun kv => decide (kv.1 = t)) = true
 ·rw [if_pos c, if_pos (ha.mp c), List.map_map]
  refine List.map_congr_left fun p _ => ?_
  simp only [Function.comp]
  split <;> rfl
 ·rw [if_neg c, if_neg (fun z => c (ha.mpr z))]
  simp
theorem ZCD {m : PL} {t h : Int} (n : (m.map (·.1)).Nodup) : ((ZAF m t h).map (·.1)).Nodup := by
 rw [ZHs]
 split
 ·exact n
 ·rename_i c
  rw [List.nodup_append]
  exact ⟨n, by simp, fun a ha b hb e => c (by simp at hb; subst hb; subst e; exact ha)⟩
theorem ZBd {t h : Int} : ∀ {m : PL}, (m.map (·.1)).Nodup -> (J1 m t = some h ↔ (t, h) ∈ m)
 | [], _ => by simp [J1]
 | p :: m, n => by
  simp only [UJ, Vv] at n
  have ih := ZBd (t := t) (h := h) n.2
  by_cases e : p.1 = t
  ·have : J1 (p :: m) t = some p.2 := by simp [J1, UT, e]
   rw [this]
   constructor
   ·intro z; cases z; rw [<- e]; exact Us
   ·intro z
    rcases Ul.mp z with z | z
    ·rw [<- z]
    ·exact absurd (Ux.mpr ⟨_, z, rfl⟩) (by rw [<- e] at *; exact n.1)
  ·have : J1 (p :: m) t = J1 m t := by simp [J1, UT, e]
   rw [this, ih]
   constructor
   ·exact fun z => Um _ z
   ·intro z
    rcases Ul.mp z with z | z
    ·exact absurd (by rw [<- z]) e
    ·exact z
def ZAL (prs : PL) : PL := prs.foldl (fun m p => ZAF m p.1 p.2) []
theorem ZCp : ∀ (prs acc : PL), (acc.map (·.1)).Nodup -> ((prs.foldl (fun m p => ZAF m p.1 p.2) acc).map (·.1)).Nodup
 | [], _, h => h
 | p :: prs, acc, h => ZCp prs _ (ZCD h)
theorem ZDV (prs : PL) : ((ZAL prs).map (·.1)).Nodup := ZCp prs [] List.nodup_nil
theorem ZEG : ∀ (prs acc : PL), (prs.foldl (fun m p => ZAF m p.1 p.2) acc).length <= acc.length + prs.length
 | [], acc => Ue _
 | p :: prs, acc => by
  have h1 := ZEG prs (ZAF acc p.1 p.2)
  have h2 := ZJY acc p.1 p.2
  show (prs.foldl (fun m p => ZAF m p.1 p.2) (ZAF acc p.1 p.2)).length <= acc.length + (prs.length + 1)
  omega
theorem ZFE (prs : PL) : (ZAL prs).length <= prs.length := by
 have := ZEG prs []
 simpa [ZAL] using this
theorem JJ.prs {H : Hp} : ∀ {vs : List V} {l : PL}, JJ H vs l -> ZNf H vs (l.map dkE)
 | _, _, .nil => .nil
 | _, _, .cons ⟨a, e, z⟩ t => .cons ⟨a, e, z⟩ (JJ.prs t)
theorem JJ.length {H : Hp} {vs : List V} {l : PL} (h : JJ H vs l) : vs.length = l.length := Paired.length h
theorem JJ.snoc {H : Hp} : ∀ {vs : List V} {l : PL}, JJ H vs l -> ∀ {a : Addr} {p : Int × Int}, H a = some (.tup [.int p.1, .int p.2]) -> JJ H (vs ++ [.ref a]) (l ++ [p])
 | _, _, .nil, a, p, z => .cons ⟨a, rfl, z⟩ .nil
 | _, _, .cons h t, a, p, z => .cons h (JJ.snoc t z)
theorem JJ.at {H : Hp} : ∀ {vs : List V} {l : PL}, JJ H vs l -> ∀ {i : Nat} {v : V}, vs[i]? = some v -> ∃ a p, v = .ref a /\ l[i]? = some p /\ H a = some (.tup [.int p.1, .int p.2])
 | _, _, .nil, i, v, e => by simp at e
 | _, _, @Paired.cons _ _ _ _ p _ _ ⟨a, e1, z⟩ t, 0, v, e => by
  simp at e; subst e
  exact ⟨a, p, e1, rfl, z⟩
 | _, _, .cons _ t, i + 1, v, e => by
  obtain ⟨a, p, h1, h2, h3⟩ := JJ.at t (by simpa using e)
  exact ⟨a, p, h1, by simpa using h2, h3⟩
theorem JJ.kp {p : Addr} {H H' : Hp} (k : Kp p H H') {n : Nat} {xs : List V} (hp : H p = some (.lst xs)) : ∀ {vs : List V} {l : PL}, JJ H vs l -> JJ H' vs l
 | _, _, .nil => .nil
 | _, _, .cons ⟨a, e, z⟩ t => .cons ⟨a, e, k _ _ z (fun c => by subst c; rw [hp] at z; cases z)⟩ (JJ.kp k (n := n) hp t)
theorem ZG0 {H : Hp} {Q : VK} {p : Addr} {m : PL} (h1 : H p = some (.dK (ZAV m))) (hz : m.length < 64) (h : ∀ l H2 (ns : List Int), H l = none -> H2 l = some (.lst (ns.map V.int)) -> ns.Perm (m.map (·.1)) -> ns.Pairwise (· <= ·) -> JM H H2 -> Q (.ref l) H2) : ZFC [.ref p] H Q :=
 ⟨p, _, m.map (·.1), rfl, .inl h1, by simp [ZAV, dkE], by simpa [ZAV] using hz, fun l ns hl hp hs => h l _ ns hl JO hp hs (JM.new hl)⟩
def Asc (cv : PL) : Prop := cv.Pairwise fun a b => a.1 < b.1
def ZB2 (m cv : PL) : Prop := Asc cv /\ ∀ t h, (t, h) ∈ cv ↔ J1 m t = some h
theorem ZF6 : ∀ {a b : PL}, Asc a -> Asc b -> (∀ p, p ∈ a ↔ p ∈ b) -> a = b
 | [], [], _, _, _ => rfl
 | [], q :: b, _, _, h => by have := (h q).mpr Us; simp at this
 | p :: a, [], _, _, h => by have := (h p).mp Us; simp at this
 | p :: a, q :: b, ha, hb, h => by
  unfold Asc at ha hb
  rw [List.pairwise_cons] at ha hb
  have e : p = q := by
   rcases Ul.mp ((h p).mp Us) with e | e
   ·exact e
   ·rcases Ul.mp ((h q).mpr Us) with e2 | e2
    ·exact e2.symm
    ·have h1 := hb.1 _ e
     have h2 := ha.1 _ e2
     omega
  subst e
  rw [ZF6 ha.2 hb.2 fun r => ?_]
  constructor
  ·intro hr
   rcases Ul.mp ((h r).mp (Um _ hr)) with e | e
   ·subst e; have := ha.1 _ hr; omega
   ·exact e
  ·intro hr
   rcases Ul.mp ((h r).mpr (Um _ hr)) with e | e
   ·subst e; have := hb.1 _ hr; omega
   ·exact e
def ZAO (m : PL) (ns : List Int) : PL := ns.map fun t => (t, (J1 m t).getD 0)
theorem ZG1 {m : PL} {ns : List Int} (nd : (m.map (·.1)).Nodup) (hp : ns.Perm (m.map (·.1))) (hs : ns.Pairwise (· <= ·)) : ZB2 m (ZAO m ns) := by
 have hn : ns.Nodup := hp.nodup_iff.mpr nd
 refine ⟨?_, fun t h => ?_⟩
 ·unfold Asc ZAO
  rw [Vu]
  exact (hs.and hn).imp fun ⟨a, b⟩ => by
   show _ < _
   omega
 ·unfold ZAO
  rw [Ux]
  constructor
  ·rintro ⟨u, hu, e⟩
   have hu' := hp.mem_iff.mp hu
   cases hg : J1 m u with
   | none => exact absurd hu' (ZBo.mp hg)
   | some x =>
    rw [hg] at e
    cases e
    exact hg
  ·intro hg
   refine ⟨t, hp.mem_iff.mpr ?_, by rw [hg]; rfl⟩
   by_cases c : t ∈ m.map (·.1)
   ·exact c
   ·rw [ZBo.mpr c] at hg; cases hg
theorem ZMb : bootBuiltins "zip" = some (.type "zip") := by decide +kernel
theorem JM.kpN {H H1 H2 : Hp} {l : Addr} (s : JM H H1) (hl : H l = none) (k : Kp l H1 H2) : JM H H2 := fun q o e => k q o (s q o e) (Jn e hl)
theorem JJ.kpL {p : Addr} {H H' : Hp} (k : Kp p H H') {xs : List V} (hp : H p = some (.lst xs)) {vs : List V} {l : PL} (h : JJ H vs l) : JJ H' vs l := JJ.kp k (n := 0) hp h
theorem JJ.drop {H : Hp} : ∀ {vs : List V} {l : PL} (n : Nat), JJ H vs l -> JJ H (vs.drop n) (l.drop n)
 | _, _, 0, h => h
 | _, _, _ + 1, .nil => .nil
 | _, _, n + 1, .cons _ t => JJ.drop n t
theorem JJ.take {H : Hp} : ∀ {vs : List V} {l : PL} (n : Nat), JJ H vs l -> JJ H (vs.take n) (l.take n)
 | _, _, 0, _ => .nil
 | _, _, _ + 1, .nil => .nil
 | _, _, n + 1, .cons h t => .cons h (JJ.take n t)
section
variable {K : W.Frag} {H H' : Hp} {Q : VK} {a b : Addr} {xs ys : List V} {cv l m : PL}
def PrT (H : Hp) (a : Addr) (cv : PL) : Prop := ∃ vs, H a = some (.tup vs) /\ JJ H vs cv
def PrL (H : Hp) (a : Addr) (cv : PL) : Prop := ∃ vs, H a = some (.lst vs) /\ JJ H vs cv
theorem PrT.same (h : PrT H a cv) (s : JM H H') : PrT H' a cv := by
 obtain ⟨vs, h1, h2⟩ := h
 exact ⟨vs, s _ _ h1, h2.same s⟩
theorem PrL.same (h : PrL H a cv) (s : JM H H') : PrL H' a cv := by
 obtain ⟨vs, h1, h2⟩ := h
 exact ⟨vs, s _ _ h1, h2.same s⟩
def ZFF (l : PL) (lo hi : Option Int) : PL := (l.drop (HT.sIx l.length 0 lo)).take (HT.sIx l.length l.length hi - HT.sIx l.length 0 lo)
theorem JJ.cut {vs : List V} {lo hi : Option Int} (h : JJ H vs l) : JJ H (ZCx vs lo hi) (ZFF l lo hi) := by
 unfold ZCx ZFF
 rw [h.length]
 exact (h.drop _).take _
theorem PrL.sl {lo hi : Option Int} (h1 : PrL H a l) (h : ∀ p H2, H p = none -> PrL H2 p (ZFF l lo hi) -> JM H H2 -> Q (.ref p) H2) : ZGp K (.ref a) lo hi H Q := by
 obtain ⟨vs, g1, p1⟩ := h1
 exact ZMO (SqL.of g1) fun p H2 n2 f2 S2 => h p H2 n2 ⟨_, f2, (p1.cut).same S2⟩ S2
end
section
variable {X : Cx}
theorem ZHt {N : List Str} {sc : Scope} {own caps : List Str} {ks : List Nat} {elt tg iter : Expr} {ifs : List Expr} {scope : Scope} {pos cpos : Pos} {wi : TI} {g : TG} {tt : TT} {te : TE}
  (hN : X.N = N) (hsc : X.env.scope = sc) (hc : X.calm = true) (S : ZCQ N sc own caps ks scope) (hi : PI X tg iter wi)
  (hg : ∀ cl C s₂ H₂ fp, PG (JU X (own ++ caps) scope cl C s₂ H₂ fp) tg g)
  (ht : ∀ cl C s₂ H₂ fp, ZDr (JU X (own ++ caps) scope cl C s₂ H₂ fp) ifs tt)
  (he : ∀ cl C s₂ H₂ fp, PE (JU X (own ++ caps) scope cl C s₂ H₂ fp) elt te)
  (hs : ∀ x, foldedSetIterable iter X.env x = pure x) {use : Option (Value -> Sem Unit)} {QQ : Value -> Shared -> Prop} {pins : List (Addr × Obj)} {s : Shared} {U : St} {H : Hp} {Q : VK} (I : Inv X pins U H s)
  (fin : ∀ (C l : Addr) (H' : Hp) (s' : Shared), (∃ m, s'.heap.Ns C m) -> Inv X pins U H' s' -> ZBu X pins H' C -> Q (.ref l) H' -> compPost (model X.prog X.w) X.A X.xe use QQ (.ref l) C (.ok .next) s')
  (h : ZCg own.length ks wi g tt te U H Q) :
  wpAny (model X.prog X.w) X.A (comprehension (.ListComp elt [⟨tg, iter, ifs, 0⟩] scope pos) scope X.env cpos (newList []) false (eval iter X.env) use) QQ X.xe s := by
 subst hN hsc
 obtain ⟨cl, hclos, hcl, hclf⟩ := ZDP (scope := scope) (env := X.env) fun y hy hf => I.ok.has y.1 (.inl (S.free y hy hf))
 refine wpAny_comprehension_free (use := use) rfl hs hclos S.kind S.names (UA (hi pins s U H _ I h) (fun xv s₁ h₁ => UA h₁ (fun it s₂ h₂ => ?_) fun _ _ e => e) fun _ _ e => e)
 obtain ⟨it, fp, tn, J, H2, e, I2, T, st2, f2, q⟩ := h₂
 subst e
 refine wpAny_newObj_type (wpAny_newFunctionEnv S.nocell (by intro y hy; simp at hy) (fun h₁ hns₁ hsb₁ => ?_) S.kind)
 dsimp only at hns₁ hsb₁ ⊢
 generalize hH2 : s₂.heap.push { cls := .type "list", dict := none, data := .seq ([] : List Value).toArray } = HP at hns₁ hsb₁ ⊢
 have hC : HP.objs.size = s₂.heap.objs.size + 1 := by rw [<- hH2, UU]
 have hDC : s₂.heap.objs.size ≠ HP.objs.size := by rw [hC]; exact Uk (Vc _)
 have hCle : s₂.heap.objs.size <= HP.objs.size := by rw [hC]; exact Nat.le_succ _
 have old : ∀ b o, s₂.heap.get? b = some o -> h₁.get? b = some o := fun b o e => by
  have hb : b < s₂.heap.objs.size := Ug e
  exact hsb₁.extBut b o (by rw [hC]; exact Uk (Vm hb)) (Ub _ (hH2 ▸ Ub _ e))
 have hacc : h₁.get? s₂.heap.objs.size = some { cls := .type "list", dict := none, data := .seq ([] : List Value).toArray } := hsb₁.extBut _ _ hDC (Ub _ (hH2 ▸ Uj _ rfl))
 have fpl : ∀ b ∈ fp, b < s₂.heap.objs.size := fun b hb => by
  obtain ⟨o, e, _⟩ := T.obj _ _ st2 b hb
  exact Ug e
 have hfD : H2 s₂.heap.objs.size = none := I2.hok.fresh (Ue _)
 obtain ⟨W, ⟨m0, w0⟩, turn⟩ := q s₂.heap.objs.size hfD
 have hkr : ∀ x, (compEnvC scope cl HP.objs.size X.env).kindOf x = (scope.names.lookup x).map fun k => if (k == NameKind.free && X.env.scope.kind == .function && X.env.kindOf x == some .cell) then NameKind.cell else k := fun x => ZA6 (env := X.env) scope.names x
 have cellOfN : ∀ x, scope.names.lookup x = some .free -> X.env.kindOf x = some .cell := fun x e => S.free (x, .free) (PySem.mem_of_lookup e) rfl
 -- the context within
 have ok : (JU X (own ++ caps) scope cl HP.objs.size s₂ H2 fp).Ok := by
  refine ⟨I2.ok.mod, S.kind, I2.ok.glob, I2.ok.blt, hCle, fun x y c e1 e2 => I2.ok.inj x y c (hcl x c e1) (hcl y c e2), fun x hx => ?_, fun x c z => (by cases z), I2.ok.hd, I2.ok.frames, .inl rfl, fun b hb => ⟨?_, fun x c e => (f2 b hb).2.2.2.2.1 x c (hcl x c e)⟩,
   I2.bs, UP I2.ok.bsz I2.sz, fun b o e hb => ?_, fun b hb z => ?_, I2.stack, I2.stkFree⟩
  ·have hx' : (scope.names.lookup x).map (fun k => if (k == NameKind.free && X.env.scope.kind == .function && X.env.kindOf x == some .cell) then NameKind.cell else k) = some .cell \/
     (scope.names.lookup x).map (fun k => if (k == NameKind.free && X.env.scope.kind == .function && X.env.kindOf x == some .cell) then NameKind.cell else k) = some .free := by rw [<- hkr x]; exact hx
   cases e : scope.names.lookup x with
   | none => rw [e] at hx'; rcases hx' with z | z <;> cases z
   | some k =>
    have hm := PySem.mem_of_lookup e
    have hk : k = .free := by
     by_cases hkf : k = .free
     ·exact hkf
     ·have hb : (k == NameKind.free) = false := by simpa using hkf
      rw [e] at hx'
      simp only [Vi, hb, Bool.false_and, Uh, if_false, Option.some.injEq] at hx'
      rcases hx' with z | z
      ·exact absurd z (S.nocell _ hm)
      ·exact z
    exact hclf _ hm hk
  ·exact Uk (Uf (fpl b hb) hCle)
  ·rcases (f2 b hb).2.2.2.1 with z | z
   ·exact I2.ok.noex b o e z
   ·exact absurd (Uf (Ug e) (UP I2.ok.bsz z)) (Nat.lt_irrefl _)
  ·rcases Ul.mp (I2.stkSub b z) with r | r
   ·exact (f2 b hb).2.1 r
   ·exact (f2 b hb).2.2.1 r
 have hlen : (ZAl own.length ks U).length = (own ++ caps).length := by
  have := congrArg List.length S.cap
  simp only [Uv] at this
  simp [ZAl, this]
 have I4 : Inv (JU X (own ++ caps) scope cl HP.objs.size s₂ H2 fp) [] (ZAl own.length ks U) (upd H2 s₂.heap.objs.size (.lst [])) { s₂ with heap := h₁, toks := s₂.toks + ([] : List (Str × Value)).length } := by
  obtain ⟨mX, hnX, hlX⟩ := I2.loc
  refine ⟨ok, rfl, I2.bare, Un.laid old (Ue _) hfD, ⟨_, hns₁, fun i x v e1 e2 e3 => ?_⟩, fun x c e => ?_, ?_, fun x c e => ?_, fun p hp => (by cases hp), I2.hok.laid old (Ue _) ⟨UF _, [], 0, .nil, hacc⟩, hlen⟩
  ·have e1 : (own ++ caps)[i]? = some x := e1
   by_cases hio : i < own.length
   ·unfold ZAl at e2
    rw [Vd (by simpa using hio), List.getElem?_replicate] at e2
    rw [if_pos hio] at e2
    cases e2
   ·unfold ZAl at e2
    rw [UQ (by simpa using hio), List.length_replicate, UB] at e2
    rw [UQ (by simpa using hio)] at e1
    cases ek : ks[i - own.length]? with
    | none => rw [ek] at e2; cases e2
    | some k =>
     rw [ek] at e2
     have e2' := ZEB (Option.some.inj e2)
     have hcap := congrArg (fun l => l[i - own.length]?) S.cap
     simp only [UB, ek, e1, Vi] at hcap
     have hNk : X.N[k]? = some x := Option.some.inj hcap
     have hfx := S.fr x (Uu e1)
     have hkX := cellOfN x hfx
     obtain ⟨u, ru, lk⟩ := hlX k x v hNk e2' (.inr (.inl hkX))
     refine ⟨u, ru, .inr ⟨.inl ?_, ?_⟩⟩
     ·show (compEnvC scope cl HP.objs.size X.env).kindOf x = some .cell
      rw [hkr x, hfx]
      simp [I2.ok.kind, hkX]
     ·rcases lk with ⟨z, _⟩ | ⟨_, c, ec, o, ho, hd⟩
      ·rw [hkX] at z; cases z
      ·obtain ⟨c', ec'⟩ := hclf (x, .free) (PySem.mem_of_lookup hfx) rfl
       have := hcl _ _ ec'
       rw [ec] at this
       cases this
       exact ⟨c, ec', o, old _ _ ho, hd⟩
  ·obtain ⟨v, o, ho, hd⟩ := I2.cell x c (hcl x c e)
   exact ⟨v, o, old _ _ ho, hd⟩
  ·show upd H2 s₂.heap.objs.size (.lst []) HP.objs.size = none
   rw [JT (Ne.symm hDC)]
   exact I2.hok.fresh hCle
  ·obtain ⟨v, o, ho, hd⟩ := I2.cell x c (hcl x c e)
   show upd H2 s₂.heap.objs.size (.lst []) c = none
   rw [JT (Uk (Ug ho))]
   exact I2.freeC x c (hcl x c e)
 -- the way out
 have out : ∀ {U' : St} {H' : Hp} {s' : Shared}, Inv (JU X (own ++ caps) scope cl HP.objs.size s₂ H2 fp) [] U' H' s' -> Q (.ref s₂.heap.objs.size) H' ->
   compPost (model X.prog X.w) X.A X.xe use QQ (.ref s₂.heap.objs.size) HP.objs.size (.ok .next) s' := fun {U' H' s'} I' q' => by
  obtain ⟨m, hn, _⟩ := I'.loc
  refine fin HP.objs.size s₂.heap.objs.size H' s' ⟨m, hn⟩ ?_ (I2.fpOk hCle I'.free) q'
  have hs' : Heap.SameBut HP.objs.size s'.heap s'.heap := Heap.SameBut.refl ..
  have hfree : H' HP.objs.size = none := I'.free
  have neC : ∀ {b : Addr} {o : Obj}, s₂.heap.get? b = some o -> b ≠ HP.objs.size := fun e => Uk (Uf (Ug e) hCle)
  refine I2.call' (ch := fp) (s' := s') I'.os ⟨fun b o e n hb hx => ?_, fun b o e n hb hx => ?_, I'.base.free, fun b o e hx => ?_, I'.base.tups, I'.base.frzs, I'.base.tbls⟩ (fun b ob e => ?_) I'.bare fun b hb => ⟨(f2 b hb).2.2.2.1, (f2 b hb).2.1, (f2 b hb).2.2.2.2.1, (f2 b hb).2.2.2.2.2⟩
  ·exact (I'.base.keep b o e n hb hx)
  ·obtain ⟨sl, e1⟩ := I'.base.slot b o e n hb hx
   exact ⟨sl, e1⟩
  ·obtain ⟨o', e1⟩ := I'.base.there b o e hx
   exact ⟨o', e1⟩
  ·exact I'.hok b ob e
 have stat : ∀ {H' : Hp}, (∀ b ∈ fp, H' b = none) -> ∀ b ∈ fp, ZBu (JU X (own ++ caps) scope cl HP.objs.size s₂ H2 fp) [] H' b := fun hn b hb =>
  ⟨hn b hb, Uk (Uf (fpl b hb) hCle), ok.exfs b hb, .inl hb, (ok.exf b hb).2, fun p hp => by cases hp⟩
 have fr4 : ∀ b ∈ fp, upd H2 s₂.heap.objs.size (.lst []) b = none := fun b hb => by
  rw [JT (Uk (fpl b hb))]
  exact (f2 b hb).1
 have tn4 : tn 0 h₁ := T.keep _ _ _ st2 fun b _ o e => old b o e
 have loop : ∀ s4 : Shared, s4 = { s₂ with heap := h₁, toks := s₂.toks + ([] : List (Str × Value)).length } ->
   codeAny (model X.prog X.w) X.A (.compLoop (.ListComp elt [⟨tg, iter, ifs, 0⟩] scope pos) 0 (.ref it) (.ref s₂.heap.objs.size) (compEnvC scope cl HP.objs.size X.env))
    (compPost (model X.prog X.w) X.A X.xe use QQ (.ref s₂.heap.objs.size) HP.objs.size) s4 := by
  rintro s4 rfl
  refine ZAx (fun n s' => ∃ i U' H', Inv (JU X (own ++ caps) scope cl HP.objs.size s₂ H2 fp) [] U' H' s' /\ tn i s'.heap /\ (∀ b ∈ fp, H' b = none) /\ W i n U' H') ?_ m0 ⟨0, _, _, I4, tn4, fr4, w0⟩
  rintro n s3 ⟨i, U3, H3, I3, st3, fr3, w3⟩
  rcases turn i n U3 H3 w3 with ⟨stop, qn⟩ | ⟨go, N, hN, step⟩
  ·refine UA (T.done (JU X (own ++ caps) scope cl HP.objs.size s₂ H2 fp) rfl rfl rfl hc i [] s3 U3 H3 (fun _ _ => False) I3 (stat fr3) st3 stop) (fun r s4 ⟨hr, I4'⟩ => ?_) fun _ _ z => False.elim z
   subst hr
   exact out I4' qn
  ·refine UA (T.item (JU X (own ++ caps) scope cl HP.objs.size s₂ H2 fp) rfl rfl rfl hc i [] s3 U3 H3 (fun _ _ => False) I3 (stat fr3) st3 go) (fun r s4 ⟨u, hr, h4⟩ => ?_) fun _ _ z => False.elim z
   subst hr
   refine UA h4 (fun _ s5 ⟨x, H5, I5, r5, y5, st5, fr5⟩ => ?_) fun _ _ z => False.elim z
   have I5' := I5.pinned (stat fr5) (T.obj _ _ st5)
   have back : ∀ {s7 : Shared} {U7 : St} {H7 : Hp}, Inv (JU X (own ++ caps) scope cl HP.objs.size s₂ H2 fp) ([] ++ ZBx fp s5.heap) U7 H7 s7 -> N U7 H7 ->
     ∃ m, m < n /\ ∃ i U' H', Inv (JU X (own ++ caps) scope cl HP.objs.size s₂ H2 fp) [] U' H' s7 /\ tn i s7.heap /\ (∀ b ∈ fp, H' b = none) /\ W i m U' H' := fun {s7 U7 H7} I7 n7 => by
    obtain ⟨m', hm, w7⟩ := hN U7 H7 n7
    refine ⟨m', hm, i + 1, U7, H7, I7.unpinned, T.keep _ _ _ st5 fun b hb o e => (I7.pin (b, o) (Uo _ (Uo _ (ZAf hb e)))).1, fun b hb => ?_, w7⟩
    obtain ⟨o, e, d⟩ := T.obj _ _ st5 b hb
    exact (I7.pin (b, o) (Uo _ (Uo _ (ZAf hb e)))).2.1
   refine UA (hg _ _ _ _ _ _ s5 U3 H5 x u _ I5' r5 (step x H5 y5)) (fun _ s6 ⟨U6, H6, I6, q6⟩ => ?_) fun _ _ z => False.elim z
   refine UA (ht _ _ _ _ _ _ s6 U6 H6 _ I6 q6) (fun b s7 ⟨H7, I7, q7⟩ => ?_) fun _ _ z => False.elim z
   cases b with
   | false =>
    rw [if_neg Ut]
    rw [if_neg Ut] at q7
    exact back I7 q7
   | true =>
    rw [if_pos rfl]
    rw [if_pos rfl] at q7
    refine UA (he _ _ _ _ _ _ s7 U6 H7 _ I7 q7) (fun y s8 ⟨v, H8, I8, r8, xs, hx8, hz8, n8⟩ => ?_) fun _ _ z => False.elim z
    refine UA (ZAI (X := JU X (own ++ caps) scope cl HP.objs.size s₂ H2 fp) _ s8 U6 H8 (.ref s₂.heap.objs.size) [v] (.ref s₂.heap.objs.size) [y] (fun _ H' => N U6 H') I8 rfl (.cons r8 .nil) ⟨_, xs, v, rfl, rfl, hx8, hz8, n8⟩) (fun _ s9 ⟨_, H9, I9, _, n9⟩ => ?_) fun _ _ z => False.elim z
    exact back I9 n9
 exact codeAny_compStart_list (loop _ rfl) (T.self _ 0 _ _ _ tn4 (loop _ rfl))
theorem ZK8 {N : List Str} {sc : Scope} {own caps : List Str} {ks : List Nat} {elt tg iter : Expr} {ifs : List Expr} {scope : Scope} {pos spos pos' : Pos} {wi : TI} {g : TG} {tt : TT} {te : TE} {i : Nat} {x : Str}
  (hN : X.N = N) (hsc : X.env.scope = sc) (hc : X.calm = true) (S : ZCQ N sc own caps ks scope) (hi : PI X tg iter wi)
  (hg : ∀ cl C s₂ H₂ fp, PG (JU X (own ++ caps) scope cl C s₂ H₂ fp) tg g)
  (ht : ∀ cl C s₂ H₂ fp, ZDr (JU X (own ++ caps) scope cl C s₂ H₂ fp) ifs tt)
  (he : ∀ cl C s₂ H₂ fp, PE (JU X (own ++ caps) scope cl C s₂ H₂ fp) elt te)
  (hNd : X.N.Nodup) (hix : X.N[i]? = some x) (hx : Loc X.env.scope x)
  (hsw : swapsWith (.ListComp elt [⟨tg, iter, ifs, 0⟩] scope pos) (some (.Name x pos')) spos.line X.env = pure true)
  (hs : ∀ x, foldedSetIterable iter X.env x = pure x := by intro _; rfl)
  (hf : X.fn x = true \/ X.env.scope.names.lookup x = some .local := by first | exact .inl rfl | exact .inr rfl | assumption) :
  PS X (.Assign [.Name x pos'] (.ListComp elt [⟨tg, iter, ifs, 0⟩] scope pos) spos) (ZBt (ZCg own.length ks wi g tt te) (ZAu i)) := by
 intro pins s U H D I h
 rw [exec_Assign_Name_used _ _ _ _ hsw]
 refine Ua (wpAny_standAt (Ua ?_))
 show wpAny _ X.A (do let _ <- comprehension (.ListComp elt [⟨tg, iter, ifs, 0⟩] scope pos) scope X.env _ (newList []) false (eval iter X.env) (some (assign (.Name x pos') X.env))) _ _ s
 refine Ua (UA (ZHt (QQ := fun _ s' => SP X pins D .next s') hN hsc hc S hi hg ht he hs I ?_ h) (fun _ s' hq => Ud (Ud hq)) fun _ _ e => e)
 rintro C l H' s' ⟨m, hn⟩ I' hF q
 show wpAny (model X.prog X.w) X.A (assign (.Name x pos') X.env (.ref l)) (fun _ s'' => ∃ m, s''.heap.Ns C m /\ ∀ h', Heap.SameBut C s''.heap h' -> SP X pins D .next { s'' with heap := h' }) X.xe s'
 obtain ⟨f0, f1, f2, f3, f4, f5⟩ := hF
 refine wpAny_assign_Name (ZD4 (v := .ref l) I' hNd hix hx rfl (fun s'' I'' ⟨b, hsb, hb⟩ => ?_) hf)
 have hCb : C ≠ b := by
  rcases hb with rfl | hb
  ·exact f1
  ·exact fun z => f4 x b hb z.symm
 refine ⟨m, hn.sameBut hsb hCb, fun h' hs' => ⟨_, H', I''.turned (t' := s''.toks) (fun c o hc e => hs'.extBut c o hc e) f0 f1 f3 f4 f5, q⟩⟩
theorem ZBQ {N : List Str} {sc : Scope} {own caps : List Str} {ks : List Nat} {elt tg iter : Expr} {ifs : List Expr} {scope : Scope} {pos spos pos' : Pos} {wi : TI} {g : TG} {tt : TT} {te : TE} {i : Nat} {x : Str}
  (hN : X.N = N) (hsc : X.env.scope = sc) (hc : X.calm = true) (S : ZCQ N sc own caps ks scope) (hNd : X.N.Nodup) (hix : X.N[i]? = some x) (hx : Loc X.env.scope x)
  (hi : QI X tg iter wi)
  (hg : ∀ cl C s₂ H₂ fp, QG (JU X (own ++ caps) scope cl C s₂ H₂ fp) tg g)
  (ht : ∀ cl C s₂ H₂ fp, QF (JU X (own ++ caps) scope cl C s₂ H₂ fp) ifs tt)
  (he : ∀ cl C s₂ H₂ fp, QE (JU X (own ++ caps) scope cl C s₂ H₂ fp) elt te)
  (hsw : swapsWith (.ListComp elt [⟨tg, iter, ifs, 0⟩] scope pos) (some (.Name x pos')) spos.line X.env = pure true := by rfl)
  (hs : ∀ x, foldedSetIterable iter X.env x = pure x := by intro _; rfl)
  (hf : X.fn x = true \/ X.env.scope.names.lookup x = some .local := by first | exact .inl rfl | exact .inr rfl | assumption) :
  QS X (.Assign [.Name x pos'] (.ListComp elt [⟨tg, iter, ifs, 0⟩] scope pos) spos) (ZBt (ZCg own.length ks wi g tt te) (ZAu i)) :=
 ⟨ZK8 hN hsc hc S hi.h (fun cl C s₂ H₂ fp => (hg cl C s₂ H₂ fp).h) (fun cl C s₂ H₂ fp => (ht cl C s₂ H₂ fp).h) (fun cl C s₂ H₂ fp => (he cl C s₂ H₂ fp).h) hNd hix hx hsw hs hf⟩
theorem ZK9 {i : Nat} {x : Str} {e : Expr} {te : TE} {pos pos' : Pos} (hN : X.N.Nodup) (hi : X.N[i]? = some x) (hx : Loc X.env.scope x) (he : QE X e te) (hs : swapsWith e (some (.Name x pos')) pos.line X.env = pure false := by rfl) (hf : X.fn x = true \/ X.env.scope.names.lookup x = some .local := by first | exact .inl rfl | exact .inr rfl | assumption) :
 QS X (.Assign [.Name x pos'] e pos) (ZBt te (ZAu i)) := ⟨ZHT hN hi hx he.h hs hf⟩
end
def ZJZ (K : W.Frag) (x : V) (H : Hp) (R : It -> Hp -> Prop) : Prop := (∃ a, x = .ref a /\ (∃ xs, SqL K H a xs) /\ R (Itl K a) H) \/ (∃ a, x = .ref a /\ (∃ xs, SqT K H a xs) /\ R (Itt K a) H)
def ZMc (K : W.Frag) (tl : TE) : TI := fun U H R => tl U H fun x H1 => ZJZ K x H1 R
theorem ZMd {X : Cx} {tg e : Expr} {te : TE} (K : W.Frag) (hK : X.K = K) (hl : QE X e te) : QI X tg e (ZMc K te) := by
 subst hK
 refine ⟨?_⟩
 intro pins s U H R I h
 refine thn (hl.h pins s U H _ I h) fun v s1 ⟨x, H1, I1, r1, q1⟩ => ?_
 rcases q1 with ⟨a, e, ⟨xs, hq⟩, q⟩ | ⟨a, e, ⟨xs, hq⟩, q⟩
 ·subst e
  cases r1
  obtain ⟨its, rv, p, hz⟩ := I1.list hq
  refine wpAny_pyIter_list p.isList ?_
  refine ⟨s1.heap.objs.size, [s1.heap.objs.size], _, _, H1, rfl, I1.kept (t' := s1.toks) fun b o e => Ub _ e, ZD5 a _, ⟨_, Uj _ rfl, rfl, rfl⟩, fun b hb => ?_, q⟩
  have e : b = s1.heap.objs.size := by simpa using hb
  subst e
  exact I1.fpOk (Ue _) (I1.hok.fresh (Ue _))
 ·subst e
  cases r1
  obtain ⟨its, rv, p, hz⟩ := I1.tuple hq
  refine wpAny_pyIter_tuple (show s1.heap.IsTuple a its.toArray from p) ?_
  refine ⟨s1.heap.objs.size, [s1.heap.objs.size], _, _, H1, rfl, I1.kept (t' := s1.toks) fun b o e => Ub _ e, ZDJ a _, ⟨_, Uj _ rfl, rfl, rfl⟩, fun b hb => ?_, q⟩
  have e : b = s1.heap.objs.size := by simpa using hb
  subst e
  exact I1.fpOk (Ue _) (I1.hok.fresh (Ue _))
def SQ (b : Bool) (H : Hp) (a : Addr) (vs : List V) : Prop := H a = some (if b then .lst vs else .tup vs)
section
variable {K : W.Frag} {U : St} {H : Hp} {D : J8}
theorem ZLA {tl : TE} {R : It -> Hp -> Prop} (h : tl U H fun x H1 => ZJZ K x H1 R) : ZMc K tl U H R := h
theorem ZLB {b : Bool} {a : Addr} {xs : List V} {g : TG} {tb : TS} (Pv : Nat -> St -> Hp -> Prop) (hq : SQ b H a xs) (h0 : Pv 0 U H) (hl : ∀ i U H, i <= xs.length -> Pv i U H -> SQ b H a xs)
  (hs : ∀ i x U H, xs[i]? = some x -> Pv i U H -> g x U H fun U2 H2 => tb { D with nx := Pv (i + 1), ct := Pv (i + 1), bk := D.nx } U2 H2) (hd : ∀ U H, Pv xs.length U H -> D.nx U H) :
  ZJZ K (.ref a) H (fun J H1 => rFor J g tb D U H1) := by
 cases b with
 | true => exact .inl ⟨a, rfl, ⟨xs, SqL.of hq⟩, ZDt Pv h0 (fun i U H hi p => SqL.of (hl i U H hi p)) hs hd⟩
 | false => exact .inr ⟨a, rfl, ⟨xs, SqT.of hq⟩, ZF4 Pv h0 (fun i U H hi p => SqT.of (hl i U H hi p)) hs hd⟩
end
theorem SQ.same {b : Bool} {H H' : Hp} {a : Addr} {vs : List V} (h : SQ b H a vs) (s : JM H H') : SQ b H' a vs := s _ _ h
def ZJ8 (h : Heap) (a : Addr) (v : Value) (p : Int × Int) : Prop := ∃ b t u, v = .ref b /\ b ≠ a /\ IsTup h b #[.int p.1 t, .int p.2 u]
def ZCS (h : Heap) (a : Addr) (vs : List Value) (l : PL) : Prop := Paired (ZJ8 h a) vs l
theorem ZCS.get {h : Heap} {a : Addr} : ∀ {vs : List Value} {l : PL}, ZCS h a vs l -> ∀ {i : Nat}, i < l.length -> ZJ8 h a (vs.getD i .none) (l.getD i (0, 0))
 | _, _, .nil, i, hi => absurd hi (Nat.not_lt_zero _)
 | _, _, .cons g t, 0, _ => g
 | _, _, .cons g t, i + 1, hi => by
  have := ZCS.get t (i := i) (by simpa using hi)
  simpa using this
section
variable {X : Cx} {pins : List (Addr × Obj)} {U : St} {H H' : Hp} {s : Shared} {h' : Heap}
theorem Inv.old (I : Inv X pins U H s) {b : Addr} {o : HO} (e : H b = some o) : b < s.heap.objs.size := by
 by_cases h : b < s.heap.objs.size
 ·exact h
 ·rw [I.hok.fresh (Nat.le_of_not_lt h)] at e
  cases e
end
def SIt (b : Bool) (h : Heap) (i l : Addr) (k : Nat) : Prop := if b then h.IsListIter i l k else h.IsTupleIter i l k
def SOb (b : Bool) (h : Heap) (l : Addr) (xs : Array Value) : Prop := if b then h.IsList l xs else h.IsTuple l xs
theorem SIt.at {b : Bool} {h h' : Heap} {i l : Addr} {k : Nat} (x : SIt b h i l k) (e : ∀ o, h.get? i = some o -> h'.get? i = some o) : SIt b h' i l k := by
 cases b with
 | true => obtain ⟨o, ho, r⟩ := (show h.IsListIter i l k from x); exact ⟨o, e _ ho, r⟩
 | false => obtain ⟨o, ho, r⟩ := (show h.IsTupleIter i l k from x); exact ⟨o, e _ ho, r⟩
theorem SOb.at {b : Bool} {h h' : Heap} {l : Addr} {xs : Array Value} (x : SOb b h l xs) (e : ∀ o, h.get? l = some o -> h'.get? l = some o) : SOb b h' l xs := by
 cases b with
 | true => obtain ⟨o, ho, r⟩ := (show h.IsList l xs from x); exact ⟨o, e _ ho, r⟩
 | false => obtain ⟨o, ho, r⟩ := (show h.IsTuple l xs from x); exact ⟨o, e _ ho, r⟩
theorem SIt.lt {b : Bool} {h : Heap} {i l : Addr} {k : Nat} (x : SIt b h i l k) : i < h.objs.size := by
 cases b with
 | true => obtain ⟨o, ho, r⟩ := (show h.IsListIter i l k from x); exact Ug ho
 | false => obtain ⟨o, ho, r⟩ := (show h.IsTupleIter i l k from x); exact Ug ho
theorem SOb.lt {b : Bool} {h : Heap} {l : Addr} {xs : Array Value} (x : SOb b h l xs) : l < h.objs.size := by
 cases b with
 | true => obtain ⟨o, ho, r⟩ := (show h.IsList l xs from x); exact Ug ho
 | false => obtain ⟨o, ho, r⟩ := (show h.IsTuple l xs from x); exact Ug ho
section
variable {prog : Program} {w : World} {A : Around} {E : Value -> Shared -> Prop} {s : Shared}
theorem ZBv {b : Bool} {i l : Addr} {k : Nat} {xs : Array Value} {x : Value} {Q : Value -> Shared -> Prop} (hit : SIt b s.heap i l k) (hl : SOb b s.heap l xs) (hx : xs[k]? = some x)
  (hQ : ∀ h', SIt b h' i l (k + 1) -> Heap.SameBut i s.heap h' -> Q x { s with heap := h' }) : wpAny (model prog w) A (Builtin.SmallTypes.nextOf (.ref i)) Q E s := by
 cases b with
 | true => exact wpAny_nextOf_list_item (show s.heap.IsListIter i l k from hit) (show s.heap.IsList l xs from hl) hx hQ
 | false =>
  have hit' : s.heap.IsTupleIter i l k := hit
  obtain ⟨o, ho, hc, hd⟩ := id hit'
  obtain ⟨ol, hol, _, nl, hdl⟩ := (show s.heap.IsTuple l xs from hl)
  have hT : s.TypeIs (.ref i) "tuple_iterator" := ⟨o, ho, hc⟩
  unfold Builtin.SmallTypes.nextOf
  refine Ua (wpAny_callSpecial?_slot (name := Str.ofString "__next__") hT slot_tupleiter_next (wpAny_call_entry slot_tupleiter_next hT entry_tupleiter_next ?_ (args_tupleiter_next _)))
  show wpAny _ _ (field (.ref i) 0 >>= _) _ _ s
  refine Ua (Vt ho hd (x := .ref l) rfl ?_)
  show wpAny _ _ (if (Value.ref l == Value.none) = true then _ else _) _ _ s
  rw [if_neg (show ¬ ((Value.ref l == Value.none) = true) from Ut)]
  show wpAny _ _ (field (.ref i) 1 >>= _) _ _ s
  refine Ua (Vt ho hd (x := .int k 0) rfl ?_)
  show wpAny _ _ (seqItems? (.ref l) >>= _) _ _ s
  refine Ua (wpAny_seqItems hol hdl ?_)
  simp only [Int.toNat_natCast, hx]
  refine Ua (wpAny_setField ho hd (by simp) (Ud ⟨x, rfl, Ud (hQ _ ?_ (Heap.SameBut.update ..))⟩))
  exact ⟨_, UD _ ho (Obj.isFreed_of_fields (Obj.data_mapFields hd _)), (Obj.cls_mapFields ..).trans hc, by rw [Obj.data_mapFields hd]; simp [rawInt]⟩
theorem ZDW {b : Bool} {i l : Addr} {k : Nat} {xs : Array Value} {Q : Value -> Shared -> Prop} (hh : A.handled = none) (hit : SIt b s.heap i l k) (hl : SOb b s.heap l xs) (hx : xs[k]? = none)
  (hE : ∀ h' e, Heap.ExtBut i s.heap h' -> (∃ o, h'.get? e = some o /\ o.cls = .type "StopIteration") -> E (.ref e) { s with heap := h' }) : wpAny (model prog w) A (Builtin.SmallTypes.nextOf (.ref i)) Q E s := by
 cases b with
 | true => exact wpAny_nextOf_list_end hh (show s.heap.IsListIter i l k from hit) (show s.heap.IsList l xs from hl) hx hE
 | false =>
  have hit' : s.heap.IsTupleIter i l k := hit
  obtain ⟨o, ho, hc, hd⟩ := id hit'
  obtain ⟨ol, hol, _, nl, hdl⟩ := (show s.heap.IsTuple l xs from hl)
  have hT : s.TypeIs (.ref i) "tuple_iterator" := ⟨o, ho, hc⟩
  unfold Builtin.SmallTypes.nextOf
  refine Ua (wpAny_callSpecial?_slot (name := Str.ofString "__next__") hT slot_tupleiter_next (wpAny_call_entry slot_tupleiter_next hT entry_tupleiter_next ?_ (args_tupleiter_next _)))
  show wpAny _ _ (field (.ref i) 0 >>= _) _ _ s
  refine Ua (Vt ho hd (x := .ref l) rfl ?_)
  show wpAny _ _ (if (Value.ref l == Value.none) = true then _ else _) _ _ s
  rw [if_neg (show ¬ ((Value.ref l == Value.none) = true) from Ut)]
  show wpAny _ _ (field (.ref i) 1 >>= _) _ _ s
  refine Ua (Vt ho hd (x := .int k 0) rfl ?_)
  show wpAny _ _ (seqItems? (.ref l) >>= _) _ _ s
  refine Ua (wpAny_seqItems hol hdl ?_)
  simp only [Int.toNat_natCast, hx]
  refine Ua (wpAny_rule (Ua (wpAny_setField ho hd (by simp) ?_)))
  show wpAny _ _ (newExc (.type "StopIteration") [] >>= _) _ _ _
  refine Ua ?_
  simp only [newExc, newTuple]
  refine Ua (wpAny_newObj_type ?_ (by size_fits))
  refine Ua (m := firstArgMember _ _) (wpAny_of_eq (a := Value.none) (by first | rfl | (simp only [firstArgMember]; rfl)) ?_)
  refine wpAny_newObj_type ?_ (by size_fits)
  simp only [raiseNew]
  refine Ua (wpAny_handled ?_)
  first | rw [show A.in1.handled = none from hh] | rw [hh]
  refine Ua (Ud (wpAny_throw ?_))
  exact hE _ _ (((Heap.SameBut.update ..).extBut.push _).push _) ⟨_, Uj _ rfl, rfl⟩
structure Zp (b1 b2 : Bool) (h : Heap) (z TI TO i1 i2 l1 l2 : Addr) (k : Nat) (xs ys : Array Value) (f0 : Value) : Prop where
 hz : IsZip h z TI TO f0
 hTI : IsPair h TI (.ref i1) (.ref i2)
 hTO : ∃ a b, IsPair h TO a b
 h1 : SIt b1 h i1 l1 k
 h2 : SIt b2 h i2 l2 k
 hl1 : SOb b1 h l1 xs
 hl2 : SOb b2 h l2 ys
theorem ZJa {b1 b2 : Bool} {z TI TO i1 i2 l1 l2 : Addr} {k : Nat} {xs ys : Array Value} {x y : Value} {Q : Option Value -> Shared -> Prop} (D : ZipApart z TI TO i1 i2 l1 l2) (Z : Zp b1 b2 s.heap z TI TO i1 i2 l1 l2 k xs ys .none)
  (hx : xs[k]? = some x) (hy : ys[k]? = some y)
  (hQ : ∀ h', Zp b1 b2 h' z TI TO i1 i2 l1 l2 (k + 1) xs ys (rawInt s.heap.objs.size) -> IsPair h' s.heap.objs.size x y ->
   (∀ c o, c ≠ z -> c ≠ TO -> c ≠ i1 -> c ≠ i2 -> s.heap.get? c = some o -> h'.get? c = some o) -> Q (some (.ref s.heap.objs.size)) { s with heap := h' }) :
  wpAny (model prog w) A (pyNext (.ref z)) Q E s := by
 obtain ⟨hz, hTI, ⟨a, b, hTO⟩, h1, h2, hl1, hl2⟩ := Z
 have hT : s.TypeIs (.ref z) "zip" := ⟨_, hz, rfl⟩
 unfold pyNext
 refine Ua (wpAny_attempt (wpAny_callSpecial?_slot (name := Str.ofString "__next__") hT F.slot_zip_next (wpAny_call_entry F.slot_zip_next hT F.entry_zip_next ?_ (F.args_zip_next_1 _))))
 show wpAny _ _ (field (.ref z) 2 >>= _) _ _ _
 refine Ua (Vt hz rfl (x := .bool false) rfl ?_)
 show wpAny _ _ (field (.ref z) 3 >>= _) _ _ _
 refine Ua (Vt hz rfl (x := .ref TI) rfl ?_)
 refine Ua (wpAny_seqItems hTI rfl ?_)
 show wpAny _ _ (Builtin.SmallTypes.ownedTupleIsFree (.ref z) >>= _) _ _ _
 refine Ua ?_
 unfold Builtin.SmallTypes.ownedTupleIsFree
 refine Ua (Vt hz rfl (x := .none) rfl (Ud ?_))
 simp only [if_true]
 refine Ua (wpAny_rule ?_)
 refine Ua (Vt hz rfl (x := .ref TO) rfl ?_)
 refine Ua (wpAny_setField_rec hz (by simp) fun g1 z1 s1 => ?_)
 replace z1 : IsZip g1 z TI TO .ellipsis := z1
 refine Ua ?_
 simp only [List.zipIdx_cons, List.zipIdx_nil, List.forIn_cons, List.forIn_nil]
 refine Ua (Ua (wpAny_onRaise ?_))
 show wpAny _ _ (Builtin.SmallTypes.nextOf (.ref i1) >>= _) _ _ _
 refine Ua (ZBv (h1.at fun o e => s1.extBut _ _ D.i1z e) (hl1.at fun o e => s1.extBut _ _ D.l1z e) hx fun g2 j1 s2 => Ud ?_)
 have tO2 : IsPair g2 TO a b := s2.extBut _ _ D.TOi1 (s1.extBut _ _ D.TOz hTO)
 refine Ua (wpAny_seqItems tO2 rfl ?_)
 refine Ua (wpAny_updateSeq_pair tO2 fun g3 tO3 s3 => ?_)
 replace tO3 : IsPair g3 TO x b := tO3
 refine Ua (wpAny_letGo (Ud ?_))
 refine Ua (Ua (wpAny_onRaise ?_))
 show wpAny _ _ (Builtin.SmallTypes.nextOf (.ref i2) >>= _) _ _ _
 refine Ua (ZBv (((h2.at fun o e => s1.extBut _ _ D.i2z e).at fun o e => s2.extBut _ _ D.i12.symm e).at fun o e => s3.extBut _ _ D.TOi2.symm e)
  (((hl2.at fun o e => s1.extBut _ _ D.l2z e).at fun o e => s2.extBut _ _ D.l2i1 e).at fun o e => s3.extBut _ _ D.l2TO e) hy fun g4 j2 s4 => Ud ?_)
 have tO4 : IsPair g4 TO x b := s4.extBut _ _ D.TOi2 tO3
 refine Ua (wpAny_seqItems tO4 rfl ?_)
 refine Ua (wpAny_updateSeq_pair tO4 fun g5 tO5 s5 => ?_)
 replace tO5 : IsPair g5 TO x y := tO5
 refine Ua (wpAny_letGo (Ud (Ud ?_)))
 refine Ua (wpAny_seqItems tO5 rfl ?_)
 refine Ua (wpAny_newTuple ?_)
 have hsz : g5.objs.size = s.heap.objs.size := by rw [s5.1, s4.1, s3.1, s2.1, s1.1]
 have z5 : IsZip g5 z TI TO .ellipsis := s5.extBut _ _ D.TOz.symm (s4.extBut _ _ D.i2z.symm (s3.extBut _ _ D.TOz.symm (s2.extBut _ _ D.i1z.symm z1)))
 have k5 : ∀ c o, c ≠ z -> c ≠ TO -> c ≠ i1 -> c ≠ i2 -> s.heap.get? c = some o -> g5.get? c = some o := fun c o c1 c2 c3 c4 e =>
  s5.extBut _ _ c2 (s4.extBut _ _ c4 (s3.extBut _ _ c2 (s2.extBut _ _ c3 (s1.extBut _ _ c1 e))))
 have j15 : SIt b1 g5 i1 l1 (k + 1) := ((j1.at fun o e => s3.extBut _ _ D.TOi1.symm e).at fun o e => s4.extBut _ _ D.i12 e).at fun o e => s5.extBut _ _ D.TOi1.symm e
 have j25 : SIt b2 g5 i2 l2 (k + 1) := j2.at fun o e => s5.extBut _ _ D.TOi2.symm e
 have tI5 : IsPair g5 TI (.ref i1) (.ref i2) := k5 _ _ D.TIz D.TITO D.TIi1 D.TIi2 hTI
 have q15 : SOb b1 g5 l1 xs := hl1.at fun o e => k5 _ o D.l1z D.l1TO D.l1i1 D.l1i2 e
 have q25 : SOb b2 g5 l2 ys := hl2.at fun o e => k5 _ o D.l2z D.l2TO D.l2i1 D.l2i2 e
 have hzlt : z < g5.objs.size := Ug z5
 show wpAny _ _ (Builtin.SmallTypes.ownedTupleHandOut (.ref z) (.ref g5.objs.size) >>= _) _ _ _
 refine Ua ?_
 unfold Builtin.SmallTypes.ownedTupleHandOut
 have z6 : IsZip (g5.push { cls := .type "tuple", data := .seq #[x, y] }) z TI TO .ellipsis := Ub _ z5
 refine Ua (wpAny_setField_rec z6 (by simp) fun g7 z7 s7 => ?_)
 replace z7 : IsZip g7 z TI TO (rawInt g5.objs.size) := z7
 refine wpAny_setField_rec z7 (by simp) fun g8 z8 s8 => ?_
 replace z8 : IsZip g8 z TI TO (rawInt g5.objs.size) := z8
 have up : ∀ c o, c ≠ z -> g5.get? c = some o -> g8.get? c = some o := fun c o c1 e => s8.extBut _ _ c1 (s7.extBut _ _ c1 (Ub _ e))
 have t8 : IsPair g8 g5.objs.size x y := s8.extBut _ _ (Nat.ne_of_gt hzlt) (s7.extBut _ _ (Nat.ne_of_gt hzlt) (Uj _ rfl))
 rw [hsz] at z8 t8
 refine Ud ⟨_, rfl, Ud ?_⟩
 show Q (some (.ref g5.objs.size)) _
 rw [hsz]
 exact hQ g8 ⟨z8, up _ _ D.TIz tI5, ⟨x, y, up _ _ D.TOz tO5⟩, j15.at fun o e => up _ o D.i1z e, j25.at fun o e => up _ o D.i2z e, q15.at fun o e => up _ o D.l1z e, q25.at fun o e => up _ o D.l2z e⟩ t8 fun c o c1 c2 c3 c4 e => up c o c1 (k5 c o c1 c2 c3 c4 e)
theorem ZLC {b1 b2 : Bool} {z TI TO i1 i2 l1 l2 : Addr} {k : Nat} {xs ys : Array Value} {Q : Option Value -> Shared -> Prop} (hh : A.handled = none) (D : ZipApart z TI TO i1 i2 l1 l2) (Z : Zp b1 b2 s.heap z TI TO i1 i2 l1 l2 k xs ys .none)
  (hend : xs[k]? = none \/ ys[k]? = none) (hQ : ∀ h', (∀ c o, c ≠ z -> c ≠ TO -> c ≠ i1 -> c ≠ i2 -> s.heap.get? c = some o -> h'.get? c = some o) -> Q none { s with heap := h' }) : wpAny (model prog w) A (pyNext (.ref z)) Q E s := by
 obtain ⟨hz, hTI, ⟨a, b, hTO⟩, h1, h2, hl1, hl2⟩ := Z
 have hT : s.TypeIs (.ref z) "zip" := ⟨_, hz, rfl⟩
 unfold pyNext
 refine Ua (wpAny_attempt (wpAny_callSpecial?_slot (name := Str.ofString "__next__") hT F.slot_zip_next (wpAny_call_entry F.slot_zip_next hT F.entry_zip_next ?_ (F.args_zip_next_1 _))))
 have out : ∀ h' e, (∀ c o, c ≠ z -> c ≠ TO -> c ≠ i1 -> c ≠ i2 -> s.heap.get? c = some o -> h'.get? c = some o) -> (∃ o, h'.get? e = some o /\ o.cls = .type "StopIteration") -> wpAny (model prog w) A (do
   if (<- isInstance (.ref e) (.type "StopIteration")) = true then pure none else throw (.ref e)) Q E { s with heap := h' } := fun h' e hk ⟨o, ho, hc⟩ => by
  refine Ua (wpAny_isInstance (T := "StopIteration") (b := true) ⟨o, ho, hc⟩ isSubtype_stop ?_)
  exact Ud (hQ _ hk)
 show wpAny _ _ (field (.ref z) 2 >>= _) _ _ _
 refine Ua (Vt hz rfl (x := .bool false) rfl ?_)
 show wpAny _ _ (field (.ref z) 3 >>= _) _ _ _
 refine Ua (Vt hz rfl (x := .ref TI) rfl ?_)
 refine Ua (wpAny_seqItems hTI rfl ?_)
 show wpAny _ _ (Builtin.SmallTypes.ownedTupleIsFree (.ref z) >>= _) _ _ _
 refine Ua ?_
 unfold Builtin.SmallTypes.ownedTupleIsFree
 refine Ua (Vt hz rfl (x := .none) rfl (Ud ?_))
 simp only [if_true]
 refine Ua (wpAny_rule ?_)
 refine Ua (Vt hz rfl (x := .ref TO) rfl ?_)
 refine Ua (wpAny_setField_rec hz (by simp) fun g1 z1 s1 => ?_)
 replace z1 : IsZip g1 z TI TO .ellipsis := z1
 refine Ua ?_
 simp only [List.zipIdx_cons, List.zipIdx_nil, List.forIn_cons, List.forIn_nil]
 refine Ua (Ua (wpAny_onRaise ?_))
 show wpAny _ _ (Builtin.SmallTypes.nextOf (.ref i1) >>= _) _ _ _
 cases hx : xs[k]? with
 | none =>
  refine Ua (ZDW hh (h1.at fun o e => s1.extBut _ _ D.i1z e) (hl1.at fun o e => s1.extBut _ _ D.l1z e) hx fun g2 e s2 he => ?_)
  obtain ⟨oe, hoe, hce⟩ := he
  have z2 : IsZip g2 z TI TO .ellipsis := s2 _ _ D.i1z.symm z1
  have hez : e ≠ z := fun q => by subst q; rw [z2] at hoe; cases hoe; simp at hce
  exact wpAny_setField_rec z2 (by simp) fun g3 _ s3 => out g3 e (fun c o c1 _ c3 _ q => s3.extBut _ _ c1 (s2 _ _ c3 (s1.extBut _ _ c1 q))) ⟨oe, s3.extBut _ _ hez hoe, hce⟩
 | some x =>
  have hy : ys[k]? = none := by rcases hend with h | h; rw [hx] at h; cases h; exact h
  refine Ua (ZBv (h1.at fun o e => s1.extBut _ _ D.i1z e) (hl1.at fun o e => s1.extBut _ _ D.l1z e) hx fun g2 j1 s2 => Ud ?_)
  have tO2 : IsPair g2 TO a b := s2.extBut _ _ D.TOi1 (s1.extBut _ _ D.TOz hTO)
  refine Ua (wpAny_seqItems tO2 rfl ?_)
  refine Ua (wpAny_updateSeq_pair tO2 fun g3 tO3 s3 => ?_)
  refine Ua (wpAny_letGo (Ud ?_))
  refine Ua (Ua (wpAny_onRaise ?_))
  show wpAny _ _ (Builtin.SmallTypes.nextOf (.ref i2) >>= _) _ _ _
  refine Ua (ZDW hh (((h2.at fun o e => s1.extBut _ _ D.i2z e).at fun o e => s2.extBut _ _ D.i12.symm e).at fun o e => s3.extBut _ _ D.TOi2.symm e)
   (((hl2.at fun o e => s1.extBut _ _ D.l2z e).at fun o e => s2.extBut _ _ D.l2i1 e).at fun o e => s3.extBut _ _ D.l2TO e) hy fun g4 e s4 he => ?_)
  obtain ⟨oe, hoe, hce⟩ := he
  have z4 : IsZip g4 z TI TO .ellipsis := s4 _ _ D.i2z.symm (s3.extBut _ _ D.TOz.symm (s2.extBut _ _ D.i1z.symm z1))
  have hez : e ≠ z := fun q => by subst q; rw [z4] at hoe; cases hoe; simp at hce
  exact wpAny_setField_rec z4 (by simp) fun g5 _ s5 => out g5 e (fun c o c1 c2 c3 c4 q => s5.extBut _ _ c1 (s4 _ _ c4 (s3.extBut _ _ c2 (s2.extBut _ _ c3 (s1.extBut _ _ c1 q))))) ⟨oe, s5.extBut _ _ hez hoe, hce⟩
end
section
variable {X : Cx} {pins : List (Addr × Obj)} {U : St} {H H' : Hp} {s : Shared} {h' : Heap}
theorem Inv.turnNew {t' : Nat} {fp : List Addr} (I : Inv X pins U H s) (hf : ∀ b ∈ fp, ZBu X pins H b) (k : ∀ b o, b ∉ fp -> s.heap.get? b = some o -> h'.get? b = some o) (hs : ∀ b, b < s.heap.objs.size -> H' b = H b)
  (new : ∀ b o, s.heap.objs.size <= b -> H' b = some o -> Jo X.prog X.w H' h' b o) : Inv X pins U H' { s with heap := h', toks := t' } := by
 have old : ∀ b o, H b = some o -> H' b = some o := fun b o e => (hs b (I.old e)).trans e
 have nfp : ∀ b u, H b = some u -> b ∉ fp := fun b u e z => by rw [(hf b z).1] at e; cases e
 refine I.step (g' := s.gens) (d' := s.drawn) (ch := fp) (fun b hb => ?_) (fun b o _ _ hc e _ => k b o hc e) (fun b o _ _ hc e _ => ⟨o.slots, k b o hc e⟩) (fun b o _ e n => (hs b (Ug e)).trans n)
  (fun b o hc e => ⟨o, k b o hc e⟩) (fun b xs e => old _ _ e) (fun b o xs e => old _ _ e) (fun b ps e => ⟨#[], by rw [old _ _ e]; simp⟩) (fun m hm => ?_) (fun b u e => ?_) I.bare
 ·obtain ⟨f0, f1, f2, f3, f4, f5⟩ := hf b hb
  exact ⟨f3, f1, f4, f5⟩
 ·obtain ⟨o, es, ep, ho, r⟩ := hm
  exact ⟨o, es, ep, k _ o (fun z => (hf _ z).2.1 rfl) ho, r⟩
 ·by_cases hb : b < s.heap.objs.size
  ·rw [hs b hb] at e
   refine (I.hok b u e).stay (fun c v hc q => k c v ?_ q) (fun c q => old _ _ q) fun c xs q => old _ _ q
   rcases hc with z | z
   ·rw [z]; exact nfp b u e
   ·exact nfp c _ z
  ·exact new b u (Nat.le_of_not_lt hb) e
end
def SqB (b : Bool) (K : W.Frag) (H : Hp) (a : Addr) (xs : List V) : Prop := if b then SqL K H a xs else SqT K H a xs
theorem SqB.ofL {K : W.Frag} {H : Hp} {a : Addr} {xs : List V} (h : H a = some (.lst xs)) : SqB true K H a xs := SqL.of h
theorem Inv.sqB {X : Cx} {pins : List (Addr × Obj)} {U : St} {H : Hp} {s : Shared} {b : Bool} {a : Addr} {xs : List V} (I : Inv X pins U H s) (h : SqB b X.K H a xs) : ∃ its : List Value, JP xs its /\ SOb b s.heap a its.toArray /\ xs.length <= sizeLine := by
 cases b with
 | true =>
  obtain ⟨its, rv, p, hz⟩ := I.list h
  exact ⟨its, rv, p.isList, hz⟩
 | false =>
  obtain ⟨its, rv, p, hz⟩ := I.tuple h
  exact ⟨its, rv, p, hz⟩
theorem Inv.sqB_inj {X : Cx} {pins : List (Addr × Obj)} {U : St} {H : Hp} {s : Shared} {b : Bool} {a : Addr} {xs ys : List V} (I : Inv X pins U H s) (h : SqB b X.K H a xs) (g : SqB b X.K H a ys) : xs = ys := by
 cases b with
 | true => exact I.list_inj h g
 | false => exact I.tuple_inj h g
def Itz (K : W.Frag) (b1 : Bool) (p1 : Addr) (b2 : Bool) (p2 : Addr) : It :=
 ⟨fun i H => ∃ xs ys, SqB b1 K H p1 xs /\ SqB b2 K H p2 ys /\ i < xs.length /\ i < ys.length,
  fun i H x H' => ∃ T a b, H T = none /\ x = .ref T /\ H' = upd H T (.tup [a, b]) /\ (∀ xs, SqB b1 K H p1 xs -> xs[i]? = some a) /\ ∀ ys, SqB b2 K H p2 ys -> ys[i]? = some b,
  fun i H => ∃ xs ys, SqB b1 K H p1 xs /\ SqB b2 K H p2 ys /\ (xs.length <= i \/ ys.length <= i)⟩
def Zo (b1 b2 : Bool) (z TI TO i1 i2 l1 l2 : Addr) (i : Nat) (h : Heap) : Prop := IsZip h z TI TO .none /\ IsPair h TI (.ref i1) (.ref i2) /\ (∃ a b, IsPair h TO a b) /\ SIt b1 h i1 l1 i /\ SIt b2 h i2 l2 i
theorem ZJb {P : Program} {w : World} {K : W.Frag} {es : List Expr} {kk : Nat} {pos : Pos} (b1 b2 : Bool) (z TI TO i1 i2 l1 l2 : Addr) (D : ZipApart z TI TO i1 i2 l1 l2) :
  ZEt P w K (.Tuple es kk pos) (Itz K b1 l1 b2 l2) [z, TI, TO, i1, i2] z (Zo b1 b2 z TI TO i1 i2 l1 l2) where
 mem := by simp
 obj := fun i h st b hb => by
  obtain ⟨hz, hTI, ⟨x, y, hTO⟩, h1, h2⟩ := st
  have si : ∀ {b : Bool} {c l : Addr}, SIt b h c l i -> ∃ o, h.get? c = some o /\ ∀ v, o.data ≠ .cell v := fun {b c l} q => by
   cases b with
   | true => obtain ⟨o, e, c, d⟩ := (show h.IsListIter _ _ _ from q); exact ⟨o, e, fun v z => by rw [d] at z; cases z⟩
   | false => obtain ⟨o, e, c, d⟩ := (show h.IsTupleIter _ _ _ from q); exact ⟨o, e, fun v z => by rw [d] at z; cases z⟩
  simp only [Ul, UH, or_false] at hb
  rcases hb with rfl | rfl | rfl | rfl | rfl
  ·exact ⟨_, hz, fun v q => by cases q⟩
  ·exact ⟨_, hTI, fun v q => by cases q⟩
  ·exact ⟨_, hTO, fun v q => by cases q⟩
  ·exact si h1
  ·exact si h2
 keep := fun i h h' st k => by
  obtain ⟨hz, hTI, ⟨x, y, hTO⟩, h1, h2⟩ := st
  exact ⟨k z (by simp) _ hz, k TI (by simp) _ hTI, ⟨x, y, k TO (by simp) _ hTO⟩, h1.at (k i1 (by simp)), h2.at (k i2 (by simp))⟩
 item := by
  intro X hP hw hK hc i pins s U H E I hf st hg
  subst hP hw hK
  obtain ⟨xs, ys, q1, q2, hi1, hi2⟩ := hg
  obtain ⟨hz, hTI, hTO, h1, h2⟩ := st
  obtain ⟨us, r1, o1, _⟩ := I.sqB q1
  obtain ⟨ws, r2, o2, _⟩ := I.sqB q2
  obtain ⟨u, hu, ru⟩ := r1.get (Uc hi1)
  obtain ⟨v, hv, rv⟩ := r2.get (Uc hi2)
  have Z : Zp b1 b2 s.heap z TI TO i1 i2 l1 l2 i us.toArray ws.toArray .none := ⟨hz, hTI, hTO, h1, h2, o1, o2⟩
  refine ZJa D Z (x := u) (y := v) (by simpa using hu) (by simpa using hv) fun h' Z' hT hk => ⟨_, rfl, ?_⟩
  refine wpAny_letOwnedTupleGo_zip Z'.hz fun h'' hz'' hs'' => ?_
  have hTz : s.heap.objs.size ≠ z := Nat.ne_of_gt (Ug hz)
  have hT'' : IsPair h'' s.heap.objs.size u v := hs''.extBut _ _ hTz hT
  have kk : ∀ b o, b ∉ [z, TI, TO, i1, i2] -> s.heap.get? b = some o -> h''.get? b = some o := fun b o hb e => by
   simp only [Ul, UH, or_false, not_or] at hb
   exact hs''.extBut _ _ hb.1 (hk b o hb.1 hb.2.2.1 hb.2.2.2.1 hb.2.2.2.2 e)
  have I1 : Inv X pins U (upd H s.heap.objs.size (.tup [xs[i], ys[i]])) { s with heap := h'', toks := s.toks } := by
   refine I.turnNew (fp := [z, TI, TO, i1, i2]) hf kk (fun b hb => JT (Uk hb)) fun b o hb e => ?_
   by_cases hbT : b = s.heap.objs.size
   ·subst hbT
    rw [JO] at e
    cases e
    exact ⟨⟨by show 2 <= sizeLine; decide, fun _ => ⟨_, hT'', rfl, rfl⟩⟩, [u, v], .cons ru (.cons rv .nil), _, hT'', rfl, _, rfl⟩
   ·rw [JT hbT, I.hok.fresh hb] at e
    cases e
  refine ⟨.ref s.heap.objs.size, _, I1, rfl, ⟨_, _, _, I.hok.fresh (Ue _), rfl, rfl, fun zs hq => ?_, fun zs hq => ?_⟩, ?_, fun b hb => ?_⟩
  ·rw [I.sqB_inj hq q1]; exact Uc hi1
  ·rw [I.sqB_inj hq q2]; exact Uc hi2
  ·obtain ⟨x, y, hTO'⟩ := Z'.hTO
   exact ⟨hz'', hs''.extBut _ _ D.TIz Z'.hTI, ⟨x, y, hs''.extBut _ _ D.TOz hTO'⟩, Z'.h1.at fun o e => hs''.extBut _ _ D.i1z e, Z'.h2.at fun o e => hs''.extBut _ _ D.i2z e⟩
  ·have hbl : b < s.heap.objs.size := by
    obtain ⟨x, y, hTO0⟩ := hTO
    simp only [Ul, UH, or_false] at hb
    rcases hb with rfl | rfl | rfl | rfl | rfl
    ·exact Ug hz
    ·exact Ug hTI
    ·exact Ug hTO0
    ·exact h1.lt
    ·exact h2.lt
   rw [JT (Uk hbl)]
   exact (hf b hb).1
 done := by
  intro X hP hw hK hc i pins s U H E I hf st hg
  subst hP hw hK
  obtain ⟨xs, ys, q1, q2, hend⟩ := hg
  obtain ⟨hz, hTI, hTO, h1, h2⟩ := st
  obtain ⟨us, r1, o1, _⟩ := I.sqB q1
  obtain ⟨ws, r2, o2, _⟩ := I.sqB q2
  have e1 := r1.length
  have e2 := r2.length
  refine ZLC (I.ok.hd hc) D ⟨hz, hTI, hTO, h1, h2, o1, o2⟩ ?_ fun h' hk => ⟨rfl, ?_⟩
  ·rcases hend with h | h
   ·exact .inl (by simp; omega)
   ·exact .inr (by simp; omega)
  ·refine I.turnNew (t' := s.toks) (fp := [z, TI, TO, i1, i2]) hf (fun b o hb e => ?_) (fun b _ => rfl) fun b o hb e => ?_
   ·simp only [Ul, UH, or_false, not_or] at hb
    exact hk b o hb.1 hb.2.2.1 hb.2.2.2.1 hb.2.2.2.2 e
   ·rw [I.hok.fresh hb] at e; cases e
 self := fun _ _ _ _ _ st h => wpAny_pyIter_zip st.1 h
def ZDX (b : Bool) (l : Addr) : Obj := { cls := .type (if b then "list_iterator" else "tuple_iterator"), data := .fields #[.ref l, .int 0 0] }
def zp1 (b1 : Bool) (h : Heap) (l1 : Addr) : Heap := h.push (ZDX b1 l1)
def zp2 (b1 b2 : Bool) (h : Heap) (l1 l2 : Addr) : Heap := (zp1 b1 h l1).push (ZDX b2 l2)
def zp3 (b1 b2 : Bool) (h : Heap) (l1 l2 : Addr) : Heap := (zp2 b1 b2 h l1 l2).push { cls := .type "tuple", data := .seq #[.ref h.objs.size, .ref (zp1 b1 h l1).objs.size] }
def zp4 (b1 b2 : Bool) (h : Heap) (l1 l2 : Addr) : Heap := (zp3 b1 b2 h l1 l2).push { cls := .type "tuple", data := .seq #[.none, .none] }
def zp5 (b1 b2 : Bool) (h : Heap) (l1 l2 : Addr) : Heap := (zp4 b1 b2 h l1 l2).push { cls := .type "zip", data := .fields #[.none, .bool false, .bool false, .ref (zp2 b1 b2 h l1 l2).objs.size, .ref (zp3 b1 b2 h l1 l2).objs.size] }
theorem ZG2 (b1 b2 : Bool) (l1 l2 : Addr) (xs ys : Array Value) :
  Meets (Builtin.«zip.__new__» ⟨[.type "zip", .ref l1, .ref l2], []⟩) (fun _ R s => SOb b1 s.heap l1 xs /\ SOb b2 s.heap l2 ys /\
   R (.ok (.ret (.ref (zp4 b1 b2 s.heap l1 l2).objs.size))) { s with heap := zp5 b1 b2 s.heap l1 l2 }) := by
 cases b1 <;> cases b2
 ·exact .of_wp fun prog w A R s h => by
   obtain ⟨hp, g, d, tk, os⟩ := s; obtain ⟨hl1, hl2, h⟩ := h
   have hsub := sub_zip
   have hL1 : Heap.IsTuple (Shared.heap ⟨hp, g, d, tk, os⟩) l1 xs := hl1
   have hL2 : Heap.IsTuple (Shared.heap ⟨hp.push { cls := .type "tuple_iterator", data := .fields #[.ref l1, .int 0 0] }, g, d, tk, os⟩) l2 ys := by
    obtain ⟨o, ho, r⟩ := (show Heap.IsTuple hp l2 ys from hl2); exact ⟨o, Ub _ ho, r⟩
   wp_walk using wpAny_pyIter_tuple hL1, wpAny_pyIter_tuple hL2
   exact ⟨_, rfl, h⟩
 ·exact .of_wp fun prog w A R s h => by
   obtain ⟨hp, g, d, tk, os⟩ := s; obtain ⟨hl1, hl2, h⟩ := h
   have hsub := sub_zip
   have hL1 : Heap.IsTuple (Shared.heap ⟨hp, g, d, tk, os⟩) l1 xs := hl1
   have hL2 : Heap.IsList (Shared.heap ⟨hp.push { cls := .type "tuple_iterator", data := .fields #[.ref l1, .int 0 0] }, g, d, tk, os⟩) l2 ys := by
    obtain ⟨o, ho, r⟩ := (show Heap.IsList hp l2 ys from hl2); exact ⟨o, Ub _ ho, r⟩
   wp_walk using wpAny_pyIter_tuple hL1, wpAny_pyIter_list hL2
   exact ⟨_, rfl, h⟩
 ·exact .of_wp fun prog w A R s h => by
   obtain ⟨hp, g, d, tk, os⟩ := s; obtain ⟨hl1, hl2, h⟩ := h
   have hsub := sub_zip
   have hL1 : Heap.IsList (Shared.heap ⟨hp, g, d, tk, os⟩) l1 xs := hl1
   have hL2 : Heap.IsTuple (Shared.heap ⟨hp.push { cls := .type "list_iterator", data := .fields #[.ref l1, .int 0 0] }, g, d, tk, os⟩) l2 ys := by
    obtain ⟨o, ho, r⟩ := (show Heap.IsTuple hp l2 ys from hl2); exact ⟨o, Ub _ ho, r⟩
   wp_walk using wpAny_pyIter_list hL1, wpAny_pyIter_tuple hL2
   exact ⟨_, rfl, h⟩
 ·exact .of_wp fun prog w A R s h => by
   obtain ⟨hp, g, d, tk, os⟩ := s; obtain ⟨hl1, hl2, h⟩ := h
   have hsub := sub_zip
   have hL1 : Heap.IsList (Shared.heap ⟨hp, g, d, tk, os⟩) l1 xs := hl1
   have hL2 : Heap.IsList (Shared.heap ⟨hp.push { cls := .type "list_iterator", data := .fields #[.ref l1, .int 0 0] }, g, d, tk, os⟩) l2 ys := by
    obtain ⟨o, ho, r⟩ := (show Heap.IsList hp l2 ys from hl2); exact ⟨o, Ub _ ho, r⟩
   wp_walk using wpAny_pyIter_list hL1, wpAny_pyIter_list hL2
   exact ⟨_, rfl, h⟩
section
variable {X : Cx} {tg : Expr}
theorem ZJc {pins : List (Addr × Obj)} {U : St} {H : Hp} {s : Shared} {R : It -> Hp -> Prop} {b1 b2 : Bool} {l1 l2 : Addr} {xs ys : List V} {es : List Expr} {kk : Nat} {pos : Pos} (I : Inv X pins U H s) (q1 : SqB b1 X.K H l1 xs) (q2 : SqB b2 X.K H l2 ys)
  (q : R (Itz X.K b1 l1 b2 l2) H) : wpAny (model X.prog X.w) X.A (call (.type "zip") [.ref l1, .ref l2]) (fun v s1 => wpAny (model X.prog X.w) X.A (pyIter v) (PIE X pins U (.Tuple es kk pos) R) X.xe s1) X.xe s := by
 obtain ⟨us, r1, o1, _⟩ := I.sqB q1
 obtain ⟨ws, r2, o2, _⟩ := I.sqB q2
 refine callType_new F.called_zip (by decide) (F.typeCall_zip_2 _ _) (F.newCall_zip_2 _ _) (fun obj => F.args_object_init_3 obj _ _) F.entry_zip_new (ZG2 b1 b2 l1 l2 us.toArray ws.toArray) ⟨o1, o2, ?_⟩
 have z1 : (zp1 b1 s.heap l1).objs.size = s.heap.objs.size + 1 := UU ..
 have z2 : (zp2 b1 b2 s.heap l1 l2).objs.size = s.heap.objs.size + 2 := (UU ..).trans (by rw [z1])
 have z3 : (zp3 b1 b2 s.heap l1 l2).objs.size = s.heap.objs.size + 3 := (UU ..).trans (by rw [z2])
 have z4 : (zp4 b1 b2 s.heap l1 l2).objs.size = s.heap.objs.size + 4 := (UU ..).trans (by rw [z3])
 have g5 : (zp5 b1 b2 s.heap l1 l2).get? (zp4 b1 b2 s.heap l1 l2).objs.size = some _ := Uj _ rfl
 have g4 : (zp5 b1 b2 s.heap l1 l2).get? (zp3 b1 b2 s.heap l1 l2).objs.size = some _ := Ub _ (Uj _ rfl)
 have g3 : (zp5 b1 b2 s.heap l1 l2).get? (zp2 b1 b2 s.heap l1 l2).objs.size = some _ := Ub _ (Ub _ (Uj _ rfl))
 have g2 : (zp5 b1 b2 s.heap l1 l2).get? (zp1 b1 s.heap l1).objs.size = some (ZDX b2 l2) := Ub _ (Ub _ (Ub _ (Uj _ rfl)))
 have g1 : (zp5 b1 b2 s.heap l1 l2).get? s.heap.objs.size = some (ZDX b1 l1) := Ub _ (Ub _ (Ub _ (Ub _ (Uj _ rfl))))
 have keep : ∀ c o, s.heap.get? c = some o -> (zp5 b1 b2 s.heap l1 l2).get? c = some o := fun c o x =>
  Ub _ (Ub _ (Ub _ (Ub _ (Ub _ x))))
 rw [z1] at g2
 rw [z2, z1] at g3
 rw [z3] at g4
 rw [z4, z3, z2] at g5
 rw [z4]
 have sit : ∀ {b : Bool} {c l : Addr}, (zp5 b1 b2 s.heap l1 l2).get? c = some (ZDX b l) -> SIt b (zp5 b1 b2 s.heap l1 l2) c l 0 := fun {b c l} e => by
  cases b with
  | true => exact ⟨_, e, rfl, rfl⟩
  | false => exact ⟨_, e, rfl, rfl⟩
 have I1 : Inv X pins U H { s with heap := zp5 b1 b2 s.heap l1 l2, toks := s.toks } := I.kept keep
 have hl1 : l1 < s.heap.objs.size := o1.lt
 have hl2 : l2 < s.heap.objs.size := o2.lt
 have ne : ∀ {a b : Nat}, a < b -> (a : Addr) ≠ b := fun h => Uk h
 have D : ZipApart (s.heap.objs.size + 4) (s.heap.objs.size + 2) (s.heap.objs.size + 3) s.heap.objs.size (s.heap.objs.size + 1) l1 l2 := by
  have hl1' : (l1 : Nat) < s.heap.objs.size := hl1
  have hl2' : (l2 : Nat) < s.heap.objs.size := hl2
  constructor
  all_goals first
   | exact Uk (by omega)
   | exact Nat.ne_of_gt (by omega)
   | exact Uk (Uf hl1' (by omega))
   | exact Uk (Uf hl2' (by omega))
 refine ⟨⟨_, g5, rfl⟩, wpAny_pyIter_zip g5 ⟨s.heap.objs.size + 4, [s.heap.objs.size + 4, s.heap.objs.size + 2, s.heap.objs.size + 3, s.heap.objs.size, s.heap.objs.size + 1], _, _, H, rfl, I1, ZJb b1 b2 _ _ _ _ _ l1 l2 D, ⟨g5, g3, ⟨_, _, g4⟩, sit g1, sit g2⟩, fun b hb => ?_, q⟩⟩
 have hle : s.heap.objs.size <= b := by
  simp only [Ul, UH, or_false] at hb
  rcases hb with rfl | rfl | rfl | rfl | rfl
  ·exact Nat.le_add_right _ _
  ·exact Nat.le_add_right _ _
  ·exact Nat.le_add_right _ _
  ·exact Ue _
  ·exact Nat.le_add_right _ _
 exact I.fpOk hle (I.hok.fresh hle)
def ZJd (K : W.Frag) (vs : List V) (H : Hp) (R : It -> Hp -> Prop) : Prop := ∃ b1 b2 l1 l2 xs ys, vs = [.ref l1, .ref l2] /\ SqB b1 K H l1 xs /\ SqB b2 K H l2 ys /\ R (Itz K b1 l1 b2 l2) H
def ZMe (K : W.Frag) (ta : TA) : TI := fun U H R => ta U H fun vs H1 => ZJd K vs H1 R
theorem ZMf {a b : Expr} {t : TA} {p pos tpos : Pos} {es : List Expr} {kk : Nat} (K : W.Frag) (hK : X.K = K) (hg : Gl X "zip") (hm : X.mg "zip" = none) (ha : QA X [a, b] t) (hs : ZAb a = false := by rfl) (hs2 : ZAb b = false := by rfl) :
  QI X (.Tuple es kk tpos) (.Call (.Name "zip" p) [a, b] [] pos) (ZMe K t) := by
 subst hK
 refine ⟨?_⟩
 intro pins s U H R I h
 refine Call_ (ZAt I hg hm ZMb (PyProof.Rows.callWith_type1 (thn (ha.h pos pins s U H _ I h) fun us s1 ⟨vs, H1, I1, r1, q1⟩ => ?_) (by rw [ZAQ hs, ZAQ hs2]) (by rw [ZAQ hs2]; rfl)))
 obtain ⟨b1, b2, l1, l2, xs, ys, e, g1, g2, q⟩ := q1
 subst e
 obtain ⟨u, v, rfl, ru, rv⟩ := r1.two
 cases ru
 cases rv
 exact ZJc I1 g1 g2 q
end
section
variable {K : W.Frag} {U : St} {H : Hp} {D : J8}
theorem ZLD {ta : TA} {R : It -> Hp -> Prop} (h : ta U H fun vs H1 => ZJd K vs H1 R) : ZMe K ta U H R := h
theorem ZMg {b1 b2 : Bool} {l1 l2 : Addr} {xs ys : List V} {R : It -> Hp -> Prop} (h1 : SqB b1 K H l1 xs) (h2 : SqB b2 K H l2 ys) (h : R (Itz K b1 l1 b2 l2) H) : ZJd K [.ref l1, .ref l2] H R := ⟨b1, b2, l1, l2, xs, ys, rfl, h1, h2, h⟩
theorem ZLE {b1 b2 : Bool} {l1 l2 : Addr} {xs ys : List V} {g : TG} {tb : TS} (n : Nat) (hn : n = min xs.length ys.length) (Pv : Nat -> St -> Hp -> Prop) (h0 : Pv 0 U H) (hl : ∀ i U H, Pv i U H -> SqB b1 K H l1 xs /\ SqB b2 K H l2 ys)
  (hs : ∀ i U H T H2 a b, i < n -> Pv i U H -> xs[i]? = some a -> ys[i]? = some b -> H T = none -> H2 T = some (.tup [a, b]) -> JM H H2 -> g (.ref T) U H2 fun U2 H3 => tb { D with nx := Pv (i + 1), ct := Pv (i + 1), bk := D.nx } U2 H3)
  (hd : ∀ U H, Pv n U H -> D.nx U H) : rFor (Itz K b1 l1 b2 l2) g tb D U H := by
 refine ⟨fun i m U H => m = n - i /\ i <= n /\ Pv i U H, ⟨n, by simp, UF _, h0⟩, ?_⟩
 rintro i m U H ⟨rfl, hi, p⟩
 obtain ⟨q1, q2⟩ := hl i U H p
 by_cases hlt : i < n
 ·refine .inr ⟨⟨xs, ys, q1, q2, by omega, by omega⟩, Pv (i + 1), fun U' H' p' => ⟨n - (i + 1), by omega, rfl, hlt, p'⟩, ?_⟩
  rintro x H' ⟨T, a, b, hT, rfl, rfl, e1, e2⟩
  exact hs i U H T _ a b hlt p (e1 _ q1) (e2 _ q2) hT JO (JM.new hT)
 ·have e : i = n := by omega
  subst e
  exact .inl ⟨⟨xs, ys, q1, q2, by omega⟩, hd U H p⟩
end
def Bn (n : Nat) (x : Int) : Prop := x.natAbs < 2 ^ n
theorem Bn.mono {m n : Nat} {x : Int} (h : Bn m x) (hm : m <= n) : Bn n x := Uf h (Nat.pow_le_pow_right (by decide) hm)
theorem Bn.mul {m n : Nat} {x y : Int} (h : Bn m x) (g : Bn n y) : Bn (m + n) (x * y) := by
 unfold Bn at *
 rw [Int.natAbs_mul, Nat.pow_add]
 exact Nat.mul_lt_mul'' h g
theorem Bn.add {n : Nat} {x y : Int} (h : Bn n x) (g : Bn n y) : Bn (n + 1) (x + y) := by
 unfold Bn at *
 have := Int.natAbs_add_le x y
 rw [Nat.pow_succ]
 omega
theorem Bn.sub {n : Nat} {x y : Int} (h : Bn n x) (g : Bn n y) : Bn (n + 1) (x - y) := by
 unfold Bn at *
 have := Int.natAbs_sub_le x y
 rw [Nat.pow_succ]
 omega
theorem ZDY {m n : Nat} {x y : Int} (h : Bn m x) (g : Bn n y) (hm : m + n <= 8000) : IntMulOk x y := by
 have h1 : Builtin.Int.intBits x <= m := intBits_le h
 have h2 : Builtin.Int.intBits y <= n := intBits_le g
 unfold IntMulOk
 have : Builtin.Int.intTooBig ((Builtin.Int.intBits x : Int) + (Builtin.Int.intBits y : Int)) = false := by
  unfold Builtin.Int.intTooBig
  refine decide_eq_false ?_
  have hb : (8000 : Int) <= bitsLine := by decide
  omega
 rw [this]
 simp
section
variable {X : Cx}
mutual
theorem Dat.same {K : W.Frag} {H H' : Hp} (s : JM H H') : ∀ {x : V} {d : PyData}, Dat K H x d -> Dat K H' x d
 | _, _, .non => .non
 | _, _, .bl b => .bl b
 | _, _, .int i => .int i
 | _, _, .str x => .str x
 | _, _, .tup h r => .tup (s.seqT h) (ZAU.same s r)
 | _, _, .lst h r => .lst (s.seq h) (ZAU.same s r)
theorem ZAU.same {K : W.Frag} {H H' : Hp} (s : JM H H') : ∀ {x : List V} {d : List PyData}, ZAU K H x d -> ZAU K H' x d
 | _, _, .nil => .nil
 | _, _, .cons h r => .cons (Dat.same s h) (ZAU.same s r)
end
end
section
variable {X : Cx} {pins : List (Addr × Obj)} {U : St} {H : Hp} {s : Shared}
theorem ZEH {h' : Heap} {a : Addr} (I : Inv X pins U H s) (k : ∀ b o, s.heap.get? b = some o -> h'.get? b = some o) (ha : s.heap.objs.size <= a) :
  ∀ {us : List V} {m : PL} {its : List Value}, JJ H us m -> JP us its -> ZCS h' a its m
 | _, _, _, .nil, .nil => .nil
 | _, _, _, .cons (b := p) ⟨b, e, z⟩ t, .cons r q => by
  subst e
  cases r
  obtain ⟨its, rv, hp, _⟩ := I.tuple (SqT.of z)
  obtain ⟨o, ho, hc, n, hd⟩ := hp
  have hb : b < s.heap.objs.size := Ug ho
  obtain ⟨u1, u2, e2, r1, r2⟩ := rv.two
  obtain ⟨t1, rfl⟩ := r1
  obtain ⟨t2, rfl⟩ := r2
  subst e2
  exact .cons ⟨b, t1, t2, rfl, fun z => Nat.lt_irrefl _ (Uf (z ▸ hb) ha), o, k _ _ ho, hc, n, hd⟩ (ZEH I k ha t q)
end
def Cov (B : Heap) (H' : Hp) (h0 h' : Heap) (fs : List Addr) : Prop := ∀ b o, h'.get? b = some o -> b ∉ fs -> ((∃ u, H' b = some u) \/ ∃ o0, h0.get? b = some o0) -> B.get? b = some o
def ZMh (K : W.Frag) (C : Addr) : Prop := excIn K C [.type "ValueError", .type "Exception", .type "BaseException", .type "object"] "ValueError.__new__" = true
def Fl (X : Cx) (H1 : Hp) (s0 : Shared) (e : Addr) (C : Value) (H' : Hp) (s3 : Shared) : Prop := ∃ (a0 : Value) (B : Heap), s3.os = s0.os /\ AllBare s3.gens /\ Un (frs X.stack) [] H1 H' s0.heap s3.heap /\ HOk X.prog X.w H' s3.heap /\
 s0.heap.get? e = none /\ H' e = none /\ Heap.FlyingW B X.stack e C a0 s3.heap /\ Cov B H' s0.heap s3.heap (frs X.stack)
abbrev TX := St -> Hp -> VK -> XK -> Prop
def XP (X : Cx) (pins : List (Addr × Obj)) (U : St) (E : XK) (ev : Value) (s' : Shared) : Prop := ∃ H1 s1 e C H', Inv X pins U H1 s1 /\ ev = .ref e /\ Fl X H1 s1 e C H' s' /\ E C none H'
abbrev TBX := J8 -> XK -> St -> Hp -> Prop
abbrev TH := Value -> J8 -> St -> Hp -> Prop
end L2
namespace L2
open PySem PySem.Spec PyProof.Rows PySem.W PySem.Builtin PySem.Builtin.ObjectAttr PySem.Builtin.Getset_descriptor
structure ZMi (K : W.Frag) (C : Addr) : Prop where
 ga : findIn K (.ref C) "__getattribute__" = some (some (.builtin "BaseException.__getattribute__"))
 gt : findIn K (.ref C) "__getattr__" = some none
 cl : findIn K (.ref C) "__class__" = some (some (.builtin "object.__class__"))
 ob : mroIn K C (.type "object") = some true
 be : mroIn K C (.type "BaseException") = some true
def fl (low tall : Int) (q : Int × Int) : Int := (q.1 - low * q.2) / (tall * q.2)
theorem ZEk {low tall r : Int} {q : Int × Int} (ht : 0 < tall) (hq : 0 < q.2) : r <= fl low tall q ↔ (low + r * tall) * q.2 <= q.1 := by
 unfold fl
 rw [Int.le_ediv_iff_mul_le (Int.mul_pos ht hq), Int.add_mul, Int.mul_assoc]
 omega
theorem ZG3 {low tall r : Int} {q : Int × Int} (ht : 0 < tall) (hq : 0 < q.2) : fl low tall q <= r ↔ q.1 < (low + (r + 1) * tall) * q.2 := by
 have := ZEk (low := low) (r := r + 1) ht hq
 omega
def mx (i j : Int) : Int := if j > i then j else i
def mn (i j : Int) : Int := if j < i then j else i
def frP (a b : Int × Int) (t : Int) : Int × Int := (a.2 * (b.1 - a.1) + (b.2 - a.2) * (t - a.1), b.1 - a.1)
def Jw (x z : Int) (ab : (Int × Int) × (Int × Int)) : PL := if ab.1.1 < z /\ x < ab.2.1 then [frP ab.1 ab.2 (mx x ab.1.1), frP ab.1 ab.2 (mn z ab.2.1)] else []
def ZFG (cv : PL) (x z : Int) : PL := (cv.zip (cv.drop 1)).flatMap (Jw x z)
def inCol (cv : PL) (b e : Int) : PL := cv.filter fun p => decide (b <= p.1) && decide (p.1 < e)
def ZAX (cv : PL) (x z : Int) : PL := (inCol cv x z).map (fun p => (p.2, 1)) ++ ZFG cv x z
theorem ZEI {cv : PL} (h : Asc cv) {i : Nat} {a b : Int × Int} (h1 : cv[i]? = some a) (h2 : (cv.drop 1)[i]? = some b) : a.1 < b.1 := by
 rw [List.getElem?_drop] at h2
 have hi := (UC.mp h1)
 have hj := (UC.mp h2)
 have := UO.mp h i (1 + i) hi.1 hj.1 (by omega)
 rw [hi.2, hj.2] at this
 exact this
theorem ZF7 {cv : PL} {i : Nat} {a b : Int × Int} (h1 : cv[i]? = some a) (h2 : (cv.drop 1)[i]? = some b) : (cv.zip (cv.drop 1))[i]? = some (a, b) := by
 rw [List.getElem?_zip_eq_some]
 exact ⟨h1, h2⟩
theorem ZB3 {cv : PL} {x z : Int} (h : Asc cv) : ∀ q ∈ ZAX cv x z, 0 < q.2 := by
 intro q hq
 rcases Va.mp hq with hq | hq
 ·obtain ⟨p, _, rfl⟩ := Ux.mp hq
  show (0 : Int) < 1
  decide
 ·unfold ZFG at hq
  obtain ⟨ab, hab, hq⟩ := List.mem_flatMap.mp hq
  obtain ⟨i, hi, e⟩ := UV hab
  have e' : (cv.zip (cv.drop 1))[i]? = some ab := by rw [Uc hi, e]
  obtain ⟨h1, h2⟩ := List.getElem?_zip_eq_some.mp e'
  have hlt := ZEI h h1 h2
  unfold Jw at hq
  split at hq
  ·simp only [Ul, UH, or_false] at hq
   rcases hq with rfl | rfl <;> (show 0 < ab.2.1 - ab.1.1; omega)
  ·cases hq
def ZDZ (lo hi : Int) (n : Nat) : List Int := ((Vj n).map fun (i : Nat) => (0 + (i : Int))).filter fun r => decide (lo <= r) && decide (r <= hi)
theorem ZG4 {lo hi r : Int} {n : Nat} : r ∈ ZDZ lo hi n ↔ (0 <= r /\ r < n) /\ lo <= r /\ r <= hi := by
 unfold ZDZ
 rw [List.mem_filter, Ux]
 constructor
 ·rintro ⟨⟨i, hi, rfl⟩, h⟩
  have := Vg.mp hi
  simp at h
  omega
 ·rintro ⟨⟨h1, h2⟩, h3, h4⟩
  exact ⟨⟨r.toNat, Vg.mpr (by omega), by omega⟩, by simp [h3, h4]⟩
theorem ZHu {cv : PL} (h : Asc cv) {i j : Nat} (hi : i < cv.length) (hj : j < cv.length) (hij : i < j) : cv[i].1 < cv[j].1 := UO.mp h i j hi hj hij
theorem ZLF {cv : PL} (h : Asc cv) {a b : Int × Int} (ha : a ∈ cv) (hb : b ∈ cv) (e : a.1 = b.1) : a = b := by
 obtain ⟨i, hi, rfl⟩ := UV ha
 obtain ⟨j, hj, rfl⟩ := UV hb
 rcases Nat.lt_trichotomy i j with hij | hij | hij
 ·have := ZHu h hi hj hij; omega
 ·subst hij; rfl
 ·have := ZHu h hj hi hij; omega
theorem ZCT {cv : PL} {b e : Int} {p : Int × Int} : p ∈ inCol cv b e ↔ p ∈ cv /\ b <= p.1 /\ p.1 < e := by
 unfold inCol
 rw [List.mem_filter]
 simp
theorem ZG5 {cv : PL} {j : Nat} {q : Int × Int} {x z : Int} (h : cv[j]? = some q) : inCol (cv.take (j + 1)) x z = inCol (cv.take j) x z ++ (if (decide (x <= q.1) && decide (q.1 < z)) = true then [q] else []) := by
 rw [UY, h, inCol, Vs]
 congr 1
 simp only [Option.toList, List.filter_cons, List.filter_nil]
def ZHv (K : W.Frag) : R2 := fun x y H Q => ∃ p q xs, x = .ref p /\ y = .ref q /\ SqL K H p xs /\ SqL K H q [] /\ Q (.bl (!xs.isEmpty)) H
section
variable {X : Cx}
theorem ZFH (K : W.Frag) (hK : X.K = K) (hu : X.A.units + 1 < cLine) : OpR X (compareOp .NotEq) (ZHv K) := by
 subst hK
 intro pins s U H x y v u Q I rx ry h
 obtain ⟨p, q, xs, rfl, rfl, h1, h2, k⟩ := h
 obtain rfl : v = Value.ref p := rx
 obtain rfl : u = Value.ref q := ry
 obtain ⟨its, rv, pl, hz⟩ := I.list h1
 obtain ⟨its2, rv2, pl2, hz2⟩ := I.list h2
 cases rv2
 have hlen := rv.length
 cases xs with
 | nil =>
  cases rv
  exact SeqAt.RcNeAt.lists (e := fun _ => true) pl.isList pl2.isList rfl (by omega) (fun j h1 _ => absurd h1 (by simp)) X.prog X.w _ _ ⟨.bl false, H, I, rfl, k⟩
 | cons x xs =>
  refine SeqAt.RcNeAt.lists_lengths pl.isList pl2.isList ?_ (by omega) X.prog X.w _ _ ⟨.bl true, H, I, rfl, k⟩
  simp only [Vk] at hlen
  simp only [Uq, Vp, bne_iff_ne, ne_eq]
  omega
end
section
variable {K : W.Frag} {H : Hp} {Q : VK} {p q : Addr} {xs : List V}
theorem ZFI (h1 : SqL K H p xs) (h2 : SqL K H q []) (k : Q (.bl (!xs.isEmpty)) H) : ZHv K (.ref p) (.ref q) H Q := ⟨p, q, xs, rfl, rfl, h1, h2, k⟩
end
theorem ints_dats {K : W.Frag} {H : Hp} : ∀ ns : List Int, ZAU K H (ns.map V.int) (ns.map PyData.int)
 | [] => .nil
 | n :: ns => .cons (.int n) (ints_dats ns)
theorem ZCE : ∀ l m : List Int, PyData.eqvAll (l.map PyData.int) (m.map PyData.int) = decide (l = m)
 | [], [] => rfl
 | [], q :: m => by simp [PyData.eqvAll]
 | p :: l, [] => by simp [PyData.eqvAll]
 | p :: l, q :: m => by
  show (PyData.eqv (PyData.int p) (PyData.int q) && PyData.eqvAll (l.map PyData.int) (m.map PyData.int)) = _
  rw [ZCE l m, show PyData.eqv (PyData.int p) (PyData.int q) = (p == q) from rfl]
  by_cases h1 : p = q <;> by_cases h2 : l = m <;> simp [h1, h2]
theorem ints_depth : ∀ l : List Int, PyData.depthAll (l.map PyData.int) <= 50
 | [] => by decide
 | p :: l => by
  have ih := ints_depth l
  show PyData.depthAll (PyData.int p :: l.map PyData.int) <= 50
  simp only [PyData.depthAll, PyData.depth]
  omega
theorem ZFg (l : List Int) : (PyData.tuple (l.map PyData.int)).depth <= 60 := by
 have := ints_depth l
 simp only [PyData.depth]
 omega
theorem ints_lay : ∀ l : List Int, (PyData.tuple (l.map PyData.int)).canLay0 = true := by
 have h : ∀ l : List Int, PyData.canLayAll0 (l.map PyData.int) = true := fun l => by
  induction l with
  | nil => rfl
  | cons p l ih => exact ih
 exact h
section
variable {K : W.Frag} {H : Hp} {Q : VK} {a b : Addr} {l m : List Int}
theorem ZLG (h1 : H a = some (.tup (l.map V.int))) (h2 : H b = some (.tup (m.map V.int))) (h : Q (.bl (!decide (l = m))) H) : ZE6 K (.ref a) (.ref b) H Q := by
 refine ZE7 (.tup (SqT.of h1) (ints_dats l)) (.tup (SqT.of h2) (ints_dats m)) (ints_lay l) (ints_lay m) (ZFg l) ?_
 rw [show PyData.eqv (.tuple (l.map PyData.int)) (.tuple (m.map PyData.int)) = decide (l = m) from ZCE l m]
 exact h
end
end L2
namespace L2
end L2
namespace L2
open PySem PySem.Spec PyProof.Rows PySem.W
theorem ZF8 {H0 H : Hp} {b : Addr} (s : JM H0 H) (e : H b = none) : H0 b = none := by
 cases e2 : H0 b with
 | none => rfl
 | some o => rw [s _ _ e2] at e; cases e
end L2
namespace L2
theorem ZHw {c : TT} {t u : TS} {D : J8} {U : St} {H : Hp} (h : ZEr c t u D U H) : ZEr c t u D U H := h
theorem ZF9 {t : TS} {D : J8} {U : St} {H : Hp} (P : St -> Hp -> Prop) (h1 : ∀ U' H', P U' H' -> D.nx U' H') (h2 : ∀ D' : J8, D'.rt = D.rt -> (∀ U' H', P U' H' -> D'.nx U' H') -> t D' U H) : t D U H := h2 D rfl h1
end L2
namespace L2
open PySem PySem.Spec PyProof.Rows PySem.W
structure ZMj (K : Frag) (x : Str) (C : Addr) : Prop where
 a : nsIn K mainGlobals x = some (some (.ref C))
 ex : excIn K C [.type "ValueError", .type "Exception", .type "BaseException", .type "object"] "ValueError.__new__" = true
 ga : findIn K (.ref C) "__getattribute__" = some (some (.builtin "BaseException.__getattribute__"))
 gt : findIn K (.ref C) "__getattr__" = some none
 cl : findIn K (.ref C) "__class__" = some (some (.builtin "object.__class__"))
 ob : mroIn K C (.type "object") = some true
 be : mroIn K C (.type "BaseException") = some true
section
variable {K : Frag} {x qual : Str} {st : Stmt} {f : Addr} {fd : FuncData}
theorem Fun.b1 {p : Str} (F : Fun K x qual st f fd) (h : ∀ (kV doc pm : Value) (an : Option Addr) (cdv ct u : Value), bindArgs (fnOf x qual (ZAN st) (ZAG st) (JL st) .none kV doc pm an cdv ct) ⟨[u], []⟩ = pure ([p].zip [u])) : Jh K fd [p] [] := F.binds fun _ _ _ _ _ _ us hl => match us, hl with | [_], _ => h _ _ _ _ _ _ _
theorem Fun.b2 {p q : Str} (F : Fun K x qual st f fd) (h : ∀ (kV doc pm : Value) (an : Option Addr) (cdv ct u v : Value), bindArgs (fnOf x qual (ZAN st) (ZAG st) (JL st) .none kV doc pm an cdv ct) ⟨[u, v], []⟩ = pure ([p, q].zip [u, v])) : Jh K fd [p, q] [] := F.binds fun _ _ _ _ _ _ us hl => match us, hl with | [_, _], _ => h _ _ _ _ _ _ _ _
theorem Fun.b3 {p q r : Str} (F : Fun K x qual st f fd) (h : ∀ (kV doc pm : Value) (an : Option Addr) (cdv ct u v y : Value), bindArgs (fnOf x qual (ZAN st) (ZAG st) (JL st) .none kV doc pm an cdv ct) ⟨[u, v, y], []⟩ = pure ([p, q, r].zip [u, v, y])) : Jh K fd [p, q, r] [] := F.binds fun _ _ _ _ _ _ us hl => match us, hl with | [_, _, _], _ => h _ _ _ _ _ _ _ _ _
theorem Fun.b4 {p q r t : Str} (F : Fun K x qual st f fd) (h : ∀ (kV doc pm : Value) (an : Option Addr) (cdv ct u v y z : Value), bindArgs (fnOf x qual (ZAN st) (ZAG st) (JL st) .none kV doc pm an cdv ct) ⟨[u, v, y, z], []⟩ = pure ([p, q, r, t].zip [u, v, y, z])) : Jh K fd [p, q, r, t] [] := F.binds fun _ _ _ _ _ _ us hl => match us, hl with | [_, _, _, _], _ => h _ _ _ _ _ _ _ _ _ _
end
abbrev Cmp := Keyed -> Keyed -> Bool
abbrev G (xs : Array Keyed) (i : Nat) : Keyed := xs.getD i (.none, .none)
theorem ZC0 {xs : Array Keyed} {i : Nat} (h : i < xs.size) : xs[i]? = some (G xs i) := by simp [G, h]
theorem ZC1 {xs ys : Array Keyed} {i j : Nat} (h : xs[i]? = ys[j]?) : G xs i = G ys j := by simp [G, UM, h]
structure Jm (C : Cmp) (a₀ : Array Keyed) : Prop where
 tr : ∀ x y z, C x y = true -> C y z = true -> C x z = true
 asy : ∀ x y, C x y = true -> C y x = false
 tot : ∀ x ∈ a₀.toList, ∀ y ∈ a₀.toList, x ≠ y -> C x y = false -> C y x = true
 nd : a₀.toList.Nodup
structure TB (kd : SortKind) (a₀ : Array Keyed) (st : SortSt) : Prop where
 perm : (arrOf st).Perm a₀
 kind : kindOf st = kd
 failed : failedOf st = none
def Sg (C : Cmp) (xs : Array Keyed) (lo n : Nat) : Prop := ∀ i j, i < j -> j < n -> C (G xs (lo + i)) (G xs (lo + j)) = true
section
variable {kd : SortKind} {a₀ : Array Keyed} {st : SortSt} {C : Cmp}
theorem TB.size (h : TB kd a₀ st) : (arrOf st).size = a₀.size := h.perm.size_eq
theorem TB.mem (h : TB kd a₀ st) {i : Nat} (hi : i < a₀.size) : G (arrOf st) i ∈ a₀.toList := by
 have hi' : i < (arrOf st).size := by rw [h.size]; exact hi
 refine (Vo.mp h.perm).mem_iff.mp ?_
 have := ZC0 hi'
 exact Vl.mpr (Array.mem_of_getElem? this)
theorem TB.inj (h : TB kd a₀ st) (O : Jm C a₀) {i j : Nat} (hi : i < a₀.size) (hj : j < a₀.size) (hne : i ≠ j) : G (arrOf st) i ≠ G (arrOf st) j := fun e => by
 have n : (arrOf st).toList.Nodup := (Vo.mp h.perm).nodup_iff.mpr O.nd
 have hi' : i < (arrOf st).toList.length := by rw [Ui, h.size]; exact hi
 have hj' : j < (arrOf st).toList.length := by rw [Ui, h.size]; exact hj
 have e1 : (arrOf st).toList[i] = G (arrOf st) i := by simp [G, Array.getD, h.size, hi]
 have e2 : (arrOf st).toList[j] = G (arrOf st) j := by simp [G, Array.getD, h.size, hj]
 have hpw := UO.mp (List.nodup_iff_pairwise_ne.mp n)
 rcases Nat.lt_or_gt_of_ne hne with z | z
 ·exact hpw i j hi' hj' z (by rw [e1, e2, e])
 ·exact hpw j i hj' hi' z (by rw [e1, e2, e])
theorem TB.setArr (h : TB kd a₀ st) {xs : Array Keyed} (hp : xs.Perm (arrOf st)) : TB kd a₀ (setArr st xs) := ⟨hp.trans h.perm, h.kind, h.failed⟩
theorem TB.tot (h : TB kd a₀ st) (O : Jm C a₀) {i j : Nat} (hi : i < a₀.size) (hj : j < a₀.size) (hne : i ≠ j) (e : C (G (arrOf st) i) (G (arrOf st) j) = false) : C (G (arrOf st) j) (G (arrOf st) i) = true := O.tot _ (h.mem hi) _ (h.mem hj) (h.inj O hi hj hne) e
theorem TB.tr (h : TB kd a₀ st) (O : Jm C a₀) {i j k : Nat} (hi : i < a₀.size) (hj : j < a₀.size) (hk : k < a₀.size) (e : C (G (arrOf st) i) (G (arrOf st) j) = true) (e' : C (G (arrOf st) j) (G (arrOf st) k) = true) : C (G (arrOf st) i) (G (arrOf st) k) = true := O.tr _ _ _ e e'
end
def ZAP (prog : Program) (w : World) (A : Around) (E : Value -> Shared -> Prop) (s : Shared) (kd : SortKind) (a₀ : Array Keyed) (C : Cmp) : Prop :=
 ∀ x ∈ a₀.toList, ∀ y ∈ a₀.toList, ∀ (st : SortSt) (Q : Option Bool -> SortSt -> Prop), kindOf st = kd -> Q (some (C x y)) st -> wpS (model prog w) A E s (lt' x y) Q st
def ZFJ (lo a nrem : Nat) : StateT SortSt Sem AscSt :=
 forIn [a:nrem] ((none, a) : AscSt) fun _ __s => do
  let __x <- ltAt' (lo + __s.snd) (lo + __s.snd - 1)
  match __x with
  | some smaller => if smaller = true then pure (ForInStep.done (none, __s.snd)) else pure (ForInStep.yield (none, __s.snd + 1))
  | _ => pure (ForInStep.done (some none, __s.snd))
def ZDa (lo n nrem : Nat) : StateT SortSt Sem (Option Nat) := do
 reverseSlice' lo (lo + n)
 let __s <- ZFJ lo n nrem
 match __s.fst with
 | some r => pure r
 | none => pure (some __s.snd)
def ZEl (lo n nrem : Nat) : StateT SortSt Sem DescSt :=
 forIn [n:nrem] ((none, n, 0) : DescSt) fun _ __s => do
  let __x <- ltAt' (lo + __s.snd.fst) (lo + __s.snd.fst - 1)
  match __x with
  | some smaller =>
   if smaller = true then
    if __s.snd.snd > 0 then do
     reverseSlice' (lo + __s.snd.fst - (__s.snd.snd + 1)) (lo + __s.snd.fst)
     pure (ForInStep.yield (none, __s.snd.fst + 1, 0))
    else pure (ForInStep.yield (none, __s.snd.fst + 1, 0))
   else do
    let __x <- ltAt' (lo + __s.snd.fst - 1) (lo + __s.snd.fst)
    match __x with
    | some larger =>
     if larger = true then pure (ForInStep.done (none, __s.snd.fst, __s.snd.snd))
     else pure (ForInStep.yield (none, __s.snd.fst + 1, __s.snd.snd + 1))
    | _ => pure (ForInStep.done (some none, __s.snd.fst, __s.snd.snd))
  | _ => pure (ForInStep.done (some none, __s.snd.fst, __s.snd.snd))
def ZCU (lo n nrem : Nat) : StateT SortSt Sem (Option Nat) := do
 liftM (rule "list.sort.descending-run")
 let __s <- ZEl lo (n + 1) nrem
 match __s.fst with
 | some r => pure r
 | none =>
  if __s.snd.snd > 0 then do
   reverseSlice' (lo + __s.snd.fst - (__s.snd.snd + 1)) (lo + __s.snd.fst)
   ZDa lo __s.snd.fst nrem
  else ZDa lo __s.snd.fst nrem
theorem ZFK (lo nrem : Nat) : countRun' lo nrem = (do
  let __s <- ZFJ lo 1 nrem
  match __s.fst with
  | some r => pure r
  | none =>
   if (__s.snd == nrem) = true then pure (some __s.snd)
   else if __s.snd > 1 then do
    let __x <- ltAt' lo (lo + __s.snd - 1)
    match __x with
    | some rose => if rose = true then pure (some __s.snd) else do
      reverseSlice' lo (lo + __s.snd)
      ZCU lo __s.snd nrem
    | _ => pure none
   else ZCU lo __s.snd nrem) := by
 rw [countRun'_eq]
 unfold ZCU ZDa ZEl ZFJ
 refine congr (congrArg Bind.bind ?_) ?_
 ·rfl
 funext __s
 obtain ⟨r, n⟩ := __s
 cases r with
 | some r => rfl
 | none =>
  dsimp only
  split
  ·rfl
  ·split
   ·congr 1
    funext x
    cases x with
    | none => rfl
    | some rose =>
     dsimp only
     split
     ·rfl
     ·congr 1
      funext _r
      congr 1; funext _u; congr 1; congr 1; funext s2; obtain ⟨r2, n2, q2⟩ := s2
      cases r2 with
      | some r2 => rfl
      | none =>
       dsimp only
       split
       ·congr 1; funext _v; congr 1; funext _w; congr 1; funext s3; obtain ⟨r3, n3⟩ := s3; cases r3 <;> rfl
       ·congr 1; funext _w; congr 1; funext s3; obtain ⟨r3, n3⟩ := s3; cases r3 <;> rfl
   ·congr 1; funext _u; congr 1; congr 1; funext s2; obtain ⟨r2, n2, q2⟩ := s2
    cases r2 with
    | some r2 => rfl
    | none =>
     dsimp only
     split
     ·congr 1; funext _v; congr 1; funext _w; congr 1; funext s3; obtain ⟨r3, n3⟩ := s3; cases r3 <;> rfl
     ·congr 1; funext _w; congr 1; funext s3; obtain ⟨r3, n3⟩ := s3; cases r3 <;> rfl
section
variable {prog : Program} {w : World} {A : Around} {E : Value -> Shared -> Prop} {s : Shared} {kd : SortKind} {a₀ : Array Keyed} {C : Cmp}
theorem ZB4 (L : ZAP prog w A E s kd a₀ C) {st : SortSt} {i j : Nat} {Q : Option Bool -> SortSt -> Prop} (hB : TB kd a₀ st) (hi : i < a₀.size) (hj : j < a₀.size) (h : Q (some (C (G (arrOf st) i) (G (arrOf st) j))) st) : wpS (model prog w) A E s (ltAt' i j) Q st := by
 have e1 := ZC0 (xs := arrOf st) (i := i) (by rw [hB.size]; exact hi)
 have e2 := ZC0 (xs := arrOf st) (i := j) (by rw [hB.size]; exact hj)
 rw [ltAt'_eq]
 refine wpS_bind (wpS_get ?_)
 show wpS _ _ _ _ (do let x <- elem' (arrOf st) i; let y <- elem' (arrOf st) j; lt' x y) Q st
 rw [elem'_eq, elem'_eq, e1, e2]
 refine wpS_bind (wpS_pure (wpS_bind (wpS_pure ?_)))
 exact L _ (hB.mem hi) _ (hB.mem hj) st Q hB.kind h
theorem ZGA (O : Jm C a₀) (L : ZAP prog w A E s kd a₀ C) {st : SortSt} {lo a nrem : Nat} {Q : AscSt -> SortSt -> Prop} (hn : lo + nrem <= a₀.size) (ha : 1 <= a) (han : a <= nrem) (hB : TB kd a₀ st) (hs : Sg C (arrOf st) lo a)
  (h : ∀ n, a <= n -> n <= nrem -> Sg C (arrOf st) lo n -> (n = nrem \/ C (G (arrOf st) (lo + n)) (G (arrOf st) (lo + n - 1)) = true) -> Q (none, n) st) : wpS (model prog w) A E s (ZFJ lo a nrem) Q st := by
 unfold ZFJ
 refine wpS_forRange (I := fun x c st' => st' = st /\ c = (none, x) /\ Sg C (arrOf st) lo x) ?step ?fin ⟨rfl, rfl, hs⟩
 case fin =>
  rintro c st' ⟨rfl, rfl, hs'⟩
  rw [show max a nrem = nrem by omega] at hs' ⊢
  exact h nrem han (Ue _) hs' (.inl rfl)
 case step =>
  rintro x c st' hax hxn ⟨rfl, rfl, hs'⟩
  dsimp only
  refine wpS_bind (ZB4 L hB (by omega) (by omega) ?_)
  cases hless : C (G (arrOf st') (lo + x)) (G (arrOf st') (lo + x - 1))
  case true =>
   simp only [if_true]
   exact wpS_pure (h x hax (by omega) hs' (.inr hless))
  case false =>
   simp only [Uh, if_false]
   have hup := hB.tot O (i := lo + x) (j := lo + x - 1) (by omega) (by omega) (by omega) hless
   refine wpS_pure ⟨rfl, rfl, fun i j hij hj => ?_⟩
   by_cases hjx : j < x
   ·exact hs' i j hij hjx
   ·have hj' : j = x := by omega
    subst hj'
    by_cases hi' : i = j - 1
    ·rw [hi', show lo + (j - 1) = lo + j - 1 by omega]; exact hup
    ·have := hs' i (j - 1) (by omega) (by omega)
     rw [show lo + (j - 1) = lo + j - 1 by omega] at this
     exact hB.tr O (by omega) (by omega) (by omega) this hup
theorem ZC2 {xs : Array Keyed} {i j : Nat} (hj : j <= xs.size) (k : Nat) : G (mirror xs i j ((j - i) / 2)) k = if i <= k /\ k < j then G xs (i + j - 1 - k) else G xs k := by
 have := getElem?_mirror_all (i := i) hj k
 by_cases c : i <= k /\ k < j
 ·rw [if_pos c] at this ⊢; exact ZC1 this
 ·rw [if_neg c] at this ⊢; exact ZC1 this
def ZFL (C : Cmp) (xs : Array Keyed) (lo n : Nat) : Prop := ∀ i j, i < j -> j < n -> C (G xs (lo + j)) (G xs (lo + i)) = true
def Blw (lo : Nat) (xs ys : Array Keyed) : Prop := ∀ k, k < lo -> G xs k = G ys k
theorem ZJe (O : Jm C a₀) (L : ZAP prog w A E s kd a₀ C) {st : SortSt} {lo n nrem : Nat} {Q : Option Nat -> SortSt -> Prop} (hn : lo + nrem <= a₀.size) (h1 : 1 <= n) (hnn : n <= nrem) (hB : TB kd a₀ st) (hs : ZFL C (arrOf st) lo n)
  (h : ∀ m xs, TB kd a₀ (setArr st xs) -> Blw lo xs (arrOf st) -> 1 <= m -> m <= nrem -> Sg C xs lo m -> Q (some m) (setArr st xs)) : wpS (model prog w) A E s (ZDa lo n nrem) Q st := by
 unfold ZDa
 have hsz : lo + n <= (arrOf st).size := by rw [hB.size]; omega
 refine wpS_bind (wpS_reverse ?_)
 have hB' : TB kd a₀ (setArr st (mirror (arrOf st) lo (lo + n) ((lo + n - lo) / 2))) := hB.setArr (mirror_perm _ _ _ _)
 refine wpS_bind (ZGA O L hn h1 hnn hB' ?_ fun m hm1 hm2 hsm _ => wpS_pure (h m _ hB' (fun k hk => ?_) (by omega) hm2 hsm))
 ·intro i j hij hj
  show C (G (mirror (arrOf st) lo (lo + n) ((lo + n - lo) / 2)) (lo + i)) (G (mirror (arrOf st) lo (lo + n) ((lo + n - lo) / 2)) (lo + j)) = true
  rw [ZC2 hsz, ZC2 hsz, if_pos (by omega), if_pos (by omega)]
  have := hs (n - 1 - j) (n - 1 - i) (by omega) (by omega)
  rw [show lo + (n - 1 - i) = lo + (lo + n) - 1 - (lo + i) by omega, show lo + (n - 1 - j) = lo + (lo + n) - 1 - (lo + j) by omega] at this
  exact this
 ·rw [ZC2 hsz, if_neg (by omega)]
theorem ZJf (O : Jm C a₀) (L : ZAP prog w A E s kd a₀ C) {st : SortSt} {lo n nrem : Nat} {Q : DescSt -> SortSt -> Prop} (hn : lo + nrem <= a₀.size) (h1 : 1 <= n) (hnn : n <= nrem) (hB : TB kd a₀ st) (hs : ZFL C (arrOf st) lo n)
  (h : ∀ m, n <= m -> m <= nrem -> ZFL C (arrOf st) lo m -> Q (none, m, 0) st) : wpS (model prog w) A E s (ZEl lo n nrem) Q st := by
 unfold ZEl
 refine wpS_forRange (I := fun x c st' => st' = st /\ c = (none, x, 0) /\ ZFL C (arrOf st) lo x) ?step ?fin ⟨rfl, rfl, hs⟩
 case fin =>
  rintro c st' ⟨rfl, rfl, hs'⟩
  rw [show max n nrem = nrem by omega] at hs' ⊢
  exact h nrem hnn (Ue _) hs'
 case step =>
  rintro x c st' hax hxn ⟨rfl, rfl, hs'⟩
  dsimp only
  refine wpS_bind (ZB4 L hB (by omega) (by omega) ?_)
  cases hless : C (G (arrOf st') (lo + x)) (G (arrOf st') (lo + x - 1))
  case true =>
   simp only [if_true]
   rw [if_neg (by omega)]
   refine wpS_pure ⟨rfl, rfl, fun i j hij hj => ?_⟩
   by_cases hjx : j < x
   ·exact hs' i j hij hjx
   ·have hj' : j = x := by omega
    subst hj'
    by_cases hi' : i = j - 1
    ·rw [hi', show lo + (j - 1) = lo + j - 1 by omega]; exact hless
    ·have := hs' i (j - 1) (by omega) (by omega)
     rw [show lo + (j - 1) = lo + j - 1 by omega] at this
     exact hB.tr O (by omega) (by omega) (by omega) hless this
  case false =>
   simp only [Uh, if_false]
   refine wpS_bind (ZB4 L hB (by omega) (by omega) ?_)
   rw [hB.tot O (i := lo + x) (j := lo + x - 1) (by omega) (by omega) (by omega) hless]
   simp only [if_true]
   exact wpS_pure (h x hax (by omega) hs')
theorem ZHx (O : Jm C a₀) (L : ZAP prog w A E s kd a₀ C) {st : SortSt} {lo n nrem : Nat} {Q : Option Nat -> SortSt -> Prop} (hn : lo + nrem <= a₀.size) (hnn : n + 1 <= nrem) (hB : TB kd a₀ st) (hs : ZFL C (arrOf st) lo (n + 1))
  (h : ∀ m xs, TB kd a₀ (setArr st xs) -> Blw lo xs (arrOf st) -> 1 <= m -> m <= nrem -> Sg C xs lo m -> Q (some m) (setArr st xs)) : wpS (model prog w) A E s (ZCU lo n nrem) Q st := by
 unfold ZCU
 refine wpS_bind (wpS_lift (wpAny_rule ⟨rfl, ?_⟩))
 refine wpS_bind (ZJf O L hn (by omega) hnn hB hs fun m h1 h2 hm => ?_)
 dsimp only
 rw [if_neg (by omega)]
 exact ZJe O L hn (by omega) h2 hB hm h
theorem ZG6 (O : Jm C a₀) (L : ZAP prog w A E s kd a₀ C) {st : SortSt} {lo nrem : Nat} {Q : Option Nat -> SortSt -> Prop} (hn : lo + nrem <= a₀.size) (h1 : 1 <= nrem) (hB : TB kd a₀ st)
  (h : ∀ m xs, TB kd a₀ (setArr st xs) -> Blw lo xs (arrOf st) -> 1 <= m -> m <= nrem -> Sg C xs lo m -> Q (some m) (setArr st xs)) : wpS (model prog w) A E s (countRun' lo nrem) Q st := by
 rw [ZFK]
 have h0 : ∀ m, 1 <= m -> m <= nrem -> Sg C (arrOf st) lo m -> Q (some m) st := fun m g1 g2 g3 => h m (arrOf st) hB (fun _ _ => rfl) g1 g2 g3
 refine wpS_bind (ZGA O L hn (Ue _) h1 hB (fun i j hij hj => by omega) fun n hn1 hn2 hsn hend => ?_)
 dsimp only
 by_cases e : n = nrem
 ·rw [if_pos (by simpa using e)]
  exact wpS_pure (h0 n hn1 hn2 hsn)
 ·rw [if_neg (by simpa using e)]
  have hlt := hend.resolve_left e
  by_cases c : n > 1
  ·rw [if_pos c]
   refine wpS_bind (ZB4 L hB (by omega) (by omega) ?_)
   have := hsn 0 (n - 1) (by omega) (by omega)
   rw [show lo + 0 = lo by omega, show lo + (n - 1) = lo + n - 1 by omega] at this
   rw [this]
   simp only [if_true]
   exact wpS_pure (h0 n hn1 hn2 hsn)
  ·rw [if_neg c]
   obtain rfl : n = 1 := by omega
   refine ZHx O L hn (by omega) hB (fun i j hij hj => ?_) h
   obtain ⟨rfl, rfl⟩ : i = 0 /\ j = 1 := by omega
   exact hlt
theorem ZC3 {xs : Array Keyed} {src d : Nat} (hs : src < xs.size) (hd : d <= src) (k : Nat) : G (bubble xs src d) k = if k = src - d then G xs src else if src - d < k /\ k <= src then G xs (k - 1) else G xs k := by
 have := getElem?_bubble hs d hd k
 by_cases c : k = src - d
 ·rw [if_pos c] at this ⊢; exact ZC1 this
 ·rw [if_neg c] at this ⊢
  by_cases c2 : src - d < k /\ k <= src
  ·rw [if_pos c2] at this ⊢; exact ZC1 this
  ·rw [if_neg c2] at this ⊢; exact ZC1 this
theorem ZJg (O : Jm C a₀) (L : ZAP prog w A E s kd a₀ C) {st : SortSt} {lo n ok : Nat} {Q : Bool -> SortSt -> Prop} (hn : lo + n <= a₀.size) (h1 : 1 <= ok) (hok : ok <= n) (hB : TB kd a₀ st) (hs : Sg C (arrOf st) lo ok)
  (h : ∀ xs, TB kd a₀ (setArr st xs) -> Blw lo xs (arrOf st) -> Sg C xs lo n -> Q true (setArr st xs)) : wpS (model prog w) A E s (binarySort' lo n ok) Q st := by
 rw [binarySort'_eq]
 refine wpS_bind (wpS_mono (wpS_forRange (I := fun k c st' => c = (none, ()) /\ ∃ xs, st' = setArr st xs /\ TB kd a₀ st' /\ Blw lo xs (arrOf st) /\ Sg C xs lo (min k n))
  (Q := fun c st' => c = (none, ()) /\ ∃ xs, st' = setArr st xs /\ TB kd a₀ st' /\ Blw lo xs (arrOf st) /\ Sg C xs lo n) ?step ?fin ?init) ?post)
 case post =>
  rintro c st' ⟨rfl, xs, rfl, hB', hb, hs'⟩
  exact wpS_pure (h xs hB' hb hs')
 case init =>
  refine ⟨rfl, arrOf st, rfl, hB, fun _ _ => rfl, fun i j hij hj => hs i j hij (by omega)⟩
 case fin =>
  rintro c st' ⟨hc, xs, e, hB', hb, hs'⟩
  refine ⟨hc, xs, e, hB', hb, ?_⟩
  rwa [show min (max (max ok 1) n) n = n by omega] at hs'
 case step =>
  rintro k c st' hak hkn ⟨rfl, xs, rfl, hB', hb, hs'⟩
  rw [show min k n = k by omega] at hs'
  refine wpS_bind (wpS_mono (wpS_forRange (I := fun x c st'' => st'' = setArr st xs /\ ∃ l r, c = (none, l, r) /\ l <= r /\ r <= k /\ r - l <= k - x /\
    (∀ i, i < l -> C (G xs (lo + i)) (G xs (lo + k)) = true) /\ (∀ i, r <= i -> i < k -> C (G xs (lo + k)) (G xs (lo + i)) = true))
   (Q := fun c st'' => st'' = setArr st xs /\ ∃ l r, c = (none, l, r) /\ l <= k /\
    (∀ i, i < l -> C (G xs (lo + i)) (G xs (lo + k)) = true) /\ (∀ i, l <= i -> i < k -> C (G xs (lo + k)) (G xs (lo + i)) = true)) ?istep ?ifin ?iinit) ?ipost)
  case iinit => exact ⟨rfl, 0, k, rfl, by omega, by omega, by omega, fun i hi => by omega, fun i h1 h2 => by omega⟩
  case ifin =>
   rintro c st'' ⟨rfl, l, r, rfl, hlr, hrk, hm, hlo, hhi⟩
   have : l = r := by omega
   subst this
   exact ⟨rfl, l, l, rfl, hrk, hlo, hhi⟩
  case istep =>
   rintro x c st'' _ hxk ⟨rfl, l, r, rfl, hlr, hrk, hm, hlo, hhi⟩
   dsimp only
   by_cases hge : l >= r
   ·rw [if_pos hge]
    have : l = r := by omega
    subst this
    exact wpS_pure ⟨rfl, l, l, rfl, hrk, hlo, hhi⟩
   ·rw [if_neg hge]
    refine wpS_bind (ZB4 L hB' (by omega) (by omega) ?_)
    cases hless : C (G (arrOf (setArr st xs)) (lo + k)) (G (arrOf (setArr st xs)) (lo + (l + r) / 2))
    case true =>
     simp only [if_true]
     refine wpS_pure ⟨rfl, l, (l + r) / 2, rfl, by omega, by omega, by omega, hlo, fun i h1 h2 => ?_⟩
     by_cases e : i = (l + r) / 2
     ·rw [e]; exact hless
     ·exact hB'.tr O (i := lo + k) (j := lo + (l + r) / 2) (k := lo + i) (by omega) (by omega) (by omega) hless (hs' _ _ (by omega) h2)
    case false =>
     simp only [Uh, if_false]
     have hup := hB'.tot O (i := lo + k) (j := lo + (l + r) / 2) (by omega) (by omega) (by omega) hless
     refine wpS_pure ⟨rfl, (l + r) / 2 + 1, r, rfl, by omega, by omega, by omega, fun i hi => ?_, hhi⟩
     by_cases e : i = (l + r) / 2
     ·rw [e]; exact hup
     ·exact hB'.tr O (i := lo + i) (j := lo + (l + r) / 2) (k := lo + k) (by omega) (by omega) (by omega) (hs' _ _ (by omega) (by omega)) hup
  case ipost =>
   rintro c st'' ⟨rfl, l, r, rfl, hlk, hlo, hhi⟩
   dsimp only
   rw [moveDown'_eq]
   have hsz : lo + k < (arrOf (setArr st xs)).size := by rw [hB'.size]; omega
   have hd : lo + k - (lo + l) <= lo + k := by omega
   refine wpS_bind (wpS_modify (wpS_pure ⟨rfl, bubble xs (lo + k) (lo + k - (lo + l)), rfl, hB'.setArr (bubble_perm _ _ _), fun m hm => ?_, fun i j hij hj => ?_⟩))
   ·rw [ZC3 hsz hd, if_neg (by omega), if_neg (by omega)]
    exact hb m hm
   ·rw [show min (k + 1) n = k + 1 by omega] at hj
    rw [ZC3 hsz hd, ZC3 hsz hd, show lo + k - (lo + k - (lo + l)) = lo + l by omega]
    by_cases ci : i < l
    ·rw [if_neg (by omega), if_neg (by omega)]
     by_cases cj : j < l
     ·rw [if_neg (by omega), if_neg (by omega)]; exact hs' i j hij (by omega)
     ·by_cases cj2 : j = l
      ·rw [if_pos (by omega)]; exact hlo i ci
      ·rw [if_neg (by omega), if_pos (by omega), show lo + j - 1 = lo + (j - 1) by omega]
       exact hs' i (j - 1) (by omega) (by omega)
    ·by_cases ci2 : i = l
     ·rw [if_pos (by omega), if_neg (by omega), if_pos (by omega), show lo + j - 1 = lo + (j - 1) by omega]
      exact hhi (j - 1) (by omega) (by omega)
     ·rw [if_neg (by omega), if_pos (by omega), if_neg (by omega), if_pos (by omega), show lo + i - 1 = lo + (i - 1) by omega, show lo + j - 1 = lo + (j - 1) by omega]
      exact hs' (i - 1) (j - 1) (by omega) (by omega)
end
def ZBR : Bool -> Keyed -> Array Keyed -> Nat -> Nat -> Nat -> StateT SortSt Sem (Option Nat) := sortPriv% PySem.Builtin.gallop
def ZAq (left : Bool) (key : Keyed) (arr : Array Keyed) (base i : Nat) : StateT SortSt Sem (Option Bool) := do
 let x <- elem' arr (base + i)
 if left then lt' x key else return (<- lt' key x).map (!·)
def ZFM (left : Bool) (key : Keyed) (arr : Array Keyed) (base n hint : Nat) : StateT SortSt Sem (Option (Option Nat) × Nat × Nat) :=
 forIn [0:n] ((none, 0, 1) : Option (Option Nat) × Nat × Nat) fun _ s =>
  if s.2.2 >= n - hint then pure (ForInStep.done (none, s.2.1, s.2.2)) else do
   let x <- ZAq left key arr base (hint + s.2.2)
   match x with
   | some more => if (!more) = true then pure (ForInStep.done (none, s.2.1, s.2.2)) else pure (ForInStep.yield (none, s.2.2, 2 * s.2.2 + 1))
   | _ => pure (ForInStep.done (some none, s.2.1, s.2.2))
def ZFN (left : Bool) (key : Keyed) (arr : Array Keyed) (base n hint : Nat) : StateT SortSt Sem (Option (Option Nat) × Nat × Nat) :=
 forIn [0:n] ((none, 0, 1) : Option (Option Nat) × Nat × Nat) fun _ s =>
  if s.2.2 >= hint + 1 then pure (ForInStep.done (none, s.2.1, s.2.2)) else do
   let x <- ZAq left key arr base (hint - s.2.2)
   match x with
   | some found => if found = true then pure (ForInStep.done (none, s.2.1, s.2.2)) else pure (ForInStep.yield (none, s.2.2, 2 * s.2.2 + 1))
   | _ => pure (ForInStep.done (some none, s.2.1, s.2.2))
def ZDb (left : Bool) (key : Keyed) (arr : Array Keyed) (base n lo hi : Nat) : StateT SortSt Sem (Option (Option Nat) × Nat × Nat) :=
 forIn [0:n] ((none, lo, hi) : Option (Option Nat) × Nat × Nat) fun _ s =>
  if s.2.1 >= s.2.2 then pure (ForInStep.done (none, s.2.1, s.2.2)) else do
   let x <- ZAq left key arr base (s.2.1 + (s.2.2 - s.2.1) / 2)
   match x with
   | some more => if more = true then pure (ForInStep.yield (none, s.2.1 + (s.2.2 - s.2.1) / 2 + 1, s.2.2)) else pure (ForInStep.yield (none, s.2.1, s.2.1 + (s.2.2 - s.2.1) / 2))
   | _ => pure (ForInStep.done (some none, s.2.1, s.2.2))
def ZDv (left : Bool) (key : Keyed) (arr : Array Keyed) (base n lo hi : Nat) : StateT SortSt Sem (Option Nat) := do
 let s <- ZDb left key arr base n lo hi
 match s.1 with
 | some r => pure r
 | none => pure (some s.2.2)
theorem ZG7 (left : Bool) (key : Keyed) (arr : Array Keyed) (base n hint : Nat) : ZBR left key arr base n hint = (do
 let x <- ZAq left key arr base hint
 match x with
 | some right =>
  if right = true then do
   let s <- ZFM left key arr base n hint
   match s.1 with
   | some r => pure r
   | none => ZDv left key arr base n (hint + s.2.1 + 1) (hint + min s.2.2 (n - hint))
  else do
   let s <- ZFN left key arr base n hint
   match s.1 with
   | some r => pure r
   | none => ZDv left key arr base n (hint + 1 - min s.2.2 (hint + 1)) (hint - s.2.1)
 | _ => pure none) := by
 refine congrArg (Bind.bind (ZAq left key arr base hint)) (funext fun x => ?_)
 cases x with
 | none => rfl
 | some right =>
  dsimp only
  cases right with
  | true =>
   rw [if_pos rfl, if_pos rfl]
   unfold ZFM
   refine congrArg (Bind.bind _) (funext fun s => ?_)
   obtain ⟨r, l, o⟩ := s
   cases r with
   | some r => rfl
   | none =>
    dsimp only
    unfold ZDv ZDb
    refine congrArg (Bind.bind _) (funext fun s => ?_)
    obtain ⟨r, l, o⟩ := s
    cases r <;> rfl
  | false =>
   rw [if_neg (by decide), if_neg (by decide)]
   unfold ZFN
   refine congrArg (Bind.bind _) (funext fun s => ?_)
   obtain ⟨r, l, o⟩ := s
   cases r with
   | some r => rfl
   | none =>
    dsimp only
    unfold ZDv ZDb
    refine congrArg (Bind.bind _) (funext fun s => ?_)
    obtain ⟨r, l, o⟩ := s
    cases r <;> rfl
section
variable {prog : Program} {w : World} {A : Around} {E : Value -> Shared -> Prop} {s : Shared} {kd : SortKind} {st : SortSt} {left : Bool} {key : Keyed} {arr : Array Keyed} {base n : Nat} {P : Nat -> Bool}
def ZG8 (prog : Program) (w : World) (A : Around) (E : Value -> Shared -> Prop) (s : Shared) (st : SortSt) (left : Bool) (key : Keyed) (arr : Array Keyed) (base n : Nat) (P : Nat -> Bool) : Prop := ∀ i, i < n -> ∀ (Q : Option Bool -> SortSt -> Prop), Q (some (P i)) st -> wpS (model prog w) A E s (ZAq left key arr base i) Q st
theorem ZFO {lo hi : Nat} {Q : Option Nat -> SortSt -> Prop} (B : ZG8 prog w A E s st left key arr base n P) (mono : ∀ i j, i <= j -> j < n -> P j = true -> P i = true) (hlh : lo <= hi) (hn : hi <= n) (h1 : ∀ i, i < lo -> P i = true) (h2 : ∀ i, hi <= i -> i < n -> P i = false)
  (h : ∀ r, r <= n -> (∀ i, i < r -> P i = true) -> (∀ i, r <= i -> i < n -> P i = false) -> Q (some r) st) : wpS (model prog w) A E s (ZDv left key arr base n lo hi) Q st := by
 unfold ZDv ZDb
 refine wpS_bind (wpS_mono (wpS_forRange (I := fun x c st' => st' = st /\ ∃ l r, c = (none, l, r) /\ l <= r /\ r <= n /\ r - l <= n - x /\ (∀ i, i < l -> P i = true) /\ (∀ i, r <= i -> i < n -> P i = false))
  (Q := fun c st' => st' = st /\ ∃ r, c = (none, r, r) /\ r <= n /\ (∀ i, i < r -> P i = true) /\ (∀ i, r <= i -> i < n -> P i = false)) ?step ?fin ⟨rfl, lo, hi, rfl, hlh, hn, by omega, h1, h2⟩) ?post)
 case post =>
  rintro c st' ⟨rfl, r, rfl, hr, g1, g2⟩
  exact wpS_pure (h r hr g1 g2)
 case fin =>
  rintro c st' ⟨rfl, l, r, rfl, hlr, hr, hm, g1, g2⟩
  obtain rfl : l = r := by omega
  exact ⟨rfl, l, rfl, hr, g1, g2⟩
 case step =>
  rintro x c st' _ hx ⟨rfl, l, r, rfl, hlr, hr, hm, g1, g2⟩
  dsimp only
  by_cases c : l >= r
  ·rw [if_pos c]
   obtain rfl : l = r := by omega
   exact wpS_pure ⟨rfl, l, rfl, hr, g1, g2⟩
  ·rw [if_neg c]
   refine wpS_bind (B _ (by omega) _ ?_)
   cases hp : P (l + (r - l) / 2)
   case true =>
    simp only [if_true]
    refine wpS_pure ⟨rfl, _, _, rfl, by omega, by omega, by omega, fun i hi => ?_, g2⟩
    exact mono i _ (by omega) (by omega) hp
   case false =>
    simp only [Uh, if_false]
    refine wpS_pure ⟨rfl, _, _, rfl, by omega, by omega, by omega, g1, fun i hi hin => ?_⟩
    cases hpi : P i with
    | false => rfl
    | true => rw [mono _ i hi hin hpi] at hp; cases hp
theorem ZBS {hint : Nat} {Q : Option Nat -> SortSt -> Prop} (B : ZG8 prog w A E s st left key arr base n P) (mono : ∀ i j, i <= j -> j < n -> P j = true -> P i = true) (hh : hint < n)
  (h : ∀ r, r <= n -> (∀ i, i < r -> P i = true) -> (∀ i, r <= i -> i < n -> P i = false) -> Q (some r) st) : wpS (model prog w) A E s (ZBR left key arr base n hint) Q st := by
 rw [ZG7]
 have fls : ∀ {j}, P j = false -> ∀ i, j <= i -> i < n -> P i = false := fun {j} hj i hji hin => by
  cases hpi : P i with
  | false => rfl
  | true => rw [mono _ i hji hin hpi] at hj; cases hj
 refine wpS_bind (B _ hh _ ?_)
 cases hp : P hint
 case true =>
  dsimp only
  rw [if_pos rfl]
  unfold ZFM
  refine wpS_bind (wpS_mono (wpS_forRange (I := fun x c st' => st' = st /\ ∃ l o, c = (none, l, o) /\ l < o /\ hint + l < n /\ x + 1 <= o /\ P (hint + l) = true)
   (Q := fun c st' => st' = st /\ ∃ l o, c = (none, l, o) /\ l < o /\ hint + l < n /\ P (hint + l) = true /\ (n - hint <= o \/ (hint + o < n /\ P (hint + o) = false))) ?step ?fin ⟨rfl, 0, 1, rfl, by omega, by omega, by omega, hp⟩) ?post)
  case post =>
   rintro c st' ⟨rfl, l, o, rfl, hlo, hl, hpl, hend⟩
   dsimp only
   refine ZFO B mono (by omega) (by omega) (fun i hi => mono i _ (by omega) hl hpl) (fun i hi hin => ?_) h
   rcases hend with he | ⟨he1, he2⟩
   ·omega
   ·exact fls he2 i (by omega) hin
  case fin =>
   rintro c st' ⟨rfl, l, o, rfl, hlo, hl, hx, hpl⟩
   exact ⟨rfl, l, o, rfl, hlo, hl, hpl, .inl (by omega)⟩
  case step =>
   rintro x c st' _ hx ⟨rfl, l, o, rfl, hlo, hl, hxo, hpl⟩
   dsimp only
   by_cases c : o >= n - hint
   ·rw [if_pos c]
    exact wpS_pure ⟨rfl, l, o, rfl, hlo, hl, hpl, .inl c⟩
   ·rw [if_neg c]
    refine wpS_bind (B _ (by omega) _ ?_)
    cases hpo : P (hint + o)
    case true =>
     simp only [Vb, Uh, if_false]
     exact wpS_pure ⟨rfl, o, _, rfl, by omega, by omega, by omega, hpo⟩
    case false =>
     simp only [Bool.not_false, if_true]
     exact wpS_pure ⟨rfl, l, o, rfl, hlo, hl, hpl, .inr ⟨by omega, hpo⟩⟩
 case false =>
  dsimp only
  rw [if_neg (by decide)]
  unfold ZFN
  refine wpS_bind (wpS_mono (wpS_forRange (I := fun x c st' => st' = st /\ ∃ l o, c = (none, l, o) /\ l < o /\ l <= hint /\ x + 1 <= o /\ P (hint - l) = false)
   (Q := fun c st' => st' = st /\ ∃ l o, c = (none, l, o) /\ l < o /\ l <= hint /\ P (hint - l) = false /\ (hint + 1 <= o \/ (o <= hint /\ P (hint - o) = true))) ?step ?fin ⟨rfl, 0, 1, rfl, by omega, by omega, by omega, hp⟩) ?post)
  case post =>
   rintro c st' ⟨rfl, l, o, rfl, hlo, hl, hpl, hend⟩
   dsimp only
   refine ZFO B mono (by omega) (by omega) (fun i hi => ?_) (fun i hi hin => fls hpl i (by omega) hin) h
   rcases hend with he | ⟨he1, he2⟩
   ·omega
   ·exact mono i _ (by omega) (by omega) he2
  case fin =>
   rintro c st' ⟨rfl, l, o, rfl, hlo, hl, hx, hpl⟩
   exact ⟨rfl, l, o, rfl, hlo, hl, hpl, .inl (by omega)⟩
  case step =>
   rintro x c st' _ hx ⟨rfl, l, o, rfl, hlo, hl, hxo, hpl⟩
   dsimp only
   by_cases c : o >= hint + 1
   ·rw [if_pos c]
    exact wpS_pure ⟨rfl, l, o, rfl, hlo, hl, hpl, .inl c⟩
   ·rw [if_neg c]
    refine wpS_bind (B _ (by omega) _ ?_)
    cases hpo : P (hint - o)
    case true =>
     simp only [if_true]
     exact wpS_pure ⟨rfl, l, o, rfl, hlo, hl, hpl, .inr ⟨by omega, hpo⟩⟩
    case false =>
     simp only [Uh, if_false]
     exact wpS_pure ⟨rfl, o, _, rfl, by omega, by omega, by omega, hpo⟩
end
def ZCi : Nat -> StateT SortSt Sem Unit := sortPriv% PySem.Builtin.setMinGallop
abbrev JS (st : SortSt) (g : Nat) : SortSt := SortSt.mk' (kindOf st) (arrOf st) (pendingOf st) g (failedOf st)
theorem ZCF (g : Nat) : ZCi g = modify fun s => JS s g := rfl
theorem ZDc {prog : Program} {w : World} {A : Around} {E : Value -> Shared -> Prop} {s : Shared} {st : SortSt} {g : Nat} {Q : Unit -> SortSt -> Prop} (h : Q () (JS st g)) : wpS (model prog w) A E s (ZCi g) Q st := by rw [ZCF]; exact wpS_modify h
def ZJh : Array Keyed -> Array Keyed -> StateT SortSt Sem (Array Keyed) := sortPriv% PySem.Builtin.mergeLo
def MI (C : Cmp) (la lb o : List Keyed) (ia ib : Nat) : Prop := o.Perm (la.take ia ++ lb.take ib) /\ o.Pairwise (fun x y => C x y = true) /\ ∀ x ∈ o, (∀ y ∈ la.drop ia, C x y = true) /\ ∀ y ∈ lb.drop ib, C x y = true
section
variable {C : Cmp} {la lb o : List Keyed} {ia ib : Nat}
theorem MI.symm (h : MI C la lb o ia ib) : MI C lb la o ib ia := ⟨h.1.trans List.perm_append_comm, h.2.1, fun x hx => ⟨(h.2.2 x hx).2, (h.2.2 x hx).1⟩⟩
theorem MI.seg (h : MI C la lb o ia ib) (sa : la.Pairwise fun x y => C x y = true) {k : Nat} (hc : ∀ x ∈ (la.drop ia).take k, ∀ y ∈ lb.drop ib, C x y = true) : MI C la lb (o ++ (la.drop ia).take k) (ia + k) ib := by
 have e : la.take (ia + k) = la.take ia ++ (la.drop ia).take k := by rw [List.take_add]
 have ed : la.drop ia = (la.drop ia).take k ++ la.drop (ia + k) := by rw [<- List.drop_drop, List.take_append_drop]
 have sd : (la.drop ia).Pairwise fun x y => C x y = true := sa.sublist (List.drop_sublist _ _)
 have sd2 := sd
 rw [ed, List.pairwise_append] at sd2
 refine ⟨?_, ?_, fun x hx => ?_⟩
 ·rw [e]
  refine (h.1.append_right _).trans ?_
  rw [UX, UX]
  exact List.Perm.append_left _ List.perm_append_comm
 ·rw [List.pairwise_append]
  exact ⟨h.2.1, sd2.1, fun x hx y hy => (h.2.2 x hx).1 y (List.mem_of_mem_take hy)⟩
 ·rcases Va.mp hx with hx | hx
  ·exact ⟨fun y hy => (h.2.2 x hx).1 y (by rw [ed]; exact Uo _ hy), (h.2.2 x hx).2⟩
  ·exact ⟨fun y hy => sd2.2.2 x hx y hy, hc x hx⟩
theorem MI.doneB (h : MI C la lb o ia lb.length) (sa : la.Pairwise fun x y => C x y = true) : (o ++ la.drop ia).Perm (la ++ lb) /\ (o ++ la.drop ia).Pairwise fun x y => C x y = true := by
 have := h.seg sa (k := (la.drop ia).length) (fun x _ y hy => by rw [List.drop_length] at hy; cases hy)
 rw [UG] at this
 refine ⟨?_, this.2.1⟩
 have h1 := this.1
 rw [UG, Vr] at h1
 by_cases c : ia <= la.length
 ·rw [show ia + (la.length - ia) = la.length by omega, UG] at h1
  exact h1
 ·rw [Vn (by omega)] at h1
  exact h1
theorem MI.lastA (O : ∀ x y z, C x y = true -> C y z = true -> C x z = true) (h : MI C la lb o ia ib) (sb : lb.Pairwise fun x y => C x y = true) (sa : la.Pairwise fun x y => C x y = true) (hl : ∀ y ∈ lb, ∀ x ∈ la.drop ia, C y x = true) : (o ++ lb.drop ib ++ la.drop ia).Perm (la ++ lb) /\ (o ++ lb.drop ib ++ la.drop ia).Pairwise fun x y => C x y = true := by
 have h1 := h.symm.seg sb (k := (lb.drop ib).length) (fun x hx y hy => hl x (List.mem_of_mem_drop (List.mem_of_mem_take hx)) y hy)
 rw [UG, Vr] at h1
 have h2 : MI C lb la (o ++ lb.drop ib) lb.length ia := by
  by_cases c : ib <= lb.length
  ·rw [show ib + (lb.length - ib) = lb.length by omega] at h1
   exact h1
  ·refine ⟨?_, h1.2.1, fun x hx => ⟨(fun y hy => by rw [List.drop_length] at hy; cases hy), (h1.2.2 x hx).2⟩⟩
   have := h1.1
   rw [Vn (by omega)] at this
   rw [UG]
   exact this
 have h3 := h2.symm.doneB sa
 exact h3
end
theorem ZHy {xs : Array Keyed} {i : Nat} (h : i < xs.size) : xs.toList.drop i = G xs i :: xs.toList.drop (i + 1) := by
 have h' : i < xs.toList.length := by rw [Ui]; exact h
 rw [Vq h']
 congr 1
 simp [G, Array.getD, h]
theorem ZCG {xs : Array Keyed} {i : Nat} (h : i < xs.size) : (xs.toList.drop i).take 1 = [G xs i] := by rw [ZHy h]; rfl
theorem ZBe {xs : Array Keyed} {i : Nat} {x : Keyed} (h : x ∈ xs.toList.drop i) : ∃ j, i <= j /\ j < xs.size /\ x = G xs j := by
 obtain ⟨k, hk, e⟩ := UV h
 rw [Vr, Ui] at hk
 refine ⟨i + k, by omega, by omega, ?_⟩
 rw [<- e]
 simp [G, Array.getD, show i + k < xs.size by omega]
theorem ZDd {xs : Array Keyed} {i k : Nat} {x : Keyed} (h : x ∈ (xs.toList.drop i).take k) : ∃ j, j < k /\ i + j < xs.size /\ x = G xs (i + j) := by
 obtain ⟨j, hj, e⟩ := UV h
 rw [UI, Vr, Ui] at hj
 refine ⟨j, by omega, by omega, ?_⟩
 rw [<- e]
 simp [G, Array.getD, show i + j < xs.size by omega]
theorem J0 {xs : Array Keyed} {i : Nat} (h : i < xs.size) : G xs i ∈ xs.toList := by
 have := ZC0 h
 exact Vl.mpr (Array.mem_of_getElem? this)
theorem ZBw {C : Cmp} {xs : Array Keyed} (h : xs.toList.Pairwise fun x y => C x y = true) {i j : Nat} (hij : i < j) (hj : j < xs.size) : C (G xs i) (G xs j) = true := by
 have := UO.mp h i j (by rw [Ui]; omega) (by rw [Ui]; omega) hij
 simpa [G, Array.getD, hj, show i < xs.size by omega] using this
structure MP (C : Cmp) (a₀ a b : Array Keyed) : Prop where
 ma : ∀ x ∈ a.toList, x ∈ a₀.toList
 mb : ∀ x ∈ b.toList, x ∈ a₀.toList
 ne : ∀ x ∈ a.toList, ∀ y ∈ b.toList, x ≠ y
 sa : a.toList.Pairwise fun x y => C x y = true
 sb : b.toList.Pairwise fun x y => C x y = true
 a1 : 1 <= a.size
 b1 : 1 <= b.size
 h0 : C (G b 0) (G a 0) = true
 hl : C (G b (b.size - 1)) (G a (a.size - 1)) = true
def MOk (C : Cmp) (a b r : Array Keyed) : Prop := r.toList.Perm (a.toList ++ b.toList) /\ r.toList.Pairwise fun x y => C x y = true
section
variable {prog : Program} {w : World} {A : Around} {E : Value -> Shared -> Prop} {s : Shared} {kd : SortKind} {a₀ a b : Array Keyed} {C : Cmp} {st : SortSt}
theorem MP.last (O : Jm C a₀) (M : MP C a₀ a b) {j : Nat} (hj : j < b.size) : C (G b j) (G a (a.size - 1)) = true := by
 by_cases c : j = b.size - 1
 ·rw [c]; exact M.hl
 ·exact O.tr _ _ _ (ZBw M.sb (by omega) (by omega)) M.hl
theorem ZJi (L : ZAP prog w A E s kd a₀ C) (hk : kindOf st = kd) {key : Keyed} {arr : Array Keyed} {base n : Nat} (hkey : key ∈ a₀.toList) (harr : ∀ x ∈ arr.toList, x ∈ a₀.toList) (hn : base + n <= arr.size) : ZG8 prog w A E s st false key arr base n (fun i => !C key (G arr (base + i))) := fun i hi Q h => by
 unfold ZAq
 rw [elem'_eq, ZC0 (xs := arr) (i := base + i) (by omega)]
 refine wpS_bind (wpS_pure ?_)
 simp only [Uh, if_false]
 refine wpS_bind (L _ hkey _ (harr _ (J0 (by omega))) st _ hk ?_)
 exact wpS_pure h
theorem ZJj (L : ZAP prog w A E s kd a₀ C) (hk : kindOf st = kd) {key : Keyed} {arr : Array Keyed} {base n : Nat} (hkey : key ∈ a₀.toList) (harr : ∀ x ∈ arr.toList, x ∈ a₀.toList) (hn : base + n <= arr.size) : ZG8 prog w A E s st true key arr base n (fun i => C (G arr (base + i)) key) := fun i hi Q h => by
 unfold ZAq
 rw [elem'_eq, ZC0 (xs := arr) (i := base + i) (by omega)]
 refine wpS_bind (wpS_pure ?_)
 simp only [if_true]
 exact L _ (harr _ (J0 (by omega))) _ hkey st _ hk h
theorem ZHz (O : Jm C a₀) {key : Keyed} {arr : Array Keyed} {base n : Nat} (sa : arr.toList.Pairwise fun x y => C x y = true) (hn : base + n <= arr.size) : ∀ i j, i <= j -> j < n -> (!C key (G arr (base + j))) = true -> (!C key (G arr (base + i))) = true := fun i j hij hj h => by
 rw [Bool.not_eq_true'] at h ⊢
 by_cases e : i = j
 ·rw [e]; exact h
 ·cases hc : C key (G arr (base + i)) with
  | false => rfl
  | true => rw [O.tr _ _ _ hc (ZBw sa (show base + i < base + j by omega) (by omega))] at h; cases h
theorem ZH0 (O : Jm C a₀) {key : Keyed} {arr : Array Keyed} {base n : Nat} (sa : arr.toList.Pairwise fun x y => C x y = true) (hn : base + n <= arr.size) : ∀ i j, i <= j -> j < n -> C (G arr (base + j)) key = true -> C (G arr (base + i)) key = true := fun i j hij hj h => by
 by_cases e : i = j
 ·rw [e]; exact h
 ·exact O.tr _ _ _ (ZBw sa (show base + i < base + j by omega) (by omega)) h
theorem Jj {arr : Array Keyed} {i : Nat} {Q : Keyed -> SortSt -> Prop} (hi : i < arr.size) (h : Q (G arr i) st) : wpS (model prog w) A E s (elem' arr i) Q st := by
 rw [elem'_eq, ZC0 hi]
 exact wpS_pure h
theorem MI.pushB (O : Jm C a₀) (M : MP C a₀ a b) {o : List Keyed} {ia ib : Nat} (h : MI C a.toList b.toList o ia ib) (ha : ia < a.size) (hb : ib < b.size) (hc : C (G b ib) (G a ia) = true) : MI C a.toList b.toList (o ++ [G b ib]) ia (ib + 1) := by
 have := h.symm.seg M.sb (k := 1) fun x hx y hy => by
  rw [ZCG hb] at hx
  rw [UK.mp hx]
  obtain ⟨j, hj, hj2, rfl⟩ := ZBe hy
  by_cases e : j = ia
  ·rw [e]; exact hc
  ·exact O.tr _ _ _ hc (ZBw M.sa (by omega) hj2)
 rw [ZCG hb] at this
 exact this.symm
theorem MI.pushA (O : Jm C a₀) (M : MP C a₀ a b) {o : List Keyed} {ia ib : Nat} (h : MI C a.toList b.toList o ia ib) (ha : ia < a.size) (hb : ib < b.size) (hc : C (G b ib) (G a ia) = false) : MI C a.toList b.toList (o ++ [G a ia]) (ia + 1) ib := by
 have hab : C (G a ia) (G b ib) = true := O.tot _ (M.mb _ (J0 hb)) _ (M.ma _ (J0 ha)) (fun e => M.ne _ (J0 ha) _ (J0 hb) e.symm) hc
 have := h.seg M.sa (k := 1) fun x hx y hy => by
  rw [ZCG ha] at hx
  rw [UK.mp hx]
  obtain ⟨j, hj, hj2, rfl⟩ := ZBe hy
  by_cases e : j = ib
  ·rw [e]; exact hab
  ·exact O.tr _ _ _ hab (ZBw M.sb (by omega) hj2)
 rw [ZCG ha] at this
 exact this
theorem Jr (xs : Array Keyed) (i j : Nat) : (xs.extract i j).toList = (xs.toList.drop i).take (j - i) := by rw [Array.toList_extract]
theorem ZAA (xs : Array Keyed) (i : Nat) : (xs.extract i xs.size).toList = xs.toList.drop i := by
 rw [Jr, Vn (by rw [Vr, Ui]; exact Ue _)]
theorem ZBf (M : MP C a₀ a b) {out : Array Keyed} {ia ib : Nat} (h : MI C a.toList b.toList out.toList ia ib) (hb : ib = b.size) : MOk C a b (out ++ a.extract ia a.size ++ b.extract ib b.size) := by
 unfold MOk
 rw [Uy, Uy, ZAA, ZAA, hb, <- Ui, List.drop_length, UL]
 rw [hb, <- Ui] at h
 exact h.doneB M.sa
theorem ZBg (O : Jm C a₀) (M : MP C a₀ a b) {out : Array Keyed} {ia ib : Nat} (h : MI C a.toList b.toList out.toList ia ib) (ha : ia + 1 = a.size) : MOk C a b (out ++ b.extract ib b.size ++ a.extract ia a.size) := by
 unfold MOk
 rw [Uy, Uy, ZAA, ZAA]
 refine h.lastA O.tr M.sb M.sa fun y hy x hx => ?_
 obtain ⟨j, hj, hj2, rfl⟩ := ZBe hx
 obtain ⟨i, _, hi, rfl⟩ := ZBe (i := 0) (x := y) (xs := b) (by simpa using hy)
 rw [show j = a.size - 1 by omega]
 exact M.last O hi
abbrev MSt := Option (Array Keyed) × Array Keyed × Nat × Nat × Nat × Nat × Nat
def gl3 (a b out : Array Keyed) (ia ib mg k k1 : Nat) : StateT SortSt Sem (ForInStep MSt) := do
 let x <- elem' a ia
 if (ia + 1 + 1 == a.size) = true then pure (.done (some (out.push x ++ b.extract ib b.size ++ a.extract (ia + 1) a.size), out.push x, ia + 1, ib, mg, k, k1))
 else if (decide (k < 7) && decide (k1 < 7)) = true then pure (.done (none, out.push x, ia + 1, ib, mg, k, k1))
 else pure (.yield (none, out.push x, ia + 1, ib, mg, k, k1))
def gl2 (a b out : Array Keyed) (ia ib mg k bc : Nat) : StateT SortSt Sem (ForInStep MSt) := do
 let y <- elem' b ib
 if (ib + 1 == b.size) = true then pure (.done (some (out.push y ++ a.extract ia a.size ++ b.extract (ib + 1) b.size), out.push y, ia, ib + 1, mg, k, bc))
 else do
  let z <- elem' a ia
  let x <- ZBR true z b (ib + 1) (b.size - (ib + 1)) 0
  match x with
  | some k1 =>
   if k1 > 0 then
    if (ib + 1 + k1 == b.size) = true then pure (.done (some (out.push y ++ b.extract (ib + 1) (ib + 1 + k1) ++ a.extract ia a.size ++ b.extract (ib + 1 + k1) b.size), out.push y ++ b.extract (ib + 1) (ib + 1 + k1), ia, ib + 1 + k1, mg, k, k1))
    else gl3 a b (out.push y ++ b.extract (ib + 1) (ib + 1 + k1)) ia (ib + 1 + k1) mg k k1
   else gl3 a b (out.push y) ia (ib + 1) mg k k1
  | x => pure (.done (some (out.push y ++ a.extract ia a.size ++ b.extract (ib + 1) b.size), out.push y, ia, ib + 1, mg, k, bc))
def gl1 (a b out : Array Keyed) (ia ib mg bc ac : Nat) : StateT SortSt Sem (ForInStep MSt) := do
 ZCi mg
 let y <- elem' b ib
 let x <- ZBR false y a ia (a.size - ia) 0
 match x with
 | some k =>
  if k > 0 then
   if (ia + k + 1 == a.size) = true then pure (.done (some (out ++ a.extract ia (ia + k) ++ b.extract ib b.size ++ a.extract (ia + k) a.size), out ++ a.extract ia (ia + k), ia + k, ib, mg, k, bc))
   else if (ia + k == a.size) = true then pure (.done (some (out ++ a.extract ia (ia + k) ++ a.extract (ia + k) a.size ++ b.extract ib b.size), out ++ a.extract ia (ia + k), ia + k, ib, mg, k, bc))
   else gl2 a b (out ++ a.extract ia (ia + k)) (ia + k) ib mg k bc
  else gl2 a b out ia ib mg k bc
 | x => pure (.done (some (out ++ a.extract ia a.size ++ b.extract ib b.size), out, ia, ib, mg, ac, bc))
theorem ZGB (O : Jm C a₀) (M : MP C a₀ a b) {T : ForInStep MSt -> SortSt -> Prop} {lo : Nat} (hd : ∀ r c, MOk C a b r -> T (.done (some r, c)) st)
  (hn : ∀ out ia ib mg k k1, MI C a.toList b.toList out.toList ia ib -> ia + 1 < a.size -> ib < b.size -> lo <= ia + ib -> T (.done (none, out, ia, ib, mg, k, k1)) st /\ T (.yield (none, out, ia, ib, mg, k, k1)) st)
  {out : Array Keyed} {ia ib mg k k1 : Nat} (hI : MI C a.toList b.toList out.toList ia ib) (h1 : ia + 1 < a.size) (h2 : ib < b.size) (h3 : lo <= ia + ib) (hc : C (G b ib) (G a ia) = false) : wpS (model prog w) A E s (gl3 a b out ia ib mg k k1) T st := by
 unfold gl3
 refine wpS_bind (Jj (by omega) ?_)
 have hI3 : MI C a.toList b.toList (out.push (G a ia)).toList (ia + 1) ib := by rw [Ve]; exact hI.pushA O M (by omega) h2 hc
 by_cases d1 : (ia + 1 + 1 == a.size) = true
 ·rw [if_pos d1]
  exact wpS_pure (hd _ _ (ZBg O M hI3 (by simpa using d1)))
 ·rw [if_neg d1]
  have d1' : ia + 1 + 1 < a.size := by simp at d1; omega
  have := hn _ _ _ mg k k1 hI3 d1' h2 (by omega)
  split
  ·exact wpS_pure this.1
  ·exact wpS_pure this.2
theorem ZGC (O : Jm C a₀) (L : ZAP prog w A E s kd a₀ C) (M : MP C a₀ a b) (hk : kindOf st = kd) {T : ForInStep MSt -> SortSt -> Prop} {lo : Nat} (hd : ∀ r c, MOk C a b r -> T (.done (some r, c)) st)
  (hn : ∀ out ia ib mg k k1, MI C a.toList b.toList out.toList ia ib -> ia + 1 < a.size -> ib < b.size -> lo <= ia + ib -> T (.done (none, out, ia, ib, mg, k, k1)) st /\ T (.yield (none, out, ia, ib, mg, k, k1)) st)
  {out : Array Keyed} {ia ib mg k bc : Nat} (hI : MI C a.toList b.toList out.toList ia ib) (h1 : ia + 1 < a.size) (h2 : ib < b.size) (h3 : lo <= ia + ib) (hc : C (G b ib) (G a ia) = true) : wpS (model prog w) A E s (gl2 a b out ia ib mg k bc) T st := by
 unfold gl2
 refine wpS_bind (Jj h2 ?_)
 have hI2 : MI C a.toList b.toList (out.push (G b ib)).toList ia (ib + 1) := by rw [Ve]; exact hI.pushB O M (by omega) h2 hc
 by_cases d1 : (ib + 1 == b.size) = true
 ·rw [if_pos d1]
  exact wpS_pure (hd _ _ (ZBf M hI2 (by simpa using d1)))
 rw [if_neg d1]
 have d1' : ib + 1 < b.size := by simp at d1; omega
 refine wpS_bind (Jj (by omega) (wpS_bind (ZBS (ZJj L hk (M.ma _ (J0 (by omega))) M.mb (by omega)) (ZH0 O M.sb (by omega)) (by omega) fun k1 k1n t1 t2 => ?_)))
 dsimp only
 by_cases c1 : k1 > 0
 ·rw [if_pos c1]
  have hI3 : MI C a.toList b.toList (out.push (G b ib) ++ b.extract (ib + 1) (ib + 1 + k1)).toList ia (ib + 1 + k1) := by
   rw [Uy, Jr, show ib + 1 + k1 - (ib + 1) = k1 by omega]
   refine (hI2.symm.seg M.sb fun x hx y hy => ?_).symm
   obtain ⟨j, hj, hj2, rfl⟩ := ZDd hx
   obtain ⟨j', hj', hj2', rfl⟩ := ZBe hy
   have := t1 j hj
   by_cases e : j' = ia
   ·rw [e]; exact this
   ·exact O.tr _ _ _ this (ZBw M.sa (by omega) hj2')
  by_cases d2 : (ib + 1 + k1 == b.size) = true
  ·rw [if_pos d2]
   exact wpS_pure (hd _ _ (ZBf M hI3 (by simpa using d2)))
  ·rw [if_neg d2]
   have d2' : ib + 1 + k1 < b.size := by simp at d2; omega
   exact ZGB O M hd hn hI3 h1 d2' (by omega) (t2 k1 (Ue _) (by omega))
 ·rw [if_neg c1]
  have e0 : k1 = 0 := by omega
  subst e0
  exact ZGB O M hd hn hI2 h1 d1' (by omega) (t2 0 (Ue _) (by omega))
theorem ZGD (O : Jm C a₀) (L : ZAP prog w A E s kd a₀ C) (M : MP C a₀ a b) (hk : kindOf st = kd) {T : ForInStep MSt -> SortSt -> Prop} {lo : Nat} {mg : Nat} (hd : ∀ r c, MOk C a b r -> T (.done (some r, c)) (JS st mg))
  (hn : ∀ out ia ib m k k1, MI C a.toList b.toList out.toList ia ib -> ia + 1 < a.size -> ib < b.size -> lo <= ia + ib -> T (.done (none, out, ia, ib, m, k, k1)) (JS st mg) /\ T (.yield (none, out, ia, ib, m, k, k1)) (JS st mg))
  {out : Array Keyed} {ia ib bc ac : Nat} (hI : MI C a.toList b.toList out.toList ia ib) (h1 : ia + 1 < a.size) (h2 : ib < b.size) (h3 : lo <= ia + ib) : wpS (model prog w) A E s (gl1 a b out ia ib mg bc ac) T st := by
 unfold gl1
 rw [ZCF]
 refine wpS_bind (wpS_modify (wpS_bind (Jj h2 (wpS_bind (ZBS (ZJi L (st := JS st mg) hk (M.mb _ (J0 h2)) M.ma (by omega)) (ZHz O M.sa (by omega)) (by omega) fun k kn t1 t2 => ?_)))))
 dsimp only
 have hkl : ia + k < a.size := by
  rcases Nat.lt_or_ge (ia + k) a.size with h | h
  ·exact h
  ·have := t1 (a.size - 1 - ia) (by omega)
   rw [show ia + (a.size - 1 - ia) = a.size - 1 by omega, M.last O h2] at this
   cases this
 have hc : C (G b ib) (G a (ia + k)) = true := by simpa using t2 k (Ue _) (by omega)
 by_cases c1 : k > 0
 ·rw [if_pos c1]
  have hI3 : MI C a.toList b.toList (out ++ a.extract ia (ia + k)).toList (ia + k) ib := by
   rw [Uy, Jr, show ia + k - ia = k by omega]
   refine hI.seg M.sa fun x hx y hy => ?_
   obtain ⟨j, hj, hj2, rfl⟩ := ZDd hx
   obtain ⟨j', hj', hj2', rfl⟩ := ZBe hy
   have h0 : C (G b ib) (G a (ia + j)) = false := by simpa using t1 j hj
   have := O.tot _ (M.mb _ (J0 h2)) _ (M.ma _ (J0 hj2)) (fun e => M.ne _ (J0 hj2) _ (J0 h2) e.symm) h0
   by_cases e : j' = ib
   ·rw [e]; exact this
   ·exact O.tr _ _ _ this (ZBw M.sb (by omega) hj2')
  by_cases d1 : (ia + k + 1 == a.size) = true
  ·rw [if_pos d1]
   exact wpS_pure (hd _ _ (ZBg O M hI3 (by simpa using d1)))
  rw [if_neg d1]
  have d1' : ia + k + 1 < a.size := by simp at d1; omega
  rw [if_neg (show ¬ (ia + k == a.size) = true by simp; omega)]
  exact ZGC O L M (st := JS st mg) hk hd hn hI3 d1' h2 (by omega) hc
 ·rw [if_neg c1]
  have e0 : k = 0 := by omega
  subst e0
  exact ZGC O L M (st := JS st mg) hk hd hn hI h1 h2 (by omega) hc
theorem ZFh (O : Jm C a₀) (L : ZAP prog w A E s kd a₀ C) (M : MP C a₀ a b) (hk : kindOf st = kd) {Q : Array Keyed -> SortSt -> Prop} (h : ∀ r g, MOk C a b r -> Q r (JS st g)) : wpS (model prog w) A E s (ZJh a b) Q st := by
 have ha1 := M.a1
 have hb1 := M.b1
 refine wpS_bind (wpS_lift (wpAny_rule ⟨rfl, ?_⟩))
 refine wpS_bind (Jj (by omega) ?_)
 dsimp only
 have I0 : MI C a.toList b.toList [G b 0] 0 1 := by
  have := MI.pushB (o := []) (ia := 0) (ib := 0) O M ⟨.nil, .nil, fun x hx => by cases hx⟩ (by omega) (by omega) M.h0
  exact this
 have h00 : ∀ r, MOk C a b r -> Q r st := fun r hr => h r (gallopOf st) hr
 by_cases c1 : (1 == b.size) = true
 ·rw [if_pos c1]
  exact wpS_pure (h00 _ (ZBf M (out := #[G b 0]) I0 (by simpa using c1)))
 rw [if_neg c1]
 by_cases c2 : (0 + 1 == a.size) = true
 ·rw [if_pos c2]
  exact wpS_pure (h00 _ (ZBg O M (out := #[G b 0]) I0 (by simpa using c2)))
 rw [if_neg c2]
 have hb2 : 1 < b.size := by simp at c1; omega
 have ha2 : 1 < a.size := by simp at c2; omega
 refine wpS_bind (wpS_get ?_)
 refine wpS_bind (wpS_mono (wpS_forRange (I := fun x c st' => (∃ g, st' = JS st g) /\ ∃ out ia ib mg, c = (none, out, ia, ib, mg) /\ MI C a.toList b.toList out.toList ia ib /\ ia + 1 < a.size /\ ib < b.size /\ x + 1 <= ia + ib)
  (Q := fun c st' => (∃ g, st' = JS st g) /\ ∃ r, c.1 = some r /\ MOk C a b r) ?step ?fin ⟨⟨_, rfl⟩, #[G b 0], 0, 1, _, rfl, I0, by omega, by omega, by omega⟩) ?post)
 case post =>
  rintro ⟨c, Js⟩ st' ⟨⟨g, rfl⟩, r, e, hr⟩
  dsimp only at e
  subst e
  exact wpS_pure (h r g hr)
 case fin =>
  rintro c st' ⟨_, out, ia, ib, mg, rfl, hI, h1, h2, h3⟩
  exfalso
  omega
 case step =>
  rintro x c st' _ hx ⟨⟨g, rfl⟩, out, ia, ib, mg, rfl, hI, h1, h2, h3⟩
  dsimp only
  -- one by one
  refine wpS_bind (wpS_mono (wpS_forRange (I := fun y c st' => st' = JS st g /\ ∃ out ia' ib' ac bc, c = (none, out, ia', ib', ac, bc) /\ MI C a.toList b.toList out.toList ia' ib' /\ ia' + 1 < a.size /\ ib' < b.size /\ ia + ib + y <= ia' + ib')
   (Q := fun c st' => st' = JS st g /\ ((∃ r, c.1 = some r /\ MOk C a b r) \/ ∃ out ia' ib' ac bc, c = (none, out, ia', ib', ac, bc) /\ MI C a.toList b.toList out.toList ia' ib' /\ ia' + 1 < a.size /\ ib' < b.size /\ ia + ib + 1 <= ia' + ib')) ?step1 ?fin1 ⟨rfl, out, ia, ib, 0, 0, rfl, hI, h1, h2, by omega⟩) ?post1)
  case fin1 =>
   rintro c st' ⟨rfl, out, ia', ib', ac, bc, rfl, hI, g1, g2, g3⟩
   exact ⟨rfl, .inr ⟨out, ia', ib', ac, bc, rfl, hI, g1, g2, by omega⟩⟩
  case step1 =>
   rintro y c st' _ hy ⟨rfl, out, ia', ib', ac, bc, rfl, hI, g1, g2, g3⟩
   dsimp only
   refine wpS_bind (Jj g2 (wpS_bind (Jj (by omega) ?_)))
   refine wpS_bind (L _ (M.mb _ (J0 g2)) _ (M.ma _ (J0 (by omega))) _ _ hk ?_)
   dsimp only
   cases hc : C (G b ib') (G a ia')
   case true =>
    simp only [if_true]
    have hI2 := hI.pushB O M (by omega) g2 hc
    refine wpS_bind (Jj g2 ?_)
    have hI3 : MI C a.toList b.toList (out.push (G b ib')).toList ia' (ib' + 1) := by rw [Ve]; exact hI2
    by_cases d1 : (ib' + 1 == b.size) = true
    ·rw [if_pos d1]
     exact wpS_pure ⟨rfl, .inl ⟨_, rfl, ZBf M hI3 (by simpa using d1)⟩⟩
    ·rw [if_neg d1]
     have d1' : ib' + 1 < b.size := by simp at d1; omega
     by_cases d2 : bc + 1 >= mg
     ·rw [if_pos d2]
      exact wpS_pure ⟨rfl, .inr ⟨_, _, _, _, _, rfl, hI3, g1, d1', by omega⟩⟩
     ·rw [if_neg d2]
      exact wpS_pure ⟨rfl, _, _, _, _, _, rfl, hI3, g1, d1', by omega⟩
   case false =>
    simp only [Uh, if_false]
    have hI2 := hI.pushA O M (by omega) g2 hc
    refine wpS_bind (Jj (by omega) ?_)
    have hI3 : MI C a.toList b.toList (out.push (G a ia')).toList (ia' + 1) ib' := by rw [Ve]; exact hI2
    by_cases d1 : (ia' + 1 + 1 == a.size) = true
    ·rw [if_pos d1]
     exact wpS_pure ⟨rfl, .inl ⟨_, rfl, ZBg O M hI3 (by simpa using d1)⟩⟩
    ·rw [if_neg d1]
     have d1' : ia' + 1 + 1 < a.size := by simp at d1; omega
     by_cases d2 : ac + 1 >= mg
     ·rw [if_pos d2]
      exact wpS_pure ⟨rfl, .inr ⟨_, _, _, _, _, rfl, hI3, d1', g2, by omega⟩⟩
     ·rw [if_neg d2]
      exact wpS_pure ⟨rfl, _, _, _, _, _, rfl, hI3, d1', g2, by omega⟩
  case post1 =>
   rintro ⟨c1, out1, ia1, ib1, ac1, bc1⟩ st' ⟨rfl, ⟨r, e, hr⟩ | ⟨out', ia', ib', ac', bc', e, hI1, g1, g2, g3⟩⟩
   ·dsimp only at e
    subst e
    exact wpS_pure ⟨⟨g, rfl⟩, r, rfl, hr⟩
   cases e
   dsimp only
   refine wpS_bind (wpS_lift (wpAny_rule ⟨rfl, ?_⟩))
   -- by gallops
   refine wpS_bind (wpS_mono (wpS_forRange (I := fun y c st' => (∃ g, st' = JS st g) /\ ∃ out ia' ib' mg ac bc, c = (none, out, ia', ib', mg, ac, bc) /\ MI C a.toList b.toList out.toList ia' ib' /\ ia' + 1 < a.size /\ ib' < b.size /\ ia + ib + 1 <= ia' + ib')
    (Q := fun c st' => (∃ g, st' = JS st g) /\ ((∃ r, c.1 = some r /\ MOk C a b r) \/ ∃ out ia' ib' mg ac bc, c = (none, out, ia', ib', mg, ac, bc) /\ MI C a.toList b.toList out.toList ia' ib' /\ ia' + 1 < a.size /\ ib' < b.size /\ ia + ib + 1 <= ia' + ib')) ?step2 ?fin2 ⟨⟨g, rfl⟩, _, _, _, _, _, _, rfl, hI1, g1, g2, g3⟩) ?post2)
   case fin2 =>
    rintro c st' ⟨hg, out, ia', ib', mg', ac, bc, rfl, hI, g1, g2, g3⟩
    exact ⟨hg, .inr ⟨out, ia', ib', mg', ac, bc, rfl, hI, g1, g2, g3⟩⟩
   case post2 =>
    rintro ⟨c2, out2, ia2, ib2, mg2, ac2, bc2⟩ st' ⟨⟨g', rfl⟩, ⟨r, e, hr⟩ | ⟨out', ia', ib', mg', ac', bc', e, hI2, g1, g2, g3⟩⟩
    ·dsimp only at e
     subst e
     exact wpS_pure ⟨⟨g', rfl⟩, r, rfl, hr⟩
    cases e
    dsimp only
    refine wpS_bind (ZDc ?_)
    exact wpS_pure ⟨⟨_, rfl⟩, _, _, _, _, rfl, hI2, g1, g2, by omega⟩
   case step2 =>
    rintro y c st' _ hy ⟨⟨g', rfl⟩, out, ia', ib', mg', ac, bc, rfl, hI, g1, g2, g3⟩
    dsimp only
    by_cases c0 : mg' > 1
    ·rw [if_pos c0]
     exact ZGD O L M (st := JS st g') (lo := ia + ib + 1) hk (fun r c hr => ⟨⟨_, rfl⟩, .inl ⟨r, rfl, hr⟩⟩) (fun out ia ib m k k1 hI h1 h2 h3 => ⟨⟨⟨_, rfl⟩, .inr ⟨_, _, _, _, _, _, rfl, hI, h1, h2, h3⟩⟩, ⟨_, rfl⟩, _, _, _, _, _, _, rfl, hI, h1, h2, h3⟩) hI g1 g2 g3
    ·rw [if_neg c0]
     exact ZGD O L M (st := JS st g') (lo := ia + ib + 1) hk (fun r c hr => ⟨⟨_, rfl⟩, .inl ⟨r, rfl, hr⟩⟩) (fun out ia ib m k k1 hI h1 h2 h3 => ⟨⟨⟨_, rfl⟩, .inr ⟨_, _, _, _, _, _, rfl, hI, h1, h2, h3⟩⟩, ⟨_, rfl⟩, _, _, _, _, _, _, rfl, hI, h1, h2, h3⟩) hI g1 g2 g3
end
def ZJk : Array Keyed -> Array Keyed -> StateT SortSt Sem (Array Keyed) := sortPriv% PySem.Builtin.mergeHi
abbrev flp (C : Cmp) : Cmp := fun x y => C y x
theorem Jm.flp {C : Cmp} {a₀ : Array Keyed} (O : Jm C a₀) : Jm (flp C) a₀ := ⟨fun x y z h1 h2 => O.tr _ _ _ h2 h1, fun x y h => O.asy _ _ h, fun x hx y hy n h => O.tot _ hy _ hx (Ne.symm n) h, O.nd⟩
theorem ZBp {xs : Array Keyed} {i : Nat} (h : i < xs.size) : G xs.reverse i = G xs (xs.size - 1 - i) := by
 refine ZC1 ?_
 rw [Array.getElem?_reverse h]
section
variable {prog : Program} {w : World} {A : Around} {E : Value -> Shared -> Prop} {s : Shared} {kd : SortKind} {a₀ a b : Array Keyed} {C : Cmp} {st : SortSt}
theorem MP.flp (M : MP C a₀ a b) : MP (flp C) a₀ b.reverse a.reverse := by
 have h1 := M.a1
 have h2 := M.b1
 refine ⟨fun x hx => M.mb x (by simpa using hx), fun x hx => M.ma x (by simpa using hx), fun x hx y hy e => M.ne y (by simpa using hy) x (by simpa using hx) e.symm, ?_, ?_, by simpa using h2, by simpa using h1, ?_, ?_⟩
 ·rw [US]; exact List.pairwise_reverse.mpr M.sb
 ·rw [US]; exact List.pairwise_reverse.mpr M.sa
 ·show C (G b.reverse 0) (G a.reverse 0) = true
  rw [ZBp (by omega), ZBp (by omega)]
  exact M.hl
 ·show C (G b.reverse (b.reverse.size - 1)) (G a.reverse (a.reverse.size - 1)) = true
  rw [Array.size_reverse, Array.size_reverse, ZBp (by omega), ZBp (by omega), show b.size - 1 - (b.size - 1) = 0 by omega, show a.size - 1 - (a.size - 1) = 0 by omega]
  exact M.h0
def MH (C : Cmp) (a b out : Array Keyed) (na nb : Nat) : Prop := MI (flp C) b.reverse.toList a.reverse.toList out.toList (b.size - nb) (a.size - na) /\ na <= a.size /\ nb <= b.size
theorem MOk.flp {r r' : Array Keyed} (h : MOk (flp C) b.reverse a.reverse r') (e : r'.toList = r.toList.reverse) : MOk C a b r := by
 obtain ⟨h1, h2⟩ := h
 rw [e] at h1 h2
 refine ⟨?_, List.pairwise_reverse.mp h2⟩
 have := (List.reverse_perm r.toList).symm.trans h1
 refine this.trans ?_
 rw [US, US, <- List.reverse_append]
 exact List.reverse_perm _
theorem ZCj {xs : Array Keyed} {n : Nat} (h : n <= xs.size) : xs.reverse.toList.drop (xs.size - n) = (xs.toList.take n).reverse := by
 rw [US, List.drop_reverse, Ui, show xs.size - (xs.size - n) = n by omega]
theorem ZG9 (xs : Array Keyed) (n : Nat) : (xs.extract 0 n).toList = xs.toList.take n := by rw [Jr, List.drop_zero, Nat.sub_zero]
theorem MH.done (M : MP C a₀ a b) {out : Array Keyed} {na nb : Nat} (h : MH C a b out na nb) (hn : na = 0) : MOk C a b (a.extract 0 na ++ b.extract 0 nb ++ out.reverse) := by
 obtain ⟨h, h1, h2⟩ := h
 subst hn
 refine (ZBf M.flp h (by simp)).flp ?_
 have e1 := ZCj h2
 have e2 := ZCj (xs := a) (n := 0) h1
 rw [Uy, Uy, Uy, Uy, ZAA, ZAA, e1, e2, ZG9, ZG9, US]
 simp
theorem MH.first (O : Jm C a₀) (M : MP C a₀ a b) {out : Array Keyed} {na nb : Nat} (h : MH C a b out na nb) (hn : nb = 1) : MOk C a b (b.extract 0 nb ++ a.extract 0 na ++ out.reverse) := by
 obtain ⟨h, h1, h2⟩ := h
 subst hn
 refine (ZBg O.flp M.flp h (by simp; omega)).flp ?_
 have e1 := ZCj h2
 have e2 := ZCj (xs := a) (n := na) h1
 rw [Uy, Uy, Uy, Uy, ZAA, ZAA, e1, e2, ZG9, ZG9, US]
 simp
theorem MH.pushA (O : Jm C a₀) (M : MP C a₀ a b) {out : Array Keyed} {na nb : Nat} (h : MH C a b out na nb) (ha : 0 < na) (hb : 0 < nb) (hc : C (G b (nb - 1)) (G a (na - 1)) = true) : MH C a b (out.push (G a (na - 1))) (na - 1) nb := by
 obtain ⟨h, h1, h2⟩ := h
 have e1 : G a.reverse (a.size - na) = G a (na - 1) := by rw [ZBp (by omega)]; congr 1; omega
 have e2 : G b.reverse (b.size - nb) = G b (nb - 1) := by rw [ZBp (by omega)]; congr 1; omega
 have := h.pushB O.flp M.flp (by simp; omega) (by simp; omega) (by show C _ _ = true; rw [e1, e2]; exact hc)
 rw [e1, show a.size - na + 1 = a.size - (na - 1) by omega] at this
 refine ⟨?_, by omega, h2⟩
 rw [Ve]
 exact this
theorem MH.pushB (O : Jm C a₀) (M : MP C a₀ a b) {out : Array Keyed} {na nb : Nat} (h : MH C a b out na nb) (ha : 0 < na) (hb : 0 < nb) (hc : C (G b (nb - 1)) (G a (na - 1)) = false) : MH C a b (out.push (G b (nb - 1))) na (nb - 1) := by
 obtain ⟨h, h1, h2⟩ := h
 have e1 : G a.reverse (a.size - na) = G a (na - 1) := by rw [ZBp (by omega)]; congr 1; omega
 have e2 : G b.reverse (b.size - nb) = G b (nb - 1) := by rw [ZBp (by omega)]; congr 1; omega
 have := h.pushA O.flp M.flp (by simp; omega) (by simp; omega) (by show C _ _ = false; rw [e1, e2]; exact hc)
 rw [e2, show b.size - nb + 1 = b.size - (nb - 1) by omega] at this
 refine ⟨?_, h1, by omega⟩
 rw [Ve]
 exact this
theorem ZHA {xs : Array Keyed} {n m : Nat} (h : n <= xs.size) (hm : m <= n) : (xs.reverse.toList.drop (xs.size - n)).take (n - m) = (xs.extract m n).reverse.toList := by
 rw [ZCj h, US, Jr, List.take_reverse, UI, Ui, Nat.min_eq_left h, show n - (n - m) = m by omega, List.drop_take]
theorem ZH1 {xs : Array Keyed} {n m : Nat} {x : Keyed} (h : n <= xs.size) (hx : x ∈ (xs.extract m n).reverse.toList) : ∃ j, m <= j /\ j < n /\ x = G xs j := by
 rw [US, List.mem_reverse, Jr] at hx
 obtain ⟨j, hj, _, rfl⟩ := ZDd hx
 exact ⟨m + j, by omega, by omega, rfl⟩
theorem ZGE {xs : Array Keyed} {n : Nat} {x : Keyed} (h : n <= xs.size) (hx : x ∈ xs.reverse.toList.drop (xs.size - n)) : ∃ j, j < n /\ x = G xs j := by
 rw [ZCj h, List.mem_reverse] at hx
 obtain ⟨j, hj, _, rfl⟩ := ZDd (i := 0) (by simpa using hx)
 exact ⟨j, hj, by rw [Nat.zero_add]⟩
theorem MH.segA (O : Jm C a₀) (M : MP C a₀ a b) {out : Array Keyed} {na nb at_ : Nat} (h : MH C a b out na nb) (ha : at_ <= na) (hc : ∀ j, at_ <= j -> j < na -> C (G b (nb - 1)) (G a j) = true) : MH C a b (out ++ (a.extract at_ na).reverse) at_ nb := by
 obtain ⟨h, h1, h2⟩ := h
 have := h.symm.seg M.flp.sb (k := na - at_) fun x hx y hy => by
  rw [ZHA h1 ha] at hx
  obtain ⟨j, j1, j2, rfl⟩ := ZH1 h1 hx
  obtain ⟨i, i1, rfl⟩ := ZGE h2 hy
  show C _ _ = true
  by_cases e : i = nb - 1
  ·rw [e]; exact hc j j1 j2
  ·exact O.tr _ _ _ (ZBw M.sb (show i < nb - 1 by omega) (by omega)) (hc j j1 j2)
 rw [ZHA h1 ha, show a.size - na + (na - at_) = a.size - at_ by omega] at this
 refine ⟨?_, by omega, h2⟩
 rw [Uy]
 exact this.symm
theorem MH.segB (O : Jm C a₀) (M : MP C a₀ a b) {out : Array Keyed} {na nb at_ : Nat} (h : MH C a b out na nb) (hb : at_ <= nb) (hc : ∀ j, at_ <= j -> j < nb -> C (G a (na - 1)) (G b j) = true) : MH C a b (out ++ (b.extract at_ nb).reverse) na at_ := by
 obtain ⟨h, h1, h2⟩ := h
 have := h.seg M.flp.sa (k := nb - at_) fun x hx y hy => by
  rw [ZHA h2 hb] at hx
  obtain ⟨j, j1, j2, rfl⟩ := ZH1 h2 hx
  obtain ⟨i, i1, rfl⟩ := ZGE h1 hy
  show C _ _ = true
  by_cases e : i = na - 1
  ·rw [e]; exact hc j j1 j2
  ·exact O.tr _ _ _ (ZBw M.sa (show i < na - 1 by omega) (by omega)) (hc j j1 j2)
 rw [ZHA h2 hb, show b.size - nb + (nb - at_) = b.size - at_ by omega] at this
 refine ⟨?_, h1, by omega⟩
 rw [Uy]
 exact this
end
abbrev HSt := Option (Array Keyed) × Nat × Nat × Array Keyed × Nat × Nat × Nat
def gh3 (a b out : Array Keyed) (na nb mg k k1 : Nat) : StateT SortSt Sem (ForInStep HSt) := do
 let x <- elem' a (na - 1)
 if (na - 1 == 0) = true then pure (.done (some (a.extract 0 (na - 1) ++ b.extract 0 nb ++ (out.push x).reverse), na - 1, nb, out.push x, mg, k, k1))
 else if (decide (k < 7) && decide (k1 < 7)) = true then pure (.done (none, na - 1, nb, out.push x, mg, k, k1))
 else pure (.yield (none, na - 1, nb, out.push x, mg, k, k1))
def gh2 (a b out : Array Keyed) (na nb mg k bc : Nat) : StateT SortSt Sem (ForInStep HSt) := do
 let y <- elem' b (nb - 1)
 if (nb - 1 == 1) = true then pure (.done (some (b.extract 0 (nb - 1) ++ a.extract 0 na ++ (out.push y).reverse), na, nb - 1, out.push y, mg, k, bc))
 else do
  let z <- elem' a (na - 1)
  let x <- ZBR true z b 0 (nb - 1) (nb - 1 - 1)
  match x with
  | some at_ =>
   if nb - 1 - at_ > 0 then
    if (at_ == 1) = true then pure (.done (some (b.extract 0 at_ ++ a.extract 0 na ++ (out.push y ++ (b.extract at_ (nb - 1)).reverse).reverse), na, at_, out.push y ++ (b.extract at_ (nb - 1)).reverse, mg, k, nb - 1 - at_))
    else if (at_ == 0) = true then pure (.done (some (a.extract 0 na ++ b.extract 0 at_ ++ (out.push y ++ (b.extract at_ (nb - 1)).reverse).reverse), na, at_, out.push y ++ (b.extract at_ (nb - 1)).reverse, mg, k, nb - 1 - at_))
    else gh3 a b (out.push y ++ (b.extract at_ (nb - 1)).reverse) na at_ mg k (nb - 1 - at_)
   else gh3 a b (out.push y) na (nb - 1) mg k (nb - 1 - at_)
  | x => pure (.done (some (a.extract 0 na ++ b.extract 0 (nb - 1) ++ (out.push y).reverse), na, nb - 1, out.push y, mg, k, bc))
def gh1 (a b out : Array Keyed) (na nb mg bc ac : Nat) : StateT SortSt Sem (ForInStep HSt) := do
 ZCi mg
 let y <- elem' b (nb - 1)
 let x <- ZBR false y a 0 na (na - 1)
 match x with
 | some at_ =>
  if na - at_ > 0 then
   if (at_ == 0) = true then pure (.done (some (a.extract 0 at_ ++ b.extract 0 nb ++ (out ++ (a.extract at_ na).reverse).reverse), at_, nb, out ++ (a.extract at_ na).reverse, mg, na - at_, bc))
   else gh2 a b (out ++ (a.extract at_ na).reverse) at_ nb mg (na - at_) bc
  else gh2 a b out na nb mg (na - at_) bc
 | x => pure (.done (some (a.extract 0 na ++ b.extract 0 nb ++ out.reverse), na, nb, out, mg, ac, bc))
section
variable {prog : Program} {w : World} {A : Around} {E : Value -> Shared -> Prop} {s : Shared} {kd : SortKind} {a₀ a b : Array Keyed} {C : Cmp} {st : SortSt}
theorem ZGF (O : Jm C a₀) (M : MP C a₀ a b) {T : ForInStep HSt -> SortSt -> Prop} {hi : Nat} (hd : ∀ r c, MOk C a b r -> T (.done (some r, c)) st)
  (hn : ∀ out na nb mg k k1, MH C a b out na nb -> 0 < na -> 1 < nb -> na + nb <= hi -> T (.done (none, na, nb, out, mg, k, k1)) st /\ T (.yield (none, na, nb, out, mg, k, k1)) st)
  {out : Array Keyed} {na nb mg k k1 : Nat} (hI : MH C a b out na nb) (h1 : 0 < na) (h2 : 1 < nb) (h3 : na + nb <= hi) (hc : C (G b (nb - 1)) (G a (na - 1)) = true) : wpS (model prog w) A E s (gh3 a b out na nb mg k k1) T st := by
 unfold gh3
 have l1 := hI.2.1
 refine wpS_bind (Jj (by omega) ?_)
 have hI3 := hI.pushA O M h1 (by omega) hc
 by_cases d1 : (na - 1 == 0) = true
 ·rw [if_pos d1]
  exact wpS_pure (hd _ _ (hI3.done M (by simpa using d1)))
 ·rw [if_neg d1]
  have d1' : 0 < na - 1 := by simp at d1; omega
  have := hn _ _ _ mg k k1 hI3 d1' h2 (by omega)
  split
  ·exact wpS_pure this.1
  ·exact wpS_pure this.2
theorem ZGG (O : Jm C a₀) (L : ZAP prog w A E s kd a₀ C) (M : MP C a₀ a b) (hk : kindOf st = kd) {T : ForInStep HSt -> SortSt -> Prop} {hi : Nat} (hd : ∀ r c, MOk C a b r -> T (.done (some r, c)) st)
  (hn : ∀ out na nb mg k k1, MH C a b out na nb -> 0 < na -> 1 < nb -> na + nb <= hi -> T (.done (none, na, nb, out, mg, k, k1)) st /\ T (.yield (none, na, nb, out, mg, k, k1)) st)
  {out : Array Keyed} {na nb mg k bc : Nat} (hI : MH C a b out na nb) (h1 : 0 < na) (h2 : 1 < nb) (h3 : na + nb <= hi) (hc : C (G b (nb - 1)) (G a (na - 1)) = false) : wpS (model prog w) A E s (gh2 a b out na nb mg k bc) T st := by
 unfold gh2
 have l1 := hI.2.1
 have l2 := hI.2.2
 refine wpS_bind (Jj (by omega) ?_)
 have hI2 := hI.pushB O M h1 (by omega) hc
 by_cases d1 : (nb - 1 == 1) = true
 ·rw [if_pos d1]
  exact wpS_pure (hd _ _ (hI2.first O M (by simpa using d1)))
 rw [if_neg d1]
 have d1' : 1 < nb - 1 := by simp at d1; omega
 refine wpS_bind (Jj (by omega) (wpS_bind (ZBS (ZJj L hk (M.ma _ (J0 (by omega))) M.mb (by omega)) (ZH0 O M.sb (by omega)) (by omega) fun at_ atn t1 t2 => ?_)))
 dsimp only
 have p0 : C (G b 0) (G a (na - 1)) = true := by
  by_cases e : na - 1 = 0
  ·rw [e]; exact M.h0
  ·exact O.tr _ _ _ M.h0 (ZBw M.sa (by omega) (by omega))
 have hat : 0 < at_ := by
  rcases Nat.eq_zero_or_pos at_ with e | e
  ·have := t2 0 (by omega) (by omega)
   simp only [Nat.add_zero] at this
   rw [p0] at this; cases this
  ·exact e
 have hlast : C (G b (at_ - 1)) (G a (na - 1)) = true := by have := t1 (at_ - 1) (by omega); rwa [Nat.zero_add] at this
 by_cases c1 : nb - 1 - at_ > 0
 ·rw [if_pos c1]
  have hI3 := hI2.segB O M (at_ := at_) (by omega) fun j j1 j2 => by
   have := t2 j j1 j2
   rw [Nat.zero_add] at this
   exact O.tot _ (M.mb _ (J0 (by omega))) _ (M.ma _ (J0 (by omega))) (fun e => M.ne _ (J0 (by omega)) _ (J0 (by omega)) e.symm) this
  by_cases d2 : (at_ == 1) = true
  ·rw [if_pos d2]
   exact wpS_pure (hd _ _ (hI3.first O M (by simpa using d2)))
  ·rw [if_neg d2, if_neg (show ¬ (at_ == 0) = true by simp; omega)]
   have d2' : 1 < at_ := by simp at d2; omega
   exact ZGF O M hd hn hI3 h1 d2' (by omega) hlast
 ·rw [if_neg c1]
  have e0 : at_ = nb - 1 := by omega
  rw [e0] at hlast
  exact ZGF O M hd hn hI2 h1 d1' (by omega) hlast
theorem ZGH (O : Jm C a₀) (L : ZAP prog w A E s kd a₀ C) (M : MP C a₀ a b) (hk : kindOf st = kd) {T : ForInStep HSt -> SortSt -> Prop} {hi : Nat} {mg : Nat} (hd : ∀ r c, MOk C a b r -> T (.done (some r, c)) (JS st mg))
  (hn : ∀ out na nb m k k1, MH C a b out na nb -> 0 < na -> 1 < nb -> na + nb <= hi -> T (.done (none, na, nb, out, m, k, k1)) (JS st mg) /\ T (.yield (none, na, nb, out, m, k, k1)) (JS st mg))
  {out : Array Keyed} {na nb bc ac : Nat} (hI : MH C a b out na nb) (h1 : 0 < na) (h2 : 1 < nb) (h3 : na + nb <= hi) : wpS (model prog w) A E s (gh1 a b out na nb mg bc ac) T st := by
 unfold gh1
 have l1 := hI.2.1
 have l2 := hI.2.2
 rw [ZCF]
 refine wpS_bind (wpS_modify (wpS_bind (Jj (by omega) (wpS_bind (ZBS (ZJi L (st := JS st mg) hk (M.mb _ (J0 (by omega))) M.ma (by omega)) (ZHz O M.sa (by omega)) (by omega) fun at_ atn t1 t2 => ?_)))))
 dsimp only
 have hlast : 0 < at_ -> C (G b (nb - 1)) (G a (at_ - 1)) = false := fun h => by
  have := t1 (at_ - 1) (by omega)
  rw [Nat.zero_add] at this
  simpa using this
 by_cases c1 : na - at_ > 0
 ·rw [if_pos c1]
  have hI3 := hI.segA O M (at_ := at_) (by omega) fun j j1 j2 => by
   have := t2 j j1 j2
   rw [Nat.zero_add] at this
   simpa using this
  by_cases d1 : (at_ == 0) = true
  ·rw [if_pos d1]
   exact wpS_pure (hd _ _ (hI3.done M (by simpa using d1)))
  rw [if_neg d1]
  have d1' : 0 < at_ := by simp at d1; omega
  exact ZGG O L M (st := JS st mg) hk hd hn hI3 d1' h2 (by omega) (hlast d1')
 ·rw [if_neg c1]
  have e0 : at_ = na := by omega
  subst e0
  exact ZGG O L M (st := JS st mg) hk hd hn hI h1 h2 (by omega) (hlast h1)
theorem ZFi (O : Jm C a₀) (L : ZAP prog w A E s kd a₀ C) (M : MP C a₀ a b) (hk : kindOf st = kd) {Q : Array Keyed -> SortSt -> Prop} (h : ∀ r g, MOk C a b r -> Q r (JS st g)) : wpS (model prog w) A E s (ZJk a b) Q st := by
 have ha1 := M.a1
 have hb1 := M.b1
 refine wpS_bind (wpS_lift (wpAny_rule ⟨rfl, ?_⟩))
 refine wpS_bind (Jj (by omega) ?_)
 dsimp only
 have I0 : MH C a b #[G a (a.size - 1)] (a.size - 1) b.size := by
  have := MH.pushA (out := #[]) (na := a.size) (nb := b.size) O M ⟨by rw [Nat.sub_self, Nat.sub_self]; exact ⟨.nil, .nil, fun x hx => by cases hx⟩, Ue _, Ue _⟩ (by omega) (by omega) M.hl
  exact this
 have h00 : ∀ r, MOk C a b r -> Q r st := fun r hr => h r (gallopOf st) hr
 by_cases c1 : (a.size - 1 == 0) = true
 ·rw [if_pos c1]
  exact wpS_pure (h00 _ (I0.done M (by simpa using c1)))
 rw [if_neg c1]
 by_cases c2 : (b.size == 1) = true
 ·rw [if_pos c2]
  exact wpS_pure (h00 _ (I0.first O M (by simpa using c2)))
 rw [if_neg c2]
 have ha2 : 0 < a.size - 1 := by simp at c1; omega
 have hb2 : 1 < b.size := by simp at c2; omega
 refine wpS_bind (wpS_get ?_)
 refine wpS_bind (wpS_mono (wpS_forRange (I := fun x c st' => (∃ g, st' = JS st g) /\ ∃ out na nb mg, c = (none, na, nb, out, mg) /\ MH C a b out na nb /\ 0 < na /\ 1 < nb /\ na + nb + x + 1 <= a.size + b.size)
  (Q := fun c st' => (∃ g, st' = JS st g) /\ ∃ r, c.1 = some r /\ MOk C a b r) ?step ?fin ⟨⟨_, rfl⟩, #[G a (a.size - 1)], a.size - 1, b.size, _, rfl, I0, by omega, by omega, by omega⟩) ?post)
 case post =>
  rintro ⟨c, Js⟩ st' ⟨⟨g, rfl⟩, r, e, hr⟩
  dsimp only at e
  subst e
  exact wpS_pure (h r g hr)
 case fin =>
  rintro c st' ⟨_, out, na, nb, mg, rfl, hI, h1, h2, h3⟩
  exfalso
  omega
 case step =>
  rintro x c st' _ hx ⟨⟨g, rfl⟩, out, na, nb, mg, rfl, hI, h1, h2, h3⟩
  dsimp only
  -- one by one
  refine wpS_bind (wpS_mono (wpS_forRange (I := fun y c st' => st' = JS st g /\ ∃ out na' nb' ac bc, c = (none, na', nb', out, ac, bc) /\ MH C a b out na' nb' /\ 0 < na' /\ 1 < nb' /\ na' + nb' + y <= na + nb)
   (Q := fun c st' => st' = JS st g /\ ((∃ r, c.1 = some r /\ MOk C a b r) \/ ∃ out na' nb' ac bc, c = (none, na', nb', out, ac, bc) /\ MH C a b out na' nb' /\ 0 < na' /\ 1 < nb' /\ na' + nb' + 1 <= na + nb)) ?step1 ?fin1 ⟨rfl, out, na, nb, 0, 0, rfl, hI, h1, h2, by omega⟩) ?post1)
  case fin1 =>
   rintro c st' ⟨rfl, out, na', nb', ac, bc, rfl, hI, g1, g2, g3⟩
   exact ⟨rfl, .inr ⟨out, na', nb', ac, bc, rfl, hI, g1, g2, by omega⟩⟩
  case step1 =>
   rintro y c st' _ hy ⟨rfl, out, na', nb', ac, bc, rfl, hI, g1, g2, g3⟩
   have l1 := hI.2.1
   have l2 := hI.2.2
   dsimp only
   refine wpS_bind (Jj (by omega) (wpS_bind (Jj (by omega) ?_)))
   refine wpS_bind (L _ (M.mb _ (J0 (by omega))) _ (M.ma _ (J0 (by omega))) _ _ hk ?_)
   dsimp only
   cases hc : C (G b (nb' - 1)) (G a (na' - 1))
   case true =>
    simp only [if_true]
    have hI3 := hI.pushA O M g1 (by omega) hc
    refine wpS_bind (Jj (by omega) ?_)
    by_cases d1 : (na' - 1 == 0) = true
    ·rw [if_pos d1]
     exact wpS_pure ⟨rfl, .inl ⟨_, rfl, hI3.done M (by simpa using d1)⟩⟩
    ·rw [if_neg d1]
     have d1' : 0 < na' - 1 := by simp at d1; omega
     by_cases d2 : ac + 1 >= mg
     ·rw [if_pos d2]
      exact wpS_pure ⟨rfl, .inr ⟨_, _, _, _, _, rfl, hI3, d1', g2, by omega⟩⟩
     ·rw [if_neg d2]
      exact wpS_pure ⟨rfl, _, _, _, _, _, rfl, hI3, d1', g2, by omega⟩
   case false =>
    simp only [Uh, if_false]
    have hI3 := hI.pushB O M g1 (by omega) hc
    refine wpS_bind (Jj (by omega) ?_)
    by_cases d1 : (nb' - 1 == 1) = true
    ·rw [if_pos d1]
     exact wpS_pure ⟨rfl, .inl ⟨_, rfl, hI3.first O M (by simpa using d1)⟩⟩
    ·rw [if_neg d1]
     have d1' : 1 < nb' - 1 := by simp at d1; omega
     by_cases d2 : bc + 1 >= mg
     ·rw [if_pos d2]
      exact wpS_pure ⟨rfl, .inr ⟨_, _, _, _, _, rfl, hI3, g1, d1', by omega⟩⟩
     ·rw [if_neg d2]
      exact wpS_pure ⟨rfl, _, _, _, _, _, rfl, hI3, g1, d1', by omega⟩
  case post1 =>
   rintro ⟨c1, na1, nb1, out1, ac1, bc1⟩ st' ⟨rfl, ⟨r, e, hr⟩ | ⟨out', na', nb', ac', bc', e, hI1, g1, g2, g3⟩⟩
   ·dsimp only at e
    subst e
    exact wpS_pure ⟨⟨g, rfl⟩, r, rfl, hr⟩
   cases e
   dsimp only
   refine wpS_bind (wpS_lift (wpAny_rule ⟨rfl, ?_⟩))
   -- by gallops
   refine wpS_bind (wpS_mono (wpS_forRange (I := fun y c st' => (∃ g, st' = JS st g) /\ ∃ out na' nb' mg ac bc, c = (none, na', nb', out, mg, ac, bc) /\ MH C a b out na' nb' /\ 0 < na' /\ 1 < nb' /\ na' + nb' <= na + nb - 1)
    (Q := fun c st' => (∃ g, st' = JS st g) /\ ((∃ r, c.1 = some r /\ MOk C a b r) \/ ∃ out na' nb' mg ac bc, c = (none, na', nb', out, mg, ac, bc) /\ MH C a b out na' nb' /\ 0 < na' /\ 1 < nb' /\ na' + nb' <= na + nb - 1)) ?step2 ?fin2 ⟨⟨g, rfl⟩, _, _, _, _, _, _, rfl, hI1, g1, g2, by omega⟩) ?post2)
   case fin2 =>
    rintro c st' ⟨hg, out, na', nb', mg', ac, bc, rfl, hI, g1, g2, g3⟩
    exact ⟨hg, .inr ⟨out, na', nb', mg', ac, bc, rfl, hI, g1, g2, g3⟩⟩
   case post2 =>
    rintro ⟨c2, na2, nb2, out2, mg2, ac2, bc2⟩ st' ⟨⟨g', rfl⟩, ⟨r, e, hr⟩ | ⟨out', na', nb', mg', ac', bc', e, hI2, g1, g2, g3⟩⟩
    ·dsimp only at e
     subst e
     exact wpS_pure ⟨⟨g', rfl⟩, r, rfl, hr⟩
    cases e
    dsimp only
    refine wpS_bind (ZDc ?_)
    exact wpS_pure ⟨⟨_, rfl⟩, _, _, _, _, rfl, hI2, g1, g2, by omega⟩
   case step2 =>
    rintro y c st' _ hy ⟨⟨g', rfl⟩, out, na', nb', mg', ac, bc, rfl, hI, g1, g2, g3⟩
    dsimp only
    by_cases c0 : mg' > 1
    ·rw [if_pos c0]
     exact ZGH O L M (st := JS st g') (hi := na + nb - 1) hk (fun r c hr => ⟨⟨_, rfl⟩, .inl ⟨r, rfl, hr⟩⟩) (fun out ia ib m k k1 hI h1 h2 h3 => ⟨⟨⟨_, rfl⟩, .inr ⟨_, _, _, _, _, _, rfl, hI, h1, h2, h3⟩⟩, ⟨_, rfl⟩, _, _, _, _, _, _, rfl, hI, h1, h2, h3⟩) hI g1 g2 g3
    ·rw [if_neg c0]
     exact ZGH O L M (st := JS st g') (hi := na + nb - 1) hk (fun r c hr => ⟨⟨_, rfl⟩, .inl ⟨r, rfl, hr⟩⟩) (fun out ia ib m k k1 hI h1 h2 h3 => ⟨⟨⟨_, rfl⟩, .inr ⟨_, _, _, _, _, _, rfl, hI, h1, h2, h3⟩⟩, ⟨_, rfl⟩, _, _, _, _, _, _, rfl, hI, h1, h2, h3⟩) hI g1 g2 g3
end
theorem ZGI (o : Nat) : ∀ (l : List Keyed) (m : Nat) (xs : Array Keyed) (pre mid post : List Keyed), xs.toList = pre ++ mid ++ post -> pre.length = o + m -> mid.length = l.length ->
  ((l.zipIdx m).foldl (fun (a : Array Keyed) (q : Keyed × Nat) => a.setIfInBounds (o + q.2) q.1) xs).toList = pre ++ l ++ post
 | [], m, xs, pre, mid, post, h, hp, hm => by
  have : mid = [] := List.eq_nil_of_length_eq_zero hm
  subst this
  exact h
 | p :: l, m, xs, pre, mid, post, h, hp, hm => by
  cases mid with
  | nil => cases hm
  | cons q mid =>
   rw [List.zipIdx_cons, List.foldl_cons]
   have := ZGI o l (m + 1) (xs.setIfInBounds (o + m) p) (pre ++ [p]) mid post (by
    rw [Array.toList_setIfInBounds, h, UX, List.set_append_right _ _ (by omega), <- hp, Nat.sub_self]
    simp) (by simp; omega) (by simpa using hm)
   rw [this]
   simp
theorem ZFP (xs : Array Keyed) (i : Nat) : G xs i = xs.toList.getD i (.none, .none) := by
 unfold G
 rw [UM, Uw, Vf]
theorem ZJ9 {xs : Array Keyed} {pre l post : List Keyed} (h : xs.toList = pre ++ l ++ post) {i : Nat} (hi : i < pre.length) : G xs i = pre.getD i (.none, .none) := by
 rw [ZFP, h, UX, Uw, Vd hi, <- Uw]
theorem ZHB {xs : Array Keyed} {pre l post : List Keyed} (h : xs.toList = pre ++ l ++ post) {i : Nat} (h1 : pre.length <= i) (h2 : i < pre.length + l.length) : G xs i = l.getD (i - pre.length) (.none, .none) := by
 rw [ZFP, h, UX, Uw, UQ h1, Vd (by omega), <- Uw]
theorem ZH2 {xs : Array Keyed} {pre l post : List Keyed} (h : xs.toList = pre ++ l ++ post) {i : Nat} (h1 : pre.length + l.length <= i) : G xs i = post.getD (i - (pre.length + l.length)) (.none, .none) := by
 rw [ZFP, h, Uw, UQ (by simpa using h1), UE, <- Uw]
theorem ZJl {l : List Keyed} {i : Nat} (h : i < l.length) : l.getD i (.none, .none) ∈ l := by
 rw [Uw, Uc h]
 exact List.getElem_mem h
theorem ZLH {C : Cmp} {l : List Keyed} (h : l.Pairwise fun x y => C x y = true) {i j : Nat} (hij : i < j) (hj : j < l.length) : C (l.getD i (.none, .none)) (l.getD j (.none, .none)) = true := by
 rw [Uw, Uc (by omega), Uw, Uc hj]
 exact UO.mp h i j (by omega) hj hij
theorem Sg.join {C : Cmp} (tr : ∀ x y z, C x y = true -> C y z = true -> C x z = true) {xs : Array Keyed} {lo n m : Nat} (h1 : Sg C xs lo n) (h2 : Sg C xs (lo + n) m) (hn : 1 <= n) (hc : C (G xs (lo + n - 1)) (G xs (lo + n)) = true) : Sg C xs lo (n + m) := by
 have e2 : ∀ j, j < m -> n = n -> C (G xs (lo + n - 1)) (G xs (lo + n + j)) = true := fun j hj _ => by
  by_cases e : j = 0
  ·subst e; exact hc
  ·exact tr _ _ _ hc (h2 0 j (by omega) hj)
 intro i j hij hj
 by_cases c1 : j < n
 ·exact h1 i j hij c1
 by_cases c2 : i < n
 ·have := e2 (j - n) (by omega) rfl
  rw [show lo + n + (j - n) = lo + j by omega] at this
  by_cases e : i = n - 1
  ·rw [show lo + i = lo + n - 1 by omega]; exact this
  ·refine tr _ _ _ (h1 i (n - 1) (by omega) (by omega)) ?_
   rw [show lo + (n - 1) = lo + n - 1 by omega]
   exact this
 ·have := h2 (i - n) (j - n) (by omega) (by omega)
  rwa [show lo + n + (i - n) = lo + i by omega, show lo + n + (j - n) = lo + j by omega] at this
theorem Sg.pw {C : Cmp} {xs : Array Keyed} {lo n : Nat} (h : Sg C xs lo n) (hn : lo + n <= xs.size) {i j : Nat} (hi : lo <= i) (hij : i <= j) (hj : j <= lo + n) : (xs.extract i j).toList.Pairwise fun x y => C x y = true := by
 rw [UO]
 intro p q hp hq hpq
 have hq' : q < j - i := by
  have := hq
  rw [Ui, UN] at this
  omega
 have e : ∀ p, p < j - i -> ∀ hp, (xs.extract i j).toList[p]'hp = G xs (i + p) := fun p h1 hp => by
  rw [Array.getElem_toList, Array.getElem_extract]
  simp [G, Array.getD, show i + p < xs.size by omega]
 rw [e p (by omega) hp, e q hq' hq]
 have := h (i + p - lo) (i + q - lo) (by omega) (by omega)
 rwa [show lo + (i + p - lo) = i + p by omega, show lo + (i + q - lo) = i + q by omega] at this
theorem ZCk {xs : Array Keyed} {i j : Nat} (hj : j <= xs.size) {x : Keyed} (h : x ∈ (xs.extract i j).toList) : ∃ p, i <= p /\ p < j /\ x = G xs p := by
 rw [Jr] at h
 obtain ⟨p, h1, h2, rfl⟩ := ZDd h
 exact ⟨i + p, by omega, by omega, rfl⟩
theorem ZBq {xs : Array Keyed} {i j p : Nat} (hp : i + p < j) (hj : j <= xs.size) : G (xs.extract i j) p = G xs (i + p) := by
 refine ZC1 ?_
 rw [Array.getElem?_extract_of_lt (by omega), Ur (by omega)]
section
variable {prog : Program} {w : World} {A : Around} {E : Value -> Shared -> Prop} {s : Shared} {kd : SortKind} {a₀ : Array Keyed} {C : Cmp} {st : SortSt}
structure Mg (C : Cmp) (xs ys : Array Keyed) (sa n : Nat) : Prop where
 perm : ys.Perm xs
 out : ∀ k, k < sa \/ sa + n <= k -> G ys k = G xs k
 run : Sg C ys sa n
theorem ZH3 (O : Jm C a₀) {xs : Array Keyed} {sa na nb k nb' : Nat} (hs : sa + na + nb <= xs.size) (S1 : Sg C xs sa na) (S2 : Sg C xs (sa + na) nb) (hk : k < na) (hb : nb' <= nb) (hb1 : 1 <= nb') (hmem : ∀ i, i < xs.size -> G xs i ∈ a₀.toList)
  (hinj : ∀ i j, i < xs.size -> j < xs.size -> i ≠ j -> G xs i ≠ G xs j)
  (t1 : ∀ i, i < k -> C (G xs (sa + i)) (G xs (sa + na)) = true) (u2 : ∀ i, nb' <= i -> i < nb -> C (G xs (sa + na - 1)) (G xs (sa + na + i)) = true)
  {r : Array Keyed} (hr : MOk C (xs.extract (sa + k) (sa + na)) (xs.extract (sa + na) (sa + na + nb')) r) :
  Mg C xs (r.toList.zipIdx.foldl (fun (a : Array Keyed) (q : Keyed × Nat) => a.setIfInBounds (sa + k + q.2) q.1) xs) sa (na + nb) := by
 obtain ⟨hp, hw⟩ := hr
 have e0 : xs.toList = xs.toList.take (sa + k) ++ ((xs.extract (sa + k) (sa + na)).toList ++ (xs.extract (sa + na) (sa + na + nb')).toList) ++ xs.toList.drop (sa + na + nb') := by
  rw [Jr, Jr]
  have h1 : xs.toList.drop (sa + k) = (xs.toList.drop (sa + k)).take (sa + na - (sa + k)) ++ xs.toList.drop (sa + na) := by
   conv => lhs; rw [<- List.take_append_drop (sa + na - (sa + k)) (xs.toList.drop (sa + k)), List.drop_drop, show sa + k + (sa + na - (sa + k)) = sa + na by omega]
  have h2 : xs.toList.drop (sa + na) = (xs.toList.drop (sa + na)).take (sa + na + nb' - (sa + na)) ++ xs.toList.drop (sa + na + nb') := by
   conv => lhs; rw [<- List.take_append_drop (sa + na + nb' - (sa + na)) (xs.toList.drop (sa + na)), List.drop_drop, show sa + na + (sa + na + nb' - (sa + na)) = sa + na + nb' by omega]
  rw [UX, UX, <- h2, <- h1, List.take_append_drop]
 have lx : (xs.extract (sa + k) (sa + na)).toList.length = na - k := by rw [Ui, UN]; omega
 have ly : (xs.extract (sa + na) (sa + na + nb')).toList.length = nb' := by rw [Ui, UN]; omega
 have lr : r.toList.length = na - k + nb' := by rw [hp.length_eq, UE, lx, ly]
 have lp : (xs.toList.take (sa + k)).length = sa + k := by rw [UI, Ui]; omega
 have e1 := ZGI (sa + k) r.toList 0 xs _ _ _ e0 (by rw [lp]; rfl) (by rw [lr, UE, lx, ly])
 generalize (r.toList.zipIdx.foldl (fun (a : Array Keyed) (q : Keyed × Nat) => a.setIfInBounds (sa + k + q.2) q.1) xs) = ys at e1 ⊢
 have gp : ∀ i, i < sa + k -> G ys i = G xs i := fun i hi => by rw [ZJ9 e1 (by rw [lp]; exact hi), ZJ9 e0 (by rw [lp]; exact hi)]
 have gq : ∀ i, sa + na + nb' <= i -> G ys i = G xs i := fun i hi => by
  rw [ZH2 e1 (by rw [lp, lr]; omega), ZH2 e0 (by rw [lp, UE, lx, ly]; omega), lp, lr, UE, lx, ly]
 have gm : ∀ i, sa + k <= i -> i < sa + na + nb' -> G ys i ∈ r.toList := fun i h1 h2 => by
  rw [ZHB e1 (by rw [lp]; exact h1) (by rw [lp, lr]; omega)]
  exact ZJl (by rw [lp, lr]; omega)
 have gr : ∀ i j, sa + k <= i -> i < j -> j < sa + na + nb' -> C (G ys i) (G ys j) = true := fun i j h1 h2 h3 => by
  rw [ZHB e1 (by rw [lp]; exact h1) (by rw [lp, lr]; omega), ZHB (i := j) e1 (by rw [lp]; omega) (by rw [lp, lr]; omega)]
  exact ZLH hw (by rw [lp]; omega) (by rw [lp, lr]; omega)
 have c1 : ∀ i j, i < j -> j < na -> C (G xs (sa + i)) (G xs (sa + j)) = true := S1
 -- the three parts
 have f0 : ∀ i, i < k -> ∀ j, j < nb -> C (G xs (sa + i)) (G xs (sa + na + j)) = true := fun i hi j hj => by
  by_cases e : j = 0
  ·subst e; exact t1 i hi
  ·exact O.tr _ _ _ (t1 i hi) (S2 0 j (by omega) hj)
 have rm : ∀ z ∈ r.toList, (∃ p, sa + k <= p /\ p < sa + na /\ z = G xs p) \/ ∃ p, sa + na <= p /\ p < sa + na + nb' /\ z = G xs p := fun z hz => by
  rcases Va.mp (hp.mem_iff.mp hz) with h | h
  ·exact .inl (ZCk (by omega) h)
  ·exact .inr (ZCk (by omega) h)
 have f1 : ∀ i, i < k -> ∀ z ∈ r.toList, C (G xs (sa + i)) z = true := fun i hi z hz => by
  rcases rm z hz with ⟨p, p1, p2, rfl⟩ | ⟨p, p1, p2, rfl⟩
  ·have := c1 i (p - sa) (by omega) (by omega)
   rwa [show sa + (p - sa) = p by omega] at this
  ·have := f0 i hi (p - (sa + na)) (by omega)
   rwa [show sa + na + (p - (sa + na)) = p by omega] at this
 have f2 : ∀ z ∈ r.toList, ∀ j, nb' <= j -> j < nb -> C z (G xs (sa + na + j)) = true := fun z hz j h1 h2 => by
  rcases rm z hz with ⟨p, p1, p2, rfl⟩ | ⟨p, p1, p2, rfl⟩
  ·by_cases e : p = sa + na - 1
   ·rw [e]; exact u2 j h1 h2
   ·refine O.tr _ _ _ ?_ (u2 j h1 h2)
    have := c1 (p - sa) (na - 1) (by omega) (by omega)
    rwa [show sa + (p - sa) = p by omega, show sa + (na - 1) = sa + na - 1 by omega] at this
  ·have := S2 (p - (sa + na)) j (by omega) h2
   rwa [show sa + na + (p - (sa + na)) = p by omega] at this
 refine ⟨?_, fun i hi => ?_, fun i j hij hj => ?_⟩
 ·have : ys.toList.Perm xs.toList := by
   rw [e1]
   conv => rhs; rw [e0]
   exact (List.Perm.append_left _ hp).append_right _
  exact Vo.mpr this
 ·rcases hi with h | h
  ·exact gp i (by omega)
  ·exact gq i (by omega)
 ·by_cases a1 : i < k
  ·rw [gp (sa + i) (by omega)]
   by_cases a2 : j < k
   ·rw [gp (sa + j) (by omega)]; exact c1 i j hij (by omega)
   by_cases a3 : sa + j < sa + na + nb'
   ·exact f1 i a1 _ (gm _ (by omega) a3)
   ·rw [gq (sa + j) (by omega)]
    have := f0 i a1 (j - na) (by omega)
    rwa [show sa + na + (j - na) = sa + j by omega] at this
  by_cases a2 : sa + i < sa + na + nb'
  ·by_cases a3 : sa + j < sa + na + nb'
   ·exact gr _ _ (by omega) (by omega) a3
   ·rw [gq (sa + j) (by omega)]
    have := f2 _ (gm (sa + i) (by omega) a2) (j - na) (by omega) (by omega)
    rwa [show sa + na + (j - na) = sa + j by omega] at this
  ·rw [gq (sa + i) (by omega), gq (sa + j) (by omega)]
   have := S2 (i - na) (j - na) (by omega) (by omega)
   rwa [show sa + na + (i - na) = sa + i by omega, show sa + na + (j - na) = sa + j by omega] at this
theorem ZH4 {st' : SortSt} {Q : PUnit -> SortSt -> Prop} (h : Q ⟨⟩ st') : wpS (model prog w) A E s (set st' : StateT SortSt Sem PUnit) Q st := wpS_modify (f := fun _ => st') h
theorem ZFj (O : Jm C a₀) (L : ZAP prog w A E s kd a₀ C) (hB : TB kd a₀ st) {i sa na pw nb pw2 : Nat} (h1 : (pendingOf st)[i]? = some (sa, na, pw)) (h2 : (pendingOf st)[i + 1]? = some (sa + na, nb, pw2)) (hna : 1 <= na) (hnb : 1 <= nb) (hs : sa + na + nb <= a₀.size)
  (S1 : Sg C (arrOf st) sa na) (S2 : Sg C (arrOf st) (sa + na) nb) {Q : Bool -> SortSt -> Prop}
  (h : ∀ ys g, Mg C (arrOf st) ys sa (na + nb) -> Q true (SortSt.mk' (kindOf st) ys (((pendingOf st).setIfInBounds i (sa, na + nb, pw)).eraseIdxIfInBounds (i + 1)) g (failedOf st))) : wpS (model prog w) A E s (mergeAt' i) Q st := by
 refine wpS_bind (wpS_get ?_)
 erw [h1, h2]
 dsimp only
 have hsz := hB.size
 have hkd : ∀ p, kindOf (setPending st p) = kd := fun _ => hB.kind
 have hmem : ∀ i, i < (arrOf st).size -> G (arrOf st) i ∈ a₀.toList := fun i hi => hB.mem (by omega)
 have harr : ∀ x ∈ (arrOf st).toList, x ∈ a₀.toList := fun x hx => by
  obtain ⟨j, _, hj, rfl⟩ := ZBe (i := 0) (x := x) (xs := arrOf st) (by simpa using hx)
  exact hmem j hj
 have hinj : ∀ i j, i < (arrOf st).size -> j < (arrOf st).size -> i ≠ j -> G (arrOf st) i ≠ G (arrOf st) j := fun i j hi hj n => hB.inj O (by omega) (by omega) n
 have hmono : ∀ (lo n : Nat), lo + n <= (arrOf st).size -> Sg C (arrOf st) lo n -> ∀ key, ∀ i j, i <= j -> j < n -> (!C key (G (arrOf st) (lo + j))) = true -> (!C key (G (arrOf st) (lo + i))) = true := fun lo n hn S key i j hij hj hh => by
  rw [Bool.not_eq_true'] at hh ⊢
  by_cases e : i = j
  ·rw [e]; exact hh
  ·cases hc : C key (G (arrOf st) (lo + i)) with
   | false => rfl
   | true => rw [O.tr _ _ _ hc (S i j (by omega) hj)] at hh; cases hh
 have hmonoL : ∀ (lo n : Nat), lo + n <= (arrOf st).size -> Sg C (arrOf st) lo n -> ∀ key, ∀ i j, i <= j -> j < n -> C (G (arrOf st) (lo + j)) key = true -> C (G (arrOf st) (lo + i)) key = true := fun lo n hn S key i j hij hj hh => by
  by_cases e : i = j
  ·rw [e]; exact hh
  ·exact O.tr _ _ _ (S i j (by omega) hj) hh
 have tot : ∀ i j, i < (arrOf st).size -> j < (arrOf st).size -> i ≠ j -> C (G (arrOf st) i) (G (arrOf st) j) = false -> C (G (arrOf st) j) (G (arrOf st) i) = true := fun i j hi hj n e => hB.tot O (by omega) (by omega) n e
 refine wpS_bind (ZH4 (wpS_bind (Jj (arr := arrOf st) (by omega) (wpS_bind (ZBS (arr := arrOf st) (ZJi L (hkd _) (hmem _ (by omega)) harr (by omega : _ <= (arrOf st).size)) (hmono sa na (by omega) S1 _) (by omega) fun k kn t1 t2 => ?_)))))
 dsimp only
 have t1' : ∀ i, i < k -> C (G (arrOf st) (sa + i)) (G (arrOf st) (sa + na)) = true := fun i hi => tot _ _ (by omega) (by omega) (by omega) (by simpa using t1 i hi)
 have same : C (G (arrOf st) (sa + na - 1)) (G (arrOf st) (sa + na)) = true -> Mg C (arrOf st) (arrOf st) sa (na + nb) := fun hc => ⟨.refl _, fun _ _ => rfl, S1.join O.tr S2 hna hc⟩
 by_cases c1 : (na - k == 0) = true
 ·rw [if_pos c1]
  have hkn : k = na := by simp at c1; omega
  have hc := t1' (na - 1) (by omega)
  rw [show sa + (na - 1) = sa + na - 1 by omega] at hc
  exact wpS_pure (h _ _ (same hc))
 rw [if_neg c1]
 have hk : k < na := by simp at c1; omega
 have e1 : sa + k + (na - k) - 1 = sa + na - 1 := by omega
 rw [e1]
 refine wpS_bind (Jj (arr := arrOf st) (by omega) (wpS_bind (ZBS (arr := arrOf st) (ZJj L (hkd _) (hmem _ (by omega)) harr (by omega : _ <= (arrOf st).size)) (hmonoL (sa + na) nb (by omega) S2 _) (by omega) fun nb' nbn u1 u2 => ?_)))
 dsimp only
 have u2' : ∀ i, nb' <= i -> i < nb -> C (G (arrOf st) (sa + na - 1)) (G (arrOf st) (sa + na + i)) = true := fun i h1 h2 => tot _ _ (by omega) (by omega) (by omega) (u2 i h1 h2)
 by_cases c2 : (nb' == 0) = true
 ·rw [if_pos c2]
  have e0 : nb' = 0 := by simpa using c2
  exact wpS_pure (h _ _ (same (u2' 0 (by omega) (by omega))))
 rw [if_neg c2]
 have hb1 : 1 <= nb' := by simp at c2; omega
 have M : MP C a₀ ((arrOf st).extract (sa + k) (sa + na)) ((arrOf st).extract (sa + na) (sa + na + nb')) := by
  refine ⟨fun x hx => ?_, fun x hx => ?_, fun x hx y hy e => ?_, S1.pw (by omega) (by omega) (by omega) (Ue _), S2.pw (by omega) (Ue _) (by omega) (by omega), ?_, ?_, ?_, ?_⟩
  ·obtain ⟨p, p1, p2, rfl⟩ := ZCk (by omega) hx
   exact hmem _ (by omega)
  ·obtain ⟨p, p1, p2, rfl⟩ := ZCk (by omega) hx
   exact hmem _ (by omega)
  ·obtain ⟨p, p1, p2, rfl⟩ := ZCk (by omega) hx
   obtain ⟨q, q1, q2, rfl⟩ := ZCk (by omega) hy
   exact hinj p q (by omega) (by omega) (by omega) e
  ·rw [UN]; omega
  ·rw [UN]; omega
  ·rw [ZBq (by omega) (by omega), ZBq (by omega) (by omega), Nat.add_zero, Nat.add_zero]
   have := t2 k (Ue _) hk
   simpa using this
  ·rw [UN, UN, ZBq (by omega) (by omega), ZBq (by omega) (by omega)]
   have := u1 (nb' - 1) (by omega)
   rw [show sa + na + (min (sa + na + nb') (arrOf st).size - (sa + na) - 1) = sa + na + (nb' - 1) by omega, show sa + k + (min (sa + na) (arrOf st).size - (sa + k) - 1) = sa + na - 1 by omega]
   exact this
 have fin : ∀ r, MOk C ((arrOf st).extract (sa + k) (sa + na)) ((arrOf st).extract (sa + na) (sa + na + nb')) r -> Mg C (arrOf st) (r.toList.zipIdx.foldl (fun (a : Array Keyed) (q : Keyed × Nat) => a.setIfInBounds (sa + k + q.2) q.1) (arrOf st)) sa (na + nb) := fun r hr => ZH3 O (by omega) S1 S2 hk nbn hb1 hmem hinj t1' u2' hr
 have done : ∀ r g, MOk C ((arrOf st).extract (sa + k) (sa + na)) ((arrOf st).extract (sa + na) (sa + na + nb')) r -> wpS (model prog w) A E s (do
   modify fun s => setArr s (r.toList.zipIdx.foldl (fun a x => a.setIfInBounds (sa + k + x.2) x.1) (arrOf s))
   let l <- get
   pure (failedOf l).isNone) Q (JS (setPending st (((pendingOf st).setIfInBounds i (sa, na + nb, pw)).eraseIdxIfInBounds (i + 1))) g) := fun r g hr => by
  refine wpS_bind (wpS_modify (wpS_bind (wpS_get ?_)))
  have := h _ g (fin r hr)
  refine wpS_pure ?_
  have hf : (failedOf st).isNone = true := by rw [hB.failed]; rfl
  show Q (failedOf st).isNone _
  rw [hf]
  exact this
 split
 ·exact wpS_bind <| ZFh O L M (hkd _) fun r g hr => done r g hr
 ·exact wpS_bind <| ZFi O L M (hkd _) fun r g hr => done r g hr
end
def Jg (C : Cmp) (xs : Array Keyed) : Nat -> List (Nat × Nat × Nat) -> Nat -> Prop
 | lo, [], hi => lo = hi
 | lo, x :: r, hi => x.1 = lo /\ 1 <= x.2.1 /\ Sg C xs lo x.2.1 /\ Jg C xs (lo + x.2.1) r hi
section
variable {C : Cmp} {xs ys : Array Keyed}
theorem Jg.le : ∀ {l : List (Nat × Nat × Nat)} {lo hi : Nat}, Jg C xs lo l hi -> lo + l.length <= hi
 | [], lo, hi, h => by cases h; exact Ue _
 | x :: r, lo, hi, ⟨h1, h2, h3, h4⟩ => by
  have := h4.le
  rw [Vk]
  omega
theorem Sg.congr {lo n : Nat} (h : Sg C xs lo n) (e : ∀ k, lo <= k -> k < lo + n -> G ys k = G xs k) : Sg C ys lo n := fun i j hij hj => by
 rw [e _ (by omega) (by omega), e _ (by omega) (by omega)]
 exact h i j hij hj
theorem Jg.congr : ∀ {l : List (Nat × Nat × Nat)} {lo hi : Nat}, Jg C xs lo l hi -> (∀ k, lo <= k -> k < hi -> G ys k = G xs k) -> Jg C ys lo l hi
 | [], lo, hi, h, e => h
 | x :: r, lo, hi, ⟨h1, h2, h3, h4⟩, e => by
  have := h4.le
  exact ⟨h1, h2, h3.congr fun k k1 k2 => e k k1 (by omega), h4.congr fun k k1 k2 => e k (by omega) k2⟩
theorem Jg.split : ∀ {l1 l2 : List (Nat × Nat × Nat)} {lo hi : Nat}, Jg C xs lo (l1 ++ l2) hi -> ∃ m, Jg C xs lo l1 m /\ Jg C xs m l2 hi
 | [], l2, lo, hi, h => ⟨lo, rfl, h⟩
 | x :: r, l2, lo, hi, ⟨h1, h2, h3, h4⟩ => by
  obtain ⟨m, a, b⟩ := Jg.split h4
  exact ⟨m, ⟨h1, h2, h3, a⟩, b⟩
theorem Jg.app : ∀ {l1 l2 : List (Nat × Nat × Nat)} {lo m hi : Nat}, Jg C xs lo l1 m -> Jg C xs m l2 hi -> Jg C xs lo (l1 ++ l2) hi
 | [], l2, lo, m, hi, h, h' => by cases h; exact h'
 | x :: r, l2, lo, m, hi, ⟨h1, h2, h3, h4⟩, h' => ⟨h1, h2, h3, Jg.app h4 h'⟩
theorem ZH5 {p : Array (Nat × Nat × Nat)} {i : Nat} {x y : Nat × Nat × Nat} (h1 : p[i]? = some x) (h2 : p[i + 1]? = some y) : ∃ l1 l2, p.toList = l1 ++ x :: y :: l2 /\ l1.length = i := by
 rw [<- Vf] at h1 h2
 obtain ⟨b1, e1⟩ := UC.mp h1
 obtain ⟨b2, e2⟩ := UC.mp h2
 refine ⟨p.toList.take i, p.toList.drop (i + 2), ?_, by rw [UI]; omega⟩
 conv => lhs; rw [<- List.take_append_drop i p.toList, Vq b1, Vq b2, e1, e2]
theorem ZGJ {p : Array (Nat × Nat × Nat)} {i : Nat} {x y z : Nat × Nat × Nat} {l1 l2 : List (Nat × Nat × Nat)} (h : p.toList = l1 ++ x :: y :: l2) (hl : l1.length = i) : ((p.setIfInBounds i z).eraseIdxIfInBounds (i + 1)).toList = l1 ++ z :: l2 := by
 rw [Array.toList_eraseIdxIfInBounds, Array.toList_setIfInBounds, h, <- hl, List.set_append_right _ _ (Ue _), Nat.sub_self, List.set_cons_zero, List.eraseIdx_append_of_length_le (by omega), show l1.length + 1 - l1.length = 1 by omega]
 rfl
theorem Jg.two {p : Array (Nat × Nat × Nat)} {i hi : Nat} {x y : Nat × Nat × Nat} (h : Jg C xs 0 p.toList hi) (h1 : p[i]? = some x) (h2 : p[i + 1]? = some y) :
  y.1 = x.1 + x.2.1 /\ 1 <= x.2.1 /\ 1 <= y.2.1 /\ Sg C xs x.1 x.2.1 /\ Sg C xs (x.1 + x.2.1) y.2.1 /\ x.1 + x.2.1 + y.2.1 <= hi /\
  ∀ ys, Mg C xs ys x.1 (x.2.1 + y.2.1) -> Jg C ys 0 ((p.setIfInBounds i (x.1, x.2.1 + y.2.1, x.2.2)).eraseIdxIfInBounds (i + 1)).toList hi := by
 obtain ⟨l1, l2, e, hl⟩ := ZH5 h1 h2
 rw [e] at h
 obtain ⟨m, ha, rfl, b1, b2, c0, c1, c2, d⟩ := h.split
 have hd := d.le
 refine ⟨c0, b1, c1, b2, c2, by omega, fun ys M => ?_⟩
 rw [ZGJ e hl]
 refine (ha.congr fun k _ k2 => M.out k (.inl k2)).app ⟨rfl, by show 1 <= x.2.1 + y.2.1; omega, M.run, ?_⟩
 show Jg C ys (x.1 + (x.2.1 + y.2.1)) l2 hi
 rw [<- Nat.add_assoc]
 exact d.congr fun k k1 _ => M.out k (.inr (by omega))
theorem Jg.push {p : Array (Nat × Nat × Nat)} {lo n q : Nat} (h : Jg C xs 0 p.toList lo) (hn : 1 <= n) (hs : Sg C xs lo n) : Jg C xs 0 (p.push (lo, n, q)).toList (lo + n) := by
 rw [Ve]
 exact h.app ⟨rfl, hn, hs, rfl⟩
theorem Jg.pw : ∀ {l l' : List (Nat × Nat × Nat)} {lo hi : Nat}, Jg C xs lo l hi -> l.map (fun x => (x.1, x.2.1)) = l'.map (fun x => (x.1, x.2.1)) -> Jg C xs lo l' hi
 | [], l', lo, hi, h, e => by
  cases l' with
  | nil => exact h
  | cons => cases e
 | x :: r, l', lo, hi, ⟨h1, h2, h3, h4⟩, e => by
  cases l' with
  | nil => cases e
  | cons y r' =>
   rw [UJ, UJ] at e
   injection e with e1 e2
   injection e1 with e3 e4
   refine ⟨e3 ▸ h1, e4 ▸ h2, e4 ▸ h3, ?_⟩
   rw [<- e4]
   exact h4.pw e2
theorem Jg.modify {p : Array (Nat × Nat × Nat)} {hi i q : Nat} (h : Jg C xs 0 p.toList hi) : Jg C xs 0 (p.modify i fun x => (x.1, x.2.1, q)).toList hi := by
 refine h.pw ?_
 rw [Array.toList_modify]
 apply List.ext_getElem?
 intro j
 rw [UB, UB, List.getElem?_modify]
 cases p.toList[j]? with
 | none => rfl
 | some x => by_cases c : i = j <;> simp [c]
theorem Jg.one {p : Array (Nat × Nat × Nat)} {hi : Nat} (h : Jg C xs 0 p.toList hi) (hp : p.size <= 1) : Sg C xs 0 hi := by
 cases e : p.toList with
 | nil => rw [e] at h; cases h; intro i j _ hj; omega
 | cons x r =>
  have : r = [] := by
   have := congrArg List.length e
   rw [Ui, Vk] at this
   exact List.eq_nil_of_length_eq_zero (by omega)
  subst this
  rw [e] at h
  obtain ⟨_, _, h3, h4⟩ := h
  cases h4
  rw [Nat.zero_add]
  exact h3
end
section
variable {prog : Program} {w : World} {A : Around} {E : Value -> Shared -> Prop} {s : Shared} {kd : SortKind} {a₀ : Array Keyed} {C : Cmp} {st : SortSt}
theorem ZDe (O : Jm C a₀) (L : ZAP prog w A E s kd a₀ C) (hB : TB kd a₀ st) {hi i : Nat} (hR : Jg C (arrOf st) 0 (pendingOf st).toList hi) (hhi : hi <= a₀.size) (hi1 : i + 1 < (pendingOf st).size) {Q : Bool -> SortSt -> Prop}
  (h : ∀ st2, TB kd a₀ st2 -> Jg C (arrOf st2) 0 (pendingOf st2).toList hi -> (∀ k, hi <= k -> G (arrOf st2) k = G (arrOf st) k) -> (pendingOf st2).size + 1 = (pendingOf st).size -> Q true st2) : wpS (model prog w) A E s (mergeAt' i) Q st := by
 have e1 : (pendingOf st)[i]? = some (pendingOf st)[i] := Ur (by omega)
 have e2 : (pendingOf st)[i + 1]? = some (pendingOf st)[i + 1] := Ur hi1
 generalize (pendingOf st)[i] = x at e1
 generalize (pendingOf st)[i + 1] = y at e2
 obtain ⟨sa, na, pw⟩ := x
 obtain ⟨sb, nb, pw2⟩ := y
 obtain ⟨h1, h2, h3, h4, h5, h6, h7⟩ := hR.two e1 e2
 dsimp only at h1 h2 h3 h4 h5 h6 h7
 subst h1
 refine ZFj O L hB e1 e2 h2 h3 (by omega) h4 h5 fun ys g M => h _ ⟨M.perm.trans hB.perm, hB.kind, hB.failed⟩ (h7 ys M) (fun k hk => M.out k (.inr (by omega))) ?_
 show (((pendingOf st).setIfInBounds i (sa, na + nb, pw)).eraseIdxIfInBounds (i + 1)).size + 1 = _
 obtain ⟨l1, l2, e, hl⟩ := ZH5 e1 e2
 rw [<- Ui, <- Ui, ZGJ e hl, e]
 simp
 omega
def ZGK (size lo n : Nat) : StateT SortSt Sem (ForInStep (Option Unit × Nat)) := do
 let l <- get
 match (pendingOf l).back? with
 | some (s1, n1, snd) => do
  let r <- forIn [:size] ((none, ()) : Option Unit × Unit) fun x r => do
   let l <- get
   match if (pendingOf l).size > 1 then (pendingOf l)[(pendingOf l).size - 2]? else none with
   | some (fst, fst_1, older) =>
    if older <= power' size (2 * s1 + n1) (2 * s1 + n1 + n1 + n) size then pure (ForInStep.done (none, ()))
    else do
     let l <- mergeAt' ((pendingOf l).size - 2)
     if (!l) = true then pure (ForInStep.done (some (), ())) else pure (ForInStep.yield (none, ()))
   | x => pure (ForInStep.done (none, ()))
  @Break.runK.match_1.{0, 1} Unit (fun _ => StateT SortSt Sem (ForInStep (Option Unit × Nat))) r.fst (fun r => pure (ForInStep.done (some r, lo))) (fun _ => do
   modify fun s => setPending s ((pendingOf s).modify ((pendingOf s).size - 1) fun x => (x.fst, x.2.fst, power' size (2 * s1 + n1) (2 * s1 + n1 + n1 + n) size))
   modify fun s => setPending s ((pendingOf s).push (lo, n, 0))
   pure (ForInStep.yield (none, lo + n)))
 | x => do
  modify fun s => setPending s ((pendingOf s).push (lo, n, 0))
  pure (ForInStep.yield (none, lo + n))
theorem ZH6 (O : Jm C a₀) (L : ZAP prog w A E s kd a₀ C) (hB : TB kd a₀ st) {lo n : Nat} (hR : Jg C (arrOf st) 0 (pendingOf st).toList lo) (hn : 1 <= n) (hhi : lo + n <= a₀.size) (hs : Sg C (arrOf st) lo n) {T : ForInStep (Option Unit × Nat) -> SortSt -> Prop}
  (h : ∀ st2, TB kd a₀ st2 -> Jg C (arrOf st2) 0 (pendingOf st2).toList (lo + n) -> T (.yield (none, lo + n)) st2) : wpS (model prog w) A E s (ZGK a₀.size lo n) T st := by
 unfold ZGK
 refine wpS_bind (wpS_get ?_)
 cases hb : (pendingOf st).back? with
 | none =>
  dsimp only
  exact wpS_bind (wpS_modify (wpS_pure (h _ ⟨hB.perm, hB.kind, hB.failed⟩ (hR.push hn hs))))
 | some z =>
  obtain ⟨s1, n1, q1⟩ := z
  dsimp only
  generalize power' a₀.size (2 * s1 + n1) (2 * s1 + n1 + n1 + n) a₀.size = pw
  refine wpS_bind (wpS_mono (wpS_forRange (I := fun x c st' => c = (none, ()) /\ TB kd a₀ st' /\ Jg C (arrOf st') 0 (pendingOf st').toList lo /\ Sg C (arrOf st') lo n)
   (Q := fun c st' => c = (none, ()) /\ TB kd a₀ st' /\ Jg C (arrOf st') 0 (pendingOf st').toList lo /\ Sg C (arrOf st') lo n) ?step (fun _ _ hh => hh) ⟨rfl, hB, hR, hs⟩) ?post)
  case post =>
   rintro c st' ⟨rfl, hB', hR', hs'⟩
   dsimp only
   exact wpS_bind (wpS_modify (wpS_bind (wpS_modify (wpS_pure (h _ ⟨hB'.perm, hB'.kind, hB'.failed⟩ (hR'.modify.push hn hs'))))))
  case step =>
   rintro x c st' _ hx ⟨rfl, hB', hR', hs'⟩
   refine wpS_bind (wpS_get ?_)
   by_cases c1 : (pendingOf st').size > 1
   ·rw [if_pos c1, Ur (by omega)]
    generalize (pendingOf st')[(pendingOf st').size - 2] = z
    obtain ⟨z1, z2, older⟩ := z
    dsimp only
    by_cases c2 : older <= pw
    ·rw [if_pos c2]
     exact wpS_pure ⟨rfl, hB', hR', hs'⟩
    rw [if_neg c2]
    refine wpS_bind (ZDe O L hB' hR' (by omega) (by omega) fun st2 hB2 hR2 hG _ => ?_)
    simp only [Vb, Uh, if_false]
    exact wpS_pure ⟨rfl, hB2, hR2, hs'.congr fun k k1 _ => hG k k1⟩
   ·rw [if_neg c1]
    exact wpS_pure ⟨rfl, hB', hR', hs'⟩
theorem ZH7 (O : Jm C a₀) (L : ZAP prog w A E s kd a₀ C) {Q : Unit -> SortSt -> Prop} (hB : TB kd a₀ st) (hp : pendingOf st = #[])
  (h : ∀ st', TB kd a₀ st' -> Sg C (arrOf st') 0 a₀.size -> Q () st') : wpS (model prog w) A E s sortRuns' Q st := by
 rw [sortRuns'_eq]
 refine wpS_bind (wpS_get ?_)
 dsimp only
 simp only [hB.size]
 generalize minRun' a₀.size a₀.size 0 = mr
 refine wpS_bind (wpS_mono (wpS_forRange
  (I := fun x c st' => ∃ lo, c = (none, lo) /\ TB kd a₀ st' /\ Jg C (arrOf st') 0 (pendingOf st').toList lo /\ lo <= a₀.size /\ x <= lo)
  (Q := fun c st' => c = (none, a₀.size) /\ TB kd a₀ st' /\ Jg C (arrOf st') 0 (pendingOf st').toList a₀.size) ?step ?fin ⟨0, rfl, hB, by rw [hp]; rfl, UF _, Ue _⟩) ?post)
 case fin =>
  rintro c st' ⟨lo, rfl, hB', hR, h1, h2⟩
  have e : lo = a₀.size := by omega
  subst e
  exact ⟨rfl, hB', hR⟩
 case step =>
  rintro x c st' _ hx ⟨lo, rfl, hB', hR, h1, h2⟩
  dsimp only
  by_cases c0 : lo >= a₀.size
  ·rw [if_pos c0]
   have e : lo = a₀.size := by omega
   subst e
   exact wpS_pure ⟨rfl, hB', hR⟩
  rw [if_neg c0]
  refine wpS_bind (ZG6 O L (by omega) (by omega) hB' fun m xs hB2 hb2 hm1 hm2 hs2 => ?_)
  dsimp only
  have hR2 : Jg C xs 0 (pendingOf st').toList lo := hR.congr fun k _ k2 => hb2 k k2
  by_cases hlt : m < mr
  ·rw [if_pos hlt]
   refine wpS_bind (wpS_lift (wpAny_rule ⟨rfl, ?_⟩))
   refine wpS_bind (ZJg O L (by omega) hm1 (by omega) hB2 hs2 fun xs3 hB3 hb3 hs3 => ?_)
   simp only [Vb, Uh, if_false]
   exact ZH6 (st := setArr (setArr st' xs) xs3) O L hB3 (hR2.congr fun k _ k2 => hb3 k k2) (by omega) (by omega) hs3 fun st2 g1 g2 => ⟨_, rfl, g1, g2, by omega, by omega⟩
  ·rw [if_neg hlt]
   exact ZH6 (st := setArr st' xs) O L hB2 hR2 hm1 (by omega) hs2 fun st2 g1 g2 => ⟨_, rfl, g1, g2, by omega, by omega⟩
 case post =>
  rintro c st' ⟨rfl, hB', hR⟩
  dsimp only
  have hle := hR.le
  rw [Ui] at hle
  refine wpS_bind (wpS_mono (wpS_forRange (I := fun x c st' => c = (none, ()) /\ TB kd a₀ st' /\ Jg C (arrOf st') 0 (pendingOf st').toList a₀.size /\ (pendingOf st').size + x <= a₀.size)
   (Q := fun c st' => c = (none, ()) /\ TB kd a₀ st' /\ Jg C (arrOf st') 0 (pendingOf st').toList a₀.size /\ (pendingOf st').size <= 1) ?step2 ?fin2 ⟨rfl, hB', hR, by omega⟩) ?post2)
  case post2 =>
   rintro c st2 ⟨rfl, hB2, hR2, hp2⟩
   dsimp only
   exact wpS_pure (h _ hB2 (hR2.one hp2))
  case fin2 =>
   rintro c st2 ⟨rfl, hB2, hR2, hp2⟩
   exact ⟨rfl, hB2, hR2, by omega⟩
  case step2 =>
   rintro x c st2 _ hx ⟨rfl, hB2, hR2, hp2⟩
   refine wpS_bind (wpS_get ?_)
   by_cases c1 : (pendingOf st2).size <= 1
   ·rw [if_pos c1]
    exact wpS_pure ⟨rfl, hB2, hR2, c1⟩
   rw [if_neg c1]
   refine wpS_bind (ZDe O L hB2 hR2 (Ue _) ?_ fun st3 hB3 hR3 _ hsz => ?_)
   ·have : ∀ (c : Bool) (n : Nat), n > 1 -> (if c = true then n - 2 - 1 else n - 2) + 1 < n := by
     intro c n h
     cases c <;> simp <;> omega
    exact this _ _ (by omega)
   ·simp only [Vb, Uh, if_false]
    exact wpS_pure ⟨rfl, hB3, hR3, by omega⟩
end
section
variable {prog : Program} {w : World} {A : Around} {E : Value -> Shared -> Prop} {s : Shared}
theorem ZFQ (vs : List Value) : (vs.toArray.zip vs.toArray).toList = vs.map fun v => (v, v) := by
 rw [Array.toList_zip]
 induction vs with
 | nil => rfl
 | cons v r ih => simpa using ih
theorem ZGL (vs : List Value) : (vs.map fun v => (v, v)).map (·.2) = vs := by rw [List.map_map]; exact List.map_id vs
theorem ZEb {a : Addr} {vs : List Value} {n : Nat} {P : Fin -> Shared -> Prop} {kd : SortKind} (C : Value -> Value -> Bool) (tr : ∀ x y z, C x y = true -> C y z = true -> C x z = true) (asy : ∀ x y, C x y = true -> C y x = false)
  (tot : ∀ x ∈ vs, ∀ y ∈ vs, x ≠ y -> C x y = false -> C y x = true) (nd : vs.Nodup) (hsz : vs.length <= sizeLine) (ho : s.heap.get? a = some (seqObj "list" vs.toArray n))
  (kind : 2 <= vs.length -> ∀ h3 : Heap, (∀ b o, b ≠ a -> s.heap.get? b = some o -> h3.get? b = some o) -> ∀ Q : SortKind -> Shared -> Prop, Q kd { s with heap := h3 } -> wpAny (model prog w) A (keyKind' vs.toArray) Q E { s with heap := h3 })
  (lt : ∀ h3 : Heap, (∀ b o, b ≠ a -> s.heap.get? b = some o -> h3.get? b = some o) -> ∀ x ∈ vs, ∀ y ∈ vs, ∀ (E' : Value -> Shared -> Prop) (Q : Bool -> Shared -> Prop), Q (C x y) { s with heap := h3 } -> wpAny (model prog w) A (keyLt' kd x y) Q E' { s with heap := h3 })
  (h : ∀ out : List Value, out.Perm vs -> out.Pairwise (fun x y => C x y = true) -> P (.done (.ret .none)) { s with heap := sortedHeap s.heap a vs out.toArray }) :
  wpAny (model prog w) A (Builtin.«list.sort» ⟨[.ref a], []⟩) P E s := by
 have ha : a < s.heap.objs.size := Ug ho
 rw [list_sort_plain]
 refine Ua (listItems_at ho rfl ?_)
 refine Ua (listUpdate_at ho rfl ?_ (by rw [Uq]; exact hsz) (UF _))
 obtain ⟨e1, ho1⟩ : ∃ e1, (s.heap.update a (Obj.mapSeq fun _ => (#[] : Array Value))).get? a = some (seqObj "list" #[] e1) := ⟨_, get?_update_seq ho fun _ => #[]⟩
 refine Ua (seqEpoch_at ho1 rfl ?_)
 refine Ua (wpAny_newTuple ?_ (by show vs.length <= _; exact hsz))
 refine Ua (wpAny_newList ?_ (UF _))
 refine UR ?_
 generalize hh : (((s.heap.update a (Obj.mapSeq fun _ => (#[] : Array Value))).push (seqObj "tuple" vs.toArray 0)).push (seqObj "list" #[] 0)) = h3
 have ho3 : h3.get? a = some (seqObj "list" #[] e1) := by rw [<- hh]; exact Ub _ (Ub _ ho1)
 have keep : ∀ b o, b ≠ a -> s.heap.get? b = some o -> h3.get? b = some o := fun b o hb e => by
  rw [<- hh]
  exact Ub _ (Ub _ ((Uz _ _ (Ne.symm hb)).trans e))
 have done : ∀ out : List Value, out.Perm vs -> out.Pairwise (fun x y => C x y = true) ->
   P (.done (.ret .none)) { s with heap := h3.update a (Obj.mapSeq fun _ => out.toArray) } := fun out hp hs => by
  have := h out hp hs
  unfold sortedHeap at this
  rw [hh] at this
  exact this
 show wpAny (model prog w) A _ P E { s with heap := h3 }
 dsimp only
 have fin : ∀ st' : SortSt, failedOf st' = none -> (∃ out : List Value, (arrOf st').map (·.2) = out.toArray /\ out.Perm vs /\ out.Pairwise (fun x y => C x y = true)) -> wpAny (model prog w) A (do
   let l <- seqEpoch a
   Builtin.List.listUpdate (.ref a) fun _ => (arrOf st').map (·.2)
   if let some e := failedOf st' then rule "list.sort.comparison-raised"; throw e
   if (l != e1) = true then rule "list.sort.modified"; raiseError "ValueError" "list modified during sort"
   ret .none) P E { s with heap := h3 } := by
  rintro st' hf ⟨out, e, hp, hs⟩
  rw [e]
  refine Ua (seqEpoch_at (s := { s with heap := h3 }) ho3 rfl ?_)
  refine Ua (listUpdate_at (s := { s with heap := h3 }) ho3 rfl ?_ (UF _) ?_)
  ·rw [hf]
   simp only [bne_self_eq_false, Uh, if_false]
   exact Ud (done out hp hs)
  ·show out.toArray.size <= _
   rw [Uq, hp.length_eq]
   omega
 by_cases h2 : vs.toArray.size < 2
 ·rw [if_pos h2, if_pos h2]
  refine Ua (Ud ?_)
  rw [StateT.run_pure]
  refine Ua (Ud ?_)
  refine fin (SortSt.mk' general' (vs.toArray.zip vs.toArray) #[] 7 none) rfl ⟨vs, ?_, .refl _, ?_⟩
  ·apply Array.toList_inj.mp
   show ((vs.toArray.zip vs.toArray).map (·.2)).toList = _
   rw [Array.toList_map, ZFQ, ZGL]
  ·rw [Uq] at h2
   match vs, h2 with
   | [], _ => exact .nil
   | [v], _ => exact List.pairwise_singleton _ _
 ·rw [if_neg h2, if_neg h2]
  have h2' : 2 <= vs.length := by rw [Uq] at h2; omega
  refine Ua (kind h2' h3 keep _ ?_)
  have hz := ZFQ vs
  have hzm : ∀ x ∈ (vs.toArray.zip vs.toArray).toList, x.1 ∈ vs /\ x = (x.1, x.1) := fun x hx => by
   rw [hz] at hx
   obtain ⟨v, hv, rfl⟩ := Ux.mp hx
   exact ⟨hv, rfl⟩
  have O : Jm (fun x y => C x.1 y.1) (vs.toArray.zip vs.toArray) := by
   refine ⟨fun x y z => tr _ _ _, fun x y => asy _ _, fun x hx y hy n e => ?_, ?_⟩
   ·obtain ⟨x1, x2⟩ := hzm x hx
    obtain ⟨y1, y2⟩ := hzm y hy
    exact tot _ x1 _ y1 (fun z => n (by rw [x2, y2, z])) e
   ·rw [hz]
    exact Vu.mpr (nd.imp fun h e => h (Prod.mk.inj e).1)
  have L : ZAP prog w A E { s with heap := h3 } kd (vs.toArray.zip vs.toArray) (fun x y => C x.1 y.1) := fun x hx y hy st Q hk hq => by
   rw [lt'_eq]
   refine wpS_bind (wpS_get ?_)
   rw [hk]
   refine wpS_bind (wpS_lift (wpAny_attempt (lt h3 keep _ (hzm x hx).1 _ (hzm y hy).1 _ _ ⟨rfl, ?_⟩)))
   exact wpS_pure hq
  refine Ua (UA (ZH7 (st := SortSt.mk' kd (vs.toArray.zip vs.toArray) #[] 7 none) O L (Q := fun _ st' => TB kd (vs.toArray.zip vs.toArray) st' /\ Sg (fun x y => C x.1 y.1) (arrOf st') 0 (vs.toArray.zip vs.toArray).size)
   ⟨.refl _, rfl, rfl⟩ rfl fun st' b1 b2 => ⟨b1, b2⟩) ?_ fun _ _ e => e)
  rintro ⟨⟨⟩, st'⟩ s' ⟨rfl, hB, hS⟩
  refine fin st' hB.failed ⟨((arrOf st').map (·.2)).toList, by rw [Array.toArray_toList], ?_, ?_⟩
  ·have hp := (Vo.mp hB.perm).map (·.2)
   rw [hz, ZGL] at hp
   rw [Array.toList_map]
   exact hp
  ·have := hS.pw (by rw [hB.size]; omega) (i := 0) (j := (arrOf st').size) (Ue _) (UF _) (by rw [hB.size]; omega)
   rw [Array.extract_size] at this
   rw [Array.toList_map, Vu]
   refine this.imp_of_mem fun {x y} hx hy e => ?_
   have hm : ∀ x ∈ (arrOf st').toList, x = (x.1, x.1) := fun x hx => (hzm x ((Vo.mp hB.perm).mem_iff.mp hx)).2
   rw [hm x hx, hm y hy]
   exact e
def ZJm : Value -> Int
 | .int a _ => a
 | _ => 0
def ltI : Value -> Value -> Bool
 | .int a _, .int b _ => decide (a < b)
 | _, _ => false
theorem ZDf : ∀ {vs : List Value} {ns : List Int}, IntsAre vs ns -> vs.map ZJm = ns /\ ∀ v ∈ vs, ∃ a t, v = .int a t
 | _, _, .nil => ⟨rfl, fun v hv => by cases hv⟩
 | _, _, .cons a t r => by
  obtain ⟨h1, h2⟩ := ZDf r
  refine ⟨by rw [UJ, h1]; rfl, fun v hv => ?_⟩
  rcases Ul.mp hv with rfl | hv
  ·exact ⟨_, _, rfl⟩
  ·exact h2 v hv
theorem ZEJ : ∀ {vs : List Value}, (∀ v ∈ vs, ∃ a t, v = .int a t) -> IntsAre vs (vs.map ZJm)
 | [], _ => .nil
 | v :: r, h => by
  obtain ⟨a, t, rfl⟩ := h v (.head _)
  exact .cons _ _ (ZEJ fun v hv => h v (.tail _ hv))
theorem ZGM {f : Value -> Int} : ∀ {vs : List Value}, (vs.map f).Nodup -> ∀ x ∈ vs, ∀ y ∈ vs, f x = f y -> x = y
 | [], _, x, hx, _, _, _ => by cases hx
 | v :: r, h, x, hx, y, hy, e => by
  rw [UJ, Vv] at h
  rcases Ul.mp hx with e1 | hx'
  ·rcases Ul.mp hy with e2 | hy'
   ·rw [e1, e2]
   ·refine absurd (Ux.mpr ⟨y, hy', ?_⟩) h.1
    rw [<- e, e1]
  ·rcases Ul.mp hy with e2 | hy'
   ·refine absurd (Ux.mpr ⟨x, hx', ?_⟩) h.1
    rw [e, e2]
   ·exact ZGM h.2 x hx' y hy' e
theorem ZDw {a : Addr} {vs : List Value} {ns : List Int} {n : Nat} {P : Fin -> Shared -> Prop} (ho : s.heap.get? a = some (seqObj "list" vs.toArray n)) (hI : IntsAre vs ns) (nd : ns.Nodup) (hsz : vs.length <= sizeLine)
  (h : ∀ (out : Array Value) (ns' : List Int), IntsAre out.toList ns' -> ns'.Perm ns -> ns'.Pairwise (· <= ·) -> P (.done (.ret .none)) { s with heap := sortedHeap s.heap a vs out }) :
  wpAny (model prog w) A (Builtin.«list.sort» ⟨[.ref a], []⟩) P E s := by
 obtain ⟨f1, f2⟩ := ZDf hI
 subst f1
 have inj := ZGM nd
 refine ZEb (kd := oneType') ltI (fun x y z h1 h2 => ?_) (fun x y h1 => ?_) (fun x hx y hy n e => ?_) ?_ hsz ho (fun h2 h3 _ Q hq => ?_) (fun h3 _ x hx y hy E' Q hq => ?_) fun out hp hs => ?_
 ·cases x <;> cases y <;> cases z <;> simp [ltI] at h1 h2 ⊢
  omega
 ·cases x <;> cases y <;> simp [ltI] at h1 ⊢
  omega
 ·obtain ⟨a, t, rfl⟩ := f2 x hx
  obtain ⟨b, u, rfl⟩ := f2 y hy
  have : a ≠ b := fun z => n (inj _ hx _ hy z)
  simp [ltI] at e ⊢
  omega
 ·exact (Vu.mp nd).imp fun h e => h (by rw [e])
 ·match vs, h2, hI with
  | v₁ :: v₂ :: Js, _, hI =>
   rw [keyKind_ints hI]
   exact Ud hq
 ·obtain ⟨a, t, rfl⟩ := f2 x hx
  obtain ⟨b, u, rfl⟩ := f2 y hy
  rw [keyLt'_oneType]
  exact oneLt_int hq
 ·have f3 : ∀ v ∈ out, ∃ a t, v = .int a t := fun v hv => f2 v (hp.mem_iff.mp hv)
  refine h out.toArray (out.map ZJm) (ZEJ f3) (hp.map _) ?_
  rw [Vu]
  refine hs.imp_of_mem fun {x y} hx hy e => ?_
  obtain ⟨a, t, rfl⟩ := f3 x hx
  obtain ⟨b, u, rfl⟩ := f3 y hy
  simp [ltI] at e
  show a <= b
  omega
end
end L2
namespace L2
open PySem PySem.SetTable
def ZBF (m : Nat) (p : Probe) : Probe :=
 if p.more > 0 then { p with j := p.j + 1, more := p.more - 1 } else
 { p with j := (leap m p.i p.perturb).1, more := runEnd m (leap m p.i p.perturb).1 - (leap m p.i p.perturb).1, i := (leap m p.i p.perturb).1, perturb := (leap m p.i p.perturb).2 }
theorem ZH8 (t : SetTable) (p : Probe) : t.advance p = ZBF t.mask p := by
 unfold SetTable.advance ZBF
 split <;> rfl
def ZDx (m i pt : Nat) : Probe := { j := i, more := runEnd m i - i, i, perturb := pt, dummy := none }
def pth (m : Nat) (h : Int) : Nat -> Probe
 | 0 => ZDx m (bits h % (m + 1)) (bits h)
 | k + 1 => ZBF m (pth m h k)
theorem ZEK (m : Nat) (h : Int) : ∀ k, (pth m h k).dummy = none
 | 0 => rfl
 | k + 1 => by
  have := ZEK m h k
  show (ZBF m (pth m h k)).dummy = none
  unfold ZBF
  split <;> exact this
def tn (m : Nat) (h : Int) : Nat -> Nat × Nat
 | 0 => (bits h % (m + 1), bits h)
 | τ + 1 => leap m (tn m h τ).1 (tn m h τ).2
theorem ZDy (m i pt : Nat) : ∀ (r j : Nat), ∀ (f : Nat -> Probe), (∀ k, f (k + 1) = ZBF m (f k)) -> f 0 = { j, more := r, i, perturb := pt, dummy := none } -> f (r + 1) = ZDx m (leap m i pt).1 (leap m i pt).2
 | 0, j, f, hf, h0 => by rw [hf 0, h0]; rfl
 | r + 1, j, f, hf, h0 => by
  have := ZDy m i pt r (j + 1) (fun k => f (k + 1)) (fun k => hf (k + 1)) (by rw [hf 0, h0]; rfl)
  exact this
theorem ZH9 (m i : Nat) : runEnd m i - i <= 9 := by
 unfold runEnd
 split <;> omega
theorem ZFR (m : Nat) (h : Int) : ∀ τ, ∃ k, k <= 10 * τ /\ pth m h k = ZDx m (tn m h τ).1 (tn m h τ).2
 | 0 => ⟨0, Ue _, rfl⟩
 | τ + 1 => by
  obtain ⟨k, hk, e⟩ := ZFR m h τ
  have hr := ZH9 m (tn m h τ).1
  refine ⟨k + (runEnd m (tn m h τ).1 - (tn m h τ).1 + 1), by omega, ?_⟩
  exact ZDy m (tn m h τ).1 (tn m h τ).2 _ _ (fun x => pth m h (k + x)) (fun x => rfl) (by exact e)
theorem ZGN (m : Nat) (h : Int) : ∀ τ, (tn m h τ).2 = bits h / 32 ^ τ
 | 0 => by rw [Nat.pow_zero, Nat.div_one]; rfl
 | τ + 1 => by
  show (tn m h τ).2 / 32 = _
  rw [ZGN m h τ, Nat.div_div_eq_div_mul, Nat.pow_succ]
theorem ZLI (h : Int) : bits h < 2 ^ 64 := by
 unfold bits
 have h1 := Int.emod_nonneg h (show (2 ^ 64 : Int) ≠ 0 by decide)
 have h2 := Int.emod_lt_of_pos h (show (0 : Int) < 2 ^ 64 by decide)
 omega
theorem ZLJ (m : Nat) (h : Int) {τ : Nat} (ht : 13 <= τ) : (tn m h τ).2 = 0 := by
 rw [ZGN]
 refine Nat.div_eq_of_lt (Uf (ZLI h) ?_)
 calc 2 ^ 64 <= 32 ^ 13 := by decide
  _ <= 32 ^ τ := Nat.pow_le_pow_right (by decide) ht
def st5 (m x : Nat) : Nat := (x * 5 + 1) % (m + 1)
def it5 (m : Nat) : Nat -> Nat -> Nat
 | 0, x => x
 | d + 1, x => it5 m d (st5 m x)
theorem ZB5 (m : Nat) : ∀ a b x, it5 m (a + b) x = it5 m b (it5 m a x)
 | 0, b, x => by rw [Nat.zero_add]; rfl
 | a + 1, b, x => by rw [Nat.add_right_comm]; exact ZB5 m a b _
theorem ZKA (m : Nat) (h : Int) : ∀ d, (tn m h (13 + d)).1 = it5 m d (tn m h 13).1 := by
 intro d
 induction d with
 | zero => rfl
 | succ d ih =>
  rw [ZB5, <- ih]
  show (leap m (tn m h (13 + d)).1 (tn m h (13 + d)).2).1 = _
  rw [ZLJ m h (by omega)]
  rfl
def okM (m : Nat) : Prop := m = 7 \/ m = 31 \/ m = 127
def orb (m : Nat) : List Nat := (Vj (m + 1)).map fun d => it5 m d 0
theorem ZLK {m : Nat} (h : okM m) : (∀ s ∈ Vj (m + 1), s ∈ orb m) /\ it5 m (m + 1) 0 = 0 := by
 rcases h with rfl | rfl | rfl <;> decide +kernel
theorem ZIA {m : Nat} (h : okM m) {i s : Nat} (hi : i <= m) (hs : s <= m) : ∃ d, d <= m /\ it5 m d i = s := by
 obtain ⟨h1, h2⟩ := ZLK h
 obtain ⟨a, ha, ea⟩ := Ux.mp (h1 i (Vg.mpr (by omega)))
 obtain ⟨b, hb, eb⟩ := Ux.mp (h1 s (Vg.mpr (by omega)))
 have ha := Vg.mp ha
 have hb := Vg.mp hb
 by_cases c : a <= b
 ·refine ⟨b - a, by omega, ?_⟩
  rw [<- ea, <- ZB5, show a + (b - a) = b by omega]
  exact eb
 ·refine ⟨m + 1 - a + b, by omega, ?_⟩
  rw [<- ea, <- ZB5, show a + (m + 1 - a + b) = (m + 1) + b by omega, ZB5, h2]
  exact eb
theorem ZHC (m : Nat) (h : Int) : ∀ τ, (tn m h τ).1 <= m
 | 0 => Nat.le_of_lt_succ (Nat.mod_lt _ (Nat.succ_pos _))
 | τ + 1 => Nat.le_of_lt_succ (Nat.mod_lt _ (Nat.succ_pos _))
theorem ZLL {m : Nat} (hm : okM m) (h : Int) {s : Nat} (hs : s <= m) : ∃ k, k < 10 * turns m /\ (pth m h k).j = s := by
 obtain ⟨d, hd, e⟩ := ZIA hm (ZHC m h 13) hs
 obtain ⟨k, hk, ek⟩ := ZFR m h (13 + d)
 refine ⟨k, by unfold turns; omega, ?_⟩
 rw [ek]
 show (tn m h (13 + d)).1 = s
 rw [ZKA, e]
def ZC4 (xs : Array Nat) : Prop := ∀ i j, i < j -> j < xs.size -> xs.getD i 0 < xs.getD j 0
theorem ZLM {xs : Array Nat} {i : Nat} (h : i < xs.size) (d : Nat) : xs.getD i d = xs.getD i 0 := by simp [h]
theorem ZC5 {xs : Array Nat} (R : ZC4 xs) (j : Nat) : ∀ (f lo hi : Nat), lo <= hi -> hi <= xs.size -> hi - lo <= f -> (∀ i, i < lo -> xs.getD i 0 < j) -> (∀ i, hi <= i -> i < xs.size -> j <= xs.getD i 0) ->
  (below.go xs j f lo hi <= xs.size /\ (∀ i, i < below.go xs j f lo hi -> xs.getD i 0 < j) /\ ∀ i, below.go xs j f lo hi <= i -> i < xs.size -> j <= xs.getD i 0)
 | 0, lo, hi, h1, h2, h3, h4, h5 => by
  have : lo = hi := by omega
  subst this
  exact ⟨h2, h4, h5⟩
 | f + 1, lo, hi, h1, h2, h3, h4, h5 => by
  unfold below.go
  by_cases c : lo < hi
  ·rw [if_pos c]
   dsimp only
   have hm : (lo + hi) / 2 < xs.size := by omega
   rw [ZLM hm]
   by_cases d : xs.getD ((lo + hi) / 2) 0 < j
   ·rw [if_pos d]
    refine ZC5 R j f _ _ (by omega) h2 (by omega) (fun i hi' => ?_) h5
    by_cases e : i = (lo + hi) / 2
    ·rw [e]; exact d
    ·exact Nat.lt_trans (R i ((lo + hi) / 2) (by omega) hm) d
   ·rw [if_neg d]
    refine ZC5 R j f _ _ (by omega) (by omega) (by omega) h4 fun i h6 h7 => ?_
    by_cases e : i = (lo + hi) / 2
    ·rw [e]; omega
    ·have := R ((lo + hi) / 2) i (by omega) h7
     omega
  ·rw [if_neg c]
   have : lo = hi := by omega
   subst this
   exact ⟨h2, h4, h5⟩
theorem ZA0 {xs : Array Nat} (R : ZC4 xs) (j : Nat) : below xs j <= xs.size /\ (∀ i, i < below xs j -> xs.getD i 0 < j) /\ ∀ i, below xs j <= i -> i < xs.size -> j <= xs.getD i 0 :=
 ZC5 R j xs.size 0 xs.size (UF _) (Ue _) (by omega) (fun i h => by omega) fun i h h' => by omega
theorem ZBB {xs : Array Nat} {i j : Nat} (h : xs[i]? = some j) : i < xs.size /\ xs.getD i 0 = j := by
 obtain ⟨hi, e⟩ := UZ.mp h
 exact ⟨hi, by simp [hi, e]⟩
theorem ZFS {xs : Array Nat} {i : Nat} (h : i < xs.size) : xs[i]? = some (xs.getD i 0) := by simp [h]
theorem ZBh {xs : Array Nat} (R : ZC4 xs) {i j : Nat} (h : xs[i]? = some j) : below xs j = i := by
 obtain ⟨hi, e⟩ := ZBB h
 obtain ⟨h1, h2, h3⟩ := ZA0 R j
 rcases Nat.lt_trichotomy (below xs j) i with z | z | z
 ·have := h3 _ (Ue _) (by omega)
  have := R _ _ z hi
  omega
 ·exact z
 ·have := h2 i z
  omega
def Occ (t : SetTable) (j : Nat) : Prop := ∃ i : Nat, t.place[i]? = some j
theorem ZEL {t : SetTable} (R : ZC4 t.place) {i j : Nat} (h : t.place[i]? = some j) : t.slot j = .live i := by
 unfold SetTable.slot
 dsimp only
 rw [ZBh R h, h]
 simp
theorem ZHD {t : SetTable} (hd : t.dummies = #[]) {j : Nat} (h : ¬ Occ t j) : t.slot j = .empty := by
 unfold SetTable.slot
 have h1 : (t.place[below t.place j]? == some j) = false := by
  cases e : (t.place[below t.place j]? == some j) with
  | false => rfl
  | true => exact absurd ⟨_, by simpa using e⟩ h
 have h2 : has t.dummies j = false := by rw [hd]; rfl
 dsimp only
 simp only [h1, h2, Uh, if_false]
theorem ZC6 {t : SetTable} (R : ZC4 t.place) (hd : t.dummies = #[]) {hashAt : Nat -> Int} {h : Int} {n : Nat} (hn : ¬ Occ t (pth t.mask h n).j) : ∀ (f k : Nat), k <= n -> n < k + f ->
    (∃ k', k <= k' /\ (∀ x, k <= x -> x < k' -> ∃ i : Nat, t.place[i]? = some (pth t.mask h x).j /\ hashAt i ≠ h) /\
      ((¬ Occ t (pth t.mask h k').j /\ probe.go t hashAt h f (pth t.mask h k) = some (.empty (pth t.mask h k').j none)) \/
       ∃ i : Nat, k' < n /\ t.place[i]? = some (pth t.mask h k').j /\ hashAt i = h /\ probe.go t hashAt h f (pth t.mask h k) = some (.candidate (pth t.mask h k').j i (pth t.mask h (k' + 1)))))
  | 0, k, h1, h2 => by omega
  | f + 1, k, h1, h2 => by
    unfold probe.go
    by_cases c : Occ t (pth t.mask h k).j
    · obtain ⟨i, hi⟩ := id c
      have hne : k ≠ n := fun e => hn (e ▸ c)
      rw [ZEL R hi]
      dsimp only
      by_cases d : hashAt i = h
      · rw [if_pos (by simpa using d)]
        exact ⟨k, Ue _, (fun x x1 x2 => by omega), .inr ⟨i, by omega, hi, d, by rw [ZH8]; rfl⟩⟩
      · rw [if_neg (by simpa using d), ZH8]
        obtain ⟨k', a1, a2, a3⟩ := ZC6 R hd hn f (k + 1) (by omega) (by omega)
        refine ⟨k', by omega, fun x x1 x2 => ?_, a3⟩
        by_cases e : x = k
        · subst e; exact ⟨i, hi, d⟩
        · exact a2 x (by omega) x2
    · rw [ZHD hd c]
      exact ⟨k, Ue _, (fun x x1 x2 => by omega), .inl ⟨c, by rw [ZEK]⟩⟩
theorem ZEM {α : Type} {xs : Array α} {p : Nat} (hp : p <= xs.size) (x : α) (i : Nat) : (insertAt xs p x)[i]? = if i < p then xs[i]? else if i = p then some x else xs[i - 1]? := by
 unfold insertAt
 have hs : (xs.extract 0 p).size = p := by rw [UN]; omega
 by_cases c1 : i < p
 ·rw [if_pos c1, Array.getElem?_append_left (by rw [Array.size_push, hs]; omega), Array.getElem?_push_lt (by omega), Array.getElem_extract]
  simp
 ·rw [if_neg c1]
  by_cases c2 : i = p
  ·subst c2
   rw [if_pos rfl, Array.getElem?_append_left (by rw [Array.size_push, hs]; omega)]
   rw [Array.getElem?_push, if_pos hs.symm]
  ·rw [if_neg c2, Array.getElem?_append_right (by rw [Array.size_push, hs]; omega), Array.size_push, hs, Array.getElem?_extract]
   by_cases c3 : i - 1 < xs.size
   ·rw [if_pos (by omega), show p + (i - (p + 1)) = i - 1 by omega]
   ·rw [if_neg (by omega)]
    exact (Array.getElem?_eq_none (by omega)).symm
structure TbOk (t : SetTable) (es : Array (Int × Value)) : Prop where
 rise : ZC4 t.place
 le : ∀ (i j : Nat), t.place[i]? = some j -> j <= t.mask
 nd : t.dummies = #[]
 sz : t.place.size = es.size
 msk : okM t.mask
 few : es.size <= t.mask
 reach : ∀ (i : Nat) (h : Int) (x : Value) (j : Nat), es[i]? = some (h, x) -> t.place[i]? = some j -> ∃ k, (pth t.mask h k).j = j /\ ∀ k', k' < k -> Occ t (pth t.mask h k').j
theorem ZJn {xs : Array Nat} (R : ZC4 xs) {i i' j j' : Nat} (h : xs[i]? = some j) (h' : xs[i']? = some j') (hj : j < j') : i < i' := by
 obtain ⟨hi, e⟩ := ZBB h
 obtain ⟨hi', e'⟩ := ZBB h'
 rcases Nat.lt_trichotomy i i' with z | z | z
 ·exact z
 ·subst z; omega
 ·have := R i' i z hi
  omega
theorem TbOk.free {t : SetTable} {es : Array (Int × Value)} (T : TbOk t es) : ∃ s, s <= t.mask /\ ¬ Occ t s := by
 refine Classical.byContradiction fun hc => ?_
 have all : ∀ s, s <= t.mask -> Occ t s := fun s hs => Classical.byContradiction fun h => hc ⟨s, hs, h⟩
 have idx : ∀ s, s <= t.mask -> ∃ i : Nat, t.place[i]? = some s /\ s <= i := by
  intro s
  induction s with
  | zero => intro h; obtain ⟨i, hi⟩ := all 0 h; exact ⟨i, hi, UF _⟩
  | succ s ih =>
   intro h
   obtain ⟨i, hi, h1⟩ := ih (by omega)
   obtain ⟨i', hi'⟩ := all (s + 1) h
   have := ZJn T.rise hi hi' (Vc s)
   exact ⟨i', hi', by omega⟩
 obtain ⟨i, hi, h1⟩ := idx t.mask (Ue _)
 have := (ZBB hi).1
 have := T.sz
 have := T.few
 omega
theorem TbOk.ends {t : SetTable} {es : Array (Int × Value)} (T : TbOk t es) (h : Int) : ∃ n, n < 10 * turns t.mask /\ ¬ Occ t (pth t.mask h n).j := by
 obtain ⟨s, hs, hf⟩ := T.free
 obtain ⟨k, hk, e⟩ := ZLL T.msk h hs
 exact ⟨k, hk, by rw [e]; exact hf⟩
theorem ZMk {m : Nat} (hm : okM m) (h : Int) : ∀ k, (pth m h k).j + (pth m h k).more <= m /\ (pth m h k).i <= m := by
 have run : ∀ i, i <= m -> i + (runEnd m i - i) <= m := fun i hi => by unfold runEnd; split <;> omega
 intro k
 induction k with
 | zero =>
  have : bits h % (m + 1) <= m := Nat.le_of_lt_succ (Nat.mod_lt _ (Nat.succ_pos _))
  exact ⟨run _ this, this⟩
 | succ k ih =>
  show (ZBF m (pth m h k)).j + (ZBF m (pth m h k)).more <= m /\ (ZBF m (pth m h k)).i <= m
  unfold ZBF
  split
  ·exact ⟨by dsimp only; omega, ih.2⟩
  ·have : (leap m (pth m h k).i (pth m h k).perturb).1 <= m := Nat.le_of_lt_succ (Nat.mod_lt _ (Nat.succ_pos _))
   exact ⟨run _ this, this⟩
theorem TbOk.put {t : SetTable} {es : Array (Int × Value)} (T : TbOk t es) {h : Int} {x : Value} {k : Nat} (hf : ¬ Occ t (pth t.mask h k).j) (ho : ∀ k', k' < k -> Occ t (pth t.mask h k').j) (hz : es.size + 1 <= t.mask) :
  TbOk (t.put (pth t.mask h k).j).1 (insertAt es (t.put (pth t.mask h k).j).2 (h, x)) := by
 have hj : (pth t.mask h k).j <= t.mask := by have := (ZMk T.msk h k).1; omega
 generalize hjj : (pth t.mask h k).j = j at hf hj
 obtain ⟨b1, b2, b3⟩ := ZA0 T.rise j
 generalize hp : below t.place j = p at b1 b2 b3
 have e1 : (t.put j).2 = p := hp
 have e2 : (t.put j).1.place = insertAt t.place p j := by show insertAt t.place (below t.place j) j = _; rw [hp]
 have e3 : (t.put j).1.mask = t.mask := rfl
 have e4 : (t.put j).1.dummies = #[] := by
  show (if has t.dummies j = true then _ else t.dummies) = #[]
  rw [T.nd]
  rfl
 have g : ∀ i : Nat, (t.put j).1.place[i]? = if i < p then t.place[i]? else if i = p then some j else t.place[i - 1]? := fun i => by rw [e2]; exact ZEM b1 j i
 have occ : ∀ s, Occ (t.put j).1 s ↔ Occ t s \/ s = j := fun s => by
  constructor
  ·rintro ⟨i, hi⟩
   rw [g] at hi
   by_cases c1 : i < p
   ·rw [if_pos c1] at hi; exact .inl ⟨i, hi⟩
   ·rw [if_neg c1] at hi
    by_cases c2 : i = p
    ·rw [if_pos c2] at hi; exact .inr (Option.some.inj hi).symm
    ·rw [if_neg c2] at hi; exact .inl ⟨_, hi⟩
  ·rintro (⟨i, hi⟩ | rfl)
   ·by_cases c1 : i < p
    ·exact ⟨i, by rw [g, if_pos c1]; exact hi⟩
    ·exact ⟨i + 1, by rw [g, if_neg (by omega), if_neg (by omega), Nat.add_sub_cancel]; exact hi⟩
   ·exact ⟨p, by rw [g, if_neg (by omega), if_pos rfl]⟩
 have szp : (insertAt t.place p j).size = t.place.size + 1 := by
  unfold insertAt
  rw [Array.size_append, Array.size_push, UN, UN]
  omega
 have sze : (insertAt es p (h, x)).size = es.size + 1 := by
  have := T.sz
  unfold insertAt
  rw [Array.size_append, Array.size_push, UN, UN]
  omega
 rw [e1]
 refine ⟨?_, fun i s hi => ?_, e4, by rw [e2, szp, sze, T.sz], T.msk, by rw [sze]; exact hz, fun i h' x' s he hi => ?_⟩
 ·intro i i' hii hi'
  rw [e2, szp] at hi'
  have at' : ∀ i, i < t.place.size + 1 -> (t.put j).1.place.getD i 0 = if i < p then t.place.getD i 0 else if i = p then j else t.place.getD (i - 1) 0 := fun i hi => by
   have := g i
   rw [UM, this]
   split
   ·rw [UM]
   ·split
    ·rfl
    ·rw [UM]
  rw [at' i (by omega), at' i' hi']
  have ne : ∀ i, i < t.place.size -> t.place.getD i 0 ≠ j := fun i hi z => hf ⟨i, by rw [ZFS hi, z]⟩
  by_cases c1 : i < p
  ·rw [if_pos c1]
   by_cases c2 : i' < p
   ·rw [if_pos c2]; exact T.rise i i' hii (by omega)
   ·rw [if_neg c2]
    by_cases c3 : i' = p
    ·rw [if_pos c3]; exact b2 i c1
    ·rw [if_neg c3]
     have h1 := b2 i c1
     have h2 := b3 (i' - 1) (by omega) (by omega)
     omega
  ·rw [if_neg c1, if_neg (show ¬ i' < p by omega), if_neg (show ¬ i' = p by omega)]
   by_cases c3 : i = p
   ·rw [if_pos c3]
    have h2 := b3 (i' - 1) (by omega) (by omega)
    have h3 := ne (i' - 1) (by omega)
    omega
   ·rw [if_neg c3]; exact T.rise (i - 1) (i' - 1) (by omega) (by omega)
 ·rcases (occ s).mp ⟨i, hi⟩ with ⟨i', h'⟩ | rfl
  ·exact T.le i' s h'
  ·exact hj
 ·rw [g] at hi
  rw [ZEM (by rw [<- T.sz]; exact b1)] at he
  have old : ∀ i : Nat, es[i]? = some (h', x') -> t.place[i]? = some s -> ∃ k, (pth t.mask h' k).j = s /\ ∀ k', k' < k -> Occ (t.put j).1 (pth t.mask h' k').j := fun i a b => by
   obtain ⟨k, k1, k2⟩ := T.reach i h' x' s a b
   exact ⟨k, k1, fun k' hk' => (occ _).mpr (.inl (k2 k' hk'))⟩
  by_cases c1 : i < p
  ·rw [if_pos c1] at hi he; exact old i he hi
  ·rw [if_neg c1] at hi he
   by_cases c2 : i = p
   ·rw [if_pos c2] at hi he
    cases he
    cases hi
    exact ⟨k, hjj, fun k' hk' => (occ _).mpr (.inl (ho k' hk'))⟩
   ·rw [if_neg c2] at hi he; exact old (i - 1) he hi
theorem ZDg : ∀ (k n : Nat) (f : Nat -> Nat), (∀ i, i < n -> f i < k) -> (∀ i j, i < n -> j < n -> f i = f j -> i = j) -> n <= k
 | 0, n, f, h1, h2 => by
  cases n with
  | zero => exact Ue _
  | succ n => exact absurd (h1 0 (Nat.succ_pos _)) (Nat.not_lt_zero _)
 | k + 1, n, f, h1, h2 => by
  cases n with
  | zero => exact UF _
  | succ n =>
   refine Nat.succ_le_succ (ZDg k n (fun i => if f i = k then f n else f i) (fun i hi => ?_) fun i j hi hj e => ?_)
   ·split
    ·rename_i e
     have := h1 n (Vc _)
     have : f n ≠ k := fun z => by have := h2 i n (by omega) (Vc _) (e.trans z.symm); omega
     omega
    ·have := h1 i (by omega)
     omega
   ·split at e
    ·rename_i e1
     split at e
     ·rename_i e2
      exact h2 i j (by omega) (by omega) (e1.trans e2.symm)
     ·have := h2 n j (Vc _) (by omega) e
      omega
    ·split at e
     ·have := h2 i n (by omega) (Vc _) e
      omega
     ·exact h2 i j (by omega) (by omega) e
def ZBi (o : Array (Option Nat)) (s : Nat) : Prop := ∃ k : Nat, o[s]? = some (some k)
theorem ZCV {o : Array (Option Nat)} {m s : Nat} (hz : o.size = m + 1) (hs : s <= m) : (o.getD s (some 0)).isNone = true ↔ ¬ ZBi o s := by
 have hlt : s < o.size := by omega
 have e : o.getD s (some 0) = o[s] := by simp [hlt]
 rw [e]
 cases h : o[s] with
 | none =>
  refine ⟨fun _ ⟨k, hk⟩ => ?_, fun _ => rfl⟩
  rw [Ur hlt, h] at hk
  cases hk
 | some k => exact ⟨(fun z => by cases z), (fun z => absurd ⟨k, by rw [Ur hlt, h]⟩ z)⟩
theorem ZCl {m : Nat} {h : Int} {k i pt : Nat} (e : pth m h k = ZDx m i pt) : ∀ r, r <= runEnd m i - i -> pth m h (k + r) = { j := i + r, more := runEnd m i - i - r, i, perturb := pt, dummy := none }
 | 0, _ => e
 | r + 1, hr => by
  have := ZCl e r (by omega)
  show ZBF m (pth m h (k + r)) = _
  rw [this]
  unfold ZBF
  rw [if_pos (show runEnd m i - i - r > 0 by omega)]
  rfl
theorem ZEN {m : Nat} {o : Array (Option Nat)} (hz : o.size = m + 1) (h : Int) : ∀ (f τ k : Nat), pth m h k = ZDx m (tn m h τ).1 (tn m h τ).2 -> (∀ k', k' < k -> ZBi o (pth m h k').j) ->
  (∃ j, layClean.free m o f (tn m h τ).1 (tn m h τ).2 = some j /\ ¬ ZBi o j /\ j <= m /\ ∃ k2, (pth m h k2).j = j /\ ∀ k', k' < k2 -> ZBi o (pth m h k').j) \/
  (layClean.free m o f (tn m h τ).1 (tn m h τ).2 = none /\ ∀ τ', τ <= τ' -> τ' < τ + f -> ZBi o (tn m h τ').1)
 | 0, τ, k, e, hk => .inr ⟨rfl, fun τ' a b => by omega⟩
 | f + 1, τ, k, e, hk => by
  have hile := ZHC m h τ
  have hre : runEnd m (tn m h τ).1 <= m /\ (tn m h τ).1 <= runEnd m (tn m h τ).1 := by unfold runEnd; split <;> omega
  unfold layClean.free
  cases hf : (Vj (runEnd m (tn m h τ).1 + 1 - (tn m h τ).1)).find? fun k => (o.getD ((tn m h τ).1 + k) (some 0)).isNone with
  | some r =>
   dsimp only
   obtain ⟨h1, as, bs, h2, h3⟩ := List.find?_eq_some_iff_append.mp hf
   have hlen : as.length = r /\ r < runEnd m (tn m h τ).1 + 1 - (tn m h τ).1 /\ ∀ x, x < r -> x ∈ as := by
    have hg : (Vj (runEnd m (tn m h τ).1 + 1 - (tn m h τ).1))[as.length]? = some r := by rw [h2]; simp
    have hlt : as.length < runEnd m (tn m h τ).1 + 1 - (tn m h τ).1 := by
     have := (UC.mp hg).1
     simpa using this
    rw [List.getElem?_range hlt] at hg
    have er : as.length = r := Option.some.inj hg
    refine ⟨er, by omega, fun x hx => ?_⟩
    have hgx : (Vj (runEnd m (tn m h τ).1 + 1 - (tn m h τ).1))[x]? = some x := List.getElem?_range (by omega)
    rw [h2, Vd (by omega)] at hgx
    exact Uu hgx
   obtain ⟨er, hr, hbefore⟩ := hlen
   refine .inl ⟨_, rfl, (ZCV hz (by omega)).mp h1, by omega, k + r, ?_, fun k' hk' => ?_⟩
   ·rw [ZCl e r (by omega)]
   ·by_cases c : k' < k
    ·exact hk k' c
    ·have hx := h3 (k' - k) (hbefore _ (by omega))
     have hp := ZCl e (k' - k) (by omega)
     rw [show k + (k' - k) = k' by omega] at hp
     rw [hp]
     refine Classical.byContradiction fun z => ?_
     have := (ZCV hz (show (tn m h τ).1 + (k' - k) <= m by omega)).mpr z
     rw [this] at hx
     cases hx
  | none =>
   dsimp only
   have hall : ∀ r, r < runEnd m (tn m h τ).1 + 1 - (tn m h τ).1 -> ZBi o ((tn m h τ).1 + r) := fun r hr => by
    refine Classical.byContradiction fun z => ?_
    have := List.find?_eq_none.mp hf r (Vg.mpr hr)
    exact this ((ZCV hz (by omega)).mpr z)
   have e' : pth m h (k + (runEnd m (tn m h τ).1 - (tn m h τ).1 + 1)) = ZDx m (tn m h (τ + 1)).1 (tn m h (τ + 1)).2 :=
    ZDy m (tn m h τ).1 (tn m h τ).2 _ _ (fun x => pth m h (k + x)) (fun x => rfl) (by exact e)
   rcases ZEN hz h f (τ + 1) _ e' (fun k' hk' => by
    by_cases c : k' < k
    ·exact hk k' c
    ·have hp := ZCl e (k' - k) (by omega)
     rw [show k + (k' - k) = k' by omega] at hp
     rw [hp]
     exact hall (k' - k) (by omega)) with g | ⟨g1, g2⟩
   ·exact .inl g
   ·refine .inr ⟨g1, fun τ' a b => ?_⟩
    by_cases c : τ' = τ
    ·rw [c]; exact hall 0 (by omega)
    ·exact g2 τ' (by omega) (by omega)
structure ZBD (m : Nat) (hs : List Int) (o : Array (Option Nat)) (k : Nat) : Prop where
 size : o.size = m + 1
 ent : ∀ (s idx : Nat), o[s]? = some (some idx) -> idx < k /\ ∃ h, hs[idx]? = some h /\ ∃ kk, (pth m h kk).j = s /\ ∀ k', k' < kk -> ZBi o (pth m h k').j
 all : ∀ idx, idx < k -> ∃ s : Nat, o[s]? = some (some idx)
 inj : ∀ (s s' idx : Nat), o[s]? = some (some idx) -> o[s']? = some (some idx) -> s = s'
theorem ZBD.free {m k : Nat} {hs : List Int} {o : Array (Option Nat)} (L : ZBD m hs o k) (hk : k <= m) : ∃ s, s <= m /\ ¬ ZBi o s := by
 refine Classical.byContradiction fun hc => ?_
 have all : ∀ s, s <= m -> ZBi o s := fun s hs => Classical.byContradiction fun h => hc ⟨s, hs, h⟩
 have := ZDg k (m + 1) (fun s => ((o.getD s none).getD 0)) (fun s hs => ?_) (fun s s' hs hs' e => ?_)
 ·omega
 ·obtain ⟨idx, e⟩ := all s (by omega)
  have : o.getD s none = some idx := by rw [UM, e]; rfl
  rw [this]
  exact (L.ent s idx e).1
 ·obtain ⟨idx, e1⟩ := all s (by omega)
  obtain ⟨idx', e2⟩ := all s' (by omega)
  have h1 : o.getD s none = some idx := by rw [UM, e1]; rfl
  have h2 : o.getD s' none = some idx' := by rw [UM, e2]; rfl
  rw [h1, h2] at e
  have : idx = idx' := e
  subst this
  exact L.inj s s' idx e1 e2
theorem ZBD.step {m k : Nat} {hs : List Int} {o : Array (Option Nat)} (hm : okM m) (L : ZBD m hs o k) (hk : k <= m) {h : Int} (hh : hs[k]? = some h) :
  ∃ j, layClean.free m o (turns m) (bits h % (m + 1)) (bits h) = some j /\ ZBD m hs (o.setIfInBounds j (some k)) (k + 1) := by
 rcases ZEN L.size h (turns m) 0 0 rfl (fun k' hk' => absurd hk' (Nat.not_lt_zero _)) with ⟨j, e, hj, hjm, k2, p1, p2⟩ | ⟨_, g⟩
 ·refine ⟨j, e, ?_⟩
  have hlt : j < o.size := by rw [L.size]; omega
  have gt : ∀ s : Nat, (o.setIfInBounds j (some k))[s]? = if s = j then some (some k) else o[s]? := fun s => by
   rw [Array.getElem?_setIfInBounds]
   by_cases c : j = s
   ·subst c; rw [if_pos rfl, if_pos hlt, if_pos rfl]
   ·rw [if_neg c, if_neg (Ne.symm c)]
  have mono : ∀ s, ZBi o s -> ZBi (o.setIfInBounds j (some k)) s := fun s ⟨x, hx⟩ => by
   by_cases c : s = j
   ·exact ⟨k, by rw [gt, if_pos c]⟩
   ·exact ⟨x, by rw [gt, if_neg c]; exact hx⟩
  refine ⟨by rw [Array.size_setIfInBounds]; exact L.size, fun s idx hs' => ?_, fun idx hi => ?_, fun s s' idx h1 h2 => ?_⟩
  ·rw [gt] at hs'
   by_cases c : s = j
   ·rw [if_pos c] at hs'
    cases hs'
    exact ⟨Vc _, h, hh, k2, by rw [c]; exact p1, fun k' hk' => mono _ (p2 k' hk')⟩
   ·rw [if_neg c] at hs'
    obtain ⟨a1, h', a2, kk, a3, a4⟩ := L.ent s idx hs'
    exact ⟨by omega, h', a2, kk, a3, fun k' hk' => mono _ (a4 k' hk')⟩
  ·by_cases c : idx = k
   ·exact ⟨j, by rw [gt, if_pos rfl, c]⟩
   ·obtain ⟨s, hs'⟩ := L.all idx (by omega)
    exact ⟨s, by rw [gt, if_neg (fun z => hj ⟨idx, by rw [<- z]; exact hs'⟩)]; exact hs'⟩
  ·rw [gt] at h1 h2
   by_cases c1 : s = j
   ·by_cases c2 : s' = j
    ·rw [c1, c2]
    ·rw [if_pos c1] at h1
     rw [if_neg c2] at h2
     cases h1
     have := (L.ent s' k h2).1
     omega
   ·rw [if_neg c1] at h1
    by_cases c2 : s' = j
    ·rw [if_pos c2] at h2
     cases h2
     have := (L.ent s k h1).1
     omega
    ·rw [if_neg c2] at h2
     exact L.inj s s' idx h1 h2
 ·exfalso
  obtain ⟨s, hs', hf⟩ := L.free hk
  obtain ⟨d, hd, e⟩ := ZIA hm (ZHC m h 13) hs'
  have := g (13 + d) (by omega) (by unfold turns; omega)
  rw [ZKA, e] at this
  exact hf this
theorem ZFT {m : Nat} (hm : okM m) {hs : List Int} (hl : hs.length <= m) : ∀ (Js : List Int) (k : Nat) (o : Array (Option Nat)), hs.drop k = Js -> ZBD m hs o k ->
  ∃ o', Js.foldl (fun (acc : Option (Array (Option Nat) × Nat)) h => do
   let (owner, k) <- acc
   let j <- layClean.free m owner (turns m) (bits h % (m + 1)) (bits h)
   pure (owner.setIfInBounds j (some k), k + 1)) (some (o, k)) = some (o', hs.length) /\ ZBD m hs o' hs.length
 | [], k, o, e, L => by
  have hk : hs.length <= k := List.drop_eq_nil_iff.mp e
  have hk2 : k <= hs.length \/ hs.length < k := by omega
  rcases Nat.lt_or_ge hs.length k with c | c
  ·obtain ⟨s, hs'⟩ := L.all hs.length c
   obtain ⟨_, h, e2, _⟩ := L.ent s _ hs'
   rw [List.getElem?_eq_none (Ue _)] at e2
   cases e2
  ·have : k = hs.length := by omega
   subst this
   exact ⟨o, rfl, L⟩
 | h :: Js, k, o, e, L => by
  have hk : k < hs.length := by
   rcases Nat.lt_or_ge k hs.length with c | c
   ·exact c
   ·rw [List.drop_eq_nil_iff.mpr c] at e; cases e
  have hh : hs[k]? = some h := by
   rw [Vq hk] at e
   injection e with e1 e2
   rw [Uc hk, e1]
  have hr : hs.drop (k + 1) = Js := by
   rw [Vq hk] at e
   injection e with e1 e2
  obtain ⟨j, hj, L'⟩ := L.step hm (by omega) hh
  obtain ⟨o', h1, h2⟩ := ZFT hm hl Js (k + 1) _ hr L'
  refine ⟨o', ?_, h2⟩
  rw [List.foldl_cons]
  rw [<- h1]
  congr 1
  simp only [Option.bind_eq_bind, Option.bind_some, hj]
  rfl
theorem ZCq {m : Nat} (hm : okM m) {hs : Array Int} (hl : hs.size <= m) : ∃ o, layClean m hs = some o /\ ZBD m hs.toList o hs.size := by
 have L0 : ZBD m hs.toList (Array.replicate (m + 1) none) 0 := by
  refine ⟨by simp, fun s idx e => ?_, fun idx h => absurd h (Nat.not_lt_zero _), fun s s' idx e => ?_⟩ <;> (rw [Array.getElem?_replicate] at e; split at e <;> cases e)
 obtain ⟨o', h1, h2⟩ := ZFT hm (hs := hs.toList) (by rw [Ui]; exact hl) hs.toList 0 _ (List.drop_zero) L0
 refine ⟨o', ?_, by rw [<- Ui]; exact h2⟩
 unfold layClean
 rw [<- Array.foldl_toList, h1]
 rfl
def JY (m : Nat) (o : Array (Option Nat)) : List (Nat × Nat) := (Vj (m + 1)).filterMap fun j => (o.getD j none).map (j, ·)
theorem ZAe {m : Nat} {o : Array (Option Nat)} (hz : o.size = m + 1) {s idx : Nat} : (s, idx) ∈ JY m o ↔ o[s]? = some (some idx) := by
 unfold JY
 rw [List.mem_filterMap]
 constructor
 ·rintro ⟨j, hj, e⟩
  have hj := Vg.mp hj
  have hlt : j < o.size := by omega
  have e0 : o.getD j none = o[j] := by simp [hlt]
  rw [e0] at e
  cases h : o[j] with
  | none => rw [h] at e; cases e
  | some x =>
   rw [h] at e
   cases e
   rw [Ur hlt, h]
 ·intro e
  obtain ⟨hlt, h⟩ := UZ.mp e
  refine ⟨s, Vg.mpr (by omega), ?_⟩
  have e0 : o.getD s none = o[s] := by simp [hlt]
  rw [e0, h]
  rfl
theorem ZEO (m : Nat) (o : Array (Option Nat)) : (JY m o).Pairwise fun a b => a.1 < b.1 := by
 unfold JY
 rw [List.pairwise_filterMap]
 refine List.pairwise_lt_range.imp fun {a b} h x hx y hy => ?_
 cases ha : o.getD a none with
 | none => rw [ha] at hx; cases hx
 | some i =>
  cases hb : o.getD b none with
  | none => rw [hb] at hy; cases hy
  | some j =>
   rw [ha] at hx
   rw [hb] at hy
   cases hx
   cases hy
   exact h
theorem ZFU {m k : Nat} {hs : List Int} {o : Array (Option Nat)} (L : ZBD m hs o k) : (JY m o).length = k := by
 have get : ∀ i (hi : i < (JY m o).length), o[((JY m o)[i]).1]? = some (some ((JY m o)[i]).2) := fun i hi => (ZAe L.size).mp (List.getElem_mem hi)
 refine Nat.le_antisymm ?_ ?_
 ·refine ZDg k _ (fun i => ((JY m o).getD i (0, 0)).2) (fun i hi => ?_) fun i j hi hj e => ?_
  ·have e0 : (JY m o).getD i (0, 0) = (JY m o)[i] := by simp [hi]
   rw [e0]
   exact (L.ent _ _ (get i hi)).1
  ·have e1 : (JY m o).getD i (0, 0) = (JY m o)[i] := by simp [hi]
   have e2 : (JY m o).getD j (0, 0) = (JY m o)[j] := by simp [hj]
   rw [e1, e2] at e
   have g1 := get i hi
   have g2 := get j hj
   rw [<- e] at g2
   have es := L.inj _ _ _ g1 g2
   have pw := UO.mp (ZEO m o)
   rcases Nat.lt_trichotomy i j with z | z | z
   ·have := pw i j hi hj z; omega
   ·exact z
   ·have := pw j i hj hi z; omega
 ·have pos : ∀ idx, idx < k -> ∃ i, ∃ hi : i < (JY m o).length, ((JY m o)[i]).2 = idx := fun idx h => by
   obtain ⟨s, e⟩ := L.all idx h
   obtain ⟨i, hi, ei⟩ := UV ((ZAe L.size).mpr e)
   exact ⟨i, hi, by rw [ei]⟩
  refine ZDg _ k (fun idx => if h : idx < k then (pos idx h).choose else 0) (fun idx h => ?_) fun i j hi hj e => ?_
  ·rw [dif_pos h]
   exact (pos idx h).choose_spec.choose
  ·rw [dif_pos hi, dif_pos hj] at e
   have h1 := (pos i hi).choose_spec.choose_spec
   have h2 := (pos j hj).choose_spec.choose_spec
   rw [<- h1, <- h2]
   congr 2
theorem ZCN {α β : Type} {f : α -> Option β} {g : α -> β} : ∀ (l : List α), (∀ x ∈ l, f x = some (g x)) -> l.filterMap f = l.map g
 | [], _ => rfl
 | x :: l, h => by rw [List.filterMap_cons, h x Us, UJ, ZCN l fun y hy => h y (Um _ hy)]
theorem TbOk.relaid {t : SetTable} {es : Array (Int × Value)} {wanted : Nat} (hm : okM (sizeAbove wanted - 1)) (hz : es.size <= sizeAbove wanted - 1) :
  ∃ t' order, t.relaid (es.map (·.1)) wanted = some (t', order) /\ TbOk t' (order.filterMap (es[·]?)) /\ (order.filterMap (es[·]?)).size = es.size /\ (∀ e, e ∈ (order.filterMap (es[·]?)).toList ↔ e ∈ es.toList) /\ t'.mask = sizeAbove wanted - 1 /\ t'.led = t.led /\ t'.plain = t.plain := by
 obtain ⟨o, ho, L⟩ := ZCq hm (hs := es.map (·.1)) (by rw [Array.size_map]; exact hz)
 rw [Array.size_map] at L
 generalize hmm : sizeAbove wanted - 1 = m at *
 have hlen := ZFU L
 refine ⟨_, ((JY m o).map (·.2)).toArray, by unfold SetTable.relaid SetTable.laid; rw [hmm, ho]; rfl, ?_⟩
 have hidx : ∀ p ∈ JY m o, p.2 < es.size := fun p hp => (L.ent p.1 p.2 ((ZAe L.size).mp hp)).1
 have hes : (((JY m o).map (·.2)).toArray.filterMap (es[·]?)).toList = (JY m o).map fun p => es.getD p.2 (0, .none) := by
  rw [Array.toList_filterMap]
  show ((JY m o).map (·.2)).filterMap (es[·]?) = _
  rw [List.filterMap_map]
  refine ZCN _ fun p hp => ?_
  have := hidx p hp
  simp [this]
 have hsz : (((JY m o).map (·.2)).toArray.filterMap (es[·]?)).size = es.size := by
  rw [<- Ui, hes, Uv, hlen]
 refine ⟨⟨?_, fun i j e => ?_, rfl, by rw [hsz]; show ((JY m o).map (·.1)).toArray.size = _; rw [Uq, Uv, hlen], hm, by rw [hsz]; exact hz, fun i h x j e1 e2 => ?_⟩, hsz, fun e => ?_, rfl, rfl, rfl⟩
 ·intro i j hij hj
  have hj' : j < (JY m o).length := by
   have : j < ((JY m o).map (·.1)).toArray.size := hj
   simpa using this
  have := UO.mp (ZEO m o) i j (by omega) hj' hij
  show ((JY m o).map (·.1)).toArray.getD i 0 < ((JY m o).map (·.1)).toArray.getD j 0
  simp only [Array.getD, Uq, Uv, show i < (JY m o).length by omega, hj', dif_pos]
  simpa using this
 ·have e : ((JY m o).map (·.1)).toArray[i]? = some j := e
  rw [List.getElem?_toArray, UB] at e
  obtain ⟨p, hp, rfl⟩ := Option.map_eq_some_iff.mp e
  have := (ZAe L.size).mp (Uu hp)
  have := (UZ.mp this).1
  show p.1 <= m
  rw [L.size] at this
  omega
 ·have e2 : ((JY m o).map (·.1)).toArray[i]? = some j := e2
  rw [List.getElem?_toArray, UB] at e2
  obtain ⟨p, hp, rfl⟩ := Option.map_eq_some_iff.mp e2
  rw [<- Vf, hes, UB, hp] at e1
  have hpm := Uu hp
  have hi := hidx p hpm
  have e1 : es.getD p.2 (0, .none) = (h, x) := Option.some.inj e1
  obtain ⟨_, h', a2, kk, a3, a4⟩ := L.ent p.1 p.2 ((ZAe L.size).mp hpm)
  have eh : h' = h := by
   rw [Vf, Array.getElem?_map, Ur hi] at a2
   have e0 : es.getD p.2 (0, .none) = es[p.2] := by simp [hi]
   rw [e0] at e1
   rw [e1] at a2
   exact (Option.some.inj a2).symm
  subst eh
  refine ⟨kk, a3, fun k' hk' => ?_⟩
  obtain ⟨idx, hx⟩ := a4 k' hk'
  obtain ⟨i', hi', ei⟩ := UV ((ZAe L.size).mpr hx)
  refine ⟨i', ?_⟩
  show ((JY m o).map (·.1)).toArray[i']? = _
  rw [List.getElem?_toArray, UB, Uc hi', ei]
  rfl
 ·rw [hes]
  constructor
  ·intro h
   obtain ⟨p, hp, rfl⟩ := Ux.mp h
   have hi := hidx p hp
   have e0 : es.getD p.2 (0, .none) = es[p.2] := by simp [hi]
   rw [e0]
   exact Vl.mpr (Array.getElem_mem hi)
  ·intro h
   obtain ⟨idx, hi, e0⟩ := UV h
   rw [Ui] at hi
   obtain ⟨s, hs⟩ := L.all idx hi
   refine Ux.mpr ⟨(s, idx), (ZAe L.size).mpr hs, ?_⟩
   have e1 : es.getD idx (0, .none) = es[idx] := by simp [hi]
   rw [e1, <- e0]
   simp
end L2
namespace L2
open PySem PySem.Spec PyProof.Rows PySem.SetTable
theorem TbOk.fits {t : SetTable} {es : Array (Int × Value)} (T : TbOk t es) : t.fits es.size = true := by
 unfold SetTable.fits SetTable.fill
 have h1 := T.sz
 have h2 := T.few
 rw [T.nd]
 simp [h1]
 exact h2
theorem TbOk.odd {t : SetTable} {es : Array (Int × Value)} (T : TbOk t es) : t.gaveWay = false := by
 unfold SetTable.gaveWay
 rcases T.msk with h | h | h <;> rw [h] <;> rfl
section
variable {prog : Program} {w : World} {A : Around} {E : Value -> Shared -> Prop} {s : Shared} {a : Addr} {o : Obj} {es : Array (Int × Value)} {ep : Nat} {t : SetTable} {x : Value} {h : Int} {B : Value -> Bool}
theorem ZEP (ho : s.heap.get? a = some o) (hd : o.data = .set es ep t) (T : TbOk t es) (quiet : ∀ (l : List Value) (R : Bool -> Shared -> Prop), (∀ v ∈ l, ∃ e ∈ es.toList, e.2 = v) -> R false s -> wpAny (model prog w) A (searchCouldBeSeen x l) R E s) (refs : ∀ e ∈ es.toList, ∃ b, e.2 = .ref b)
  (eqv : ∀ e ∈ es.toList, e.1 = h -> SeqAt.EqAt A s e.2 x (B e.2)) {Q : SetFound -> Shared -> Prop} (hthere : ∀ e ∈ es.toList, e.1 = h -> B e.2 = true -> Q (.there none) s)
  (hfree : (∀ e ∈ es.toList, e.1 = h -> B e.2 = false) -> ∀ k, ¬ Occ t (pth t.mask h k).j -> (∀ k', k' < k -> Occ t (pth t.mask h k').j) -> Q (.free (pth t.mask h k).j false) s)
  {n : Nat} (hn : n < 10 * turns t.mask) (hno : ¬ Occ t (pth t.mask h n).j) :
  ∀ (f k : Nat) (stand : Option Probe), stand.getD (t.probeStart h) = pth t.mask h k -> k <= n -> n < k + f -> (∀ y, y < k -> Occ t (pth t.mask h y).j /\ ∀ (i : Nat) e, t.place[i]? = some (pth t.mask h y).j -> es[i]? = some e -> e.1 = h -> B e.2 = false) ->
   wpAny (model prog w) A (setSearchFrom a x h true f stand) Q E s
 | 0, k, stand, e, h1, h2, hb => by omega
 | f + 1, k, stand, e, h1, h2, hb => by
  unfold setSearchFrom
  refine Ua (wpAny_setState_of ho hd T.fits ?_)
  dsimp only
  rw [T.odd]
  simp only [Uh, if_false]
  rw [e]
  obtain ⟨k', c1, c2, c3⟩ := ZC6 T.rise T.nd (hashAt := fun i => (es[i]?.map (·.1)).getD 0) hno (10 * turns t.mask) k h1 (by omega)
  have old : ∀ y, y < k' -> Occ t (pth t.mask h y).j /\ ∀ (i : Nat) e, t.place[i]? = some (pth t.mask h y).j -> es[i]? = some e -> e.1 = h -> B e.2 = false := fun y hy => by
   by_cases c : y < k
   ·exact hb y c
   ·obtain ⟨i, hi, hne⟩ := c2 y (by omega) hy
    refine ⟨⟨i, hi⟩, fun i' e' hi' he' hh => ?_⟩
    have : i' = i := by rw [<- ZBh T.rise hi, <- ZBh T.rise hi']
    subst this
    rw [he'] at hne
    exact absurd hh hne
  generalize hpr : t.probe _ h _ = met
  rcases c3 with ⟨d1, d2⟩ | ⟨i, d0, d1, d2, d3⟩
  ·obtain rfl : met = some (.empty (pth t.mask h k').j none) := hpr.symm.trans d2
   dsimp only
   refine Ud (hfree (fun e he hh => ?_) k' d1 fun y hy => (old y hy).1)
   obtain ⟨i, hi, ei⟩ := UV he
   have hi' : i < es.size := by simpa using hi
   have hge : es[i]? = some e := by rw [Ur hi', <- ei]; simp
   have hpi : t.place[i]? = some (t.place.getD i 0) := ZFS (by rw [T.sz]; exact hi')
   obtain ⟨kk, r1, r2⟩ := T.reach i e.1 e.2 _ hge hpi
   rw [hh] at r1 r2
   have hlt : kk < k' := by
    rcases Nat.lt_trichotomy kk k' with z | z | z
    ·exact z
    ·subst z; rw [r1] at d1; exact absurd ⟨i, hpi⟩ d1
    ·exact absurd (r2 k' z) d1
   exact (old kk hlt).2 i e (by rw [r1]; exact hpi) hge hh
  ·obtain rfl : met = some (.candidate (pth t.mask h k').j i (pth t.mask h (k' + 1))) := hpr.symm.trans d3
   dsimp only
   have hi' : i < es.size := by rw [<- T.sz]; exact (ZBB d1).1
   have hge : es[i]? = some es[i] := Ur hi'
   have hmem : es[i] ∈ es.toList := Vl.mpr (Array.getElem_mem hi')
   have hhash : es[i].1 = h := by have := d2; simp only [hge] at this; exact this
   have fork : t.led = true \/ t.led = false := by cases t.led <;> simp
   rcases fork with hl | hl
   rw [hl]
   simp only [Vb, Uh, if_false]
   rotate_left
   rw [hl]
   simp only [Bool.not_false, if_true]
   refine Ua (quiet _ _ (fun v hv => ?_) ?_)
   ·obtain ⟨e', he', rfl⟩ := Ux.mp hv
    have he' := Vl.mp he'
    rw [Array.mem_filter] at he'
    exact ⟨e', Vl.mpr he'.1, rfl⟩
   simp only [Uh, if_false]
   all_goals
    rw [hge]
    dsimp only
    refine Ua (UR (eqv _ hmem hhash prog w _ _ ?_))
    refine Ua (wpAny_setState_of ho hd T.fits ?_)
    dsimp only
    cases hB : B es[i].2 with
    | true =>
     simp only [Bool.and_self, if_true]
     exact Ud (hthere _ hmem hhash hB)
    | false =>
     simp only [Bool.and_false, Uh, if_false]
     rw [show t.sameMemory t.moves t.mask = some true by simp [SetTable.sameMemory]]
     dsimp only
     rw [if_pos rfl, ZEL T.rise d1]
     dsimp only
     rw [hge]
     dsimp only
     obtain ⟨b, hb2⟩ := refs _ hmem
     rw [hb2]
     refine Ua (wpAny_isSame_ref_self ?_)
     refine Ua (Ud ?_)
     simp only [if_true]
     refine ZEP ho hd T quiet refs eqv hthere hfree hn hno f (k' + 1) _ rfl (by omega) (by omega) fun y hy => ?_
     by_cases c : y < k'
     ·exact old y c
     ·have : y = k' := by omega
      subst this
      refine ⟨⟨i, d1⟩, fun i' e' hi' he' hh => ?_⟩
      have : i' = i := by rw [<- ZBh T.rise d1, <- ZBh T.rise hi']
      subst this
      rw [hge] at he'
      cases he'
      exact hB
theorem ZIB (ho : s.heap.get? a = some o) (hd : o.data = .set es ep t) (T : TbOk t es) (quiet : ∀ (l : List Value) (R : Bool -> Shared -> Prop), (∀ v ∈ l, ∃ e ∈ es.toList, e.2 = v) -> R false s -> wpAny (model prog w) A (searchCouldBeSeen x l) R E s) (refs : ∀ e ∈ es.toList, ∃ b, e.2 = .ref b)
  (eqv : ∀ e ∈ es.toList, e.1 = h -> SeqAt.EqAt A s e.2 x (B e.2)) {Q : SetFound -> Shared -> Prop} (hthere : ∀ e ∈ es.toList, e.1 = h -> B e.2 = true -> Q (.there none) s)
  (hfree : (∀ e ∈ es.toList, e.1 = h -> B e.2 = false) -> ∀ k, ¬ Occ t (pth t.mask h k).j -> (∀ k', k' < k -> Occ t (pth t.mask h k').j) -> Q (.free (pth t.mask h k).j false) s) :
  wpAny (model prog w) A (setSearch a x h true) Q E s := by
 obtain ⟨n, hn, hno⟩ := T.ends h
 unfold setSearch
 refine ZEP ho hd T quiet refs eqv hthere hfree hn hno 100000 0 none rfl (UF _) ?_ fun y hy => absurd hy (Nat.not_lt_zero _)
 have : turns t.mask <= 142 := by unfold turns; rcases T.msk with h | h | h <;> omega
 omega
end
section
variable {prog : Program} {w : World} {A : Around} {E : Value -> Shared -> Prop} {s : Shared}
theorem ZGO (n : Nat) {v : Value} (h : ∃ i t, v = .int i t) : hashByValue n v = pure true := by
 obtain ⟨i, t, rfl⟩ := h
 cases n <;> rfl
theorem ZCr {α : Type} {f : α -> (Option Bool × Unit) -> Sem (ForInStep (Option Bool × Unit))} : ∀ (l : List α), (∀ x ∈ l, f x (none, ()) = pure (.yield (none, ()))) -> forIn l (none, ()) f = pure (none, ())
 | [], _ => rfl
 | x :: l, h => by
  rw [List.forIn_cons, h x Us, pure_bind]
  exact ZCr l fun y hy => h y (Um _ hy)
theorem ZIC {b : Addr} {xs : Array Value} {n : Nat} {Q : Bool -> Shared -> Prop} (hT : s.heap.IsTuple b xs) (hi : ∀ v ∈ xs.toList, ∃ i t, v = .int i t) (h : Q true s) : wpAny (model prog w) A (hashByValue (n + 1) (.ref b)) Q E s := by
 obtain ⟨o, ho, hc, k, hd⟩ := id hT
 have hty : s.TypeIs (.ref b) "tuple" := ⟨o, ho, hc⟩
 unfold hashByValue
 refine Ua (wpAny_specialOf hty F.slot_tuple_hash.lookup ?_)
 dsimp only
 refine Ua (wpAny_seqItems ho hd ?_)
 show wpAny _ _ (forIn xs (none, ()) _ >>= _) _ _ s
 refine Ua (wpAny_of_eq (a := (none, ())) ?_ ?_)
 ·rw [<- Array.forIn_toList]
  refine ZCr _ fun x hx => ?_
  rw [ZGO n (hi x hx), pure_bind]
  rfl
 ·exact Ud h
theorem ZJo {a : Addr} {o : Obj} {es : Array (Int × Value)} {ep wanted : Nat} {t : SetTable} {Q : Unit -> Shared -> Prop} (ho : s.heap.get? a = some o) (hd : o.data = .set es ep t) (T : TbOk t es) (hm : okM (sizeAbove wanted - 1)) (hz : es.size <= sizeAbove wanted - 1) (hzl : es.size <= sizeLine) (hw : sizeAbove wanted <= sizeLine)
  (h : ∀ t' es', TbOk t' es' -> es'.size = es.size -> (∀ e, e ∈ es'.toList ↔ e ∈ es.toList) -> t'.mask = sizeAbove wanted - 1 -> t'.led = t.led -> Q () { s with heap := s.heap.update a (Obj.putSet es' t') }) :
  wpAny (model prog w) A (setRelay a wanted) Q E s := by
 obtain ⟨t', order, e, T', sz, mem, hmk, hled, hpl⟩ := TbOk.relaid (t := t) (es := es) hm hz
 unfold setRelay
 refine Ua (wpAny_setState_of ho hd T.fits ?_)
 dsimp only
 rw [if_neg (Nat.not_lt.mpr hw)]
 show wpAny _ _ (_ >>= _) _ _ s
 rw [e]
 refine Ua ?_
 show wpAny _ _ (if ((order.filterMap (es[·]?)).size != es.size) = true then _ else _) _ _ s
 rw [if_neg (by rw [sz]; simp)]
 refine Ud ?_
 exact wpAny_storeSet_of ho hd (h t' _ T' sz mem hmk hled) (by rw [sz]; exact hzl)
end
def ZBG (t : SetTable) (n : Nat) : Prop := n * 5 < t.mask * 3
theorem ZID {α : Type} {xs : Array α} {p : Nat} (hp : p <= xs.size) (x e : α) : e ∈ (insertAt xs p x).toList ↔ e ∈ xs.toList \/ e = x := by
 have := (SetTable.insertAt_perm xs p x).mem_iff (a := e)
 rw [this]
 simp
section
variable {prog : Program} {w : World} {A : Around} {E : Value -> Shared -> Prop} {s : Shared} {a b : Addr} {o : Obj} {es : Array (Int × Value)} {ep : Nat} {t : SetTable} {h : Int} {B : Value -> Bool} {xs : Array Value}
theorem ZMl (ho : s.heap.get? a = some o) (hd : o.data = .set es ep t) (T : TbOk t es) (quiet : ∀ (l : List Value) (R : Bool -> Shared -> Prop), (∀ v ∈ l, ∃ e ∈ es.toList, e.2 = v) -> R false s -> wpAny (model prog w) A (searchCouldBeSeen (.ref b) l) R E s) (hair : ZBG t es.size) (h28 : es.size < 70) (refs : ∀ e ∈ es.toList, ∃ b, e.2 = .ref b)
  (eqv : ∀ e ∈ es.toList, e.1 = h -> SeqAt.EqAt A s e.2 (.ref b) (B e.2)) (hT : s.heap.IsTuple b xs) (hab : b ≠ a) (hi : ∀ v ∈ xs.toList, ∃ i t, v = .int i t) {Q : Bool -> Shared -> Prop} (hthere : ∀ e ∈ es.toList, e.1 = h -> B e.2 = true -> Q false s)
  (hadd : (∀ e ∈ es.toList, e.1 = h -> B e.2 = false) -> ∀ (es' : Array (Int × Value)) (ep' : Nat) (t' : SetTable) (h' : Heap), TbOk t' es' -> ZBG t' es'.size -> es'.size = es.size + 1 -> (∀ e, e ∈ es'.toList ↔ e ∈ es.toList \/ e = (h, .ref b)) ->
   h'.get? a = some { o with data := .set es' ep' t' } -> (∀ c, c ≠ a -> h'.get? c = s.heap.get? c) -> h'.objs.size = s.heap.objs.size -> Q true { s with heap := h' }) (f : Nat) :
  wpAny (model prog w) A (setAddHashedIn a (.ref b) h (f + 1)) Q E s := by
 unfold setAddHashedIn
 refine Ua (wpAny_setState_of ho hd T.fits ?_)
 dsimp only
 rw [if_neg (show ¬ byScan (.ref b) es = true by simp [byScan, Value.scannable])]
 refine Ua (ZIB ho hd T quiet refs eqv (fun e h1 h2 h3 => Ud (hthere e h1 h2 h3)) fun hno k hf hocc => ?_)
 dsimp only
 refine Ua (wpAny_setState_of ho hd T.fits ?_)
 dsimp only
 have hroom : es.size + 1 <= t.mask := by
  unfold ZBG at hair
  rcases T.msk with h | h | h <;> rw [h] at hair ⊢ <;> omega
 have T1 := T.put (x := .ref b) hf hocc hroom
 have hp : (t.put (pth t.mask h k).j).2 <= es.size := by rw [<- T.sz]; exact (ZA0 T.rise _).1
 have hmem := ZID hp (h, Value.ref b)
 have hsz1 : (insertAt es (t.put (pth t.mask h k).j).2 (h, Value.ref b)).size = es.size + 1 := by
  have := (SetTable.insertAt_perm es (t.put (pth t.mask h k).j).2 (h, Value.ref b)).length_eq
  simpa using this
 have hmk : (t.put (pth t.mask h k).j).1.mask = t.mask := rfl
 generalize (t.put (pth t.mask h k).j).1 = t1 at T1 hmk ⊢
 generalize (t.put (pth t.mask h k).j).2 = p at T1 hp hmem hsz1 ⊢
 generalize insertAt es p (h, Value.ref b) = es1 at T1 hmem hsz1 ⊢
 have Js : wpAny (model prog w) A (do
   storeSet a es1 t1
   if (!false && t1.tooFull) = true then do
    setRelay a (grown (es.size + 1))
    pure true
   else pure true) Q E s := by
  refine Ua (wpAny_storeSet_of ho hd ?_ (by rw [hsz1, sizeLine_eq]; omega))
  have ho1 : (s.heap.update a (Obj.putSet es1 t1)).get? a = some { o with data := .set es1 (ep + 1) t1 } := by
   have := UD (Obj.putSet es1 t1) ho (by rw [putSet_of es1 t1 hd]; rfl)
   rw [this, putSet_of es1 t1 hd]
  have oth1 : ∀ c, c ≠ a -> (s.heap.update a (Obj.putSet es1 t1)).get? c = s.heap.get? c := fun c hc => Uz _ _ (Ne.symm hc)
  have hfill : t1.fill = es.size + 1 := by
   unfold SetTable.fill
   rw [T1.nd, T1.sz, hsz1]
   rfl
  cases hfull : t1.tooFull with
  | false =>
   simp only [Bool.not_false, Bool.and_false, Uh, if_false]
   refine Ud (hadd hno es1 (ep + 1) t1 _ T1 ?_ hsz1 hmem ho1 oth1 (Heap.size_update ..))
   unfold SetTable.tooFull at hfull
   unfold ZBG
   have := of_decide_eq_false hfull
   omega
  | true =>
   simp only [Bool.not_false, Bool.and_self, if_true]
   have hfl : (es.size + 1) * 5 >= t.mask * 3 := by
    have := of_decide_eq_true (show decide (t1.fill * 5 >= t1.mask * 3) = true from hfull)
    rw [hfill, hmk] at this
    exact this
   have key : okM (sizeAbove (grown (es.size + 1)) - 1) /\ es.size + 1 <= sizeAbove (grown (es.size + 1)) - 1 /\ sizeAbove (grown (es.size + 1)) <= sizeLine /\ (es.size + 1) * 5 < (sizeAbove (grown (es.size + 1)) - 1) * 3 := by
    unfold ZBG at hair
    rcases T.msk with h | h | h
    ·rw [h] at hair hfl
     have : es.size = 4 := by omega
     rw [this]
     exact ⟨.inr (.inl (by decide)), by decide, by decide, by decide⟩
    ·rw [h] at hair hfl
     have : es.size = 18 := by omega
     rw [this]
     exact ⟨.inr (.inr (by decide)), by decide, by decide, by decide⟩
    ·rw [h] at hfl
     omega
   obtain ⟨k1, k2, k3, k4⟩ := key
   refine Ua (ZJo (s := { s with heap := s.heap.update a (Obj.putSet es1 t1) }) ho1 rfl T1 k1 (by rw [hsz1]; exact k2) (by rw [hsz1, sizeLine_eq]; omega) k3 fun t2 es2 T2 sz2 mem2 mk2 ld2 => ?_)
   refine Ud (hadd hno es2 (ep + 1 + 1) t2 _ T2 ?_ (sz2.trans hsz1) (fun e => (mem2 e).trans (hmem e)) ?_ (fun c hc => (Uz _ _ (Ne.symm hc)).trans (oth1 c hc)) ((Heap.size_update ..).trans (Heap.size_update ..)))
   ·unfold ZBG
    rw [sz2, hsz1, mk2]
    exact k4
   ·have := UD (Obj.putSet es2 t2) ho1 (by rw [putSet_of es2 t2 rfl]; rfl)
    rw [this, putSet_of es2 t2 rfl]
 cases hpl : t1.plain with
 | true =>
  simp only [if_true]
  refine Ua (ZIC hT hi ?_)
  simp only [if_true]
  exact Js
 | false =>
  simp only [Uh, if_false]
  refine Ua (Ud ?_)
  simp only [if_true]
  exact Js
end
def Jk (h : Heap) (v : Value) (p : Int × Int) : Prop := ∃ b t u, v = .ref b /\ h.IsTuple b #[.int p.1 t, .int p.2 u]
noncomputable def hsh (prog : Program) (w : World) (p : Int × Int) : Int := tupleKeyHash (intKind prog w) [p.1, p.2]
theorem Jk.inj {h : Heap} {v : Value} {p q : Int × Int} (h1 : Jk h v p) (h2 : Jk h v q) : p = q := by
 obtain ⟨b, t, u, rfl, o, ho, _, k, hd⟩ := h1
 obtain ⟨b', t', u', e, o', ho', _, k', hd'⟩ := h2
 cases e
 rw [ho] at ho'
 cases ho'
 rw [hd] at hd'
 simp at hd'
 exact Prod.ext hd'.1.1.1 hd'.1.2.1
noncomputable def bEq (h : Heap) (q : Int × Int) (v : Value) : Bool := @decide (∃ p, Jk h v p /\ p = q) (Classical.propDecidable _)
theorem ZMm {h : Heap} {q p : Int × Int} {v : Value} (hp : Jk h v p) : bEq h q v = decide (p = q) := by
 unfold bEq
 by_cases c : p = q
 ·rw [decide_eq_true c]
  exact @decide_eq_true _ (Classical.propDecidable _) ⟨p, hp, c⟩
 ·rw [decide_eq_false c]
  refine @decide_eq_false _ (Classical.propDecidable _) ?_
  rintro ⟨p', hp', c'⟩
  exact c ((hp.inj hp').trans c')
section
variable {prog : Program} {w : World} {A : Around} {E : Value -> Shared -> Prop} {s : Shared}
theorem ZJp {v x : Value} {p q : Int × Int} (hu : A.units < cLine) (hv : Jk s.heap v p) (hx : Jk s.heap x q) : SeqAt.EqAt A s v x (decide (p = q)) := by
 obtain ⟨b, t, u, rfl, h1⟩ := id hv
 obtain ⟨b', t', u', rfl, h2⟩ := id hx
 by_cases c : b = b'
 ·subst c
  rw [decide_eq_true (hv.inj hx)]
  exact SeqAt.EqAt.same _
 ·refine SeqAt.EqAt.of_refs c ?_
  have := SeqAt.RcAt.tuples (A := A) (s := s) (e := fun j => if j = 0 then p.1 == q.1 else p.2 == q.2) h1 h2 hu fun j j1 j2 => by
   match j, j1 with
   | 0, _ => exact (SeqAt.EqAt.int_int p.1 t q.1 t' : SeqAt.EqAt A.in1 s _ _ _)
   | 1, _ => exact (SeqAt.EqAt.int_int p.2 u q.2 u' : SeqAt.EqAt A.in1 s _ _ _)
  have e : ((Vj (min (#[Value.int p.1 t, Value.int p.2 u]).size (#[Value.int q.1 t', Value.int q.2 u']).size)).all (fun j => if j = 0 then p.1 == q.1 else p.2 == q.2) && (#[Value.int p.1 t, Value.int p.2 u]).size == (#[Value.int q.1 t', Value.int q.2 u']).size) = decide (p = q) := by
   show ((Vj 2).all (fun j => if j = 0 then p.1 == q.1 else p.2 == q.2) && true) = _
   rw [Bool.and_true, show Vj 2 = [0, 1] from rfl]
   simp only [List.all_cons, List.all_nil, Bool.and_true, if_true, Nat.one_ne_zero, if_false]
   by_cases e1 : p = q
   ·subst e1; simp
   ·rw [decide_eq_false e1]
    cases h1 : (p.1 == q.1) with
    | false => rfl
    | true =>
     cases h2 : (p.2 == q.2) with
     | false => rfl
     | true => exact absurd (Prod.ext (by simpa using h1) (by simpa using h2)) e1
  rw [e] at this
  exact this
theorem ZCH {α : Type} {f : α -> (Option Bool × Unit) -> Sem (ForInStep (Option Bool × Unit))} {Q : (Option Bool × Unit) -> Shared -> Prop} (q : Q (none, ()) s) : ∀ (l : List α), (∀ x ∈ l, ∀ R : ForInStep (Option Bool × Unit) -> Shared -> Prop, R (.yield (none, ())) s -> wpAny (model prog w) A (f x (none, ())) R E s) -> wpAny (model prog w) A (forIn l (none, ()) f) Q E s
 | [], _ => Ud q
 | x :: l, h => by
  rw [List.forIn_cons]
  exact Ua (h x Us _ (ZCH q l fun y hy => h y (Um _ hy)))
theorem ZLN (n : Nat) {v : Value} (h : ∃ i t, v = .int i t) : eqIsQuiet n v = pure true := by
 obtain ⟨i, t, rfl⟩ := h
 cases n <;> rfl
theorem ZLO (n : Nat) {v : Value} (h : ∃ i t, v = .int i t) : ofAClassStatement n v = pure false := by
 obtain ⟨i, t, rfl⟩ := h
 cases n <;> rfl
theorem ZEQ {b : Addr} {xs : Array Value} {n : Nat} {Q : Bool -> Shared -> Prop} (hT : s.heap.IsTuple b xs) (hi : ∀ v ∈ xs.toList, ∃ i t, v = .int i t) (h : Q true s) : wpAny (model prog w) A (eqIsQuiet (n + 1) (.ref b)) Q E s := by
 obtain ⟨o, ho, hc, k, hd⟩ := id hT
 have hty : s.TypeIs (.ref b) "tuple" := ⟨o, ho, hc⟩
 unfold eqIsQuiet
 refine Ua (wpAny_specialOf hty F.slot_tuple_eq.lookup ?_)
 dsimp only
 refine Ua (wpAny_isInstance (b := true) hty (by rw [isSubtype_type]; kernel_rfl) ?_)
 simp only [Vb, Uh, if_false]
 refine Ua (wpAny_seqItems ho hd ?_)
 show wpAny _ _ (forIn xs (none, ()) _ >>= _) _ _ s
 refine Ua ?_
 rw [<- Array.forIn_toList]
 refine ZCH (Ud h) _ fun x hx R hR => ?_
 rw [ZLN n (hi x hx), pure_bind]
 exact Ud hR
theorem ZER {b : Addr} {xs : Array Value} {n : Nat} {Q : Bool -> Shared -> Prop} (hT : s.heap.IsTuple b xs) (hi : ∀ v ∈ xs.toList, ∃ i t, v = .int i t) (h : Q false s) : wpAny (model prog w) A (ofAClassStatement (n + 1) (.ref b)) Q E s := by
 obtain ⟨o, ho, hc, k, hd⟩ := id hT
 have hty : s.TypeIs (.ref b) "tuple" := ⟨o, ho, hc⟩
 unfold ofAClassStatement
 refine Ua (wpAny_typeOf hty ?_)
 dsimp only
 rw [if_pos (show ("tuple" == "tuple") = true from rfl)]
 refine Ua (Ud ?_)
 simp only [Vb, Uh, if_false]
 refine Ua (wpAny_seqItems ho hd ?_)
 dsimp only
 refine Ua ?_
 rw [<- Array.forIn_toList]
 refine ZCH (Ud h) _ fun x hx R hR => ?_
 rw [ZLO n (hi x hx), pure_bind]
 simp only [Uh, if_false]
 exact Ud hR
theorem ZMn {b : Addr} {q : Int × Int} {l : List Value} {Q : Bool -> Shared -> Prop} (hq : Jk s.heap (.ref b) q) (hl : ∀ v ∈ l, ∃ p, Jk s.heap v p) (h : Q false s) : wpAny (model prog w) A (searchCouldBeSeen (.ref b) l) Q E s := by
 have two : ∀ {x y : Value}, (∃ i t, x = .int i t) -> (∃ i t, y = .int i t) -> ∀ v ∈ (#[x, y] : Array Value).toList, ∃ i t, v = .int i t := fun hx hy v hv => by
  simp at hv
  rcases hv with rfl | rfl
  ·exact hx
  ·exact hy
 obtain ⟨b0, t, u, e0, hT⟩ := hq
 cases e0
 unfold searchCouldBeSeen
 refine Ua (ZCH (Ud h) _ fun v hv R hR => ?_)
 obtain ⟨p, c, t', u', rfl, hT'⟩ := hl v hv
 dsimp only
 by_cases e : (b == c || (carriedByValue (.ref b) && carriedByValue (.ref c))) = true
 ·rw [if_pos e]
  exact Ud hR
 ·rw [if_neg e]
  refine Ua (ZEQ hT (two ⟨_, _, rfl⟩ ⟨_, _, rfl⟩) ?_)
  simp only [Vb, Uh, if_false]
  refine Ua (ZEQ hT' (two ⟨_, _, rfl⟩ ⟨_, _, rfl⟩) ?_)
  simp only [Vb, Uh, if_false]
  refine Ua (ZER hT (two ⟨_, _, rfl⟩ ⟨_, _, rfl⟩) ?_)
  simp only [Uh, if_false]
  refine Ua (ZER hT' (two ⟨_, _, rfl⟩ ⟨_, _, rfl⟩) ?_)
  simp only [Uh, if_false]
  exact Ud hR
def ZBH (prog : Program) (w : World) (h : Heap) (a : Addr) (ps : PL) : Prop := ∃ (o : Obj) (es : Array (Int × Value)) (ep : Nat) (t : SetTable), h.get? a = some o /\ o.cls = .type "set" /\ (o.dict = none /\ o.slots = #[]) /\ o.data = .set es ep t /\ TbOk t es /\ ZBG t es.size /\ es.size = ps.length /\ ps.Nodup /\
 (∀ e ∈ es.toList, ∃ p ∈ ps, Jk h e.2 p /\ e.1 = hsh prog w p) /\ ∀ p ∈ ps, ∃ e ∈ es.toList, Jk h e.2 p
theorem Jk.keep {h h' : Heap} {a : Addr} {o : Obj} {v : Value} {p : Int × Int} (hv : Jk h v p) (ho : h.get? a = some o) (hc : o.cls = .type "set") (k : ∀ c, c ≠ a -> h'.get? c = h.get? c) : Jk h' v p := by
 obtain ⟨b, t, u, e, o', ho', hc', r⟩ := hv
 refine ⟨b, t, u, e, o', ?_, hc', r⟩
 rw [k b fun z => ?_]
 ·exact ho'
 ·rw [z, ho] at ho'
  cases ho'
  rw [hc] at hc'
  simp at hc'
theorem ZFk {a b : Addr} {ps : PL} {q : Int × Int} {Q : Bool -> Shared -> Prop} (hu : A.units < cLine) (S : ZBH prog w s.heap a ps) (hq : Jk s.heap (.ref b) q) (hn : ps.length < 70)
  (h : ∀ r h' tk, s.toks <= tk -> ZBH prog w h' a (if q ∈ ps then ps else ps ++ [q]) -> (∀ c, c ≠ a -> h'.get? c = s.heap.get? c) -> h'.objs.size = s.heap.objs.size -> Q r { s with heap := h', toks := tk }) :
  wpAny (model prog w) A (setAdd a (.ref b)) Q E s := by
 obtain ⟨o, es, ep, t, ho, hc, hdi, hd, T, hair, hsz, hnd, hin, hall⟩ := id S
 obtain ⟨b', t1, u1, eb, hT⟩ := id hq
 cases eb
 obtain ⟨o2, ho2, hc2, k2, hd2⟩ := id hT
 have hab : b ≠ a := fun z => by
  rw [z, ho] at ho2
  cases ho2
  rw [hc] at hc2
  simp at hc2
 unfold setAdd
 refine UR (Ua (wpAny_pyHash_tuple (knd := intKind prog w) (ks := [q.1, q.2]) hu ⟨o2, _, k2, ho2, hc2, hd2, .cons (by simp [intKind, Value.isInt]) (.cons (by simp [intKind, Value.isInt]) .nil)⟩ ?_))
 unfold setAddHashed
 refine UR ?_
 have hsame : ∀ e ∈ es.toList, ∀ p ∈ ps, Jk s.heap e.2 p -> e.1 = hsh prog w p := fun e he p hp hpr => by
  obtain ⟨p', hp', hpr', hh⟩ := hin e he
  rw [hpr.inj hpr']
  exact hh
 have hB : ∀ e ∈ es.toList, ∀ p, Jk s.heap e.2 p -> bEq s.heap q e.2 = decide (p = q) := fun e he p hp => ZMm hp
 refine ZMl (s := { s with toks := s.toks + ([q.1, q.2].length + 1) }) (B := bEq s.heap q) (o := o) (xs := #[.int q.1 t1, .int q.2 u1]) ho hd T (fun l R hl hR => ZMn (s := { s with toks := s.toks + ([q.1, q.2].length + 1) }) hq (fun v hv => ?_) hR) hair (by omega) (fun e he => ?_) (fun e he hh => ?_) hT hab (fun v hv => ?_) (fun e he hh hb => ?_) (fun hno es' ep' t' h' T' hair' hsz' hmem hg hk hos => ?_) _
 ·obtain ⟨e, he, rfl⟩ := hl v hv
  obtain ⟨p, hp, hpr, _⟩ := hin e he
  exact ⟨p, hpr⟩
 ·obtain ⟨p, hp, ⟨b2, _, _, e2, _⟩, _⟩ := hin e he
  exact ⟨b2, e2⟩
 ·obtain ⟨p, hp, hpr, _⟩ := hin e he
  have := ZJp (A := A) (s := { s with toks := s.toks + ([q.1, q.2].length + 1) }) hu hpr hq
  rw [<- hB e he p hpr] at this
  exact this
 ·simp at hv
  rcases hv with rfl | rfl
  ·exact ⟨_, _, rfl⟩
  ·exact ⟨_, _, rfl⟩
 ·obtain ⟨p, hp, hpr, _⟩ := hin e he
  have hb := (hB e he p hpr).symm.trans hb
  have : p = q := of_decide_eq_true hb
  subst this
  exact h false s.heap _ (Nat.le_add_right _ _) (by rw [if_pos hp]; exact S) (fun _ _ => rfl) rfl
 ·have hq0 : q ∉ ps := fun hq0 => by
   obtain ⟨e, he, hpr⟩ := hall q hq0
   have h1 := hno e he (hsame e he q hq0 hpr)
   have h2 := (hB e he q hpr).symm.trans h1
   rw [decide_eq_true rfl] at h2
   cases h2
  refine h true h' _ (Nat.le_add_right _ _) ?_ hk hos
  rw [if_neg hq0]
  refine ⟨_, es', ep', t', hg, hc, hdi, rfl, T', hair', by rw [hsz', UE, hsz]; rfl, ?_, fun e he => ?_, fun p hp => ?_⟩
  ·rw [List.nodup_append]
   exact ⟨hnd, Vv.mpr ⟨UH, List.nodup_nil⟩, fun x hx y hy z => by rw [UK.mp hy] at z; exact hq0 (z ▸ hx)⟩
  ·rcases (hmem e).mp he with he | rfl
   ·obtain ⟨p, hp, hpr, hh⟩ := hin e he
    exact ⟨p, List.mem_append_left _ hp, hpr.keep ho hc hk, hh⟩
   ·exact ⟨q, Uo _ (UK.mpr rfl), hq.keep ho hc hk, rfl⟩
  ·rcases Va.mp hp with hp | hp
   ·obtain ⟨e, he, hpr⟩ := hall p hp
    exact ⟨e, (hmem e).mpr (.inl he), hpr.keep ho hc hk⟩
   ·rw [UK.mp hp]
    exact ⟨_, (hmem _).mpr (.inr rfl), hq.keep ho hc hk⟩
end
def ddp (l : PL) : PL := l.foldl (fun ps q => if q ∈ ps then ps else ps ++ [q]) []
theorem ZJq (l : PL) (q : Int × Int) : ddp (l ++ [q]) = if q ∈ ddp l then ddp l else ddp l ++ [q] := by
 unfold ddp
 rw [List.foldl_append]
 rfl
theorem ZGP (l : PL) : (ddp l).length <= l.length := by
 have : ∀ (l acc : PL), (l.foldl (fun ps q => if q ∈ ps then ps else ps ++ [q]) acc).length <= acc.length + l.length := by
  intro l
  induction l with
  | nil => intro acc; exact Ue _
  | cons q l ih =>
   intro acc
   rw [List.foldl_cons]
   refine UP (ih _) ?_
   split
   ·simp
   ·simp; omega
 have := this l []
 rw [Vp, Nat.zero_add] at this
 exact this
theorem ZBH.moved {prog : Program} {w : World} {h h' : Heap} {a : Addr} {ps : PL} (S : ZBH prog w h a ps) (k : ∀ b o, h.get? b = some o -> (b = a \/ ∃ p, Jk h (.ref b) p) -> h'.get? b = some o) : ZBH prog w h' a ps := by
 obtain ⟨o, es, ep, t, ho, hc, hdi, hd, T, hair, hsz, hnd, hin, hall⟩ := S
 have kp : ∀ {v p}, Jk h v p -> Jk h' v p := fun {v p} hp => by
  obtain ⟨b, t, u, e, o', ho', r⟩ := id hp
  exact ⟨b, t, u, e, o', k b o' ho' (.inr ⟨p, by rw [<- e]; exact hp⟩), r⟩
 refine ⟨o, es, ep, t, k a o ho (.inl rfl), hc, hdi, hd, T, hair, hsz, hnd, fun e he => ?_, fun p hp => ?_⟩
 ·obtain ⟨p, h1, h2, h3⟩ := hin e he
  exact ⟨p, h1, kp h2, h3⟩
 ·obtain ⟨e, h1, h2⟩ := hall p hp
  exact ⟨e, h1, kp h2⟩
section
variable {prog : Program} {w : World} {A : Around} {R : Result -> Shared -> Prop} {I : Addr} {fp wr : List Addr} {G : Array GenState -> Array GenState -> Prop} {n : Nat} {P : Nat -> Value -> Prop} {St : Nat -> Shared -> Prop}
theorem ZJr (W : WalksS prog w A.in1 I fp wr G n P St) (hu : A.in1.units < cLine) (S : Addr) (hSf : S ∉ fp) (l : PL) (hl : l.length = n) (h70 : n < 70) (hno : ∀ i s, St i s -> ∀ b ∈ wr, ∀ p, ¬ Jk s.heap (.ref b) p) :
  ∀ (k i : Nat) (s : Shared), n - i = k -> i <= n -> St i s -> (∀ j v, P j v -> Jk s.heap v (l.getD j (0, 0))) ->
   ZBH prog w s.heap S (ddp (l.take i)) -> (∀ s', Moved (S :: wr) G s s' -> ZBH prog w s'.heap S (ddp l) -> R (.ok (.ret .none)) s') ->
   codeAny (model prog w) A (.builtin "set.update.loop" ⟨[.ref S, .ref I], []⟩) R s := by
 have hSw : S ∉ wr := fun h => hSf (W.sub _ h)
 have hsub : ∀ b ∈ wr, b ∈ S :: wr := fun b hb => Um _ hb
 intro k
 induction k with
 | zero =>
  intro i s hk hi hst hP hS hR
  have hw := hno i s hst
  have hin : i = n := by omega
  subst hin
  refine Vh F.entry_set_update_loop ?_
  rw [Around.under_plainId F.plain_set_update_loop _]
  show wpAny _ A.in1 (pyNext (.ref I) >>= _) _ _ s
  refine Ua (W.done s _ _ hst fun s' hm => ?_)
  show wpAny _ A.in1 (ret Value.none) _ _ s'
  refine Ud (hR s' (hm.mono hsub) ?_)
  rw [<- hl, UG] at hS
  refine hS.moved fun b o ho hb => hm.heap b o (fun z => ?_) ho
  rcases hb with rfl | ⟨p, hp⟩
  ·exact hSw z
  ·exact hw b z p hp
 | succ k ih =>
  intro i s hk hi hst hP hS hR
  have hw := hno i s hst
  have hlt : i < n := by omega
  refine Vh F.entry_set_update_loop ?_
  rw [Around.under_plainId F.plain_set_update_loop _]
  show wpAny _ A.in1 (pyNext (.ref I) >>= _) _ _ s
  refine Ua (W.item i s _ _ hlt hst fun v s' hPi hst' hm => ?_)
  have hv := hP i v hPi
  obtain ⟨b, t, u, rfl, o2, ho2, hc2, r2⟩ := id hv
  have kp : ∀ {v p}, Jk s.heap v p -> Jk s'.heap v p := fun {v p} hp => by
   obtain ⟨b, t, u, e, o', ho', r⟩ := id hp
   exact ⟨b, t, u, e, o', hm.heap b o' (fun z => hw b z p (by rw [<- e]; exact hp)) ho', r⟩
  have hS' : ZBH prog w s'.heap S (ddp (l.take i)) := hS.moved fun b o ho hb => hm.heap b o (fun z => by
   rcases hb with rfl | ⟨p, hp⟩
   ·exact hSw z
   ·exact hw b z p hp) ho
  have hlen := ZGP (l.take i)
  rw [UI] at hlen
  show wpAny _ A.in1 (holding [Value.ref b] (setAdd S (.ref b)) >>= _) _ _ s'
  refine Ua (UR (ZFk hu hS' (kp hv) (by omega) fun r h' tk htk hS2 hoth hsz => ?_))
  have e3 : l.take (i + 1) = l.take i ++ [l.getD i (0, 0)] := by
   rw [UY, Uc (by omega), Uw, Uc (by omega)]
   rfl
  rw [<- ZJq, <- e3] at hS2
  obtain ⟨oS, _, _, _, hoS, hcS, _⟩ := id hS'
  have kp2 : ∀ {v p}, Jk s'.heap v p -> Jk h' v p := fun hp => hp.keep hoS hcS hoth
  refine Ud ⟨plainId_quiet F.plain_set_update_loop _, ih (i + 1) _ (by omega) hlt (W.frame _ s' _ _ hst' htk fun b hb o e => ?_) (fun j v hj => kp2 (kp (hP j v hj))) hS2 fun s'' hm'' hS'' => ?_⟩
  ·rw [hoth b (fun h => hSf (h ▸ hb))]; exact e
  ·refine hR s'' (Moved.trans W.gtrans ((hm.mono hsub).then_heap htk fun b o hb e => ?_) hm'') hS''
   rw [hoth b (fun h => hb (by rw [h]; exact Us))]; exact e
end
theorem TbOk.new (f m : Nat) (led : Bool) : TbOk (SetTable.fresh f m led) #[] :=
 ⟨fun i j hij hj => by simp [SetTable.fresh] at hj, fun i j h => by simp [SetTable.fresh] at h, rfl, rfl, .inl rfl, UF _, fun i h x j e => by simp at e⟩
theorem ZBH.new {prog : Program} {w : World} {h : Heap} {a : Addr} {o : Obj} {led : Bool} (ho : h.get? a = some o) (hc : o.cls = .type "set") (hi : o.dict = none /\ o.slots = #[]) (hd : o.data = .set #[] 0 (.fresh 0 0 led)) : ZBH prog w h a [] :=
 ⟨o, #[], 0, .fresh 0 0 led, ho, hc, hi, hd, TbOk.new _ _ _, by show (0 : Nat) * 5 < 7 * 3; decide, rfl, List.nodup_nil, fun e he => by simp at he, fun p hp => by simp at hp⟩
def bt (w : World) : Bool := w.params.followText "set-order"
def SO (w : World) : Obj := { cls := .type "set", dict := none, data := .set #[] 0 (.fresh 0 0 (!bt w)) }
section
variable {prog : Program} {w : World} {A : Around} {E : Value -> Shared -> Prop} {s : Shared}
theorem ZLP (a : Value) {Q : Value -> Shared -> Prop} (h : Q (.ref s.heap.objs.size) { s with heap := s.heap.push (SO w) }) :
  codeAny (model prog w) A (.call (.builtin "set.__new__") ⟨[.type "set", a], []⟩) (wants Q E) s := by
 refine codeAny_of_tree ?_
 show wpAny _ A.in1 (do checkBuiltinCall "set.__new__" ⟨[.type "set", a], []⟩; again (.builtin "set.__new__" ⟨[.type "set", a], []⟩)) _ _ s
 refine Ua (wpAny_of_eq (F.newCall_set_1 a) (Ud ⟨plainId_quiet F.plain_set_new _, Vh F.entry_set_new ?_⟩))
 rw [Around.under_plainId F.plain_set_new _]
 unfold Builtin.«set.__new__» Builtin.Frozenset.newClass
 have hsub := sub_set_self
 obtain ⟨hp, g, d, tk, os⟩ := s
 dsimp only
 wp_walk
 refine wpAny_askSetting (Ud ?_)
 dsimp only
 simp only [newObj]
 exact Ua (wpAny_alloc (Ud (Ud h)))
theorem ZCW {l : Addr} {items : Array Value} {Fin : Heap -> Prop} {Q : Value -> Shared -> Prop} (hh : A.handled = none) (hl : s.heap.IsList l items)
  (loop : ∀ (I : Addr) (s0 : Shared) (R : Result -> Shared -> Prop), s0 = { s with heap := (s.heap.push (SO w)).push { cls := .type "list_iterator", data := .fields #[.ref l, .int 0 0] } } -> WalksS prog w A.in1.in1.in1 I [I, l] [I] (fun a b => b = a) items.size (fun i v => items[i]? = some v) (fun i s => s.heap.IsListIter I l i /\ s.heap.IsList l items) -> s.heap.objs.size ∉ [I, l] -> s0.heap.IsListIter I l 0 -> s0.heap.IsList l items -> s0.heap.get? s.heap.objs.size = some (SO w) ->
   (∀ s', Moved [s.heap.objs.size, I] (fun a b => b = a) s0 s' -> Fin s'.heap -> R (.ok (.ret .none)) s') -> codeAny (model prog w) A.in1.in1 (.builtin "set.update.loop" ⟨[.ref s.heap.objs.size, .ref I], []⟩) R s0)
  (h : ∀ (h' : Heap) (tk : Nat), Fin h' -> (∀ b o, b < s.heap.objs.size -> s.heap.get? b = some o -> h'.get? b = some o) -> Q (.ref s.heap.objs.size) { s with heap := h', toks := tk }) :
  wpAny (model prog w) A (call (.type "set") [.ref l]) Q E s := by
 obtain ⟨c, tl, hmro⟩ := F.called_set.mro
 have hmade := F.called_set.made
 have hsub := F.called_set.sub
 refine wpAny_call (codeAny_of_tree ?_)
 show wpAny _ _ (callAny (.type "set") _) _ _ _
 refine Ud ⟨Code.quiet_builtin _ (by decide +kernel), Vh F.entry_type_call ?_⟩
 rw [Around.under_plain (weight_type_call_type "set" [.ref l] []) rfl]
 have h1 := F.called_set.notType
 have h2 := F.called_set.canCreate
 have hct := F.typeCall_set_1 (.ref l)
 repeat (any_goals (first | assumption | wp_step))
 refine codeAny_mono (ZLP (.ref l) (E := E) (Q := fun obj s₁ => obj = .ref s.heap.objs.size /\ s₁ = { s with heap := s.heap.push (SO w) }) ⟨rfl, rfl⟩) fun r s₁ hr => ?_
 cases r with
 | error e => exact hr
 | ok fl =>
  cases fl with
  | ret obj =>
   obtain ⟨rfl, rfl⟩ := hr
   have hS : (s.heap.push (SO w)).get? s.heap.objs.size = some (SO w) := Uj _ rfl
   have hT : Shared.TypeIs { s with heap := s.heap.push (SO w) } (.ref s.heap.objs.size) "set" := ⟨_, hS, rfl⟩
   have hli := F.called_set.init.lookup
   have hbi := F.called_set.init.bind (.ref s.heap.objs.size)
   repeat (any_goals (first | assumption | wp_step))
   refine codeAny_mono (codeAny_call_builtin (R := wants (fun r s₂ => r = .none /\ ∃ h' tk, s₂ = { s with heap := h', toks := tk } /\ Fin h' /\
     (∀ b o, b < s.heap.objs.size -> s.heap.get? b = some o -> h'.get? b = some o)) E) F.called_set.init.plain F.entry_set_init (check_set_init_1 hT ?_)) fun r₂ s₂ hr₂ => ?_
   ·obtain ⟨ol, hol, hcl, nl, hdl⟩ := id hl
    obtain ⟨ocls, odict, odata, oslots⟩ := ol
    simp only at hcl hdl
    subst hcl; subst hdl
    have hol' : (s.heap.push (SO w)).get? l = some { cls := .type "list", dict := odict, data := .seq items nl, slots := oslots } := Ub _ hol
    have hsls := F.sub_list_set
    have hslf := F.sub_list_frozenset
    have hne : (Value.type "list" == Value.type "dict") = false := by decide
    have hl1 : (s.heap.push (SO w)).IsList l items := ⟨_, hol', rfl, nl, rfl⟩
    unfold Builtin.«set.__init__» noKeywords Builtin.Frozenset.updateFrom
    generalize hPI : pyIter = PI
    wp_walk
    subst hPI
    refine wpAny_pyIter_list hl1 ?_
    refine Ua (wpAny_runValue ?_)
    have hlS : l < s.heap.objs.size := Ug hol
    have hh3 : A.in1.in1.in1.handled = none := by simp [hh]
    have hneI : l ≠ (s.heap.push (SO w)).objs.size := by
     rw [UU]; exact Uk (Vm hlS)
    have hSf : s.heap.objs.size ∉ [(s.heap.push (SO w)).objs.size, l] := by
     rw [UU]; simp only [Ul, UK, UH, or_false, not_or]
     exact ⟨Uk (Vc _), Nat.ne_of_gt hlS⟩
    refine loop _ _ _ rfl ((Walks.list hh3 _ l hneI items).toS) hSf ⟨_, Uj _ rfl, rfl, rfl⟩ (hl1.push _) (Ub _ hS) ?hR
    case hR =>
     intro s' hm hS'
     obtain ⟨h', g', d', tk', os'⟩ := s'
     have eg : g' = s.gens := hm.gens
     have ed : d' = s.drawn := hm.drawn
     have eo : os' = s.os := hm.os
     subst eg; subst ed; subst eo
     show wpAny _ _ _ _ _ _
     refine Ud ?_
     show wpAny _ _ (ret Value.none) _ _ _
     refine Ud ⟨rfl, h', tk', rfl, hS', fun b o hb e => ?_⟩
     have hb1 : b ≠ s.heap.objs.size := Uk hb
     have hb2 : b ≠ (s.heap.push (SO w)).objs.size := by
      rw [UU]; exact Uk (Vm hb)
     exact hm.heap b o (by simp only [Ul, UK, UH, or_false, not_or]; exact ⟨hb1, hb2⟩) (Ub _ (Ub _ e))
   ·cases r₂ with
    | error e => exact hr₂
    | ok fl₂ =>
     cases fl₂ with
     | ret r =>
      obtain ⟨rfl, h', tk, rfl, hS', hk'⟩ := hr₂
      repeat (any_goals (first | assumption | wp_step))
      exact h _ _ hS' hk'
     | _ => exact hr₂.elim
  | _ => exact hr.elim
theorem ZDz {l : Addr} {items : Array Value} {ps : PL} {Q : Value -> Shared -> Prop}
  (hh : A.handled = none) (hu : A.in1.in1.in1.units < cLine) (hl : s.heap.IsList l items) (hi : ∀ j v, items[j]? = some v -> Jk s.heap v (ps.getD j (0, 0))) (hn : ps.length = items.size) (h70 : items.size < 70)
  (h : ∀ (h' : Heap) (tk : Nat), ZBH prog w h' s.heap.objs.size (ddp ps) -> (∀ b o, b < s.heap.objs.size -> s.heap.get? b = some o -> h'.get? b = some o) -> Q (.ref s.heap.objs.size) { s with heap := h', toks := tk }) :
  wpAny (model prog w) A (call (.type "set") [.ref l]) Q E s := by
 refine ZCW hh hl (fun I s0 R e0 W hSf hI hL hS hR => ?_) h
 refine ZJr W hu s.heap.objs.size hSf ps hn h70 ?_ (items.size - 0) 0 _ (by omega) (UF _) ⟨hI, hL⟩ (fun j v hv => ?_) (ZBH.new hS rfl ⟨rfl, rfl⟩ rfl) hR
 ·rintro i s' ⟨⟨o', ho', hc', _⟩, _⟩ b hb p ⟨b', t, u, eb, o2, ho2, hc2, _⟩
  cases eb
  rw [UK.mp hb, ho'] at ho2
  cases ho2
  rw [hc'] at hc2
  simp at hc2
 ·obtain ⟨b, t, u, e, o2, ho2, r⟩ := hi j v hv
  rw [e0]
  exact ⟨b, t, u, e, o2, Ub _ (Ub _ ho2), r⟩
end
end L2
namespace L2
open PySem PySem.Spec PyProof.Rows PySem.W
def ZD0 (K : W.Frag) (vs : List V) (H : Hp) (Q : VK) : Prop := ∃ (p : Addr) (us : List V) (m : PL), vs = [.ref p] /\ SqL K H p us /\ JJ H us m /\ m.length < 70 /\ Q (.int ((ddp m).length : Int)) H
def ZGQ (K : W.Frag) (ta : TA) : TE := fun U H Q => ta U H fun vs H1 => ZD0 K vs H1 Q
section
variable {X : Cx} {a : Expr} {ta : TA} {p p2 pos pos2 : Pos}
theorem ZIE (K : W.Frag) (hK : X.K = K) (hc : X.calm = true) (hu : X.A.units + 64 < cLine) (hgl : Gl X "len") (hml : X.mg "len" = none) (hg : Gl X "set") (hm : X.mg "set" = none) (ha : QA X [a] ta) (hs : ZAb a = false := by rfl) :
  QE X (.Call (.Name "len" p) [.Call (.Name "set" p2) [a] [] pos2] [] pos) (ZGQ K ta) := by
 subst hK
 refine ⟨?_⟩
 intro pins s U H Q I h
 refine wpAny_Call_Name_kw (ZAt I hgl hml ZBV ?_ (by decide) (by decide))
 refine PyProof.Rows.callWith_builtin1 ?_ rfl rfl
 show wpAny _ _ (spliced ((false, eval (.Call (.Name "set" p2) [a] [] pos2) X.env) :: backTo pos (starEach [] X.env))) _ _ s
 refine Calls.spliced_cons ?_
 refine Call_ (ZAt I hg hm boot_set (PyProof.Rows.callWith_type1 (thn (ha.h pos2 pins s U H _ I h) fun us s1 ⟨vs, H1, I1, r1, q1⟩ => ?_) (ZAQ hs) rfl))
 obtain ⟨l, xs, m, e, hS, hP, h70, q⟩ := q1
 subst e
 obtain ⟨u, rfl, ru⟩ := r1.one
 cases ru
 obtain ⟨its, rv, pl, hz⟩ := I1.list hS
 have hT := ZEH I1 (h' := s1.heap) (fun _ _ e => e) (Ue _) hP rv
 have hl1 : m.length = its.length := by have h1 := rv.length; have h2 := hP.length; omega
 refine ZDz (I1.ok.hd hc) (by show X.A.units + 3 < cLine; omega) pl.isList (fun j v hv => ?_) (by simpa using hl1) (by simp; omega) fun h' tk hS' hk => Calls.spliced_nil ?_
 ·have hj : j < its.length := by
   have := (UZ.mp hv).1
   simpa using this
  have := ZCS.get hT (i := j) (by omega)
  obtain ⟨b, t, u, e, _, hb⟩ := this
  have e2 : its.getD j .none = v := by
   rw [Uw]
   simp at hv
   rw [hv]
   rfl
  exact ⟨b, t, u, e2 ▸ e, hb⟩
 ·obtain ⟨o, es, ep, t, ho, hc', hdi, hd, T, _, hsz, _⟩ := hS'
  have hd70 := ZGP m
  refine call_len_set (s := { s1 with heap := h', toks := tk }) ho ⟨hc', hdi.1, hdi.2⟩ hd T.fits (by rw [hsz]; omega) ?_
  rw [hsz]
  exact ⟨.int _, H1, I1.kept fun b o e => hk b o (Ug e) e, ⟨_, rfl⟩, q⟩
end
section
variable {K : W.Frag} {U : St} {H : Hp} {Q : VK} {ta : TA} {p : Addr} {us : List V} {m : PL}
theorem ZDh (h : ta U H fun vs H1 => ZD0 K vs H1 Q) : ZGQ K ta U H Q := h
theorem ZIF (h1 : SqL K H p us) (h2 : JJ H us m) (h3 : m.length < 70) (q : Q (.int ((ddp m).length : Int)) H) : ZD0 K [.ref p] H Q := ⟨p, us, m, rfl, h1, h2, h3, q⟩
end
end L2
namespace L2
open PySem PySem.Spec PyProof.Rows PySem.SetTable
theorem ZDi {α : Type} [DecidableEq α] : ∀ {l1 l2 : List α}, l1.Nodup -> (∀ x ∈ l1, x ∈ l2) -> l2.length <= l1.length -> l2.Perm l1
 | [], l2, _, _, h => by
  have : l2 = [] := List.length_eq_zero_iff.mp (Nat.le_zero.mp h)
  rw [this]
 | x :: l1, l2, hn, hs, hl => by
  obtain ⟨h1, h2⟩ := Vv.mp hn
  have hp := List.perm_cons_erase (hs x Us)
  refine hp.trans (List.Perm.cons x (ZDi h2 (fun z hz => (List.mem_erase_of_ne (fun e => h1 (by rw [<- e]; exact hz))).mpr (hs z (Um _ hz))) ?_))
  have := hp.length_eq
  simp only [Vk] at this hl
  omega
theorem ZHE {t t' : SetTable} {es : Array (Int × Value)} {wanted : Nat} {order : Array Nat} (hm : okM (sizeAbove wanted - 1)) (hz : es.size <= sizeAbove wanted - 1) (e : t.relaid (es.map (·.1)) wanted = some (t', order)) : coversAll order es.size = true := by
 obtain ⟨o, ho, L⟩ := ZCq hm (hs := es.map (·.1)) (by rw [Array.size_map]; exact hz)
 rw [Array.size_map] at L
 generalize hmm : sizeAbove wanted - 1 = m at *
 obtain ⟨T0, e2⟩ : ∃ T0, t.relaid (es.map (·.1)) wanted = some (T0, ((JY m o).map (·.2)).toArray) := ⟨_, by unfold SetTable.relaid SetTable.laid; rw [hmm, ho]; rfl⟩
 rw [e2] at e
 obtain ⟨_, rfl⟩ := Prod.mk.inj (Option.some.inj e)
 unfold coversAll
 rw [List.isPerm_iff]
 refine ZDi List.nodup_range (fun i hi => ?_) (by simp [ZFU L])
 obtain ⟨s, hs⟩ := L.all i (Vg.mp hi)
 exact Ux.mpr ⟨(s, i), (ZAe L.size).mpr hs, rfl⟩
def iv : Value -> Int
 | .int i _ => i
 | _ => 0
theorem ZGR : ∀ {vs : List Value}, (∀ v ∈ vs, ∃ i t, v = .int i t) -> IntsAre vs (vs.map iv)
 | [], _ => .nil
 | v :: vs, h => by
  obtain ⟨i, t, rfl⟩ := h v Us
  exact .cons i t (ZGR fun v hv => h v (Um _ hv))
def ZA1 (prog : Program) (w : World) (h : Heap) (a : Addr) (led : Bool) (ns : List Int) : Prop := ∃ (o : Obj) (es : Array (Int × Value)) (ep : Nat) (t : SetTable), h.get? a = some o /\ o.ExactSet /\ o.data = .set es ep t /\ TbOk t es /\ ZBG t es.size /\ t.plain = true /\ t.led = led /\
 ElemsOf (intKind prog w) es.toList /\ (es.toList.map fun e => iv e.2).Perm ns
theorem ZA1.new {prog : Program} {w : World} {h : Heap} {a : Addr} {o : Obj} {led : Bool} (ho : h.get? a = some o) (hc : o.ExactSet) (hd : o.data = .set #[] 0 (.fresh 0 0 led)) : ZA1 prog w h a led [] :=
 ⟨o, #[], 0, .fresh 0 0 led, ho, hc, hd, TbOk.new _ _ _, by show (0 : Nat) * 5 < 7 * 3; decide, rfl, rfl, fun e he => by simp at he, .nil⟩
theorem ZA1.at' {prog : Program} {w : World} {h h' : Heap} {a : Addr} {led : Bool} {ns : List Int} (S : ZA1 prog w h a led ns) (k : ∀ o, h.get? a = some o -> h'.get? a = some o) : ZA1 prog w h' a led ns := by
 obtain ⟨o, es, ep, t, ho, r⟩ := S
 exact ⟨o, es, ep, t, k o ho, r⟩
section
variable {prog : Program} {w : World} {A : Around} {E : Value -> Shared -> Prop} {s : Shared}
theorem ZHF {a : Addr} {led : Bool} {ns : List Int} {n : Int} {tk : Tok} {Q : Bool -> Shared -> Prop} (S : ZA1 prog w s.heap a led ns) (hn : n ∉ ns) (h70 : ns.length < 70)
  (h : ∀ h', ZA1 prog w h' a led (ns ++ [n]) -> (∀ c, c ≠ a -> h'.get? c = s.heap.get? c) -> Q true { s with heap := h' }) : wpAny (model prog w) A (setAddHashed a (.int n tk) ((intKind prog w).hash n)) Q E s := by
 obtain ⟨o, es, ep, t, ho, hex, hd, T, hair, hpl, hled, hel, hperm⟩ := S
 have hf := T.fits
 have hsz : es.size = ns.length := by
  have := hperm.length_eq
  simpa using this
 have hb : es.size < scanBound := by unfold scanBound; omega
 have hkey : (intKind prog w).is n (.int n tk) = true := intKind_is _ _ _ _
 unfold setAddHashed setAddHashedIn
 refine UR (Ua (wpAny_setState_of ho hd hf ?_))
 dsimp only
 rw [byScan_of rfl hb hel]
 simp only [↓reduceIte]
 unfold setAddByScan
 refine Ua ?_
 refine Ua (wpAny_rule ?_)
 refine Ua (wpAny_setScan_of hkey ho hd hf hel ?_)
 have hnone : List.findIdx? (fun e => (intKind prog w).is n e.2) es.toList = none := by
  rw [List.findIdx?_eq_none_iff]
  intro e he
  cases hx : (intKind prog w).is n e.2 with
  | false => rfl
  | true =>
   obtain ⟨t', e2⟩ := Value.isInt_shape hx
   refine absurd (hperm.mem_iff.mp (Ux.mpr ⟨e, he, ?_⟩)) hn
   rw [e2]
   rfl
 rw [hnone]
 dsimp only
 generalize hhh : (intKind prog w).hash n = hh
 obtain ⟨nn, hnn, hno⟩ := T.ends hh
 obtain ⟨k', c1, c2, c3⟩ := ZC6 T.rise T.nd (hashAt := fun _ => hh + 1) hno (10 * turns t.mask) 0 (UF _) (by omega)
 rcases c3 with ⟨d1, d2⟩ | ⟨i, _, _, d3, _⟩
 rotate_left
 ·exact absurd d3 (by show hh + 1 ≠ hh; omega)
 have hfs : t.freeSlot hh = some ((pth t.mask hh k').j, false) := by
  unfold SetTable.freeSlot SetTable.probe
  have e0 : t.probeStart hh = pth t.mask hh 0 := rfl
  rw [e0, d2]
  rfl
 have hroom : es.size + 1 <= t.mask := by
  unfold ZBG at hair
  rcases T.msk with h | h | h <;> rw [h] at hair ⊢ <;> omega
 have T1 := T.put (x := .int n tk) d1 (fun x hx => by obtain ⟨i, hi, _⟩ := c2 x (UF _) hx; exact ⟨i, hi⟩) hroom
 have hp1 := SetTable.insertAt_perm es (t.put (pth t.mask hh k').j).2 (hh, Value.int n tk)
 have hL : layNew t es hh (.int n tk) = (insertAt es (t.put (pth t.mask hh k').j).2 (hh, Value.int n tk), (t.put (pth t.mask hh k').j).1, false, false) := by
  unfold layNew
  rw [hfs]
  dsimp only
  unfold SetTable.orStandIn
  rw [if_pos T1.fits, T1.fits]
  rfl
 rw [hL]
 have hmk : (t.put (pth t.mask hh k').j).1.mask = t.mask := rfl
 have hp2 : (t.put (pth t.mask hh k').j).1.plain = true := hpl
 have hl2 : (t.put (pth t.mask hh k').j).1.led = led := hled
 generalize (t.put (pth t.mask hh k').j).1 = t1 at T1 hmk hp2 hl2 ⊢
 generalize insertAt es (t.put (pth t.mask hh k').j).2 (hh, Value.int n tk) = es1 at T1 hp1 ⊢
 rw [Ve] at hp1
 have hsz1 : es1.size = es.size + 1 := by
  have := hp1.length_eq
  simpa using this
 have hel1 : ElemsOf (intKind prog w) es1.toList := by
  have := (hel.push hkey rfl).perm (l' := es1.toList) (by rw [hhh]; exact hp1)
  exact this
 have hpm1 : (es1.toList.map fun e => iv e.2).Perm (ns ++ [n]) := by
  have := hp1.map fun e : Int × Value => iv e.2
  rw [Vw] at this
  exact this.trans (hperm.append (List.Perm.refl _))
 dsimp only
 refine Ua (Ud ?_)
 rw [hp2]
 simp only [if_true]
 refine Ua (wpAny_of_eq (a := true) (ZGO 8 ⟨_, _, rfl⟩) ?_)
 simp only [if_true]
 refine Ua (wpAny_storeSet_of ho hd ?_ (by rw [hsz1, sizeLine_eq]; omega))
 have ho1 : (s.heap.update a (Obj.putSet es1 t1)).get? a = some { o with data := .set es1 (ep + 1) t1 } := by
  have := UD (Obj.putSet es1 t1) ho (by rw [putSet_of es1 t1 hd]; rfl)
  rw [this, putSet_of es1 t1 hd]
 have oth1 : ∀ c, c ≠ a -> (s.heap.update a (Obj.putSet es1 t1)).get? c = s.heap.get? c := fun c hc => Uz _ _ (Ne.symm hc)
 have hfill : t1.fill = es.size + 1 := by
  unfold SetTable.fill
  rw [T1.nd, T1.sz, hsz1]
  rfl
 cases hfull : t1.tooFull with
 | false =>
  simp only [Bool.not_false, Bool.and_false, Uh, if_false]
  refine Ud (Ud (h _ ⟨_, es1, ep + 1, t1, ho1, hex, rfl, T1, ?_, hp2, hl2, hel1, hpm1⟩ oth1))
  unfold SetTable.tooFull at hfull
  unfold ZBG
  have := of_decide_eq_false hfull
  omega
 | true =>
  simp only [Bool.not_false, Bool.and_self, if_true]
  have hfl : (es.size + 1) * 5 >= t.mask * 3 := by
   have := of_decide_eq_true (show decide (t1.fill * 5 >= t1.mask * 3) = true from hfull)
   rw [hfill, hmk] at this
   exact this
  have key : okM (sizeAbove (grown (es.size + 1)) - 1) /\ es.size + 1 <= sizeAbove (grown (es.size + 1)) - 1 /\ (es.size + 1) * 5 < (sizeAbove (grown (es.size + 1)) - 1) * 3 := by
   unfold ZBG at hair
   rcases T.msk with h | h | h
   ·rw [h] at hair hfl
    have : es.size = 4 := by omega
    rw [this]
    exact ⟨.inr (.inl (by decide)), by decide, by decide⟩
   ·rw [h] at hair hfl
    have : es.size = 18 := by omega
    rw [this]
    exact ⟨.inr (.inr (by decide)), by decide, by decide⟩
   ·rw [h] at hfl
    omega
  rw [<- hsz1] at key
  obtain ⟨k1, k2, k4⟩ := key
  obtain ⟨t2, order, e, T2, sz2, mem2, mk2, ld2, pl2⟩ := TbOk.relaid (t := t1) (es := es1) k1 k2
  have hcov := ZHE k1 k2 e
  have hR : relayAll t1 es1 (grown es1.size) = (order.filterMap (es1[·]?), t2, false) := by
   unfold relayAll
   rw [e]
   dsimp only
   rw [if_pos (by rw [hcov, T2.fits]; rfl)]
  have hpr := relayAll_perm t1 es1 (grown es1.size)
  rw [hR] at hpr ⊢
  generalize order.filterMap (es1[·]?) = es2 at T2 sz2 hpr ⊢
  dsimp only at hpr ⊢
  refine Ua (Ud ?_)
  refine Ua (wpAny_storeSet_of ho1 rfl ?_ (by rw [sz2, hsz1, sizeLine_eq]; omega))
  refine Ud (Ud (h _ ⟨{ o with data := .set es2 (ep + 1 + 1) t2 }, es2, ep + 1 + 1, t2, ?_, hex, rfl, T2, ?_, by rw [pl2, hp2], by rw [ld2, hl2], hel1.perm hpr, (hpr.map fun e : Int × Value => iv e.2).trans hpm1⟩ (fun c hc => (Uz _ _ (Ne.symm hc)).trans (oth1 c hc))))
  ·have := UD (Obj.putSet es2 t2) ho1 (by rw [putSet_of es2 t2 rfl]; rfl)
   rw [this, putSet_of es2 t2 rfl]
  ·unfold ZBG
   rw [sz2, mk2]
   exact k4
end
theorem ZBL : Slot "set_iterator" "__next__" "set_iterator.__next__" :=
 .of (owner := "set_iterator") (n := "__next__") (by rw [typeLookup_type, builtinLookup_eq_fast]; kernel_rfl) (by decide +kernel) (by decide +kernel) (by decide +kernel) (by first | exact .inl (by decide +kernel) | exact .inr (by decide +kernel)) (by rw [isSubtype_type]; kernel_rfl)
theorem ZFl : entryFor table "set_iterator.__next__" = some Builtin.«set_iterator.__next__» := entryFor_of_tree (by kernel_rfl)
theorem ZCs : Manifest.owners.lookup (String.ofList ['r', 'o', 't', 'a', 'r', 'e', 't', 'i', '_', 't', 'e', 's'].reverse) = some Manifest.sig_set_iterator := by kernel_rfl
theorem ZHG (a : Value) : argsOk "set_iterator.__next__" ⟨[a], []⟩ := by
 unfold argsOk; rw [signature?_of (id := "set_iterator.__next__") (n := ['_', '_', 't', 'x', 'e', 'n', '_', '_']) (o := ['r', 'o', 't', 'a', 'r', 'e', 't', 'i', '_', 't', 'e', 's']) (by kernel_rfl) ZCs]; kernel_rfl
theorem ZDj : Slot "set_iterator" "__iter__" "set_iterator.__iter__" :=
 .of (owner := "set_iterator") (n := "__iter__") (by rw [typeLookup_type, builtinLookup_eq_fast]; kernel_rfl) (by decide +kernel) (by decide +kernel) (by decide +kernel) (by first | exact .inl (by decide +kernel) | exact .inr (by decide +kernel)) (by rw [isSubtype_type]; kernel_rfl)
theorem ZFV : entryFor table "set_iterator.__iter__" = some Builtin.«dict_keyiterator.__iter__» := entryFor_alias (id' := "dict_keyiterator.__iter__") (by kernel_rfl) rfl (by decide +kernel) (by kernel_rfl)
theorem ZFm (a : Value) : argsOk "set_iterator.__iter__" ⟨[a], []⟩ := by
 unfold argsOk; rw [signature?_of (id := "set_iterator.__iter__") (n := ['_', '_', 'r', 'e', 't', 'i', '_', '_']) (o := ['r', 'o', 't', 'a', 'r', 'e', 't', 'i', '_', 't', 'e', 's']) (by kernel_rfl) ZCs]; kernel_rfl
theorem ZD1 : entryFor table "set.__iter__" = some Builtin.«frozenset.__iter__» := entryFor_alias (id' := "frozenset.__iter__") (by kernel_rfl) rfl (by decide +kernel) (by kernel_rfl)
noncomputable def ZAW (w : World) (a : Addr) (ep : Nat) (es : Array (Int × Value)) : Array (Int × Value) := if bt w = true then pickOrder (w.params.setOrder a ep) es else es
theorem ZDk {α : Type} : ∀ (l : List α) (i : Nat) (hi : i < l.length), (l[i] :: l.eraseIdx i).Perm l
 | [], i, hi => absurd hi (Nat.not_lt_zero _)
 | x :: l, 0, _ => List.Perm.refl _
 | x :: l, i + 1, hi => (List.Perm.swap _ _ _).trans (List.Perm.cons x (ZDk l i (by simpa using hi)))
theorem ZGS {α : Type} (next : Nat -> Nat) : ∀ (fuel k : Nat) (left : List α) (out : Array α), left.length = fuel -> (pickOrder.go next fuel k left out).toList.Perm (out.toList ++ left)
 | 0, k, left, out, h => by
  rw [List.length_eq_zero_iff.mp h, UL]
  unfold pickOrder.go
  exact List.Perm.refl _
 | fuel + 1, k, left, out, h => by
  unfold pickOrder.go
  have hi : next k % left.length < left.length := Nat.mod_lt _ (by omega)
  rw [Uc hi]
  dsimp only
  refine (ZGS next fuel (k + 1) (left.eraseIdx (next k % left.length)) _ (by rw [List.length_eraseIdx_of_lt hi]; omega)).trans ?_
  rw [Ve, UX]
  refine List.Perm.append_left _ ?_
  exact ZDk left _ hi
theorem ZFW (w : World) (a : Addr) (ep : Nat) (es : Array (Int × Value)) : (ZAW w a ep es).toList.Perm es.toList := by
 unfold ZAW
 split
 ·have := ZGS (w.params.setOrder a ep) es.size 0 es.toList #[] (by simp)
  simpa [pickOrder] using this
 ·exact List.Perm.refl _
theorem ZC7 (w : World) (a : Addr) (ep : Nat) (es : Array (Int × Value)) : (ZAW w a ep es).size = es.size := by
 have := (ZFW w a ep es).length_eq
 simpa using this
def ZC8 (h : Heap) (I a : Addr) (slot i n ep : Nat) : Prop := ∃ o, h.get? I = some o /\ o.cls = .type "set_iterator" /\ o.data = .fields #[.int slot 0, .int i 0, .ref a, .int n 0, .int ep 0]
theorem ZC8.at' {h h' : Heap} {I a : Addr} {slot i n ep : Nat} (x : ZC8 h I a slot i n ep) (k : ∀ o, h.get? I = some o -> h'.get? I = some o) : ZC8 h' I a slot i n ep := by
 obtain ⟨o, ho, r⟩ := x
 exact ⟨o, k o ho, r⟩
section
variable {prog : Program} {w : World} {A : Around} {E : Value -> Shared -> Prop} {s : Shared} {a I : Addr} {o : Obj} {es : Array (Int × Value)} {ep : Nat} {t : SetTable}
theorem ZD2 {α : Type} {M : Model} {c : Bool} {x y : Sem α} {Q : α -> Shared -> Prop} (hc : c = false) (h : wpAny M A y Q E s) : wpAny M A (if c = true then x else y) Q E s := by
 rw [hc]
 exact h
theorem ZJs (ho : s.heap.get? a = some o) (hex : o.ExactSet) (hd : o.data = .set es ep t) (hf : t.fits es.size = true) (hpl : t.plain = true) {Q : Value -> Shared -> Prop}
  (hQ : Q (.ref s.heap.objs.size) { s with heap := s.heap.push { cls := .type "set_iterator", data := .fields #[.int 0 0, .int 0 0, .ref a, .int es.size 0, .int ep 0] } }) :
  wpAny (model prog w) A (pyIter (.ref a)) Q E s := by
 have hT : s.TypeIs (.ref a) "set" := ⟨o, ho, hex.1⟩
 refine wpAny_pyIter_slot hT F.slot_set_iter (wpAny_call_entry F.slot_set_iter hT ZD1 ?_ (F.args_set_iter_1 _))
 unfold Builtin.«frozenset.__iter__» Builtin.Frozenset.slot0 slotArgs
 simp only [List.isEmpty_nil, Vb, Uh, ↓reduceIte, bind_assoc, Vp, bne_self_eq_false]
 unfold Builtin.Frozenset.addrOf Builtin.Frozenset.sizeOf
 refine Ua (Ud ?_)
 try dsimp only
 refine Ua (Ud ?_)
 refine Ua (Ua (wpAny_setEntries_of ho hd hf (Ud ?_)))
 unfold setDrawn
 simp only [bind_assoc]
 refine Ua (wpAny_setState_of ho hd hf ?_)
 dsimp only
 unfold setsByText
 refine Ua (Ua (wpAny_askSetting (Ud ?_)))
 refine Ua (Ud ?_)
 refine ZD2 ?_ ?_
 ·show (!_ && (!t.plain && decide (es.size > 1))) = false
  rw [hpl]
  simp
 refine Ua (Ud ?_)
 unfold setEpoch
 simp only [bind_assoc]
 refine Ua (wpAny_setState_of ho hd hf ?_)
 refine Ua (Ud ?_)
 refine Ua (wpAny_newObj_type (Ud ⟨_, rfl, "set_iterator", _, ⟨_, Uj _ rfl, rfl⟩, ZBL.lookup, ?_⟩))
 simpa [rawInt] using hQ
theorem ZJt (ho : s.heap.get? a = some o) (hd : o.data = .set es ep t) (T : TbOk t es) (hpl : t.plain = true) (hled : t.led = !bt w) {slot i : Nat} (hs : bt w = true \/ below t.place slot = i) {Q : Option (Value × Nat) -> Shared -> Prop}
  (h1 : ∀ e slot', (ZAW w a ep es)[i]? = some e -> (bt w = true \/ below t.place slot' = i + 1) -> Q (some (e.2, slot')) s) (h2 : (ZAW w a ep es)[i]? = none -> Q none s) : wpAny (model prog w) A (setNext a slot i ep) Q E s := by
 unfold setNext
 refine Ua (wpAny_setState_of ho hd T.fits ?_)
 dsimp only
 unfold setsByText
 refine Ua (Ua (wpAny_askSetting (Ud ?_)))
 cases hb : bt w with
 | true =>
  have e1 : ({ program := (model prog w).prog, params := (model prog w).w.params } : Setting).params.followText "set-order" = true := hb
  rw [e1]
  simp only [if_true, bne_self_eq_false, Uh, if_false]
  unfold setWalk
  simp only [bind_assoc]
  refine Ua (wpAny_setState_of ho hd T.fits ?_)
  dsimp only
  unfold setsByText
  refine Ua (Ua (wpAny_askSetting (Ud ?_)))
  rw [e1]
  simp only [if_true, bind_assoc]
  refine Ua (wpAny_askSetting ?_)
  refine Ua (Ud ?_)
  refine Ud ?_
  have e2 : ZAW w a ep es = pickOrder (({ program := (model prog w).prog, params := (model prog w).w.params } : Setting).params.setOrder a ep) es := by
   unfold ZAW
   rw [if_pos hb]
   rfl
  rw [<- e2]
  cases hx : (ZAW w a ep es)[i]? with
  | none => exact h2 hx
  | some e => exact h1 e slot hx (.inl hb)
 | false =>
  have e1 : ({ program := (model prog w).prog, params := (model prog w).w.params } : Setting).params.followText "set-order" = false := hb
  rw [e1]
  simp only [Uh, if_false]
  have hsl : below t.place slot = i := hs.resolve_left (by rw [hb]; decide)
  have e2 : ZAW w a ep es = es := by unfold ZAW; rw [hb]; rfl
  refine ZD2 ?_ ?_
  ·show (!t.plain && decide (es.size > 1)) = false
   rw [hpl]; rfl
  refine Ua ?_
  show wpAny _ _ (if (!t.led && !es.isEmpty) = true then unsupported _ else pure ()) _ _ s
  refine ZD2 (by rw [hled, hb]; rfl) (Ud ?_)
  rw [hsl]
  rw [e2] at h1 h2
  refine Ud ?_
  cases hx : es[i]? with
  | none => exact h2 hx
  | some e =>
   have hi : i < es.size := (UZ.mp hx).1
   have hip : i < t.place.size := by rw [T.sz]; exact hi
   have hpx : t.place[i]? = some t.place[i] := Ur hip
   rw [hpx]
   refine h1 e _ hx (.inr ?_)
   obtain ⟨b1, b2, b3⟩ := ZA0 T.rise (t.place[i] + 1)
   have g : t.place.getD i 0 = t.place[i] := (ZBB hpx).2
   have l1 : ¬ below t.place (t.place[i] + 1) <= i := fun z => by
    have := b3 i z hip
    omega
   have l2 : ¬ i + 1 < below t.place (t.place[i] + 1) := fun z => by
    have h1 := b2 (i + 1) z
    have h2 := T.rise i (i + 1) (Vc _) (by omega)
    omega
   omega
theorem ZGT (hh : A.handled = none) (ho : s.heap.get? a = some o) (hd : o.data = .set es ep t) (T : TbOk t es) (hpl : t.plain = true) (hled : t.led = !bt w) {slot i : Nat} (hit : ZC8 s.heap I a slot i es.size ep) (hs : bt w = true \/ below t.place slot = i) {Q : Option Value -> Shared -> Prop}
  (h1 : ∀ e slot' h', (ZAW w a ep es)[i]? = some e -> ZC8 h' I a slot' (i + 1) es.size ep -> (bt w = true \/ below t.place slot' = i + 1) -> (∀ b, b ≠ I -> h'.get? b = s.heap.get? b) -> Q (some e.2) { s with heap := h' })
  (h2 : ∀ h', (ZAW w a ep es)[i]? = none -> Heap.ExtBut I s.heap h' -> Q none { s with heap := h' }) : wpAny (model prog w) A (pyNext (.ref I)) Q E s := by
 obtain ⟨oI, hoI, hcI, hdI⟩ := id hit
 have hT : s.TypeIs (.ref I) "set_iterator" := ⟨oI, hoI, hcI⟩
 unfold pyNext
 refine Ua (wpAny_attempt (wpAny_callSpecial?_slot (name := Str.ofString "__next__") hT ZBL (wpAny_call_entry ZBL hT ZFl ?_ (ZHG _))))
 unfold Builtin.«set_iterator.__next__» slotArgs
 simp only [List.isEmpty_nil, Vb, Uh, ↓reduceIte, bind_assoc, Vp, bne_self_eq_false]
 refine Ua (Ud ?_)
 refine Ua (wpAny_fieldsOf hoI hdI ?_)
 dsimp only
 refine Ua (wpAny_setEntries_of ho hd T.fits ?_)
 rw [if_neg (by simp)]
 simp only [Int.toNat_natCast]
 refine Ua (ZJt ho hd T hpl hled hs (fun e slot' he hs' => ?_) fun he => ?_)
 ·dsimp only
  refine Ua (wpAny_setField hoI hdI (by simp) ?_)
  have g1 : (s.heap.update I (Obj.mapFields (·.setIfInBounds 0 (rawInt (slot' : Int))))).get? I = some _ := UD _ hoI (Obj.isFreed_of_fields (Obj.data_mapFields hdI _))
  refine Ua (wpAny_setField g1 (Obj.data_mapFields hdI _) (by simp) ?_)
  have g2 := UD (Obj.mapFields (·.setIfInBounds 1 (rawInt ((i : Int) + 1)))) g1 (Obj.isFreed_of_fields (Obj.data_mapFields (Obj.data_mapFields hdI _) _))
  refine Ud ⟨_, rfl, Ud (h1 e slot' _ he ⟨_, g2, ?_, ?_⟩ hs' fun b hb => ?_)⟩
  ·rw [Obj.cls_mapFields, Obj.cls_mapFields]; exact hcI
  ·rw [Obj.data_mapFields (Obj.data_mapFields hdI _)]
   simp [rawInt]
  ·rw [Uz _ _ (Ne.symm hb), Uz _ _ (Ne.symm hb)]
 ·dsimp only
  refine Ua (wpAny_setField hoI hdI (by simp) ?_)
  show wpAny _ _ (newExc (.type "StopIteration") [] >>= _) _ _ _
  refine Ua ?_
  simp only [newExc, newTuple]
  refine Ua (wpAny_newObj_type ?_ (by size_fits))
  refine Ua (m := firstArgMember _ _) (wpAny_of_eq (a := Value.none) (by first | rfl | (simp only [firstArgMember]; rfl)) ?_)
  refine wpAny_newObj_type ?_ (by size_fits)
  simp only [raiseNew]
  refine Ua (wpAny_handled ?_)
  rw [show A.in1.handled = none from hh]
  refine Ua (Ud (wpAny_throw ?_))
  refine Ua (wpAny_isInstance (T := "StopIteration") (b := true) ⟨_, Uj _ rfl, rfl⟩ isSubtype_stop ?_)
  exact Ud (h2 _ he (((Heap.SameBut.update ..).extBut.push _).push _))
theorem ZJu {slot i n : Nat} {Q : Value -> Shared -> Prop} (hit : ZC8 s.heap I a slot i n ep) (h : Q (.ref I) s) : wpAny (model prog w) A (pyIter (.ref I)) Q E s := by
 obtain ⟨oI, hoI, hcI, hdI⟩ := id hit
 have hT : s.TypeIs (.ref I) "set_iterator" := ⟨oI, hoI, hcI⟩
 refine wpAny_pyIter_slot hT ZDj (wpAny_call_entry ZDj hT ZFV ?_ (ZFm _))
 show wpAny _ _ (ret (.ref I)) _ _ s
 exact Ud ⟨_, rfl, "set_iterator", _, hT, ZBL.lookup, h⟩
theorem ZJv (hh : A.handled = none) (hne : a ≠ I) (hd : o.data = .set es ep t) (T : TbOk t es) (hpl : t.plain = true) (hled : t.led = !bt w) :
  Walks prog w A I [I, a] [I] es.size (fun i v => ∃ e, (ZAW w a ep es)[i]? = some e /\ v = e.2) (fun i h => (∃ slot, ZC8 h I a slot i es.size ep /\ (bt w = true \/ below t.place slot = i)) /\ h.get? a = some o) where
 sub := fun b hb => by simp at hb; simp [hb]
 frame := fun _ _ _ st hk => by
  obtain ⟨⟨slot, h1, h2⟩, h3⟩ := st
  exact ⟨⟨slot, h1.at' fun o e => hk I (by simp) o e, h2⟩, hk a (by simp) _ h3⟩
 item := fun i s Q E hi st hQ => by
  obtain ⟨⟨slot, h1, h2⟩, h3⟩ := st
  have hi' : i < (ZAW w a ep es).size := by rw [ZC7]; exact hi
  refine ZGT hh h3 hd T hpl hled h1 h2 (fun e slot' h' he hit' hs' hk => ?_) fun h' he _ => ?_
  ·exact hQ e.2 h' s.toks ⟨e, he, rfl⟩ ⟨⟨slot', hit', hs'⟩, (hk a hne).trans h3⟩ fun b o hb e => by rw [hk b (fun z => hb (by simp [z]))]; exact e
  ·rw [Ur hi'] at he
   cases he
 done := fun s Q E st hQ => by
  obtain ⟨⟨slot, h1, h2⟩, h3⟩ := st
  refine ZGT hh h3 hd T hpl hled h1 h2 (fun e slot' h' he hit' hs' hk => ?_) fun h' he hx => ?_
  ·have := (UZ.mp he).1
   rw [ZC7] at this
   exact absurd this (Nat.lt_irrefl _)
  ·exact hQ h' s.toks fun b o hb e => hx b o (fun z => hb (by simp [z])) e
 self := fun i s Q E st hQ => by
  obtain ⟨⟨slot, h1, h2⟩, h3⟩ := st
  exact ZJu h1 hQ
end
section
variable {prog : Program} {w : World} {A : Around} {R : Result -> Shared -> Prop} {I : Addr} {fp wr : List Addr} {G : Array GenState -> Array GenState -> Prop} {n : Nat} {P : Nat -> Value -> Prop} {St : Nat -> Shared -> Prop}
theorem ZIG (W : WalksS prog w A.in1 I fp wr G n P St) (S : Addr) (hSf : S ∉ fp) {led : Bool} (l : List Int) (hl : l.length = n) (h70 : n < 70) (hnd : l.Nodup) (hP : ∀ j v, P j v -> ∃ t, v = .int (l.getD j 0) t) :
  ∀ (k i : Nat) (s : Shared), n - i = k -> i <= n -> St i s -> ZA1 prog w s.heap S led (l.take i) -> (∀ s', Moved (S :: wr) G s s' -> ZA1 prog w s'.heap S led l -> R (.ok (.ret .none)) s') ->
   codeAny (model prog w) A (.builtin "set.update.loop" ⟨[.ref S, .ref I], []⟩) R s := by
 have hSw : S ∉ wr := fun h => hSf (W.sub _ h)
 have hsub : ∀ b ∈ wr, b ∈ S :: wr := fun b hb => Um _ hb
 intro k
 induction k with
 | zero =>
  intro i s hk hi hst hS hR
  have hin : i = n := by omega
  subst hin
  refine Vh F.entry_set_update_loop ?_
  rw [Around.under_plainId F.plain_set_update_loop _]
  show wpAny _ A.in1 (pyNext (.ref I) >>= _) _ _ s
  refine Ua (W.done s _ _ hst fun s' hm => ?_)
  show wpAny _ A.in1 (ret Value.none) _ _ s'
  rw [<- hl, UG] at hS
  exact Ud (hR s' (hm.mono hsub) (hS.at' fun o e => hm.heap S _ hSw e))
 | succ k ih =>
  intro i s hk hi hst hS hR
  have hlt : i < n := by omega
  refine Vh F.entry_set_update_loop ?_
  rw [Around.under_plainId F.plain_set_update_loop _]
  show wpAny _ A.in1 (pyNext (.ref I) >>= _) _ _ s
  refine Ua (W.item i s _ _ hlt hst fun v s' hPi hst' hm => ?_)
  obtain ⟨t, rfl⟩ := hP i v hPi
  have hS' : ZA1 prog w s'.heap S led (l.take i) := hS.at' fun o e => hm.heap S _ hSw e
  have hil : i < l.length := by omega
  have eg : l.getD i 0 = l[i] := by simp [hil]
  have e3 : l.take (i + 1) = l.take i ++ [l.getD i 0] := by
   rw [UY, Uc hil, eg]
   rfl
  have hnew : l.getD i 0 ∉ l.take i := fun z => by
   have h1 : (l.take (i + 1)).Nodup := hnd.sublist (List.take_sublist _ _)
   rw [e3, List.nodup_append] at h1
   exact h1.2.2 _ z _ (UK.mpr rfl) rfl
  show wpAny _ A.in1 (holding [Value.int (l.getD i 0) t] (setAdd S (.int (l.getD i 0) t)) >>= _) _ _ s'
  refine Ua (UR ?_)
  unfold setAdd
  refine UR ?_
  refine Ua ((intKind prog w).pyHash (k := l.getD i 0) (intKind_is _ _ _ _) ?_)
  refine ZHF (s := { s' with toks := s'.toks + 1 }) hS' hnew (by rw [UI]; omega) fun h' hS2 hoth => ?_
  rw [<- e3] at hS2
  refine Ud ⟨plainId_quiet F.plain_set_update_loop _, ih (i + 1) _ (by omega) hlt (W.frame _ s' _ _ hst' (Nat.le_succ _) fun b hb o e => ?_) hS2 fun s'' hm'' hS'' => ?_⟩
  ·rw [hoth b (fun h => hSf (h ▸ hb))]; exact e
  ·refine hR s'' (Moved.trans W.gtrans ((hm.mono hsub).then_heap (Nat.le_succ _) fun b o hb e => ?_) hm'') hS''
   rw [hoth b (fun h => hb (by rw [h]; exact Us))]; exact e
end
section
variable {prog : Program} {w : World} {A : Around} {E : Value -> Shared -> Prop} {s : Shared}
theorem ZEc {l : Addr} {items : Array Value} {ns : List Int} {Q : Value -> Shared -> Prop} (hh : A.handled = none) (hl : s.heap.IsList l items) (hi : IntsAre items.toList ns) (hnd : ns.Nodup) (h70 : ns.length < 70)
  (h : ∀ (h' : Heap) (tk : Nat), ZA1 prog w h' s.heap.objs.size (!bt w) ns -> (∀ b o, b < s.heap.objs.size -> s.heap.get? b = some o -> h'.get? b = some o) -> Q (.ref s.heap.objs.size) { s with heap := h', toks := tk }) :
  wpAny (model prog w) A (call (.type "set") [.ref l]) Q E s := by
 have hn : ns.length = items.size := by
  have := hi.length
  simpa using this.symm
 refine ZCW hh hl (fun I s0 R e0 W hSf hI hL hS hR => ?_) h
 exact ZIG W s.heap.objs.size hSf ns hn (by omega) hnd (fun j v hv => hi.int_at j v (by rw [Vf]; exact hv)) (items.size - 0) 0 _ (by omega) (UF _) ⟨hI, hL⟩ (ZA1.new hS ⟨rfl, rfl, rfl⟩ rfl) hR
theorem ZFn {a : Addr} {ns : List Int} {Q : List Value -> Shared -> Prop} (hh : A.handled = none) (hm : ZA1 prog w s.heap a (!bt w) ns) (hz : ns.length <= sizeLine)
  (hQ : ∀ s' vs ns', (∀ b o, s.heap.get? b = some o -> s'.heap.get? b = some o) -> s'.gens = s.gens -> s'.drawn = s.drawn -> s'.os = s.os -> s.heap.objs.size < s'.heap.objs.size -> IntsAre vs ns' -> ns'.Perm ns -> Q vs s') :
  wpAny (model prog w) A (collect (.ref a)) Q E s := by
 obtain ⟨o, es, ep, t, ho, hex, hd, T, hair, hpl, hled, hel, hperm⟩ := hm
 have hsz : es.size = ns.length := by
  have := hperm.length_eq
  simpa using this
 have hdl : a < s.heap.objs.size := Ug ho
 unfold collect
 refine Ua (wpAny_runValue (Vh F.entry_proto_collect ?_))
 rw [Around.under_plainId F.plain_proto_collect _]
 show wpAny _ A.in1 (newList [] >>= fun l => again (.builtin "list.__iadd__" ⟨[l, .ref a], []⟩)) _ _ s
 refine Ua (wpAny_newObj_type ?_)
 refine Ud ⟨plainId_quiet F.plain_list_iadd _, Vh F.entry_list_iadd ?_⟩
 rw [Around.under_plainId F.plain_list_iadd _]
 generalize hH : s.heap.push { cls := .type "list", data := .seq ([] : List Value).toArray } = H
 have hHs : H.objs.size = s.heap.objs.size + 1 := by rw [<- hH, UU]
 have ho1 : H.get? a = some o := hH ▸ Ub _ ho
 have hT1 : (⟨H, s.gens, s.drawn, s.toks, s.os⟩ : Shared).TypeIs (.ref a) "set" := ⟨o, ho1, hex.1⟩
 show wpAny _ A.in1 (Builtin.List.listExtendWith (.ref s.heap.objs.size) (.ref a) (.ref s.heap.objs.size)) _ _ (⟨H, s.gens, s.drawn, s.toks, s.os⟩ : Shared)
 unfold Builtin.List.listExtendWith
 refine Ua (wpAny_typeOf hT1 ?_)
 have h1 : Builtin.List.listSameRef (.ref s.heap.objs.size) (.ref a) = false := by
  simp only [Builtin.List.listSameRef]
  exact beq_eq_false_iff_ne.mpr (Nat.ne_of_gt hdl)
 have h2 : (Value.type "set" == Value.type "list") = false := by decide
 have h3 : (Value.type "set" == Value.type "tuple") = false := by decide
 simp only [h1, h2, h3, Bool.or_false, Uh, if_false]
 refine Ua (ZJs (s := ⟨H, s.gens, s.drawn, s.toks, s.os⟩) ho1 hex hd T.fits hpl ?_)
 generalize hO : ({ cls := .type "set_iterator", data := .fields #[.int 0 0, .int 0 0, .ref a, .int es.size 0, .int ep 0] } : Obj) = O
 have ho2 : (H.push O).get? a = some o := Ub _ ho1
 have hT2 : (⟨H.push O, s.gens, s.drawn, s.toks, s.os⟩ : Shared).TypeIs (.ref a) "set" := ⟨o, ho2, hex.1⟩
 refine Ua (UR ?_)
 unfold Builtin.List.listLengthHint
 refine Ua (wpAny_specialOf hT2 PySem.F.slot_set_len.lookup ?_)
 wp_delta
 refine Ua (wpAny_isInstance (b := true) hT2 (by rw [isSubtype_type]; kernel_rfl) ?_)
 show wpAny _ A.in1 (typeOf (Value.ref a) >>= _) _ _ _
 refine Ua (wpAny_typeOf hT2 ?_)
 refine Ud ?_
 show wpAny _ A.in1 (rule "list.extend.makes-room" >>= fun _ => Builtin.List.listTouch (.ref s.heap.objs.size) >>= fun _ =>
  again (.builtin "list.extend.loop" ⟨[.ref s.heap.objs.size, .ref H.objs.size, .ref s.heap.objs.size], []⟩)) _ _ _
 refine Ua (wpAny_rule ?_)
 have hS₁ : (H.push O).get? s.heap.objs.size = some { cls := .type "list", data := .seq ([] : List Value).toArray } := Ub _ (hH ▸ Uj _ rfl)
 refine Ua ?_
 show wpAny _ A.in1 (updateSeq s.heap.objs.size (·.push .none) >>= fun _ => updateSeq s.heap.objs.size (·.pop)) _ _ _
 refine Ua (wpAny_updateSeq hS₁ rfl ?_)
 have hS₂ := UD (Obj.mapSeq (·.push Value.none)) hS₁ rfl
 refine wpAny_updateSeq hS₂ rfl ?_
 have hS₃ := UD (Obj.mapSeq (·.pop)) hS₂ rfl
 have oth : ∀ b o, b ≠ s.heap.objs.size -> (H.push O).get? b = some o -> (((H.push O).update s.heap.objs.size (Obj.mapSeq (·.push Value.none))).update s.heap.objs.size (Obj.mapSeq (·.pop))).get? b = some o :=
  fun b o hb e => (Uz _ _ (Ne.symm hb)).trans ((Uz _ _ (Ne.symm hb)).trans e)
 have hdH : a < H.objs.size := by rw [hHs]; exact Vm hdl
 have hHne : H.objs.size ≠ s.heap.objs.size := by rw [hHs]; exact Nat.succ_ne_self _
 have hSf : s.heap.objs.size ∉ [H.objs.size, a] := fun z => by
  simp only [Ul, UH, or_false] at z
  rcases z with z | z
  ·exact hHne z.symm
  ·exact Nat.ne_of_gt hdl z
 have W := (ZJv (prog := prog) (A := A.in1) (I := H.objs.size) hh (Uk hdH) hd T hpl hled).toS
 refine Ud ⟨plainId_quiet F.plain_extend_loop _, codeAny_extend_loopS (A := A) W (by rw [hsz]; exact hz) _ hSf _ es.size 0 _ _ _ rfl (UF _) ⟨⟨0, ?_, .inr ?_⟩, oth _ _ (Uk hdl) ho2⟩ hS₃ (ItemsOf.nil _) fun s' acc' c' hmv hS' hacc => ?_⟩
 ·exact ⟨_, oth _ _ hHne (Uj _ (by rw [<- hO]; rfl)), by rw [<- hO], by rw [<- hO]; rfl⟩
 ·have h0 := (ZA0 T.rise 0).2.1
  cases hb : below t.place 0 with
  | zero => rfl
  | succ k => exact absurd (h0 k (by omega)) (Nat.not_lt_zero _)
 ·show wpAny _ A (load s.heap.objs.size >>= _) _ _ s'
  refine Ua (wpAny_load hS' ?_)
  have hord := ZFW w a ep es
  have hacc2 : acc'.toList = (ZAW w a ep es).toList.map (·.2) := by
   refine List.ext_getElem? fun i => ?_
   have hl1 : acc'.size = es.size := hacc.1
   have hl2 := ZC7 w a ep es
   by_cases hi : i < es.size
   ·have hi1 : i < acc'.size := by omega
    obtain ⟨e, he, hv⟩ := hacc.2 i _ (Ur hi1)
    rw [Vf, Ur hi1, UB, Vf, he, hv]
    rfl
   ·rw [List.getElem?_eq_none (by rw [Ui]; omega), List.getElem?_eq_none (by rw [Uv, Ui]; omega)]
  have hint : ∀ v ∈ acc'.toList, ∃ i t, v = .int i t := fun v hv => by
   rw [hacc2] at hv
   obtain ⟨e, he, rfl⟩ := Ux.mp hv
   obtain ⟨⟨k, hk, _⟩, _⟩ := hel e (hord.mem_iff.mp he)
   obtain ⟨t, e2⟩ := Value.isInt_shape hk
   exact ⟨k, t, e2⟩
  refine Ud (hQ s' acc'.toList _ (fun b ob e => hmv.heap b ob (fun hb => ?_) (oth _ _ (Uk (Ug e)) (Ub _ (hH ▸ Ub _ e)))) hmv.gens hmv.drawn hmv.os (Ug hS') (ZGR hint) ?_)
  ·have hlt := Ug e
   simp only [Ul, UH, or_false] at hb
   rcases hb with h | h
   ·exact Uk hlt h
   ·rw [h, hHs] at hlt; exact absurd hlt (Nat.not_lt.mpr (Nat.le_succ _))
  ·rw [hacc2, List.map_map]
   exact (hord.map fun e : Int × Value => iv e.2).trans hperm
theorem ZHH {a : Addr} {ns : List Int} {Q : Value -> Shared -> Prop} (hh : A.handled = none) (hm : ZA1 prog w s.heap a (!bt w) ns) (hnd : ns.Nodup) (h70 : ns.length < 70)
  (hQ : ∀ (s' : Shared) (l : Addr) (out : Array Value) (ns' : List Int) (e : Nat), s.heap.objs.size <= l -> (∀ b o, s.heap.get? b = some o -> s'.heap.get? b = some o) -> s'.gens = s.gens -> s'.drawn = s.drawn -> s'.os = s.os ->
   s'.heap.get? l = some (seqObj "list" out e) -> IntsAre out.toList ns' -> ns'.Perm ns -> ns'.Pairwise (· <= ·) -> Q (.ref l) s') :
  wpAny (model prog w) A (call (.builtin "sorted") [.ref a]) Q E s := by
 refine Calls.call_function_entry kind_sorted plain_sorted entry_sorted (args_sorted1 _) ?_
 unfold Builtin.«sorted»
 refine Ua (m := checkCount "sorted" 1 1 _) (Ud ?_)
 refine Ua (ZFn hh hm (by rw [sizeLine_eq]; omega) fun s1 vs ns1 hk e1 e2 e3 hlt hns hp1 => ?_)
 have hl1 : vs.length = ns.length := by
  have h1 := hns.length
  have h2 := hp1.length_eq
  omega
 have hal : vs.length <= sizeLine := by rw [hl1, sizeLine_eq]; omega
 refine Ua (wpAny_newList (hsz := hal) ?_)
 have hoL : (s1.heap.push (seqObj "list" vs.toArray 0)).get? s1.heap.objs.size = some (seqObj "list" vs.toArray 0) := Uj _ rfl
 show wpAny _ _ _ _ _ { s1 with heap := s1.heap.push (seqObj "list" vs.toArray 0) }
 refine Ua (UR (wpAny_call_entry slot_list_sort ⟨_, hoL, rfl⟩ entry_list_sort (ZDw hoL (by simpa using hns) (hp1.nodup_iff.mpr hnd) (by simpa using hal) fun out ns' a1 a2 a3 => ⟨_, rfl, ?_⟩) (args_list_sort _)))
 refine Ud ⟨_, rfl, ?_⟩
 obtain ⟨e, he⟩ := sortedHeap_at (out := out) hoL
 refine hQ _ _ out ns' e (Nat.le_of_lt hlt) (fun b o eb => ?_) e1 e2 e3 he a1 (a2.trans hp1) a3
 have hb := Ug (hk _ _ eb)
 exact (sortedHeap_old (Uk hb) (by rw [UU]; exact Vm hb)).trans (Ub _ (hk _ _ eb))
end
end L2
namespace L2
open PySem PySem.Spec PyProof.Rows PySem.W
def ZC9 (K : W.Frag) (vs : List V) (H : Hp) (Q : VK) : Prop := ∃ (p : Addr) (ns : List Int), vs = [.ref p] /\ SqL K H p (ns.map V.int) /\ ns.Nodup /\ ns.length < 70 /\
 ∀ (l : Addr) (ns' : List Int), H l = none -> ns'.Perm ns -> ns'.Pairwise (· <= ·) -> Q (.ref l) (upd H l (.lst (ns'.map V.int)))
def ZFX (K : W.Frag) (ta : TA) : TE := fun U H Q => ta U H fun vs H1 => ZC9 K vs H1 Q
theorem ZDl : ∀ {ns : List Int} {its : List Value}, JP (ns.map V.int) its -> IntsAre its ns
 | [], _, h => by cases h; exact .nil
 | n :: ns, _, h => by
  cases h with
  | cons r q =>
   obtain ⟨t, rfl⟩ := r
   exact .cons n t (ZDl q)
section
variable {X : Cx} {a : Expr} {ta : TA} {p p2 pos pos2 : Pos}
theorem ZHI (K : W.Frag) (hK : X.K = K) (hc : X.calm = true) (hgl : Gl X "sorted") (hml : X.mg "sorted" = none) (hg : Gl X "set") (hm : X.mg "set" = none) (ha : QA X [a] ta) (hs : ZAb a = false := by rfl) :
  QE X (.Call (.Name "sorted" p) [.Call (.Name "set" p2) [a] [] pos2] [] pos) (ZFX K ta) := by
 subst hK
 refine ⟨?_⟩
 intro pins s U H Q I h
 refine wpAny_Call_Name_kw (ZAt I hgl hml ZEC ?_ (by decide) (by decide))
 refine PyProof.Rows.callWith_builtin1 ?_ rfl rfl
 show wpAny _ _ (spliced ((false, eval (.Call (.Name "set" p2) [a] [] pos2) X.env) :: backTo pos (starEach [] X.env))) _ _ s
 refine Calls.spliced_cons ?_
 refine Call_ (ZAt I hg hm boot_set (PyProof.Rows.callWith_type1 (thn (ha.h pos2 pins s U H _ I h) fun us s1 ⟨vs, H1, I1, r1, q1⟩ => ?_) (ZAQ hs) rfl))
 obtain ⟨l, ns, e, hS, hnd, h70, q⟩ := q1
 subst e
 obtain ⟨u, rfl, ru⟩ := r1.one
 cases ru
 obtain ⟨its, rv, pl, hz⟩ := I1.list hS
 refine ZEc (I1.ok.hd hc) pl.isList (by simpa using ZDl rv) hnd h70 fun h' tk hS' hk => Calls.spliced_nil ?_
 have I2 : Inv X pins U H1 { s1 with heap := h', toks := tk } := I1.kept fun b o e => hk b o (Ug e) e
 refine ZHH (s := { s1 with heap := h', toks := tk }) (I1.ok.hd hc) hS' hnd h70 fun s' l' out ns' e hl hk' e1 e2 e3 he a1 a2 a3 => ?_
 obtain ⟨h2, g', d', tk', os'⟩ := s'
 simp only at e1 e2 e3
 subst e1 e2 e3
 refine ⟨.ref l', upd H1 l' (.lst (ns'.map V.int)), I2.laid (t' := tk') hk' hl ?_, rfl, q l' ns' (I2.hok.fresh hl) a2 a3⟩
 refine ⟨?_, out.toList, e, IntsAre.vals a1, he⟩
 have l1 := a2.length_eq
 rw [Uv, sizeLine_eq]
 omega
end
section
variable {K : W.Frag} {U : St} {H : Hp} {Q : VK} {ta : TA} {p : Addr} {ns : List Int}
theorem ZFo (h : ta U H fun vs H1 => ZC9 K vs H1 Q) : ZFX K ta U H Q := h
theorem ZHJ (h1 : SqL K H p (ns.map V.int)) (h2 : ns.Nodup) (h3 : ns.length < 70) (q : ∀ l H2 (ns' : List Int), H l = none -> H2 l = some (.lst (ns'.map V.int)) -> ns'.Perm ns -> ns'.Pairwise (· <= ·) -> JM H H2 -> Q (.ref l) H2) : ZC9 K [.ref p] H Q :=
 ⟨p, ns, rfl, h1, h2, h3, fun l ns' n a1 a2 => q l _ ns' n JO a1 a2 (JM.new n)⟩
end
end L2
namespace My
open PySem L2
theorem ZAM {N P : List Str} {sc : Scope} (a : sc.kind = .function := by rfl) (b : sc.isCoroutine = false := by rfl) (c : sc.isGenerator = false := by rfl) (d : N.Nodup := by decide +kernel) (e : N.take P.length = P := by rfl) (f : ∀ x ∈ P, sc.names.lookup x = some .local \/ sc.names.lookup x = some .cell := by decide +kernel) (g : ∀ y ∈ sc.names, y.2 ≠ .free := by decide +kernel) : Jd N P sc := ⟨a, b, c, d, e, f, g⟩
theorem qsS {X : Cx} {x : Str} {e : Expr} {te : TE} {pos pos' : Pos} {i : Nat} (hN : X.N.Nodup) (he : QE X e te) (hi : X.N[i]? = some x := by rfl) (hx : Loc X.env.scope x := by first | exact Or.inl rfl | exact Or.inr rfl) (hs : ZAp e = false := by rfl) (hf : X.fn x = true \/ X.env.scope.names.lookup x = some .local := by first | exact .inl rfl | exact .inr rfl | assumption) : QS X (.Assign [.Name x pos'] e pos) (ZBt te (ZAu i)) := ZK0 hN hi hx he hs hf
theorem qgN {X : Cx} {x : Str} {pos : Pos} {i : Nat} (hN : X.N.Nodup) (hi : X.N[i]? = some x := by rfl) (hx : Loc X.env.scope x := by first | exact Or.inl rfl | exact Or.inr rfl) (hf : X.fn x = true \/ X.env.scope.names.lookup x = some .local := by first | exact .inl rfl | exact .inr rfl | assumption) : QG X (.Name x pos) (ZAu i) := J3 hN hi hx hf
theorem qcS {X : Cx} {e : Expr} {es : List Expr} {t : TA} {pos p : Pos} {x : Str} {k : Nat} {f : Addr} {fd : FuncData} {ps : List Str} {sp : Sp} (F : Jt X.prog X.w X.K X.mg X.base CX0 k f fd ps sp) (hr : Room k X.A) (hm : X.mg x = some (.ref f)) (hk : W.keepIn X.K (.ref f) = true) (hb : Jh X.K fd ps []) (ha : QA X (e :: es) t) (hg : Gl X x := by rfl) (hns : Jy (e :: es) = true := by rfl) (hdb : (x == ("__debug__" : Str)) = false := by decide) : QE X (.Call (.Name x p) (e :: es) [] pos) (ZDN sp [] E0 t) := ZJK F hr hg hm hk hb .nil ZND ha hns hdb
theorem _root_.L2.Room.m {j k : Nat} {A : Around} (r : Room k A) (h : j <= k := by decide) : Room j A := r.mono h
local macro_rules | `(tactic| walk_at "l") => `(tactic| (intro vs H Q E h; (repeat (obtain ⟨_, h⟩ := h)); all_goals (subst_vars; rfl)))
local macro_rules | `(tactic| walk_at "w") => `(tactic| repeat walk_at "rd")
local macro_rules | `(tactic| walk_at "s") => `(tactic| simp only [L2.start, Vk, Vp, UJ, List.map_nil, Nat.reduceAdd, Nat.reduceSub, List.replicate_succ, List.replicate_zero, List.cons_append, List.nil_append])
local macro_rules | `(tactic| walk_at "o") => `(tactic| first | exact Or.inl rfl | exact Or.inr rfl)
def top (i : Nat) : Stmt := PySem.Challenge.pw_fourpoints_k84_whole_none_to_spare.main.body.getD i (.Pass ⟨0, 0, 0, 0⟩)
abbrev ZCI : Stmt := top 5
abbrev ZBM : Stmt := top 7
abbrev ZCJ : Stmt := top 9
abbrev ZCX : Stmt := top 11
abbrev ZA2 : Stmt := top 12
abbrev ZDA : Stmt := top 14
abbrev ZCY : Stmt := top 15
abbrev ZDB : Stmt := top 16
abbrev ZDC : Stmt := top 17
abbrev ZCK : Stmt := top 18
abbrev ZCm : Stmt := top 19
abbrev ZBj : Stmt := top 20
abbrev ZBC : Stmt := top 21
abbrev ZCL : Stmt := top 22
abbrev ZCZ : Stmt := top 23
abbrev ZBk : Stmt := top 24
abbrev ZA3 : Stmt := top 25
abbrev ZAa : Stmt := top 26
abbrev ZAr : Stmt := top 27
abbrev ZDD : Stmt := top 28
abbrev ZAm : Stmt := top 29
set_option genInjectivity false in
set_option genSizeOf false in
set_option genSizeOfSpec false in
structure Ad where
 Zh : Addr
 ZZ : FuncData
 Zb : Addr
 ZX : FuncData
 Za : Addr
 Ze : FuncData
 Zk : Addr
 Zt : FuncData
 ZI : Addr
 ZK : FuncData
 Z7 : Addr
 Z3 : FuncData
 Zn : Addr
 Zs : FuncData
 Z6 : Addr
 Zz : FuncData
 Z5 : Addr
 Z0 : FuncData
 Zc : Addr
 Zd : FuncData
 YM : Addr
 YL : FuncData
 Z8 : Addr
 Zw : FuncData
 Zy : Addr
 Z1 : FuncData
 Zg : Addr
 Zf : FuncData
 Zq : Addr
 Zj : FuncData
 ZP : Addr
 ZN : FuncData
 ZS : Addr
 ZQ : FuncData
 ZH : Addr
 ZL : FuncData
 Zm : Addr
 Zl : FuncData
 Zx : Addr
 Z9 : FuncData
 Yk : Addr
 Ym : FuncData
 ZE : Addr
 ZF : Addr
structure Txt (K : W.Frag) (mg : Str -> Option Value) (a : Ad) : Prop where
 ZW : Fun K "is_whole" "is_whole" ZCI a.Zh a.ZZ
 YH : Jh K a.ZZ ["thing"] []
 YI : mg "is_whole" = some (.ref a.Zh)
 YC : Fun K "curve_of" "curve_of" ZBM a.Zb a.ZX
 Yl : Jh K a.ZX ["samples"] []
 Yi : mg "curve_of" = some (.ref a.Zb)
 YA : Fun K "times_of" "times_of" ZCJ a.Za a.Ze
 Yo : Jh K a.Ze ["window", "k"] []
 Yq : mg "times_of" = some (.ref a.Za)
 YN : Fun K "parting" "parting" ZCX a.Zk a.Zt
 Yw : Jh K a.Zt ["window", "k", "part"] []
 Yu : mg "parting" = some (.ref a.Zk)
 ZT : Fun K "check_parting" "check_parting" ZA2 a.ZI a.ZK
 YK : Jh K a.ZK ["window", "k", "part"] []
 YD : mg "check_parting" = some (.ref a.ZI)
 Yd : Fun K "_law_cell" "_law_cell" ZDA a.Z7 a.Z3
 Y0 : Jh K a.Z3 ["_law_script", "_law_k"] []
 Y3 : mg "_law_cell" = some (.ref a.Z7)
 YQ : Fun K "_law_purse" "_law_purse" ZCY a.Zn a.Zs
 Ys : Jh K a.Zs ["_law_cell_here", "_law_k"] []
 Yx : mg "_law_purse" = some (.ref a.Zn)
 ZB : Fun K "_law_draw" "_law_draw" ZDB a.Z6 a.Zz
 ZD : Jh K a.Zz ["_law_purse_here", "_law_many"] []
 ZC : mg "_law_draw" = some (.ref a.Z6)
 Z4 : Fun K "_law_less" "_law_less" ZDC a.Z5 a.Z0
 Yb : Jh K a.Z0 ["_law_one", "_law_other"] []
 Ye : mg "_law_less" = some (.ref a.Z5)
 Zi : Fun K "_law_height" "_law_height" ZCK a.Zc a.Zd
 YJ : Jh K a.Zd ["_law_one", "_law_other", "_law_time"] []
 YE : mg "_law_height" = some (.ref a.Zc)
 Yh : Fun K "_law_met" "_law_met" ZCm a.YM a.YL
 Y4 : Jh K a.YL ["_law_samples", "_law_x", "_law_z"] []
 Y5 : mg "_law_met" = some (.ref a.YM)
 Yc : Fun K "_law_rows" "_law_rows" ZBj a.Z8 a.Zw
 Yy : Jh K a.Zw ["_law_met_here", "_law_heights"] []
 Yz : mg "_law_rows" = some (.ref a.Z8)
 Z2 : Fun K "_law_dots" "_law_dots" ZBC a.Zy a.Z1
 YX : Jh K a.Z1 ["_law_curve", "_law_window_here", "_law_heights"] []
 YY : mg "_law_dots" = some (.ref a.Zy)
 YF : Fun K "_law_window" "_law_window" ZCL a.Zg a.Zf
 Yn : Jh K a.Zf ["_law_purse_here"] []
 Yp : mg "_law_window" = some (.ref a.Zg)
 Zr : Fun K "_law_first" "_law_first" ZCZ a.Zq a.Zj
 YR : Jh K a.Zj ["_law_samples", "_law_sign"] []
 YO : mg "_law_first" = some (.ref a.Zq)
 ZJ : Fun K "_law_is_whole" "_law_is_whole" ZBk a.ZP a.ZN
 ZO : Jh K a.ZN ["_law_thing"] []
 ZR : mg "_law_is_whole" = some (.ref a.ZP)
 Zv : Fun K "_law_is_curve" "_law_is_curve" ZA3 a.ZS a.ZQ
 Yg : Jh K a.ZQ ["_law_thing"] []
 YZ : mg "_law_is_curve" = some (.ref a.ZS)
 ZU : Fun K "_law_are_heights" "_law_are_heights" ZAa a.ZH a.ZL
 YB : Jh K a.ZL ["_law_thing"] []
 YG : mg "_law_are_heights" = some (.ref a.ZH)
 YS : Fun K "_law_parts" "_law_parts" ZAr a.Zm a.Zl
 Yv : Jh K a.Zl ["_law_window_here", "_law_k", "_law_part", "_law_told"] []
 Yt : mg "_law_parts" = some (.ref a.Zm)
 Ya : Fun K "_law_some" "_law_some" ZDD a.Zx a.Z9
 Y2 : Jh K a.Z9 ["_law_window_here", "_law_k"] []
 Y1 : mg "_law_some" = some (.ref a.Zx)
 Y8 : Fun K "law" "law" ZAm a.Yk a.Ym
 JD : Jh K a.Ym ["_law_script"] []
 JE : mg "law" = some (.ref a.Yk)
 JC : ZMh K a.ZE
 JA : ZMi K a.ZE
 Y9 : mg "NoColumn" = some (.ref a.ZE)
 Y7 : ZMh K a.ZF
 JB : ZMi K a.ZF
 Y6 : mg "NotApart" = some (.ref a.ZF)
 Zu : mg "ValueError" = none
 Yj : mg "abs" = none
 Yf : mg "bool" = none
 YT : mg "int" = none
 ZA : mg "isinstance" = none
 ZM : mg "len" = none
 YV : mg "max" = none
 YU : mg "min" = none
 ZV : mg "range" = none
 YW : mg "set" = none
 ZY : mg "sorted" = none
 ZG : mg "tuple" = none
 Yr : mg "zip" = none
local macro_rules | `(tactic| walk_at "sd") => `(tactic| first
 | (show (0 : Int) < _; omega)
 | decide
 | exact ZNY (by omega) (by omega)
 | exact ZNZ (by omega) (by omega)
 | exact ZCf.of (k := 250) (by omega) (by omega) (by decide)
 | exact Or.inr ⟨by omega, by omega⟩
 | exact Or.inl ⟨by omega, by omega⟩
 | exact ZEz (by omega) (by omega) (by decide))
local macro_rules | `(tactic| walk_at "hp") => `(tactic| first
 | assumption
 | exact JO
 | (rw [JT (by assumption)]; assumption)
 | (rw [JT (Ne.symm (by assumption))]; assumption)
 | (rw [JT (by assumption)]; rw [JT (by assumption)]; assumption))
local macro_rules | `(tactic| walk_at "rd") => `(tactic| first
 | with_reducible first | refine ZL7 ?_ | refine ZJR ?_ | refine ZLD ?_ | refine ZLA ?_ | refine ZJS ?_ | refine ZJT ?_ | refine ZL8 ?_ | refine ZKd ?_ | refine ZKe ?_ | refine ZL9 ?_ | refine ZJC ?_ | refine ZKf ?_ | refine ZJD ?_ | refine ZKg ?_ | refine ZMA ?_ | refine ZKh ?_ | refine ZNb ?_ | refine ZMB ?_ | refine ZNE ?_ | refine ZMC ?_ | refine ZKi ?_ | refine ZKj ?_ | refine ZNF ?_
 | ((with_reducible refine' ZMD ?e ?_); (case e => rfl))
 | with_reducible first | refine ZNc ?_ | refine ZNG ?_ | refine ZNH ?_ | refine ZNI ?_
 | ((with_reducible refine ZDs (C := ZIq) ?c ?_); (case c => exact ZEz (by decide) (by decide) (by decide)); (simp only [Int.reduceToNat, Int.reducePow]))
 | ((with_reducible refine ZDs ?c ?_); (case c => walk_at "sd"))
 | with_reducible first | refine ZNd ?_ | refine ZME ?_ | refine ZMF ?_ | refine ZNJ ?_ | refine ZKk ?_ | refine ZKl ?_ | refine ZMG ?_ | refine ZMH ?_ | refine ZMI ?_ | refine ZJG ?_ | refine ZKv ?_ | refine ZJE ?_ | refine ZML ?_ | refine ZMM ?_ | refine ZMN ?_ | refine ZNe ?_ | refine ZNK ?_ | refine ZHn ?_ | refine ZKs ?_ | refine ZKq ?_
 | ((with_reducible refine' ZKo ?s ?_); (case s => first | assumption | exact SqL.of (by assumption)))
 | ((with_reducible refine' ZKp ?s ?_); (case s => first | assumption | exact SqT.of (by assumption)))
 | with_reducible first | refine ZMK ?_ | refine ZKn ?_ | refine ZKt ?_ | refine ZNL ?_ | refine ZKu ?_ | refine ZJH ?_
 | ((with_reducible refine' ZMR ?s ?_); (case s => first | assumption | exact SqT.of (by assumption)))
 | ((with_reducible refine' ZMS ?s ?_); (case s => first | assumption | exact SqL.of (by assumption)))
 | ((with_reducible refine' ZB0 ?s ?e ?_); (case s => exact SqL.of (by assumption)); (case e => rfl))
 | ((with_reducible refine' ZMJ ?s ?e ?_); (case s => first | assumption | exact SqT.of (by assumption)); (case e => rfl))
 | ((with_reducible refine' ZKr ?s ?e ?_); (case s => first | assumption | exact SqT.of (by assumption)); (case e => rfl)))
local macro_rules | `(tactic| walk_at "ri") => `(tactic| ((fail_if_success with_reducible refine ZHw ?_); walk_at "rd"))
theorem ZES (K : W.Frag) : W.kitOne K (.type "int") (.type "int") = some true := by kernel_rfl
theorem ZHK (K : W.Frag) : W.kitOne K (.type "int") (.type "bool") = some false := by kernel_rfl
theorem ZBr (K : W.Frag) : W.kitOne K (.type "tuple") (.type "tuple") = some true := by kernel_rfl
def Pur (H : Hp) (p : Addr) : Prop := ∃ x n c : Int, H p = some (.lst [.int x, .int n, .int c]) /\ 0 <= x /\ 0 <= c /\ c < 4294967296
theorem Pur.same {H H' : Hp} {p : Addr} (h : Pur H p) (s : JM H H') : Pur H' p := by
 obtain ⟨x, n, c, h, r⟩ := h
 exact ⟨x, n, c, s _ _ h, r⟩
theorem Pur.ne_tup {H : Hp} {p l : Addr} {xs : List V} (h : Pur H p) (hl : H l = some (.tup xs)) : l ≠ p := by
 obtain ⟨x, n, c, h, r⟩ := h
 intro e; subst e; rw [h] at hl; cases hl
def ZMo (K : W.Frag) : Sp := fun vs H Q _ => ∃ (s : Addr) (ns : List Int) (k : Int), vs = [.ref s, .int k] /\ SqL K H s (ns.map V.int) /\ 0 <= k /\ Q (.int (ns.getD k.toNat 0)) H
def ZLQ : Sp := fun vs H Q _ => ∃ c k : Int, vs = [.int c, .int k] /\ 0 <= k /\ k <= 100 /\ ∀ (p : Addr) (H' : Hp), H p = none -> Pur H' p -> JM H H' -> Q (.ref p) H'
def ZMp : Sp := fun vs H Q _ => ∃ (p : Addr) (n : Int), vs = [.ref p, .int n] /\ Pur H p /\ 0 < n /\ n < 2 ^ 250 /\ ∀ (d : Int) (H' : Hp), 0 <= d -> d < n -> Pur H' p -> Kp p H H' -> Q (.int d) H'
section
variable {P : Program} {w : World} {K : W.Frag} {mg : Str -> Option Value} {base : Heap} {a : Ad}
theorem ZIH : Jd ["_law_script", "_law_k"] ["_law_script", "_law_k"] (JL ZDA) := ZAM
theorem ZII (T : Txt K mg a) : Jt P w K mg base CX0 1 a.Z7 a.Z3 ["_law_script", "_law_k"] (ZMo K) := by
 refine T.Yd.ok ZIH (by walk_at "l") (fun cdv A outer s H vs Q E hr h => ?_)
 ·obtain ⟨p, ns, k, rfl, hS, hk, q⟩ := h
  refine ⟨_, QB.h (JK (JX (ZE3 (JZ (ZAT) (qv 1) (Je (ZB1 K rfl) rfl T.ZM ZBV (JG (qv 0) JH)) (JV _)) (JW (ZAC K rfl) (qv 0) (qv 1)) JF))), ?_⟩
  walk_at "s"
  walk_at "w"
  rw [Uv]
  refine Ju (fun h => ?_) (fun h => ?_)
  ·walk_at "w"
   obtain ⟨n, rfl⟩ : ∃ n : Nat, k = (n : Int) := ⟨k.toNat, by omega⟩
   have hk2 : n < ns.length := by omega
   refine ZB0 (v := .int (ns.getD n 0)) hS (ZCd ?_) q
   rw [UB, Uc hk2]
   simp [List.getD, hk2]
  ·walk_at "w"
   have e : ns.getD k.toNat 0 = 0 := by
    rw [List.getD, List.getElem?_eq_none (by omega)]
    rfl
   rw [e] at q
   exact q
theorem ZHL : Jd ["_law_cell_here", "_law_k"] ["_law_cell_here", "_law_k"] (JL ZCY) := ZAM
theorem ZHM (T : Txt K mg a) : Jt P w K mg base CX0 1 a.Zn a.Zs ["_law_cell_here", "_law_k"] ZLQ := by
 refine T.YQ.ok ZHL (by walk_at "l") (fun cdv A outer s H vs Q E hr h => ?_)
 ·obtain ⟨c, n, rfl, hn, hn2, k⟩ := h
  refine ⟨_, QB.h (JI (Jq (JZ (ZM9) (qv 0) (JN ZDK JF JF) (JV _)) (JK (JX (ZAi (JG (qv 0) (JG JF (JG (JN Jl (JN Ji JF (qv 1)) JF) JH)))))) Ja) (JK (JX (ZAi (JG JF (JG JF (JG (JN ZBy (JN Jl (JN Jl (JN Jl (JN Ji (JN ZBy (Je ZL6 rfl T.Yj ZL1 (JG (qv 0) JH)) (JN ZDK JF JF)) JF) (JN Ji (JN Ji JF (qv 1)) (qv 1))) (JN Ji JF (qv 1))) JF) JF) JH))))))), ?_⟩
  walk_at "s"
  walk_at "w"
  refine Ju (fun h => ?_) (fun h => ?_)
  ·walk_at "w"
   refine JR (by show 3 <= sizeLine; decide) fun p H2 hp f2 S2 => ?_
   exact k p H2 hp ⟨_, _, _, f2, by omega, by omega, by omega⟩ S2
  ·walk_at "w"
   refine JR (by show 3 <= sizeLine; decide) fun p H2 hp f2 S2 => ?_
   refine k p H2 hp ⟨_, _, _, f2, by omega, Int.emod_nonneg _ (by decide), ?_⟩ S2
   exact Int.lt_of_lt_of_le (Int.emod_lt_of_pos _ (by decide)) (by decide)
theorem ZET : Jd ["_law_purse_here", "_law_many", "_law_digit"] ["_law_purse_here", "_law_many"] (JL ZDB) := ZAM
theorem ZAK (T : Txt K mg a) : Jt P w K mg base CX0 1 a.Z6 a.Zz ["_law_purse_here", "_law_many"] ZMp := by
 refine T.ZB.ok ZET (by walk_at "l") (fun cdv A outer s H vs Q E hr h => ?_)
 ·obtain ⟨p, n, rfl, ⟨x, m, y, hp, hx, hy, hy2⟩, hn, hn2, k⟩ := h
  have hdiv : ∀ i : Int, ZCf i n := fun i => ZCf.of (k := 250) hn hn2 (by decide)
  refine ⟨_, QB.h (JI (Jq (JZ (ZGj) (JW (ZAC K rfl) (qv 0) JF) JF (JV _)) (JI (qsS (i := 2) ZET.nd (JN ZBy (JW (ZAC K rfl) (qv 0) JF) (qv 1))) (JI (ZAy (JN ZEx (JW (ZAC K rfl) (qv 0) JF) (qv 1)) (ZE4 (qv 0) JF ZCy)) (JK (JX (qv 2))))) Ja) (JI (ZAy (JN Jl (JW (ZAC K rfl) (qv 0) JF) JF) (ZE4 (qv 0) JF ZCy)) (JI (ZAy (JN ZBy (JN Jl (JN Ji (JW (ZAC K rfl) (qv 0) JF) JF) (JN Ji JF (JW (ZAC K rfl) (qv 0) JF))) JF) (ZE4 (qv 0) JF ZCy)) (JK (JX (JN ZBy (JN ZEx (JN ZBy (JN Ji (JW (ZAC K rfl) (qv 0) JF) (JW (ZAC K rfl) (qv 0) JF)) JF) JF) (qv 1))))))), ?_⟩
  walk_at "s"
  walk_at "w"
  refine Ju (fun h => ?_) (fun h => ?_)
  ·walk_at "w"
   refine ZKm hp (by rfl) ?_
   walk_at "w"
   exact k _ _ (Int.emod_nonneg _ (by omega)) (Int.emod_lt_of_pos _ hn) ⟨_, _, _, JO, Int.ediv_nonneg hx (by omega), hy, hy2⟩ Kp.upd
  ·walk_at "w"
   refine ZF1 hp (by rfl) fun H2 f2 K2 => ?_
   have f2 : H2 p = some (.lst [V.int x, V.int (m + 1), V.int y]) := f2
   walk_at "w"
   refine ZF1 f2 (by rfl) fun H3 f3 K3 => ?_
   generalize hz : (y * 39373 + 8191 * (m + 1)) % 2147483587 = z at f3
   have h0 : 0 <= z := by rw [<- hz]; exact Int.emod_nonneg _ (by decide)
   have h1 : z < 2147483587 := by rw [<- hz]; exact Int.emod_lt_of_pos _ (by decide)
   have f3 : H3 p = some (.lst [V.int x, V.int (m + 1), V.int z]) := f3
   walk_at "w"
   refine k _ _ (Int.emod_nonneg _ (by omega)) (Int.emod_lt_of_pos _ hn) ⟨_, _, _, f3, hx, h0, by omega⟩ ?_
   exact fun q o e nq => K3 q o (K2 q o e nq) nq
def ZIJ (K : W.Frag) : Sp := fun vs H Q _ => ∃ (b : Bool) (l : Addr) (us : List V) (prs : PL), vs = [.ref l] /\ SQ b H l us /\ JJ H us prs /\ prs.length < 64 /\
 ∀ (t : Addr) (cv : PL) (H' : Hp), PrT H' t cv -> ZB2 (ZAL prs) cv -> cv.length <= prs.length -> JM H H' -> Q (.ref t) H'
theorem ZIK (l : PL) (p : Int × Int) : ZAL (l ++ [p]) = ZAF (ZAL l) p.1 p.2 := by
 unfold ZAL
 rw [List.foldl_append]
 rfl
theorem ZBE : Jd ["samples", "heights", "t", "h"] ["samples"] (JL ZBM) := ZAM
theorem ZFp (T : Txt K mg a) : Jt P w K mg base CX0 1 a.Zb a.ZX ["samples"] (ZIJ K) := by
 refine T.YC.ok ZBE (by walk_at "l") (fun cdv A outer s H vs Q E hr h => ?_)
 ·obtain ⟨b, l, us, prs, rfl, hL, hP, hlen, k⟩ := h
  have hu := ZCe hr
  have hm := ZFE prs
  refine ⟨_, QB.h (JI (qsS (i := 1) ZBE.nd ZJQ) (JI (ZBa PassesOwn.never rfl (ZMd K rfl (qv 0)) (ZAz (n := 2) K rfl rfl (Jc (qgN (i := 2) ZBE.nd) (Jc (qgN (i := 3) ZBE.nd) ZAg))) (JK (ZK6 hu (qv 3) (qv 1) (qv 2)))) (JK (JX (ZDS (ZE5 K rfl) rfl T.ZG ZA7 (JG (ZBP (N := ["samples", "heights", "t", "h"]) (sc := JL ZBM) (own := ["t"]) (caps := ["heights"]) (ks := [1]) rfl rfl rfl ⟨rfl, by decide +kernel, by decide +kernel, by decide +kernel, by decide +kernel, rfl, by decide +kernel⟩ (ZBA K rfl (Je (ZGy rfl) rfl T.ZY ZEC (JG (qv 1) JH))) (fun _ _ _ _ _ => J3 (i := 0) (show List.Nodup (α := Str) ["t", "heights"] from by decide +kernel) rfl (by walk_at "o") (.inr rfl)) (fun _ _ _ _ _ => ZCA) (fun _ _ _ _ _ => ZAD (JG (qv 0) (JG (ZK5 hu (qv 1) (qv 0)) JH)))) JH)))))), ?_⟩
  walk_at "s"
  walk_at "w"
  refine ZJW fun d H0 n0 f0 S0 => ?_
  walk_at "w"
  refine ZLB (b := b) (xs := us) (fun i U H' => (∃ v2 v3, U = [some (.ref l), some (.ref d), v2, v3]) /\ JM H H' /\ H' d = some (.dK (ZAV (ZAL (prs.take i))))) (hL.same S0) ?_ (fun i U H' _ h => hL.same h.2.1) ?_ ?_
  ·exact ⟨⟨_, _, rfl⟩, S0, f0⟩
  ·rintro i x U H1 hx ⟨⟨v2, v3, rfl⟩, S1, f1⟩
   obtain ⟨c, p, rfl, hp, hc⟩ := (hP.same S1).at hx
   have e3 : prs.take (i + 1) = prs.take i ++ [p] := by
    rw [UY, hp]
    rfl
   walk_at "w"
   refine ZJV f1 ?_ fun H2 f2 K2 => ?_
   ·exact Up (ZFE _) (Up (by rw [UI]; exact Nat.min_le_right _ _) (Uf hlen (by decide)))
   walk_at "w"
   refine ⟨⟨_, _, rfl⟩, S1.kpN n0 K2, ?_⟩
   rw [e3, ZIK]
   exact f2
  ·rintro U H1 ⟨⟨v2, v3, rfl⟩, S1, f1⟩
   rw [hP.length, UG] at f1
   walk_at "w"
   refine ZG0 f1 (by omega) fun l2 H2 ns n2 f2 hp hs S2 => ?_
   have hnl : ns.length = (ZAL prs).length := by have := hp.length_eq; simpa using this
   walk_at "w"
   intro l3 n3
   have S23 : JM H2 (upd H2 l3 (.lst [])) := JM.new n3
   refine ZAH ns.length (fun i U' H' => (∃ o, U' = [o, some (.ref d)]) /\ JM H2 H' /\ ∃ vs, H' l3 = some (.lst vs) /\ JJ H' vs ((ZAO (ZAL prs) ns).take i)) ?_ ?_ ?_
   ·exact ⟨⟨none, rfl⟩, S23, [], JO, .nil⟩
   ·rintro U H' ⟨_, s, vs, f3, hPc⟩
    refine ⟨⟨_, SqL.of (s _ _ f2), by simp⟩, ?_⟩
    walk_at "w"
    refine ZF2 (SqL.of f3) fun t H4 n4 f4 S4 => ?_
    have ecv : (ZAO (ZAL prs) ns).take ns.length = ZAO (ZAL prs) ns := Vn (by simp [ZAO])
    rw [ecv] at hPc
    exact k t _ H4 ⟨vs, f4, hPc.same S4⟩ (ZG1 (ZDV prs) hp hs) (by unfold ZAO; rw [Uv, hnl]; exact hm) (((S1.trans S2).trans s).trans S4)
   ·rintro i U H' hi ⟨⟨o, rfl⟩, s, vs, f3, hPc⟩
    have hi2 : i < (ns.map V.int).length := by simpa using hi
    refine ⟨⟨_, _, SqL.of (s _ _ f2), Uc hi2⟩, ?_⟩
    rintro u H'' ⟨rfl, hu'⟩
    have hu' := hu' _ (SqL.of (s _ _ f2))
    have eu : u = .int ns[i] := by
     rw [UB, Uc hi] at hu'
     simpa using hu'.symm
    subst eu
    walk_at "w"
    refine ZAn ?_
    walk_at "w"
    have hmem : ns[i] ∈ (ZAL prs).map (·.1) := hp.mem_iff.mp (List.getElem_mem hi)
    obtain ⟨x, hx⟩ : ∃ x, J1 (ZAL prs) ns[i] = some x := by
     cases hg : J1 (ZAL prs) ns[i] with
     | none => exact absurd hmem (ZBo.mp hg)
     | some x => exact ⟨x, rfl⟩
    refine ZJU (s _ _ (S2 _ _ f1)) hx ?_
    walk_at "w"
    refine JR (by show 2 <= sizeLine; decide) fun t H4 n4 f4 S4 => ?_
    have f34 := S4 _ _ f3
    refine ⟨vs, f34, ?_, ⟨_, rfl⟩, ?_, ?_⟩
    ·have e := hPc.length
     rw [e, UI]
     exact Up (Nat.min_le_left _ _) (Uf hi (by rw [hnl]; exact Nat.le_of_lt (Up hm (Uf hlen (by decide)))))
    ·exact (s.trans S4).kpN (l := l3) n3 Kp.upd
    ·refine ⟨_, JO, ?_⟩
     have e3 : (ZAO (ZAL prs) ns).take (i + 1) = (ZAO (ZAL prs) ns).take i ++ [(ns[i], x)] := by
      rw [UY]
      congr 1
      simp [ZAO, Uc hi, hx]
     rw [e3]
     exact JJ.kpL Kp.upd f34 ((hPc.same S4).snoc f4)
def ZGU : Sp := fun vs H Q _ => ∃ i : Int, vs = [.int i] /\ Q (.bl true) H
theorem ZFq : Jd ["thing"] ["thing"] (JL ZCI) := ZAM
theorem ZCt (T : Txt K mg a) : Jt P w K mg base CX0 1 a.Zh a.ZZ ["thing"] ZGU := by
 refine T.ZW.ok ZFq (by walk_at "l") (fun cdv A outer s H vs Q E hr h => ?_)
 ·obtain ⟨i, rfl, q⟩ := h
  refine ⟨_, QB.h (JK (JX (ZDQ (Je (ZBb K rfl) rfl T.ZA J4 (JG (qv 0) (JG (ZA8 (v := .ty "int") rfl T.YT ZHh rfl) JH))) (ZE2 (ZMU (Je (ZBb K rfl) rfl T.ZA J4 (JG (qv 0) (JG (ZA8 (v := .ty "bool") rfl T.Yf ZKb rfl) JH)))))))), ?_⟩
  walk_at "s"
  walk_at "w"
  refine ZBX (.int i) (ZES _) (ZJE (ZAn ?_))
  walk_at "w"
  refine ZBX (.int i) (ZHK _) ?_
  walk_at "w"
  exact q
def ZLR (K : W.Frag) : Sp := fun vs H Q _ => ∃ (p : Addr) (b y m k : Int), vs = [.ref p, .int k] /\ H p = some (.tup [.int b, .int y, .int m]) /\ 0 <= k /\ k < m /\ m <= 1000 /\
 ∀ (u : Addr) (H' : Hp), H u = none -> H' u = some (.tup [.int (b + k * y), .int (b + k * y + y)]) -> JM H H' -> Q (.ref u) H'
theorem ZAj : Jd ["window", "k", "begin", "wide", "many", "first"] ["window", "k"] (JL ZCJ) := ZAM
theorem ZFr (T : Txt K mg a) : Jt P w K mg base CX0 2 a.Za a.Ze ["window", "k"] (ZLR K) := by
 refine T.YA.ok ZAj (by walk_at "l") (fun cdv A outer s H vs Q E hr h => ?_)
 ·obtain ⟨p, b, y, m, n, rfl, hT, h0, h1, h2, k⟩ := h
  refine ⟨_, QB.h (JI (ZAy (qv 0) (ZAz (n := 3) K rfl rfl (Jc (qgN (i := 2) ZAj.nd) (Jc (qgN (i := 3) ZAj.nd) (Jc (qgN (i := 4) ZAj.nd) ZAg))))) (JI (Jq (QW.pt (ZB9 (J7 (ZAJ (qcS (ZCt T) hr T.YI T.ZW.kp T.YH (JG (qv 1) JH)))) (ZBY (J7 (ZA9 ZBm ZAT JF (qv 1) (qv 4)))))) (JK ZBZ) Ja) (JI (qsS (i := 5) ZAj.nd (JN Jl (qv 2) (JN Ji (qv 1) (qv 3)))) (JK (JX (ZAD (JG (qv 5) (JG (JN Jl (qv 5) (qv 3)) JH)))))))), ?_⟩
  walk_at "s"
  walk_at "w"
  refine ⟨n, rfl, ?_⟩
  walk_at "w"
  refine Jp ?_
  walk_at "w"
  refine Ju (fun _ => ?_) (fun h => absurd h0 h)
  walk_at "w"
  rw [decide_eq_true h1]
  refine Jp ?_
  walk_at "w"
  exact JR (by show 2 <= sizeLine; decide) fun u H2 n2 f2 S2 => k u H2 n2 f2 S2
end
theorem bn1 : Bn 200 1 := by unfold Bn; decide
def BP (cv : PL) : Prop := ∀ p ∈ cv, Bn 200 p.1 /\ Bn 200 p.2
def Hts (H : Hp) (p : Addr) (low tall rows : Int) : Prop := H p = some (.tup [.int low, .int tall, .int rows]) /\ Bn 200 low /\ 0 < tall /\ Bn 200 tall /\ 0 <= rows /\ rows <= 1000
theorem Hts.same {H H' : Hp} {p : Addr} {low tall rows : Int} (h : Hts H p low tall rows) (s : JM H H') : Hts H' p low tall rows := ⟨s _ _ h.1, h.2⟩
def Win (H : Hp) (q : Addr) (b y m : Int) : Prop := H q = some (.tup [.int b, .int y, .int m]) /\ Bn 190 b /\ 0 < y /\ Bn 150 y /\ 1 <= m /\ m <= 100
theorem Win.same {H H' : Hp} {q : Addr} {b y m : Int} (h : Win H q b y m) (s : JM H H') : Win H' q b y m := ⟨s _ _ h.1, h.2⟩
theorem ZMq {k : Int} (h0 : 0 <= k) (h1 : k <= 100) : Bn 7 k := by unfold Bn; omega
theorem ZMr {b y k : Int} (h1 : Bn 190 b) (h2 : Bn 150 y) (h0 : 0 <= k) (h3 : k <= 100) : Bn 191 (b + k * y) := h1.add (((ZMq h0 h3).mul h2).mono (by decide))
theorem Asc.inCol {cv : PL} {b e : Int} (h : Asc cv) : Asc (inCol cv b e) := List.Pairwise.filter _ h
theorem BP.inCol {cv : PL} {b e : Int} (h : BP cv) : BP (inCol cv b e) := fun p hp => h p (ZCT.mp hp).1
theorem ZDm {H H' : Hp} {l q : Addr} {xs ys : List V} (k : Kp l H H') (hl : H l = some (.lst xs)) (h : H q = some (.tup ys)) : H' q = some (.tup ys) := k _ _ h (fun z => by subst z; rw [hl] at h; cases h)
theorem ZKB {x y : Int} {n : Nat} (h : Bn n x) (g : Bn n y) : Bn n (if y > x then y else x) := by split; exact g; exact h
theorem ZKC {x y : Int} {n : Nat} (h : Bn n x) (g : Bn n y) : Bn n (if y < x then y else x) := by split; exact g; exact h
theorem ZIL {cv : PL} {b e : Int} {p : Int × Int} (h : p ∈ inCol cv b e) : p ∈ cv := (List.mem_filter.mp h).1
def ZA4 (first behind part : Int) : PL := [(if part = 1 then behind - 4 else first, 1), ((if part = 1 then behind - 4 else first) + 1, 3), ((if part = 1 then behind - 4 else first) + 2, 0), ((if part = 1 then behind - 4 else first) + 3, 2)] ++ (if part = 0 then [((if part = 1 then behind - 4 else first) - 1, 1)] else []) ++ (if part = 1 then [(behind + 1, 2)] else [])
def ZIM (y m k part : Int) : Prop := 4 <= y /\ 0 <= part /\ part <= 3 /\ ¬ (part = 0 /\ k = 0) /\ ¬ (part = 1 /\ k = m - 1)
section
variable {P : Program} {w : World} {K : W.Frag} {mg : Str -> Option Value} {base : Heap} {a : Ad}
def ZNO : Sp := fun vs H Q _ => ∃ (q : Addr) (b y m k part : Int), vs = [.ref q, .int k, .int part] /\ H q = some (.tup [.int b, .int y, .int m]) /\ ZIM y m k part /\ Q .non H
theorem ZDE : Jd ["window", "k", "part"] ["window", "k", "part"] (JL ZA2) := ZAM
theorem ZDF (T : Txt K mg a) : Jt P w K mg base CX0 2 a.ZI a.ZK ["window", "k", "part"] ZNO := by
 refine T.ZT.ok ZDE (by walk_at "l") (fun cdv A outer s H vs Q E hr h => ?_)
 ·obtain ⟨q, b, y, m, k, part, rfl, hq, ⟨h1, h2, h3, h4, h5⟩, kk⟩ := h
  refine ⟨_, QB.h (JI (Jq (JZ (ZAT) (JW (Jf K rfl) (qv 0) JF) JF (JV _)) (JK ZBZ) Ja) (JI (Jq (QW.pt (ZB9 (J7 (ZAJ (qcS (ZCt T) hr T.YI T.ZW.kp T.YH (JG (qv 2) JH)))) (ZBY (J7 (ZA9 ZBm ZBm JF (qv 2) JF))))) (JK ZBZ) Ja) (JI (Jq (QW.pt (ZDR (JZ (ZBK) (qv 2) JF (JV _)) (ZCh (JZ (ZBK) (qv 1) JF (JV _))))) (JK ZBZ) Ja) (JK (Jq (QW.pt (ZDR (JZ (ZBK) (qv 2) JF (JV _)) (ZCh (JZ (ZBK) (qv 1) (JN ZAv (JW (Jf K rfl) (qv 0) JF) JF) (JV _))))) (JK ZBZ) Ja))))), ?_⟩
  walk_at "s"
  walk_at "w"
  refine Ju (fun z => absurd z (by omega)) (fun _ => ?_)
  walk_at "w"
  refine ⟨part, rfl, ?_⟩
  walk_at "w"
  refine Jp ?_
  walk_at "w"
  refine Ju (fun _ => ?_) (fun z => absurd h2 z)
  walk_at "w"
  rw [decide_eq_true h3]
  refine Jp ?_
  walk_at "w"
  rw [ZAY]
  refine Ju (fun z1 => ?_) (fun z1 => ?_)
  ·walk_at "w"
   rw [ZAY]
   refine Ju (fun z2 => absurd ⟨z1, z2⟩ h4) (fun z2 => ?_)
   walk_at "w"
   rw [ZAY]
   refine Ju (fun z => absurd z (by omega)) (fun _ => ?_)
   walk_at "w"
   refine Jp ?_
   walk_at "w"
   exact kk
  ·walk_at "w"
   refine Jp ?_
   walk_at "w"
   rw [ZAY]
   refine Ju (fun z3 => ?_) (fun z3 => ?_)
   ·walk_at "w"
    rw [ZAY]
    refine Ju (fun z4 => absurd ⟨z3, z4⟩ h5) (fun z4 => ?_)
    walk_at "w"
    exact kk
   ·walk_at "w"
    refine Jp ?_
    walk_at "w"
    exact kk
def ZIN (K : W.Frag) : Sp := fun vs H Q _ => ∃ (q : Addr) (b y m k part : Int), vs = [.ref q, .int k, .int part] /\ H q = some (.tup [.int b, .int y, .int m]) /\ 0 <= k /\ k < m /\ m <= 1000 /\ ZIM y m k part /\
 ∀ (u t h : Addr) (cv : PL) (H' : Hp), H' u = some (.tup [.ref t, .ref h]) -> PrT H' t cv -> ZB2 (ZAL (ZA4 (b + k * y) (b + k * y + y) part)) cv -> H' h = some (.tup [.int 0, .int 1, .int 4]) -> JM H H' -> Q (.ref u) H'
theorem ZA5 : Jd ["window", "k", "part", "first", "behind", "begin", "samples"] ["window", "k", "part"] (JL ZCX) := ZAM
theorem ZHN (T : Txt K mg a) : Jt P w K mg base CX0 3 a.Zk a.Zt ["window", "k", "part"] (ZIN K) := by
 refine T.YN.ok ZA5 (by walk_at "l") (fun cdv A outer s H vs Q E hr h => ?_)
 ·obtain ⟨q, b, y, m, n, part, rfl, hq, hk0, hk1, hm, hnd, k⟩ := h
  refine ⟨_, QB.h (JI (ZAy (qcS (ZFr T) hr T.Yq T.YA.kp T.Yo (JG (qv 0) (JG (qv 1) JH))) (ZAz (n := 2) K rfl rfl (Jc (qgN (i := 3) ZA5.nd) (Jc (qgN (i := 4) ZA5.nd) ZAg)))) (JI (ZAd (qcS (ZDF T) hr T.YD T.ZT.kp T.YK (JG (qv 0) (JG (qv 1) (JG (qv 2) JH))))) (JI (qsS (i := 5) ZA5.nd (ZE3 (JZ (ZBK) (qv 2) JF (JV _)) (JN ZAv (qv 4) JF) (qv 3))) (JI (qsS (i := 6) ZA5.nd (ZAi (JG (ZAD (JG (qv 5) (JG JF JH))) (JG (ZAD (JG (JN Jl (qv 5) JF) (JG JF JH))) (JG (ZAD (JG (JN Jl (qv 5) JF) (JG JF JH))) (JG (ZAD (JG (JN Jl (qv 5) JF) (JG JF JH))) JH)))))) (JI (Jq (JZ (ZBK) (qv 2) JF (JV _)) (JK (ZAd (ZCB PySem.F.plainAttrs_list PySem.F.slot_list_append PySem.F.type_list_append ZAI (qv 6) (JG (ZAD (JG (JN ZAv (qv 5) JF) (JG JF JH))) JH)))) Ja) (JI (Jq (JZ (ZBK) (qv 2) JF (JV _)) (JK (ZAd (ZCB PySem.F.plainAttrs_list PySem.F.slot_list_append PySem.F.type_list_append ZAI (qv 6) (JG (ZAD (JG (JN Jl (qv 4) JF) (JG JF JH))) JH)))) Ja) (JK (JX (ZAD (JG (qcS (ZFp T) hr.m T.Yi T.YC.kp T.Yl (JG (qv 6) JH)) (JG (ZAD (JG JF (JG JF (JG JF JH)))) JH))))))))))), ?_⟩
  walk_at "s"
  walk_at "w"
  refine ⟨q, b, y, m, n, rfl, hq, hk0, hk1, hm, fun u1 H1 n1 f1 S1 => ?_⟩
  walk_at "w"
  refine ⟨q, b, y, m, n, part, rfl, S1 _ _ hq, hnd, ?_⟩
  walk_at "w"
  rw [ZAY]
  by_cases p1 : part = 1
  ·subst p1
   refine ZAn ?_
   walk_at "w"
   refine JR (by show 2 <= sizeLine; decide) fun a1 H2 n2 f2 S2 => ?_
   walk_at "w"
   refine JR (by show 2 <= sizeLine; decide) fun a2 H3 n3 f3 S3 => ?_
   walk_at "w"
   refine JR (by show 2 <= sizeLine; decide) fun a3 H4 n4 f4 S4 => ?_
   walk_at "w"
   refine JR (by show 2 <= sizeLine; decide) fun a4 H5 n5 f5 S5 => ?_
   walk_at "w"
   refine JR (by show 4 <= sizeLine; decide) fun l H6 n6 f6 S6 => ?_
   have S46 := S5.trans S6
   have S36 := S4.trans S46
   have S26 := S3.trans S36
   have S16 := S2.trans S26
   have hP6 : JJ H6 [.ref a1, .ref a2, .ref a3, .ref a4] [(_, 1), (_, 3), (_, 0), (_, 2)] := .cons ⟨a1, rfl, S26 _ _ f2⟩ (.cons ⟨a2, rfl, S36 _ _ f3⟩ (.cons ⟨a3, rfl, S46 _ _ f4⟩ (.cons ⟨a4, rfl, S6 _ _ f5⟩ .nil)))
   walk_at "w"
   rw [ZAY]
   refine Jp ?_
   walk_at "w"
   rw [ZAY]
   refine ZAn ?_
   walk_at "w"
   refine ⟨tyL f6, ?_⟩
   walk_at "w"
   refine JR (by show 2 <= sizeLine; decide) fun a7 H7 n7 f7 S7 => ?_
   have f67 := S7 _ _ f6
   walk_at "w"
   refine ZAR f67 (by show 4 < sizeLine; decide) fun H8 f8 K8 => ?_
   have S18 : JM H1 H8 := (S16.trans S7).kpN (ZF8 (S2.trans (S3.trans (S4.trans S5))) n6) K8
   have hP8 := JJ.kpL K8 f67 ((hP6.same S7).snoc (p := (_, _)) f7)
   walk_at "w"
   refine ⟨true, l, _, _, rfl, f8, hP8, by simp, fun t3 cv H9 hP9 hC9 _ S9 => ?_⟩
   rw [show [(b + n * y + y - 4, 1), (b + n * y + y - 4 + 1, 3), (b + n * y + y - 4 + 2, 0), (b + n * y + y - 4 + 3, 2)] ++ [(b + n * y + y + 1, 2)] = ZA4 (b + n * y) (b + n * y + y) 1 from by rfl] at hC9
   walk_at "w"
   refine JR (by show 3 <= sizeLine; decide) fun h10 H10 n10 f10 S10 => ?_
   walk_at "w"
   refine JR (by show 2 <= sizeLine; decide) fun u11 H11 n11 f11 S11 => ?_
   exact k u11 t3 h10 cv H11 f11 (hP9.same (S10.trans S11)) hC9 (S11 _ _ f10) (S1.trans (S18.trans (S9.trans (S10.trans S11))))
  ·refine Ju (fun z => absurd z p1) (fun _ => ?_)
   by_cases p0 : part = 0
   ·subst p0
    walk_at "w"
    refine JR (by show 2 <= sizeLine; decide) fun a1 H2 n2 f2 S2 => ?_
    walk_at "w"
    refine JR (by show 2 <= sizeLine; decide) fun a2 H3 n3 f3 S3 => ?_
    walk_at "w"
    refine JR (by show 2 <= sizeLine; decide) fun a3 H4 n4 f4 S4 => ?_
    walk_at "w"
    refine JR (by show 2 <= sizeLine; decide) fun a4 H5 n5 f5 S5 => ?_
    walk_at "w"
    refine JR (by show 4 <= sizeLine; decide) fun l H6 n6 f6 S6 => ?_
    have S46 := S5.trans S6
    have S36 := S4.trans S46
    have S26 := S3.trans S36
    have S16 := S2.trans S26
    have hP6 : JJ H6 [.ref a1, .ref a2, .ref a3, .ref a4] [(_, 1), (_, 3), (_, 0), (_, 2)] := .cons ⟨a1, rfl, S26 _ _ f2⟩ (.cons ⟨a2, rfl, S36 _ _ f3⟩ (.cons ⟨a3, rfl, S46 _ _ f4⟩ (.cons ⟨a4, rfl, S6 _ _ f5⟩ .nil)))
    walk_at "w"
    rw [ZAY]
    refine ZAn ?_
    walk_at "w"
    refine ⟨tyL f6, ?_⟩
    walk_at "w"
    refine JR (by show 2 <= sizeLine; decide) fun a7 H7 n7 f7 S7 => ?_
    have f67 := S7 _ _ f6
    walk_at "w"
    refine ZAR f67 (by show 4 < sizeLine; decide) fun H8 f8 K8 => ?_
    have S18 : JM H1 H8 := (S16.trans S7).kpN (ZF8 (S2.trans (S3.trans (S4.trans S5))) n6) K8
    have hP8 := JJ.kpL K8 f67 ((hP6.same S7).snoc (p := (_, _)) f7)
    walk_at "w"
    rw [ZAY]
    refine Jp ?_
    walk_at "w"
    refine ⟨true, l, _, _, rfl, f8, hP8, by simp, fun t3 cv H9 hP9 hC9 _ S9 => ?_⟩
    rw [show [(b + n * y, 1), (b + n * y + 1, 3), (b + n * y + 2, 0), (b + n * y + 3, 2)] ++ [(b + n * y - 1, 1)] = ZA4 (b + n * y) (b + n * y + y) 0 from by simp [ZA4]] at hC9
    walk_at "w"
    refine JR (by show 3 <= sizeLine; decide) fun h10 H10 n10 f10 S10 => ?_
    walk_at "w"
    refine JR (by show 2 <= sizeLine; decide) fun u11 H11 n11 f11 S11 => ?_
    exact k u11 t3 h10 cv H11 f11 (hP9.same (S10.trans S11)) hC9 (S11 _ _ f10) (S1.trans (S18.trans (S9.trans (S10.trans S11))))
   ·walk_at "w"
    refine JR (by show 2 <= sizeLine; decide) fun a1 H2 n2 f2 S2 => ?_
    walk_at "w"
    refine JR (by show 2 <= sizeLine; decide) fun a2 H3 n3 f3 S3 => ?_
    walk_at "w"
    refine JR (by show 2 <= sizeLine; decide) fun a3 H4 n4 f4 S4 => ?_
    walk_at "w"
    refine JR (by show 2 <= sizeLine; decide) fun a4 H5 n5 f5 S5 => ?_
    walk_at "w"
    refine JR (by show 4 <= sizeLine; decide) fun l H6 n6 f6 S6 => ?_
    have S46 := S5.trans S6
    have S36 := S4.trans S46
    have S26 := S3.trans S36
    have S16 := S2.trans S26
    have hP6 : JJ H6 [.ref a1, .ref a2, .ref a3, .ref a4] [(_, 1), (_, 3), (_, 0), (_, 2)] := .cons ⟨a1, rfl, S26 _ _ f2⟩ (.cons ⟨a2, rfl, S36 _ _ f3⟩ (.cons ⟨a3, rfl, S46 _ _ f4⟩ (.cons ⟨a4, rfl, S6 _ _ f5⟩ .nil)))
    walk_at "w"
    rw [ZAY]
    refine Ju (fun z => absurd z p0) (fun _ => ?_)
    walk_at "w"
    rw [ZAY]
    refine Ju (fun z => absurd z p1) (fun _ => ?_)
    walk_at "w"
    refine ⟨true, l, _, _, rfl, f6, hP6, by simp, fun t3 cv H9 hP9 hC9 _ S9 => ?_⟩
    rw [show [(b + n * y, 1), (b + n * y + 1, 3), (b + n * y + 2, 0), (b + n * y + 3, 2)] = ZA4 (b + n * y) (b + n * y + y) part from by simp [ZA4, p0, p1]] at hC9
    walk_at "w"
    refine JR (by show 3 <= sizeLine; decide) fun h10 H10 n10 f10 S10 => ?_
    walk_at "w"
    refine JR (by show 2 <= sizeLine; decide) fun u11 H11 n11 f11 S11 => ?_
    exact k u11 t3 h10 cv H11 f11 (hP9.same (S10.trans S11)) hC9 (S11 _ _ f10) (S1.trans (S16.trans (S9.trans (S10.trans S11))))
def ZMs (K : W.Frag) : Sp := fun vs H Q _ => ∃ (c1 c2 : Addr) (u v : Int × Int), vs = [.ref c1, .ref c2] /\ H c1 = some (.tup [.int u.1, .int u.2]) /\ H c2 = some (.tup [.int v.1, .int v.2]) /\ Bn 600 u.1 /\ Bn 600 u.2 /\ Bn 600 v.1 /\ Bn 600 v.2 /\ Q (.bl (decide (u.1 * v.2 < v.1 * u.2))) H
theorem ZIO : Jd ["_law_one", "_law_other"] ["_law_one", "_law_other"] (JL ZDC) := ZAM
theorem ZEU (T : Txt K mg a) : Jt P w K mg base CX0 1 a.Z5 a.Z0 ["_law_one", "_law_other"] (ZMs K) := by
 refine T.Z4.ok ZIO (by walk_at "l") (fun cdv A outer s H vs Q E hr h => ?_)
 ·obtain ⟨c1, c2, u, v, rfl, h1, h2, b1, b2, b3, b4, q⟩ := h
  refine ⟨_, QB.h (JK (JX (ZBO (ZAT) (JN Ji (JW (Jf K rfl) (qv 0) JF) (JW (Jf K rfl) (qv 1) JF)) (JN Ji (JW (Jf K rfl) (qv 1) JF) (JW (Jf K rfl) (qv 0) JF)) (JV _)))), ?_⟩
  walk_at "s"
  walk_at "w"
  refine ZDs (ZDY b1 b4 (by decide)) ?_
  walk_at "w"
  refine ZDs (ZDY b3 b2 (by decide)) ?_
  walk_at "w"
  exact q
def ZIP (K : W.Frag) : Sp := fun vs H Q _ => ∃ (c1 c2 : Addr) (u v : Int × Int) (t : Int), vs = [.ref c1, .ref c2, .int t] /\ H c1 = some (.tup [.int u.1, .int u.2]) /\ H c2 = some (.tup [.int v.1, .int v.2]) /\
 Bn 200 u.1 /\ Bn 200 u.2 /\ Bn 200 v.1 /\ Bn 200 v.2 /\ Bn 200 t /\ ∀ (r : Addr) (H' : Hp), H r = none -> H' r = some (.tup [.int (frP u v t).1, .int (frP u v t).2]) -> JM H H' -> Q (.ref r) H'
theorem ZCu : Jd ["_law_one", "_law_other", "_law_time", "_law_apart"] ["_law_one", "_law_other", "_law_time"] (JL ZCK) := ZAM
theorem ZCv (T : Txt K mg a) : Jt P w K mg base CX0 1 a.Zc a.Zd ["_law_one", "_law_other", "_law_time"] (ZIP K) := by
 refine T.Zi.ok ZCu (by walk_at "l") (fun cdv A outer s H vs Q E hr h => ?_)
 ·obtain ⟨c1, c2, u, v, t, rfl, h1, h2, b1, b2, b3, b4, b5, k⟩ := h
  refine ⟨_, QB.h (JI (qsS (i := 3) ZCu.nd (JN ZAv (JW (Jf K rfl) (qv 1) JF) (JW (Jf K rfl) (qv 0) JF))) (JK (JX (ZAD (JG (JN Jl (JN Ji (JW (Jf K rfl) (qv 0) JF) (qv 3)) (JN Ji (JN ZAv (JW (Jf K rfl) (qv 1) JF) (JW (Jf K rfl) (qv 0) JF)) (JN ZAv (qv 2) (JW (Jf K rfl) (qv 0) JF)))) (JG (qv 3) JH)))))), ?_⟩
  walk_at "s"
  walk_at "w"
  refine ZDs (ZDY b2 (b3.sub b1) (by decide)) ?_
  walk_at "w"
  refine ZDs (ZDY (b4.sub b2) (b5.sub b1) (by decide)) ?_
  walk_at "w"
  exact JR (by show 2 <= sizeLine; decide) fun r H2 n2 f2 S2 => k r H2 n2 f2 S2
theorem ints_dats {H : Hp} : ∀ ns : List Int, ZAU K H (ns.map V.int) (ns.map PyData.int)
 | [] => .nil
 | n :: ns => .cons (.int n) (ints_dats ns)
theorem ints_lay : ∀ ns : List Int, PyData.canLayAll0 (ns.map PyData.int) = true
 | [] => rfl
 | n :: ns => by
  show (PyData.canLay0 (PyData.int n) && PyData.canLayAll0 (ns.map PyData.int)) = true
  rw [ints_lay ns]
  rfl
theorem ints_depth : ∀ ns : List Int, PyData.depthAll (ns.map PyData.int) <= 50
 | [] => by decide
 | n :: ns => by
  have ih := ints_depth ns
  show PyData.depthAll (PyData.int n :: ns.map PyData.int) <= 50
  simp only [PyData.depthAll, PyData.depth]
  omega
theorem ZGV {H : Hp} {Q : VK} {c e : Addr} {ns : List Int} (h1 : H c = some (.lst (ns.map V.int))) (h2 : H e = some (.lst [])) (h : Q (.bl (!decide (ns = []))) H) : ZE6 K (.ref c) (.ref e) H Q := by
 refine ZE7 (d := .list (ns.map PyData.int)) (e := .list []) (.lst (SqL.of h1) (ints_dats ns)) (.lst (SqL.of h2) .nil) (ints_lay ns) rfl ?_ ?_
 ·have := ints_depth ns
  simp only [PyData.depth]
  omega
 ·cases ns with
  | nil => exact h
  | cons n ns => exact h
def ZMt (K : W.Frag) : Sp := fun vs H Q _ => ∃ (t : Addr) (cv : PL) (x z : Int), vs = [.ref t, .int x, .int z] /\ PrL H t cv /\ Asc cv /\ BP cv /\ cv.length <= 100 /\ Bn 200 x /\ Bn 200 z /\
 ∀ (l : Addr) (H' : Hp), H l = none -> PrL H' l (ZAX cv x z) -> (ZAX cv x z).length <= 400 -> JM H H' -> Q (.ref l) H'
theorem ZCM : Jd ["_law_samples", "_law_x", "_law_z", "_law_found", "_law_one", "_law_other"] ["_law_samples", "_law_x", "_law_z"] (JL ZCm) := ZAM
theorem ZJw (T : Txt K mg a) : Jt P w K mg base CX0 2 a.YM a.YL ["_law_samples", "_law_x", "_law_z"] (ZMt K) := by
 refine T.Yh.ok ZCM (by walk_at "l") (fun cdv A outer s H vs Q E hr h => ?_)
 ·obtain ⟨t, cv, x, z, rfl, hT, hasc, hbp, hlen, bx, bz, k⟩ := h
  obtain ⟨us1, g1, pw⟩ := id hT
  have hcl : (inCol cv x z).length <= 100 := UP (UW _ _) hlen
  refine ⟨_, QB.h (JI (ZBQ (N := ["_law_samples", "_law_x", "_law_z", "_law_found", "_law_one", "_law_other"]) (sc := JL ZCm) (own := ["_law_time", "_law_height_here"]) (caps := ["_law_x", "_law_z"]) (ks := [1, 2]) (i := 3) rfl rfl rfl ⟨rfl, by decide +kernel, by decide +kernel, by decide +kernel, by decide +kernel, rfl, by decide +kernel⟩ ZCM.nd rfl (by walk_at "o") (ZBA K rfl (qv 0)) (fun _ _ _ _ _ => ZAz (n := 2) K rfl rfl (Jc (J3 (i := 0) (show List.Nodup (α := Str) ["_law_time", "_law_height_here", "_law_x", "_law_z"] from by decide +kernel) rfl (by walk_at "o") (.inr rfl)) (Jc (J3 (i := 1) (show List.Nodup (α := Str) ["_law_time", "_law_height_here", "_law_x", "_law_z"] from by decide +kernel) rfl (by walk_at "o") (.inr rfl)) ZAg))) (fun _ _ _ _ _ => ZAc (ZA9 ZBm ZAT (qv 2) (qv 0) (qv 3))) (fun _ _ _ _ _ => ZAD (JG (qv 1) (JG JF JH)))) (JI (ZBa PassesOwn.never rfl (ZMf K rfl rfl T.Yr (JG (qv 0) (JG (ZJJ (ZK1 K rfl) (qv 0) (ZKy JF) ZKx) JH))) (ZAz (n := 2) K rfl rfl (Jc (qgN (i := 4) ZCM.nd) (Jc (qgN (i := 5) ZCM.nd) ZAg))) (JK (Jq (QW.pt (ZDR (JZ (ZAT) (JW (Jf K rfl) (qv 4) JF) (qv 2) (JV _)) (ZCh (JZ (ZAT) (qv 1) (JW (Jf K rfl) (qv 5) JF) (JV _))))) (JI (ZAd (ZCB PySem.F.plainAttrs_list PySem.F.slot_list_append PySem.F.type_list_append ZAI (qv 3) (JG (qcS (ZCv T) hr T.YE T.Zi.kp T.YJ (JG (qv 4) (JG (qv 5) (JG (Je (ZHl rfl) rfl T.YV ZHi (JG (qv 1) (JG (JW (Jf K rfl) (qv 4) JF) JH))) JH)))) JH))) (JK (ZAd (ZCB PySem.F.plainAttrs_list PySem.F.slot_list_append PySem.F.type_list_append ZAI (qv 3) (JG (qcS (ZCv T) hr T.YE T.Zi.kp T.YJ (JG (qv 4) (JG (qv 5) (JG (Je (ZHm rfl) rfl T.YU ZHj (JG (qv 2) (JG (JW (Jf K rfl) (qv 5) JF) JH))) JH)))) JH))))) Ja))) (JK (JX (qv 3))))), ?_⟩
  walk_at "s"
  walk_at "w"
  intro l n1
  refine ZAH cv.length (fun i U' H' => (∃ o1 o2, U' = [o1, o2, some (.int x), some (.int z)]) /\ JM H H' /\ ∃ vs, H' l = some (.lst vs) /\ JJ H' vs ((inCol (cv.take i) x z).map (fun q => (q.2, (1 : Int))))) ?_ ?_ ?_
  ·exact ⟨⟨none, none, rfl⟩, JM.new n1, [], JO, .nil⟩
  ·rintro U H2 ⟨_, S2, vs2, f2, hP2⟩
   refine ⟨⟨_, SqL.of (S2 _ _ g1), by rw [pw.length]; exact Ue _⟩, ?_⟩
   rw [UG] at hP2
   walk_at "w"
   refine PrL.sl (hT.same S2) fun w3 H3 n3 h3 S3 => ?_
   have S23 := S2.trans S3
   obtain ⟨us, gT, pT⟩ := hT.same S23
   obtain ⟨us3, g3, p3⟩ := id h3
   have ec : ZFF cv (some 1) none = cv.drop 1 := by
    unfold ZFF
    rw [show HT.sIx cv.length 0 (some 1) = min 1 cv.length from HT.sIx_nat cv.length 0 1, show HT.sIx cv.length cv.length none = cv.length from rfl]
    by_cases hz : cv.length = 0
    ·have : cv = [] := List.length_eq_zero_iff.mp hz
     subst this
     rfl
    ·rw [show min 1 cv.length = 1 by omega]
     exact Vn (by simp)
   rw [ec] at p3
   have f3 := S3 _ _ f2
   have hP3 := hP2.same S3
   have ntl : t ≠ l := Jn g1 n1
   have nwl : w3 ≠ l := (Jn f2 n3).symm
   walk_at "w"
   refine ZMg (SqB.ofL gT) (SqB.ofL g3) ?_
   refine ZLE (xs := us) (ys := us3) (b1 := true) (b2 := true) (l1 := t) (l2 := w3) (cv.length - 1) (by rw [pT.length, p3.length, Vr]; omega) (fun i U H' => Kp l H3 H' /\ (∃ v6 v7, U = [some (.ref t), some (.int x), some (.int z), some (.ref l), v6, v7]) /\ ∃ (vs : List V) (ns : PL), H' l = some (.lst vs) /\ JJ H' vs ns /\
    ns = (((inCol cv x z).map (fun q => (q.2, (1 : Int)))) ++ ((cv.zip (cv.drop 1)).take i).flatMap (Jw x z)) /\ ns.length <= 100 + 2 * i) ?_ ?_ ?_ ?_
   ·refine ⟨Kp.same (JM.refl _), ⟨_, _, rfl⟩, _, _, f3, hP3, ?_, ?_⟩
    ·rw [List.take_zero, List.flatMap_nil, UL]
    ·rw [Uv]; omega
   ·rintro i U H4 ⟨K4, _, _⟩
    exact ⟨SqB.ofL (K4 _ _ gT ntl), SqB.ofL (K4 _ _ g3 nwl)⟩
   ·rintro i U H4 T H5 a b hi ⟨K4, ⟨v6, v7, rfl⟩, vs4, ns, f4, hP4, ens, hns⟩ ha hb nT fT S5
    obtain ⟨c1, q1, rfl, hq1, hc1⟩ := pT.at ha
    obtain ⟨c2, q2, rfl, hq2, hc2⟩ := p3.at hb
    have hz := ZF7 hq1 hq2
    have K5 : Kp l H3 H5 := K4.then S5
    have f5 := S5 _ _ f4
    have hP5 := hP4.same S5
    have g1' := ZDm K5 f3 hc1
    have g2' := ZDm K5 f3 hc2
    have hb1 := hbp q1 (Uu hq1)
    have hb2 := hbp q2 (List.mem_of_mem_drop (Uu hq2))
    have e3 : (cv.zip (cv.drop 1)).take (i + 1) = (cv.zip (cv.drop 1)).take i ++ [(q1, q2)] := by rw [UY, hz]; rfl
    have hnl : ∀ k : Nat, k <= 400 -> k < sizeLine := fun k hk => Up hk (by decide)
    have e4 : (((inCol cv x z).map (fun q => (q.2, (1 : Int)))) ++ ((cv.zip (cv.drop 1)).take (i + 1)).flatMap (Jw x z)) = ns ++ (Jw x z (q1, q2)) := by
     rw [ens, e3, List.flatMap_append, <- UX]
     simp only [List.flatMap_cons, List.flatMap_nil, UL]
    walk_at "w"
    refine Ju (fun h1 => ?_) (fun h1 => ?_)
    ·walk_at "w"
     refine Ju (fun h2 => ?_) (fun h2 => ?_)
     ·have e5 : (Jw x z (q1, q2)) = [(frP q1 q2 (mx x q1.1)), (frP q1 q2 (mn z q2.1))] := by
       unfold Jw
       rw [if_pos ⟨h1, h2⟩]
      walk_at "w"
      refine ⟨tyL f5, ?_⟩
      walk_at "w"
      refine ⟨c1, c2, q1, q2, _, rfl, g1', g2', hb1.1, hb1.2, hb2.1, hb2.2, ZKB bx hb1.1, fun r6 H6 n6 f6 S6 => ?_⟩
      have fl6 := S6 _ _ f5
      walk_at "w"
      refine ZAR fl6 (by rw [hP4.length]; exact hnl _ (by omega)) fun H7 f7 K7 => ?_
      have hP7 := JJ.kpL K7 fl6 ((hP5.same S6).snoc f6)
      have g1'' := ZDm K7 fl6 (S6 _ _ g1')
      have g2'' := ZDm K7 fl6 (S6 _ _ g2')
      walk_at "w"
      refine ⟨tyL f7, ?_⟩
      walk_at "w"
      refine ⟨c1, c2, q1, q2, _, rfl, g1'', g2'', hb1.1, hb1.2, hb2.1, hb2.2, ZKC bz hb2.1, fun r8 H8 n8 f8 S8 => ?_⟩
      have fl8 := S8 _ _ f7
      walk_at "w"
      refine ZAR fl8 (by rw [UE, hP4.length]; exact hnl _ (by simp only [Vk, Vp]; omega)) fun H9 f9 K9 => ?_
      have hP9 := JJ.kpL K9 fl8 ((hP7.same S8).snoc f8)
      walk_at "w"
      refine ⟨(((K5.then S6).trans K7).then S8).trans K9, ⟨_, _, rfl⟩, _, _, f9, hP9, ?_, ?_⟩
      ·rw [e4, e5, UX]
       rfl
      ·rw [UE, UE]
       show ns.length + 1 + 1 <= _
       omega
     ·have e5 : (Jw x z (q1, q2)) = [] := by
       unfold Jw
       rw [if_neg (fun g => h2 g.2)]
      walk_at "w"
      exact ⟨K5, ⟨_, _, rfl⟩, vs4, ns, f5, hP5, by rw [e4, e5, UL], by omega⟩
    ·have e5 : (Jw x z (q1, q2)) = [] := by
      unfold Jw
      rw [if_neg (fun g => h1 g.1)]
     walk_at "w"
     refine Jp ?_
     walk_at "w"
     exact ⟨K5, ⟨_, _, rfl⟩, vs4, ns, f5, hP5, by rw [e4, e5, UL], by omega⟩
   ·rintro U H4 ⟨K4, ⟨v6, v7, rfl⟩, vs4, ns, f4, hP4, ens, hns⟩
    walk_at "w"
    have em : ns = ZAX cv x z := by
     rw [ens, Vn (by rw [List.length_zip, Vr]; omega)]
     rfl
    subst em
    exact k l H4 n1 ⟨vs4, f4, hP4⟩ (by omega) (S23.kpN n1 K4)
  ·rintro i U H2 hi ⟨⟨o1, o2, rfl⟩, S2, vs, f, hPc⟩
   have hi2 : i < us1.length := by rw [pw.length]; exact hi
   refine ⟨⟨_, _, SqL.of (S2 _ _ g1), Uc hi2⟩, ?_⟩
   rintro v H'' ⟨rfl, hv⟩
   have hv := hv _ (SqL.of (S2 _ _ g1))
   obtain ⟨c, p, rfl, hp, hc⟩ := (pw.same S2).at hv
   have e3 : cv.take (i + 1) = cv.take i ++ [p] := by
    rw [UY, hp]
    rfl
   have e4 : inCol (cv.take (i + 1)) x z = inCol (cv.take i) x z ++ (if (decide (x <= p.1) && decide (p.1 < z)) = true then [p] else []) := by
    rw [e3, inCol, Vs]
    congr 1
    simp only [List.filter_cons, List.filter_nil]
   walk_at "w"
   refine Ju (fun h1 => ?_) (fun h1 => ?_)
   ·walk_at "w"
    refine Ju (fun h2 => ?_) (fun h2 => ?_)
    ·walk_at "w"
     refine JR (by show 2 <= sizeLine; decide) fun t4 H4 n4 f4 S4 => ?_
     have f34 := S4 _ _ f
     refine ⟨vs, f34, ?_, ⟨_, _, rfl⟩, ?_, ?_⟩
     ·have e := hPc.length
      rw [e, Uv]
      refine Up (UW _ _) ?_
      rw [UI]
      exact Up (Nat.min_le_left _ _) (Uf (Uf hi hlen) (by decide))
     ·exact (S2.trans S4).kpN n1 Kp.upd
     ·refine ⟨_, JO, ?_⟩
      rw [e4, decide_eq_true h1, decide_eq_true h2, Bool.and_self, if_pos rfl, Vw]
      exact JJ.kpL Kp.upd f34 ((hPc.same S4).snoc (p := (p.2, 1)) f4)
    ·refine ⟨⟨_, _, rfl⟩, S2, vs, f, ?_⟩
     rw [e4, decide_eq_false h2, Bool.and_false, if_neg (by decide), UL]
     exact hPc
   ·walk_at "w"
    refine Jp ?_
    refine ⟨⟨_, _, rfl⟩, S2, vs, f, ?_⟩
    rw [e4, decide_eq_false h1, Bool.false_and, if_neg (by decide), UL]
    exact hPc
theorem ZIQ {low tall k : Int} (h1 : Bn 200 low) (h2 : Bn 200 tall) (h0 : 0 <= k) (h3 : k <= 1001) : Bn 600 (low + k * tall) := by
 have hk : Bn 11 k := by unfold Bn; omega
 exact ((h1.mono (show 200 <= 250 by decide)).add ((hk.mul h2).mono (by decide))).mono (by decide)
def ZKD (mt : PL) : Prop := ∀ q ∈ mt, 0 < q.2 /\ Bn 600 q.1 /\ Bn 600 q.2
theorem ZMu {cv : PL} {x z : Int} (hasc : Asc cv) (hbp : BP cv) (bx : Bn 200 x) (bz : Bn 200 z) : ZKD (ZAX cv x z) := by
 intro q hq
 refine ⟨ZB3 hasc q hq, ?_⟩
 rcases Va.mp hq with hq | hq
 ·obtain ⟨p, hp, rfl⟩ := Ux.mp hq
  exact ⟨(hbp p (ZIL hp)).2.mono (by decide), bn1.mono (by decide)⟩
 ·unfold ZFG at hq
  obtain ⟨ab, hab, hq⟩ := List.mem_flatMap.mp hq
  have ha := hbp ab.1 (List.of_mem_zip (a := ab.1) (b := ab.2) hab).1
  have hb := hbp ab.2 (List.mem_of_mem_drop (List.of_mem_zip (a := ab.1) (b := ab.2) hab).2)
  have key : ∀ t, Bn 200 t -> Bn 600 (frP ab.1 ab.2 t).1 /\ Bn 600 (frP ab.1 ab.2 t).2 := fun t ht =>
   ⟨(Bn.add ((ha.2.mul (hb.1.sub ha.1)).mono (show 200 + (200 + 1) <= 500 by decide)) (((hb.2.sub ha.2).mul (ht.sub ha.1)).mono (by decide))).mono (by decide), (hb.1.sub ha.1).mono (by decide)⟩
  unfold Jw at hq
  split at hq
  ·simp only [Ul, UH, or_false] at hq
   rcases hq with rfl | rfl
   ·exact key _ (ZKB bx ha.1)
   ·exact key _ (ZKC bz hb.1)
  ·cases hq
end
def ZCa (fs : List Int) (rows : Int) (rs : List Int) : Prop := (fs = [] /\ rs = []) \/ ∃ m M, m ∈ fs /\ (∀ f ∈ fs, m <= f) /\ M ∈ fs /\ (∀ f ∈ fs, f <= M) /\ rs = ZDZ m M rows.toNat
theorem ZFY : ∀ {fs : List Int}, fs ≠ [] -> ∃ m ∈ fs, ∀ f ∈ fs, m <= f
 | [], h => absurd rfl h
 | [x], _ => ⟨x, by simp, fun f hf => by rw [UK.mp hf]; exact Int.le_refl _⟩
 | x :: y :: r, _ => by
  obtain ⟨m, h1, h2⟩ := ZFY (fs := y :: r) (by simp)
  by_cases h : x <= m
  ·exact ⟨x, by simp, fun f hf => by
    rcases Ul.mp hf with rfl | hf
    ·exact Int.le_refl _
    ·exact Int.le_trans h (h2 f hf)⟩
  ·exact ⟨m, Um _ h1, fun f hf => by
    rcases Ul.mp hf with rfl | hf
    ·omega
    ·exact h2 f hf⟩
theorem ZMv {fs : List Int} (h : fs ≠ []) : ∃ m ∈ fs, ∀ f ∈ fs, f <= m := by
 obtain ⟨m, h1, h2⟩ := ZFY (fs := fs.map fun x => -x) (by simpa using h)
 obtain ⟨x, hx, rfl⟩ := Ux.mp h1
 exact ⟨x, hx, fun f hf => by have := h2 (-f) (Ux.mpr ⟨f, hf, rfl⟩); omega⟩
def ZDG (fs : List Int) (n : Nat) : List Int := ((Vj n).map fun (i : Nat) => (0 + (i : Int))).filter fun r => fs.any (fun f => decide (f <= r)) && fs.any (fun f => decide (r <= f))
theorem ZIR (fs : List Int) (n : Nat) : ZDG fs (n + 1) = ZDG fs n ++ (if (fs.any (fun f => decide (f <= 0 + (n : Int))) && fs.any (fun f => decide (0 + (n : Int) <= f))) = true then [0 + (n : Int)] else []) := by
 unfold ZDG
 rw [List.range_succ, Vw, Vs]
 congr 1
 simp only [UJ, List.map_nil, List.filter_cons, List.filter_nil]
theorem ZLS (fs : List Int) (rows : Int) : ZCa fs rows (ZDG fs rows.toNat) := by
 by_cases h : fs = []
 ·refine .inl ⟨h, ?_⟩
  rw [h]
  unfold ZDG
  rw [List.filter_eq_nil_iff]
  intro r _
  simp
 ·obtain ⟨m, h1, h2⟩ := ZFY h
  obtain ⟨M, h3, h4⟩ := ZMv h
  refine .inr ⟨m, M, h1, h2, h3, h4, ?_⟩
  unfold ZDG ZDZ
  apply List.filter_congr
  intro r _
  rw [Bool.eq_iff_iff, Bool.and_eq_true, Bool.and_eq_true, List.any_eq_true, List.any_eq_true, decide_eq_true_iff, decide_eq_true_iff]
  constructor
  ·rintro ⟨⟨f, g1, g2⟩, f', g3, g4⟩
   rw [decide_eq_true_iff] at g2 g4
   exact ⟨Int.le_trans (h2 f g1) g2, Int.le_trans g4 (h4 f' g3)⟩
  ·rintro ⟨g1, g2⟩
   exact ⟨⟨m, h1, by simpa using g1⟩, M, h3, by simpa using g2⟩
section
variable {P : Program} {w : World} {K : W.Frag} {mg : Str -> Option Value} {base : Heap} {a : Ad}
def ZLT (K : W.Frag) : Sp := fun vs H Q _ => ∃ (t p : Addr) (mt : PL) (low tall rows : Int), vs = [.ref t, .ref p] /\ PrL H t mt /\ ZKD mt /\ mt.length <= 400 /\ Hts H p low tall rows /\
 ∀ (l : Addr) (rs : List Int) (H' : Hp), H l = none -> H' l = some (.lst (rs.map V.int)) -> ZCa (mt.map (fl low tall)) rows rs -> JM H H' -> Q (.ref l) H'
theorem ZAS : Jd ["_law_met_here", "_law_heights", "_law_low", "_law_tall", "_law_rows_here", "_law_found", "_law_r", "_law_under", "_law_over"] ["_law_met_here", "_law_heights"] (JL ZBj) := ZAM
theorem ZIS (T : Txt K mg a) : Jt P w K mg base CX0 2 a.Z8 a.Zw ["_law_met_here", "_law_heights"] (ZLT K) := by
 refine T.Yc.ok ZAS (by walk_at "l") (fun cdv A outer s H vs Q E hr h => ?_)
 ·obtain ⟨t, p, mt, low, tall, rows, rfl, ⟨us, gT, pT⟩, hok, hlen, hh, k⟩ := h
  have hu := ZCe hr
  have hul : us.length = mt.length := pT.length
  obtain ⟨ht, hlow, hta, htb, hr0, hr1⟩ := hh.2 |> fun x => (⟨hh.1, x.1, x.2.1, x.2.2.1, x.2.2.2.1, x.2.2.2.2⟩ : _ /\ _ /\ _ /\ _ /\ _ /\ _)
  refine ⟨_, QB.h (JI (ZAy (qv 1) (ZAz (n := 3) K rfl rfl (Jc (qgN (i := 2) ZAS.nd) (Jc (qgN (i := 3) ZAS.nd) (Jc (qgN (i := 4) ZAS.nd) ZAg))))) (JI (qsS (i := 5) ZAS.nd (ZAi JH)) (JI (ZBa PassesOwn.never rfl (ZCR rfl T.ZV (JG (qv 4) JH)) (qgN (i := 6) ZAS.nd) (JI (ZBQ (N := ["_law_met_here", "_law_heights", "_law_low", "_law_tall", "_law_rows_here", "_law_found", "_law_r", "_law_under", "_law_over"]) (sc := JL ZBj) (own := ["_law_height_here"]) (caps := ["_law_low", "_law_tall", "_law_r"]) (ks := [2, 3, 6]) (i := 7) rfl rfl rfl ⟨rfl, by decide +kernel, by decide +kernel, by decide +kernel, by decide +kernel, rfl, by decide +kernel⟩ ZAS.nd rfl (by walk_at "o") (ZBA K rfl (qv 0)) (fun _ _ _ _ _ => J3 (i := 0) (show List.Nodup (α := Str) ["_law_height_here", "_law_low", "_law_tall", "_law_r"] from by decide +kernel) rfl (by walk_at "o") (.inr rfl)) (fun _ _ _ _ _ => ZAc (ZAJ (qcS (ZEU T) hr T.Ye T.Z4.kp T.Yb (JG (qv 0) (JG (ZAD (JG (JN Jl (qv 1) (JN Ji (JN Jl (qv 3) JF) (qv 2))) (JG JF JH))) JH))))) (fun _ _ _ _ _ => qv 0)) (JI (ZBQ (N := ["_law_met_here", "_law_heights", "_law_low", "_law_tall", "_law_rows_here", "_law_found", "_law_r", "_law_under", "_law_over"]) (sc := JL ZBj) (own := ["_law_height_here"]) (caps := ["_law_low", "_law_r", "_law_tall"]) (ks := [2, 6, 3]) (i := 8) rfl rfl rfl ⟨rfl, by decide +kernel, by decide +kernel, by decide +kernel, by decide +kernel, rfl, by decide +kernel⟩ ZAS.nd rfl (by walk_at "o") (ZBA K rfl (qv 0)) (fun _ _ _ _ _ => J3 (i := 0) (show List.Nodup (α := Str) ["_law_height_here", "_law_low", "_law_r", "_law_tall"] from by decide +kernel) rfl (by walk_at "o") (.inr rfl)) (fun _ _ _ _ _ => ZAc (J7 (ZAJ (qcS (ZEU T) hr T.Ye T.Z4.kp T.Yb (JG (qv 0) (JG (ZAD (JG (JN Jl (qv 1) (JN Ji (qv 2) (qv 3))) (JG JF JH))) JH)))))) (fun _ _ _ _ _ => qv 0)) (JK (Jq (QW.pt (ZDR (JZ (ZFH K rfl hu) (qv 7) (ZAi JH) (JV _)) (ZCh (JZ (ZFH K rfl hu) (qv 8) (ZAi JH) (JV _))))) (JK (ZAd (ZCB PySem.F.plainAttrs_list PySem.F.slot_list_append PySem.F.type_list_append ZAI (qv 5) (JG (qv 6) JH)))) Ja))))) (JK (JX (qv 5)))))), ?_⟩
  walk_at "s"
  walk_at "w"
  refine JR (by show 0 <= sizeLine; decide) fun l1 H1 n1 f1 S1 => ?_
  have nlt : t ≠ l1 := Jn gT n1
  have gT1 := S1 _ _ gT
  have pT1 := pT.same S1
  walk_at "w"
  refine ZE0 (by omega) (by omega) (ZF3 (fun i U H' => (∃ v6 v7 v8, U = [some (.ref t), some (.ref p), some (.int low), some (.int tall), some (.int rows), some (.ref l1), v6, v7, v8]) /\ Kp l1 H1 H' /\ H' l1 = some (.lst ((ZDG (mt.map (fl low tall)) i).map V.int))) ?_ ?_ ?_)
  ·exact ⟨⟨_, _, _, rfl⟩, Kp.refl _ _, f1⟩
  ·rintro i U H2 hi ⟨⟨v6, v7, v8, rfl⟩, K2, f2⟩
   have hir : (i : Int) < rows := by omega
   have e5 := ZIR (mt.map (fl low tall)) i
   have gT2 : H2 t = some (.lst us) := K2 _ _ gT1 nlt
   have pT2 : JJ H2 us mt := Paired.mapP pT1 fun _ _ ⟨b, e, z⟩ => ⟨b, e, ZDm K2 f1 z⟩
   walk_at "w"
   intro l3 n3
   have n30 : H l3 = none /\ l3 ≠ l1 := by
    have h1 : l3 ≠ l1 := fun z => by rw [z, f2] at n3; cases n3
    refine ⟨?_, h1⟩
    cases hh : H l3 with
    | none => rfl
    | some o => rw [K2 _ _ (S1 _ _ hh) h1] at n3; cases n3
   refine ZAH mt.length (fun i' U' H' => (∃ o, U' = [o, some (.int low), some (.int tall), some (.int (0 + (i : Int)))]) /\ JM H2 H' /\ ∃ vs, H' l3 = some (.lst vs) /\ vs.length <= i' /\ (!vs.isEmpty) = (mt.take i').any fun q => decide (fl low tall q <= 0 + (i : Int))) ?_ ?_ ?_
   ·exact ⟨⟨none, rfl⟩, JM.new n3, [], JO, Ue _, rfl⟩
   ·rintro U' H3 ⟨_, S3, vs3, f3, hl3, hE3⟩
    refine ⟨⟨_, SqL.of (S3 _ _ gT2), by rw [hul]; exact Ue _⟩, ?_⟩
    rw [UG] at hE3
    have gT3 := S3 _ _ gT2
    have pT3 := pT2.same S3
    walk_at "w"
    intro l4 n4
    refine ZAH mt.length (fun i' U' H' => (∃ o, U' = [o, some (.int low), some (.int (0 + (i : Int))), some (.int tall)]) /\ JM H3 H' /\ ∃ vs, H' l4 = some (.lst vs) /\ vs.length <= i' /\ (!vs.isEmpty) = (mt.take i').any fun q => decide (0 + (i : Int) <= fl low tall q)) ?_ ?_ ?_
    ·exact ⟨⟨none, rfl⟩, JM.new n4, [], JO, Ue _, rfl⟩
    ·rintro U'' H4 ⟨_, S4, vs4, f4, hl4, hE4⟩
     refine ⟨⟨_, SqL.of (S4 _ _ gT3), by rw [hul]; exact Ue _⟩, ?_⟩
     rw [UG] at hE4
     have a1 : (mt.map (fl low tall)).any (fun f => decide (f <= 0 + (i : Int))) = !vs3.isEmpty := by rw [hE3, List.any_map]; rfl
     have a2 : (mt.map (fl low tall)).any (fun f => decide (0 + (i : Int) <= f)) = !vs4.isEmpty := by rw [hE4, List.any_map]; rfl
     rw [a1, a2] at e5
     have S24 := S3.trans S4
     walk_at "w"
     refine JR (by show 0 <= sizeLine; decide) fun l5 H5 n5 f5 S5 => ?_
     refine ZFI (SqL.of (S5 _ _ (S4 _ _ f3))) (SqL.of f5) ?_
     walk_at "w"
     cases hb1 : vs3.isEmpty with
     | true =>
      rw [hb1, Vb, Bool.false_and, if_neg (by decide), UL] at e5
      refine Jp ?_
      walk_at "w"
      refine Jp ?_
      walk_at "w"
      refine ⟨⟨_, _, _, rfl⟩, K2.then (S24.trans S5), ?_⟩
      rw [e5]
      exact S5 _ _ (S24 _ _ f2)
     | false =>
      refine ZAn ?_
      walk_at "w"
      refine JR (by show 0 <= sizeLine; decide) fun l6 H6 n6 f6 S6 => ?_
      refine ZFI (SqL.of (S6 _ _ (S5 _ _ f4))) (SqL.of f6) ?_
      walk_at "w"
      have S26 := (S24.trans S5).trans S6
      have fl6 := S26 _ _ f2
      cases hb2 : vs4.isEmpty with
      | true =>
       rw [hb1, hb2, Vb, Bool.and_false, if_neg (by decide), UL] at e5
       refine Jp ?_
       walk_at "w"
       refine ⟨⟨_, _, _, rfl⟩, K2.then S26, ?_⟩
       rw [e5]
       exact fl6
      | false =>
       rw [hb1, hb2, Bool.not_false, Bool.and_self, if_pos rfl] at e5
       refine ZAn ?_
       walk_at "w"
       refine ⟨tyL fl6, ?_⟩
       walk_at "w"
       refine ZAR fl6 ?_ fun H7 f7 K7 => ?_
       ·rw [Uv]
        refine Up (UW _ _) ?_
        rw [Uv, List.length_range]
        exact Uf hi (UP (show rows.toNat <= 1000 by omega) (by decide))
       walk_at "w"
       refine ⟨⟨_, _, _, rfl⟩, (K2.then S26).trans K7, ?_⟩
       rw [f7, e5, Vw]
       rfl
    ·rintro i' U'' H4 hi' ⟨⟨o, rfl⟩, S4, vs4, f4, hl4, hE4⟩
     have hi2 : i' < us.length := by rw [hul]; exact hi'
     refine ⟨⟨_, _, SqL.of (S4 _ _ gT3), Uc hi2⟩, ?_⟩
     rintro v H'' ⟨rfl, hv⟩
     have hv := hv _ (SqL.of (S4 _ _ gT3))
     obtain ⟨c, q, rfl, hq, hc⟩ := (pT3.same S4).at hv
     have oq := hok q (Uu hq)
     have e3 : mt.take (i' + 1) = mt.take i' ++ [q] := by rw [UY, hq]; rfl
     have q2 : ¬ (q.1 * 1 < (low + (0 + (i : Int)) * tall) * q.2) ↔ 0 + (i : Int) <= fl low tall q := by rw [Int.mul_one, ZEk hta oq.1]; omega
     walk_at "w"
     refine JR (by show 2 <= sizeLine; decide) fun t5 H5 n5 f5 S5 => ?_
     walk_at "w"
     refine ⟨c, t5, q, (_, _), rfl, S5 _ _ hc, f5, oq.2.1, oq.2.2, ZIQ hlow htb (by omega) (by omega), bn1.mono (by decide), ?_⟩
     walk_at "w"
     have f45 := S5 _ _ f4
     refine ZGt (fun h2 => ?_) (fun h2 => ?_)
     ·have h2 := q2.mp h2
      walk_at "w"
      refine ⟨vs4, f45, Up hl4 (Uf (show i' < 1000 by omega) (by decide)), ⟨_, rfl⟩, (S4.trans S5).kpN n4 Kp.upd, _, JO, by rw [UE]; simp only [Vk, Vp]; omega, ?_⟩
      rw [e3, List.any_append, List.any_cons, decide_eq_true h2]
      cases vs4 <;> simp
     ·have h2 : ¬ (0 + (i : Int) <= fl low tall q) := fun z => q2.mpr z h2
      refine ⟨⟨_, rfl⟩, S4.trans S5, vs4, f45, by omega, ?_⟩
      rw [e3, List.any_append, List.any_cons, decide_eq_false h2, List.any_nil, Bool.or_false, Bool.or_false]
      exact hE4
   ·rintro i' U' H3 hi' ⟨⟨o, rfl⟩, S3, vs3, f3, hl3, hE3⟩
    have hi2 : i' < us.length := by rw [hul]; exact hi'
    refine ⟨⟨_, _, SqL.of (S3 _ _ gT2), Uc hi2⟩, ?_⟩
    rintro v H'' ⟨rfl, hv⟩
    have hv := hv _ (SqL.of (S3 _ _ gT2))
    obtain ⟨c, q, rfl, hq, hc⟩ := (pT2.same S3).at hv
    have oq := hok q (Uu hq)
    have e3 : mt.take (i' + 1) = mt.take i' ++ [q] := by rw [UY, hq]; rfl
    have q1 : (q.1 * 1 < (low + (0 + (i : Int) + 1) * tall) * q.2) ↔ fl low tall q <= 0 + (i : Int) := by rw [Int.mul_one]; exact (ZG3 hta oq.1).symm
    walk_at "w"
    refine JR (by show 2 <= sizeLine; decide) fun t5 H5 n5 f5 S5 => ?_
    walk_at "w"
    refine ⟨c, t5, q, (_, _), rfl, S5 _ _ hc, f5, oq.2.1, oq.2.2, ZIQ hlow htb (by omega) (by omega), bn1.mono (by decide), ?_⟩
    walk_at "w"
    have f35 := S5 _ _ f3
    refine Ju (fun h2 => ?_) (fun h2 => ?_)
    ·have h2 := q1.mp h2
     walk_at "w"
     refine ⟨vs3, f35, Up hl3 (Uf (show i' < 1000 by omega) (by decide)), ⟨_, rfl⟩, (S3.trans S5).kpN n3 Kp.upd, _, JO, by rw [UE]; simp only [Vk, Vp]; omega, ?_⟩
     rw [e3, List.any_append, List.any_cons, decide_eq_true h2]
     cases vs3 <;> simp
    ·have h2 : ¬ (fl low tall q <= 0 + (i : Int)) := fun z => h2 (q1.mpr z)
     refine ⟨⟨_, rfl⟩, S3.trans S5, vs3, f35, by omega, ?_⟩
     rw [e3, List.any_append, List.any_cons, decide_eq_false h2, List.any_nil, Bool.or_false, Bool.or_false]
     exact hE3
  ·rintro U H2 ⟨⟨v6, v7, v8, rfl⟩, K2, f2⟩
   walk_at "w"
   exact k l1 _ H2 n1 f2 (ZLS _ _) (S1.kpN n1 K2)
def ZAE (H : Hp) (vs : List V) (rss : List (List Int)) : Prop := Paired (fun v (rs : List Int) => ∃ b, v = .ref b /\ H b = some (.lst (rs.map V.int))) vs rss
theorem ZAE.same {H H' : Hp} {vs : List V} {rss : List (List Int)} (h : ZAE H vs rss) (s : JM H H') : ZAE H' vs rss := Paired.mapP h fun _ _ ⟨b, e, z⟩ => ⟨b, e, s _ _ z⟩
theorem ZAE.snoc {H : Hp} : ∀ {vs : List V} {rss : List (List Int)}, ZAE H vs rss -> ∀ {b : Addr} {rs : List Int}, H b = some (.lst (rs.map V.int)) -> ZAE H (vs ++ [.ref b]) (rss ++ [rs])
 | _, _, .nil, _, _, e => .cons ⟨_, rfl, e⟩ .nil
 | _, _, .cons h t, _, _, e => .cons h (ZAE.snoc t e)
def ZAh (cv : PL) (b y m low tall rows : Int) (rss : List (List Int)) : Prop := rss.length = m.toNat /\ ∀ (k : Nat) rs, rss[k]? = some rs -> ZCa ((ZAX (inCol cv b (b + m * y)) (b + (k : Int) * y) (b + (k : Int) * y + y)).map (fl low tall)) rows rs
theorem ZFZ {H : Hp} {l : Addr} {o : HO} : ∀ {vs : List V} {rss : List (List Int)}, ZAE H vs rss -> (∀ v ∈ vs, v ≠ .ref l) -> ZAE (upd H l o) vs rss
 | _, _, .nil, _ => .nil
 | _, _, .cons ⟨b, e1, e2⟩ t, hn => .cons ⟨b, e1, by rw [JT (fun z => hn _ (Us ..) (by rw [e1, z]))]; exact e2⟩ (ZFZ t fun v hv => hn v (Um _ hv))
def ZLU (K : W.Frag) : Sp := fun vs H Q _ => ∃ (t q p : Addr) (cv : PL) (b y m low tall rows : Int), vs = [.ref t, .ref q, .ref p] /\ PrT H t cv /\ Win H q b y m /\ Hts H p low tall rows /\ Asc cv /\ BP cv /\ cv.length <= 100 /\
 ∀ (u : Addr) (vs : List V) (rss : List (List Int)) (H' : Hp), H' u = some (.lst vs) -> ZAE H' vs rss -> ZAh cv b y m low tall rows rss -> JM H H' -> Q (.ref u) H'
theorem ZAs : Jd ["_law_curve", "_law_window_here", "_law_heights", "_law_begin", "_law_wide", "_law_many", "_law_samples", "_law_ends"] ["_law_curve", "_law_window_here", "_law_heights"] (JL ZBC) := ZAM
theorem ZEV (T : Txt K mg a) : Jt P w K mg base CX0 3 a.Zy a.Z1 ["_law_curve", "_law_window_here", "_law_heights"] (ZLU K) := by
 refine T.Z2.ok ZAs (by walk_at "l") (fun cdv A outer s H vs Q E hr h => ?_)
 ·obtain ⟨t, q, p, cv, b, y, m, low, tall, rows, rfl, hT, ⟨hq, hb, hy, hby, hm1, hm2⟩, hh, hasc, hbp, hlen, k⟩ := h
  obtain ⟨us, gT, pT⟩ := id hT
  have hul : us.length = cv.length := pT.length
  refine ⟨_, QB.h (JI (ZAy (qv 1) (ZAz (n := 3) K rfl rfl (Jc (qgN (i := 3) ZAs.nd) (Jc (qgN (i := 4) ZAs.nd) (Jc (qgN (i := 5) ZAs.nd) ZAg))))) (JI (ZK9 (i := 6) ZAs.nd rfl (by walk_at "o") (ZBP (N := ["_law_curve", "_law_window_here", "_law_heights", "_law_begin", "_law_wide", "_law_many", "_law_samples", "_law_ends"]) (sc := JL ZBC) (own := ["_law_sample"]) (caps := ["_law_begin", "_law_wide", "_law_many"]) (ks := [3, 4, 5]) rfl rfl rfl ⟨rfl, by decide +kernel, by decide +kernel, by decide +kernel, by decide +kernel, rfl, by decide +kernel⟩ (ZBc K rfl (qv 0)) (fun _ _ _ _ _ => J3 (i := 0) (show List.Nodup (α := Str) ["_law_sample", "_law_begin", "_law_wide", "_law_many"] from by decide +kernel) rfl (by walk_at "o") (.inr rfl)) (fun _ _ _ _ _ => ZAc (ZA9 ZBm ZAT (qv 1) (JW (Jf K rfl) (qv 0) JF) (JN Jl (qv 1) (JN Ji (qv 2) (qv 3))))) (fun _ _ _ _ _ => qv 0))) (JI (ZBQ (N := ["_law_curve", "_law_window_here", "_law_heights", "_law_begin", "_law_wide", "_law_many", "_law_samples", "_law_ends"]) (sc := JL ZBC) (own := ["_law_k"]) (caps := ["_law_begin", "_law_wide"]) (ks := [3, 4]) (i := 7) rfl rfl rfl ⟨rfl, by decide +kernel, by decide +kernel, by decide +kernel, by decide +kernel, rfl, by decide +kernel⟩ ZAs.nd rfl (by walk_at "o") (ZCR rfl T.ZV (JG (qv 5) JH)) (fun _ _ _ _ _ => J3 (i := 0) (show List.Nodup (α := Str) ["_law_k", "_law_begin", "_law_wide"] from by decide +kernel) rfl (by walk_at "o") (.inr rfl)) (fun _ _ _ _ _ => ZCA) (fun _ _ _ _ _ => JN Jl (qv 1) (JN Ji (qv 0) (qv 2)))) (JK (JX (ZBP (N := ["_law_curve", "_law_window_here", "_law_heights", "_law_begin", "_law_wide", "_law_many", "_law_samples", "_law_ends"]) (sc := JL ZBC) (own := ["_law_x"]) (caps := ["_law_heights", "_law_samples", "_law_wide"]) (ks := [2, 6, 4]) rfl rfl rfl ⟨rfl, by decide +kernel, by decide +kernel, by decide +kernel, by decide +kernel, rfl, by decide +kernel⟩ (ZBA K rfl (qv 7)) (fun _ _ _ _ _ => J3 (i := 0) (show List.Nodup (α := Str) ["_law_x", "_law_heights", "_law_samples", "_law_wide"] from by decide +kernel) rfl (by walk_at "o") (.inr rfl)) (fun _ _ _ _ _ => ZCA) (fun _ _ _ _ _ => qcS (ZIS T) hr T.Yz T.Yc.kp T.Yy (JG (qcS (ZJw T) hr T.Y5 T.Yh.kp T.Y4 (JG (qv 2) (JG (qv 0) (JG (JN Jl (qv 0) (qv 3)) JH)))) (JG (qv 1) JH))))))))), ?_⟩
  walk_at "s"
  walk_at "w"
  intro l n1
  refine ZAH cv.length (fun i U' H' => (∃ o, U' = [o, some (.int b), some (.int y), some (.int m)]) /\ JM H H' /\ ∃ vs, H' l = some (.lst vs) /\ JJ H' vs (inCol (cv.take i) b (b + y * m))) ?_ ?_ ?_
  ·exact ⟨⟨none, rfl⟩, JM.new n1, [], JO, .nil⟩
  ·rintro U H1 ⟨_, S1, vs1, f1, hP1⟩
   refine ⟨⟨_, SqT.of (S1 _ _ gT), by rw [hul]; exact Ue _⟩, ?_⟩
   rw [UG, Int.mul_comm y m] at hP1
   walk_at "w"
   refine ZE0 (by omega) (by omega) ?_
   intro l2 n2
   refine ZAH m.toNat (fun i U' H' => (∃ o, U' = [o, some (.int b), some (.int y)]) /\ JM H1 H' /\ H' l2 = some (.lst (((Vj i).map fun (j : Nat) => b + (j : Int) * y).map V.int))) ?_ ?_ ?_
   ·exact ⟨⟨none, rfl⟩, JM.new n2, JO⟩
   ·rintro U H2 ⟨_, S2, f2⟩
    refine ⟨Ue _, ?_⟩
    have f12 := S2 _ _ f1
    have S02 := S1.trans S2
    walk_at "w"
    intro l3 n3
    refine ZAH m.toNat (fun i U' H' => (∃ o, U' = [o, some (.ref p), some (.ref l), some (.int y)]) /\ JM H2 H' /\ ∃ vs rss, H' l3 = some (.lst vs) /\ ZAE H' vs rss /\ rss.length = i /\ (∀ v ∈ vs, v ≠ .ref l3) /\ ∀ (k : Nat) rs, rss[k]? = some rs -> ZCa ((ZAX (inCol cv b (b + m * y)) (b + (k : Int) * y) (b + (k : Int) * y + y)).map (fl low tall)) rows rs) ?_ ?_ ?_
    ·exact ⟨⟨none, rfl⟩, JM.new n3, [], [], JO, .nil, rfl, fun v hv => (by cases hv), fun k o h => by simp at h⟩
    ·rintro U H3 ⟨_, S3, vs, os, f3, hD, ho, _, hI⟩
     refine ⟨⟨_, SqL.of (S3 _ _ f2), by simp⟩, ?_⟩
     walk_at "w"
     exact k l3 vs os H3 f3 hD ⟨ho, hI⟩ (S02.trans S3)
    ·rintro i U H3 hi ⟨⟨o, rfl⟩, S3, vs, os, f3, hD, ho, hne, hI⟩
     have hx0 : (((Vj m.toNat).map fun (j : Nat) => b + (j : Int) * y).map V.int)[i]? = some (.int (b + (i : Int) * y)) := by
      rw [UB, UB, List.getElem?_range hi]
      rfl
     refine ⟨⟨_, _, SqL.of (S3 _ _ f2), hx0⟩, ?_⟩
     rintro x H'' ⟨rfl, hx⟩
     have hx := hx _ (SqL.of (S3 _ _ f2))
     rw [hx0] at hx
     obtain rfl := Option.some.inj hx
     have hbx := ZMr hb hby (k := (i : Int)) (by omega) (by omega)
     have b1 : Bn 200 (b + (i : Int) * y) := hbx.mono (by decide)
     have b2 : Bn 200 (b + (i : Int) * y + y) := (hbx.add (hby.mono (by decide))).mono (by decide)
     walk_at "w"
     refine ZAn ?_
     walk_at "w"
     refine ⟨l, _, _, _, rfl, ⟨vs1, S3 _ _ f12, (hP1.same S2).same S3⟩, Asc.inCol hasc, BP.inCol hbp, UP (UW _ _) hlen, b1, b2, fun l4 H4 n4 hL4 hl4 S4 => ?_⟩
     walk_at "w"
     refine ⟨l4, p, _, low, tall, rows, rfl, hL4, ZMu (Asc.inCol hasc) (BP.inCol hbp) b1 b2, hl4, hh.same (S02.trans (S3.trans S4)), fun v o2 H5 nv5 hd5 hI5 S5 => ?_⟩
     have S35 := S4.trans S5
     have f5 := S35 _ _ f3
     have nv3 : v ≠ l3 := fun z => by rw [z, S4 _ _ f3] at nv5; cases nv5
     have hvl : vs.length = os.length := Paired.length hD
     refine ⟨vs, f5, ?_, ⟨_, rfl⟩, (S3.trans S35).kpN n3 Kp.upd, vs ++ [.ref v], os ++ [o2], JO, ?_, by simp [ho], ?_, ?_⟩
     ·rw [hvl, ho]
      exact Uf hi (UP (show m.toNat <= 1000 by omega) (by decide))
     ·refine ZAE.snoc ?_ (by rw [JT nv3]; exact hd5)
      exact ZFZ (hD.same S35) hne
     ·intro x hx
      rcases Va.mp hx with hx | hx
      ·exact hne x hx
      ·rw [UK.mp hx]
       exact fun z => nv3 (by cases z; rfl)
     ·intro k' o' h'
      rw [List.getElem?_append] at h'
      split at h'
      ·exact hI k' o' h'
      ·have : k' = i := by
        have := (UC.mp h').1
        simp at this
        omega
       subst this
       rw [ho, Nat.sub_self] at h'
       have : o2 = o' := by simpa using h'
       subst this
       exact hI5
   ·rintro i U H2 hi ⟨⟨o, rfl⟩, S2, f2⟩
    refine ⟨hi, ?_⟩
    rintro x H'' ⟨rfl, rfl⟩
    walk_at "w"
    refine ZAn ?_
    walk_at "w"
    refine ⟨_, f2, ?_, ⟨_, rfl⟩, S2.kpN n2 Kp.upd, ?_⟩
    ·rw [Uv, Uv, List.length_range]
     exact Uf hi (UP (show m.toNat <= 1000 by omega) (by decide))
    ·rw [JO, List.range_succ, Vw, Vw]
     simp only [UJ, List.map_nil, Int.zero_add]
  ·rintro i U H1 hi ⟨⟨o, rfl⟩, S1, vs, f, hPc⟩
   have hi2 : i < us.length := by rw [hul]; exact hi
   refine ⟨⟨_, _, SqT.of (S1 _ _ gT), Uc hi2⟩, ?_⟩
   rintro v H'' ⟨rfl, hv⟩
   have hv := hv _ (SqT.of (S1 _ _ gT))
   obtain ⟨c, q1, rfl, hq1, hc⟩ := (pT.same S1).at hv
   have e3 : cv.take (i + 1) = cv.take i ++ [q1] := by
    rw [UY, hq1]
    rfl
   have e4 : inCol (cv.take (i + 1)) b (b + y * m) = inCol (cv.take i) b (b + y * m) ++ (if (decide (b <= q1.1) && decide (q1.1 < b + y * m)) = true then [q1] else []) := by
    rw [e3, inCol, Vs]
    congr 1
    simp only [List.filter_cons, List.filter_nil]
   walk_at "w"
   refine Ju (fun h1 => ?_) (fun h1 => ?_)
   ·walk_at "w"
    refine Ju (fun h2 => ?_) (fun h2 => ?_)
    ·walk_at "w"
     refine ⟨vs, f, ?_, ⟨_, rfl⟩, ?_, ?_⟩
     ·have e := hPc.length
      rw [e]
      refine Up (UW _ _) ?_
      rw [UI]
      exact Up (Nat.min_le_left _ _) (Uf (Uf hi hlen) (by decide))
     ·exact S1.kpN n1 Kp.upd
     ·refine ⟨_, JO, ?_⟩
      rw [e4, decide_eq_true h1, decide_eq_true h2, Bool.and_self, if_pos rfl]
      exact JJ.kpL Kp.upd f (hPc.snoc hc)
    ·refine ⟨⟨_, rfl⟩, S1, vs, f, ?_⟩
     rw [e4, decide_eq_false h2, Bool.and_false, if_neg (by decide), UL]
     exact hPc
   ·walk_at "w"
    refine Jp ?_
    refine ⟨⟨_, rfl⟩, S1, vs, f, ?_⟩
    rw [e4, decide_eq_false h1, Bool.false_and, if_neg (by decide), UL]
    exact hPc
def ZLV (K : W.Frag) : Sp := fun vs H Q _ => ∃ (l : Addr) (ps : PL) (sg : Int), vs = [.ref l, .int sg] /\ PrL H l ps /\ ps ≠ [] /\ (sg = 1 \/ sg = -1) /\
 ∀ (c : Addr) (q : Int × Int) (j : Nat), H c = some (.tup [.int q.1, .int q.2]) -> ps[j]? = some q -> (∀ (i : Nat) r, ps[i]? = some r -> q.2 * sg <= r.2 * sg /\ (i < j -> q.2 * sg < r.2 * sg)) -> Q (.ref c) H
theorem ZBN : Jd ["_law_samples", "_law_sign", "_law_best", "_law_sample"] ["_law_samples", "_law_sign"] (JL ZCZ) := ZAM
theorem ZDn (T : Txt K mg a) : Jt P w K mg base CX0 1 a.Zq a.Zj ["_law_samples", "_law_sign"] (ZLV K) := by
 refine T.Zr.ok ZBN (by walk_at "l") (fun cdv A outer s H vs Q E hr h => ?_)
 ·obtain ⟨l, ps, sg, rfl, ⟨us, gT, pT⟩, hne, hsg, k⟩ := h
  have hs1 : -2 < sg := by rcases hsg with rfl | rfl <;> decide
  have hs2 : sg < 2 := by rcases hsg with rfl | rfl <;> decide
  have hpos : 0 < ps.length := List.length_pos_iff.mpr hne
  have hul : us.length = ps.length := pT.length
  obtain ⟨c0, q0, ec0, hq0, hc0⟩ := pT.at (Uc (show 0 < us.length by omega))
  have hx0 : us[0]? = some (.ref c0) := by rw [Uc (show 0 < us.length by omega), ec0]
  refine ⟨_, QB.h (JI (qsS (i := 2) ZBN.nd (JW (ZAC K rfl) (qv 0) JF)) (JI (ZBa PassesOwn.never rfl (ZBA K rfl (qv 0)) (qgN (i := 3) ZBN.nd) (JK (Jq (JZ (ZAT) (JN Ji (JW (Jf K rfl) (qv 3) JF) (qv 1)) (JN Ji (JW (Jf K rfl) (qv 2) JF) (qv 1)) (JV _)) (JK (qsS (i := 2) ZBN.nd (qv 3))) Ja))) (JK (JX (qv 2))))), ?_⟩
  walk_at "s"
  walk_at "w"
  refine ZB0 (SqL.of gT) (ZCd (j := 0) hx0) ?_
  walk_at "w"
  refine ZDt (xs := us) (fun i U H' => H' = H /\ ∃ (c : Addr) (u : Int × Int) (j : Nat), (∃ v3, U = [some (.ref l), some (.int sg), some (.ref c), v3]) /\ H c = some (.tup [.int u.1, .int u.2]) /\ ps[j]? = some u /\ j <= i /\ ∀ (n : Nat) r, n < i -> ps[n]? = some r -> u.2 * sg <= r.2 * sg /\ (n < j -> u.2 * sg < r.2 * sg)) ?_ ?_ ?_ ?_
  ·exact ⟨rfl, c0, q0, 0, ⟨_, rfl⟩, hc0, hq0, Ue _, fun n r hn => absurd hn (by omega)⟩
  ·rintro i U H' _ ⟨rfl, _⟩
   exact SqL.of gT
  ·rintro i x U H' hx ⟨rfl, c, u, j, ⟨v3, rfl⟩, hc, hu, hj, hb⟩
   obtain ⟨c2, q2, rfl, hq2, hc2⟩ := pT.at hx
   walk_at "w"
   refine Ju (fun hlt => ?_) (fun hlt => ?_)
   ·walk_at "w"
    refine ⟨rfl, c2, q2, i, ⟨_, rfl⟩, hc2, hq2, Nat.le_succ _, fun n r hn hr => ?_⟩
    by_cases e : n = i
    ·subst e
     rw [hq2] at hr; cases hr
     exact ⟨Int.le_refl _, fun z => absurd z (by omega)⟩
    ·have := (hb n r (by omega) hr).1
     exact ⟨by omega, fun _ => by omega⟩
   ·walk_at "w"
    refine ⟨rfl, c, u, j, ⟨_, rfl⟩, hc, hu, Nat.le_succ_of_le hj, fun n r hn hr => ?_⟩
    by_cases e : n = i
    ·subst e
     rw [hq2] at hr; cases hr
     exact ⟨by omega, fun z => absurd z (by omega)⟩
    ·exact hb n r (by omega) hr
  ·rintro U H' ⟨rfl, c, u, j, ⟨v3, rfl⟩, hc, hu, hj, hb⟩
   walk_at "w"
   refine k c u j hc hu fun i r hr => hb i r ?_ hr
   rw [hul]
   exact (UC.mp hr).1
local macro_rules | `(tactic| walk_at "rd") => `(tactic| first
 | with_reducible first | refine ZFo ?_ | refine ZDh ?_)
def ZJx (b y m : Int) : Prop := Bn 180 b /\ 4 <= y /\ Bn 140 y /\ 1 <= m /\ m <= 8
def ZMw : Sp := fun vs H Q _ => ∃ p : Addr, vs = [.ref p] /\ Pur H p /\ ∀ (q : Addr) (b y m : Int) (H' : Hp), H' q = some (.tup [.int b, .int y, .int m]) -> ZJx b y m -> Pur H' p -> Kp p H H' -> Q (.ref q) H'
theorem ZAk : Jd ["_law_purse_here", "_law_begin", "_law_wide"] ["_law_purse_here"] (JL ZCL) := ZAM
theorem ZFs (T : Txt K mg a) : Jt P w K mg base CX0 2 a.Zg a.Zf ["_law_purse_here"] ZMw := by
 refine T.YF.ok ZAk (by walk_at "l") (fun cdv A outer s H vs Q E hr h => ?_)
 ·obtain ⟨p, rfl, hp, k⟩ := h
  refine ⟨_, QB.h (JI (qsS (i := 1) ZAk.nd (JN ZAv (qcS (ZAK T) hr T.ZC T.ZB.kp T.ZD (JG (qv 0) (JG JF JH))) JF)) (JI (Jq (JZ (ZBK) (qcS (ZAK T) hr T.ZC T.ZB.kp T.ZD (JG (qv 0) (JG JF JH))) JF (JV _)) (JK (qsS (i := 1) ZAk.nd (JN Jl (qv 1) (JN Ji (qcS (ZAK T) hr T.ZC T.ZB.kp T.ZD (JG (qv 0) (JG (JN ZDK JF JF) JH))) (JN ZAv JF (JN Ji JF (qcS (ZAK T) hr T.ZC T.ZB.kp T.ZD (JG (qv 0) (JG JF JH))))))))) Ja) (JI (qsS (i := 2) ZAk.nd (JN Jl JF (qcS (ZAK T) hr T.ZC T.ZB.kp T.ZD (JG (qv 0) (JG JF JH))))) (JI (Jq (JZ (ZBK) (qcS (ZAK T) hr T.ZC T.ZB.kp T.ZD (JG (qv 0) (JG JF JH))) JF (JV _)) (JK (qsS (i := 2) ZAk.nd (JN Jl (qv 2) (qcS (ZAK T) hr T.ZC T.ZB.kp T.ZD (JG (qv 0) (JG (JN ZDK JF JF) JH)))))) Ja) (JK (JX (ZAD (JG (qv 1) (JG (qv 2) (JG (JN Jl JF (qcS (ZAK T) hr T.ZC T.ZB.kp T.ZD (JG (qv 0) (JG JF JH)))) JH)))))))))), ?_⟩
  walk_at "s"
  walk_at "w"
  refine ⟨p, _, rfl, hp, by decide, by decide, fun d1 H1 h1 h1' P1 K1 => ?_⟩
  repeat walk_at "ri"
  refine ZF9 (fun U H' => ∃ (b : Int) (v2 : Option V), U = [some (.ref p), some (.int b), v2] /\ Bn 180 b /\ Pur H' p /\ Kp p H H') ?_ ?_
  ·rintro U H3 ⟨b, v2, rfl, hb, P3, K3⟩
   repeat walk_at "ri"
   refine ⟨p, _, rfl, P3, by decide, by decide, fun d4 H4 h4 h4' P4 K4 => ?_⟩
   repeat walk_at "ri"
   refine ZF9 (fun U H' => ∃ y : Int, U = [some (.ref p), some (.int b), some (.int y)] /\ 4 <= y /\ Bn 140 y /\ Pur H' p /\ Kp p H H') ?_ ?_
   ·rintro U H5 ⟨y, rfl, hy, hby, P5, K5⟩
    walk_at "w"
    refine ⟨p, _, rfl, P5, by decide, by decide, fun d6 H6 h6 h6' P6 K6 => ?_⟩
    walk_at "w"
    refine JR (by show 3 <= sizeLine; decide) fun t7 H7 n7 f7 S7 => ?_
    exact k t7 _ _ _ H7 f7 ⟨hb, hy, hby, by omega, by omega⟩ (P6.same S7) ((K5.trans K6).then S7)
   ·intro D' _ hD
    walk_at "w"
    refine ⟨p, _, rfl, P4, by decide, by decide, fun d5 H5 h5 h5' P5 K5 => ?_⟩
    walk_at "w"
    rw [ZAY]
    refine Ju (fun _ => ?_) (fun _ => ?_)
    ·walk_at "w"
     refine ⟨p, _, rfl, P5, by decide, by decide, fun d6 H6 h6 h6' P6 K6 => ?_⟩
     walk_at "w"
     exact hD _ _ ⟨_, rfl, by omega, by unfold Bn; omega, P6, ((K3.trans K4).trans K5).trans K6⟩
    ·walk_at "w"
     exact hD _ _ ⟨_, rfl, by omega, by unfold Bn; omega, P5, (K3.trans K4).trans K5⟩
  ·intro D' _ hD
   walk_at "w"
   refine ⟨p, _, rfl, P1, by decide, by decide, fun d2 H2 h2 h2' P2 K2 => ?_⟩
   walk_at "w"
   rw [ZAY]
   refine Ju (fun _ => ?_) (fun _ => ?_)
   ·walk_at "w"
    refine ⟨p, _, rfl, P2, by decide, by decide, fun d3 H3 h3 h3' P3 K3 => ?_⟩
    walk_at "w"
    refine ⟨p, _, rfl, P3, by decide, by decide, fun d4 H4 h4 h4' P4 K4 => ?_⟩
    walk_at "w"
    have : d4 = 0 \/ d4 = 1 := by omega
    refine hD _ _ ⟨_, _, rfl, ?_, P4, ((K1.trans K2).trans K3).trans K4⟩
    unfold Bn
    rcases this with rfl | rfl <;> omega
   ·walk_at "w"
    exact hD _ _ ⟨_, _, rfl, by unfold Bn; omega, P2, K1.trans K2⟩
theorem ZEd : Jd ["_law_thing"] ["_law_thing"] (JL ZBk) := ZAM
theorem ZBI (T : Txt K mg a) : Jt P w K mg base CX0 1 a.ZP a.ZN ["_law_thing"] ZGU := by
 refine T.ZJ.ok ZEd (by walk_at "l") (fun cdv A outer s H vs Q E hr h => ?_)
 ·obtain ⟨i, rfl, q⟩ := h
  refine ⟨_, QB.h (JK (JX (ZDQ (Je (ZBb K rfl) rfl T.ZA J4 (JG (qv 0) (JG (ZA8 (v := .ty "int") rfl T.YT ZHh rfl) JH))) (ZDQ (ZBO (ZF0) (qv 0) ZAZ (JV _)) (ZE2 (ZBO (ZF0) (qv 0) ZAZ (JV _))))))), ?_⟩
  walk_at "s"
  walk_at "w"
  refine ZBX (.int i) (ZES _) (ZJE (ZAn ?_))
  walk_at "w"
  refine ZGt (fun _ => ?_) (fun h => by cases h)
  walk_at "w"
  exact q
theorem ZLW {H : Hp} {Q : VK} {c e : Addr} {l m : List Int} (h1 : H c = some (.lst (l.map V.int))) (h2 : H e = some (.lst (m.map V.int))) (h : Q (.bl (decide (l = m))) H) : ZJL K (.ref c) (.ref e) H Q := by
 refine ZMY (d := .list (l.map PyData.int)) (e := .list (m.map PyData.int)) (.lst (SqL.of h1) (L2.ints_dats l)) (.lst (SqL.of h2) (L2.ints_dats m)) (ints_lay l) (ints_lay m) ?_ ?_
 ·have := L2.ints_depth l
  simp only [PyData.depth]
  omega
 ·rw [show PyData.eqv (.list (l.map PyData.int)) (.list (m.map PyData.int)) = decide (l = m) from ZCE l m]
  exact h
theorem ZJy {cv : PL} {ns : List Int} (ha : Asc cv) (hp : ns.Perm (cv.map (·.1))) (hs : ns.Pairwise (· <= ·)) : ns = cv.map (·.1) := by
 have h2 : (cv.map (·.1)).Pairwise (· <= ·) := by
  rw [Vu]
  exact ha.imp fun h => by omega
 exact hp.eq_of_pairwise (fun a b _ _ h1 h2 => Int.le_antisymm h1 h2) hs h2
def ZMx : Sp := fun vs H Q _ => ∃ (t : Addr) (cv : PL), vs = [.ref t] /\ PrT H t cv /\ Asc cv /\ cv.length <= 60 /\ ∀ H', JM H H' -> Q (.bl true) H'
theorem ZBJ : Jd ["_law_thing", "_law_sample", "_law_times"] ["_law_thing"] (JL ZA3) := ZAM
theorem ZEe (T : Txt K mg a) : Jt P w K mg base CX0 2 a.ZS a.ZQ ["_law_thing"] ZMx := by
 refine T.Zv.ok ZBJ (by walk_at "l") (fun cdv A outer s H vs Q E hr h => ?_)
 ·obtain ⟨t, cv, rfl, hT, hasc, hlen, k⟩ := h
  obtain ⟨us, gT, pT⟩ := id hT
  have hul : us.length = cv.length := pT.length
  have hu := ZCe hr
  have hu64 := hr.units
  refine ⟨_, QB.h (JI (Jq (J7 (ZAJ (Je (ZBb K rfl) rfl T.ZA J4 (JG (qv 0) (JG (ZA8 (v := .ty "tuple") rfl T.ZG ZA7 rfl) JH))))) (JK (JX ZAZ)) Ja) (JI (ZBa PassesOwn.never rfl (ZBc K rfl (qv 0)) (qgN (i := 1) ZBJ.nd) (JI (Jq (QW.pt (ZB9 (J7 (ZAJ (Je (ZBb K rfl) rfl T.ZA J4 (JG (qv 1) (JG (ZA8 (v := .ty "tuple") rfl T.ZG ZA7 rfl) JH))))) (ZBY (JZ (ZGi) (Je (ZB1 K rfl) rfl T.ZM ZBV (JG (qv 1) JH)) JF (JV _))))) (JK (JX ZAZ)) Ja) (JK (Jq (QW.pt (ZB9 (J7 (ZAJ (qcS (ZBI T) hr T.ZR T.ZJ.kp T.ZO (JG (JW (Jf K rfl) (qv 1) JF) JH)))) (ZBY (J7 (ZAJ (qcS (ZBI T) hr T.ZR T.ZJ.kp T.ZO (JG (JW (Jf K rfl) (qv 1) JF) JH))))))) (JK (JX ZAZ)) Ja)))) (JI (ZBQ (N := ["_law_thing", "_law_sample", "_law_times"]) (sc := JL ZA3) (own := ["_law_sample"]) (caps := []) (ks := []) (i := 2) rfl rfl rfl ⟨rfl, by decide +kernel, by decide +kernel, by decide +kernel, by decide +kernel, rfl, by decide +kernel⟩ ZBJ.nd rfl (by walk_at "o") (ZBc K rfl (qv 0)) (fun _ _ _ _ _ => J3 (i := 0) (show List.Nodup (α := Str) ["_law_sample"] from by decide +kernel) rfl (by walk_at "o") (.inr rfl)) (fun _ _ _ _ _ => ZCA) (fun _ _ _ _ _ => JW (Jf K rfl) (qv 0) JF)) (JK (JX (ZBO (ZMX K rfl hu64) (qv 2) (ZHI K rfl rfl rfl T.ZY rfl T.YW (JG (qv 2) JH)) (JV _))))))), ?_⟩
  walk_at "s"
  walk_at "w"
  refine ZBX (.tup gT) (ZBr _) ?_
  walk_at "w"
  refine Jp ?_
  walk_at "w"
  refine ZF4 (xs := us) (fun i U H' => (∃ v1 v2, U = [some (.ref t), v1, v2]) /\ H' = H) ?_ ?_ ?_ ?_
  ·exact ⟨⟨_, _, rfl⟩, rfl⟩
  ·rintro i U H2 _ ⟨_, rfl⟩
   exact SqT.of gT
  ·rintro i xv U H2 hx ⟨⟨v1, v2, rfl⟩, rfl⟩
   obtain ⟨c, q, rfl, hq, hc⟩ := pT.at hx
   walk_at "w"
   refine ZBX (.tup hc) (ZBr _) ?_
   walk_at "w"
   refine Jp ?_
   walk_at "w"
   refine Jp ?_
   walk_at "w"
   refine ⟨q.1, rfl, ?_⟩
   walk_at "w"
   refine Jp ?_
   walk_at "w"
   refine ⟨q.2, rfl, ?_⟩
   walk_at "w"
   refine Jp ?_
   walk_at "w"
   exact ⟨⟨_, _, rfl⟩, rfl⟩
  ·rintro U H2 ⟨⟨v1, v2, rfl⟩, eH⟩
   obtain rfl : H = H2 := eH.symm
   walk_at "w"
   intro l hl
   refine ZAH cv.length (fun i U' H' => (∃ o, U' = [o]) /\ JM H H' /\ H' l = some (.lst (((cv.take i).map (·.1)).map V.int))) ?_ ?_ ?_
   ·exact ⟨⟨none, rfl⟩, JM.new hl, JO⟩
   ·rintro U' H3 ⟨_, S3, f3⟩
    refine ⟨⟨_, SqT.of (S3 _ _ gT), by rw [hul]; exact Ue _⟩, ?_⟩
    rw [UG] at f3
    walk_at "w"
    refine ZHJ (SqL.of f3) ?_ (by rw [Uv]; omega) fun l4 H4 ns4 n4 f4 hp4 hs4 S4 => ?_
    ·rw [List.nodup_iff_pairwise_ne, Vu]
     exact hasc.imp fun h => by omega
    obtain rfl := ZJy hasc hp4 hs4
    walk_at "w"
    refine ZLW (S4 _ _ f3) f4 ?_
    rw [decide_eq_true rfl]
    walk_at "w"
    exact k H4 (S3.trans S4)
   ·rintro i U' H3 hi ⟨⟨o, rfl⟩, S3, f3⟩
    have hi2 : i < us.length := by rw [hul]; exact hi
    refine ⟨⟨_, _, SqT.of (S3 _ _ gT), Uc hi2⟩, ?_⟩
    rintro u H'' ⟨rfl, hu'⟩
    have hu' := hu' _ (SqT.of (S3 _ _ gT))
    obtain ⟨c, q, rfl, hq, hc⟩ := (pT.same S3).at hu'
    walk_at "w"
    refine ZAn ?_
    walk_at "w"
    refine ⟨_, f3, ?_, ⟨_, rfl⟩, S3.kpN hl Kp.upd, ?_⟩
    ·rw [Uv, Uv, UI]
     exact Up (Nat.min_le_right _ _) (Up hlen (by decide))
    ·rw [JO, UY, hq, Vw, Vw]
     rfl
def ZMy : Sp := fun vs H Q _ => ∃ (t : Addr), vs = [.ref t] /\ H t = some (.tup [.int 0, .int 1, .int 4]) /\ ∀ H', JM H H' -> Q (.bl true) H'
theorem ZDH : Jd ["_law_thing"] ["_law_thing"] (JL ZAa) := ZAM
theorem ZDI (T : Txt K mg a) : Jt P w K mg base CX0 2 a.ZH a.ZL ["_law_thing"] ZMy := by
 refine T.ZU.ok ZDH (by walk_at "l") (fun cdv A outer s H vs Q E hr h => ?_)
 ·obtain ⟨t, rfl, hT, k⟩ := h
  have hu := ZCe hr
  have hu64 := hr.units
  refine ⟨_, QB.h (JI (Jq (QW.pt (ZB9 (J7 (ZAJ (Je (ZBb K rfl) rfl T.ZA J4 (JG (qv 0) (JG (ZA8 (v := .ty "tuple") rfl T.ZG ZA7 rfl) JH))))) (ZBY (JZ (ZGi) (Je (ZB1 K rfl) rfl T.ZM ZBV (JG (qv 0) JH)) JF (JV _))))) (JK (JX ZAZ)) Ja) (JI (Jq (JZ (ZDT K rfl hu64) (ZBP (N := ["_law_thing"]) (sc := JL ZAa) (own := ["_law_part"]) (caps := []) (ks := []) rfl rfl rfl ⟨rfl, by decide +kernel, by decide +kernel, by decide +kernel, by decide +kernel, rfl, by decide +kernel⟩ (ZBc K rfl (qv 0)) (fun _ _ _ _ _ => J3 (i := 0) (show List.Nodup (α := Str) ["_law_part"] from by decide +kernel) rfl (by walk_at "o") (.inr rfl)) (fun _ _ _ _ _ => ZAc (J7 (ZAJ (qcS (ZBI T) hr T.ZR T.ZJ.kp T.ZO (JG (qv 0) JH))))) (fun _ _ _ _ _ => qv 0)) (ZAi JH) (JV _)) (JK (JX ZAZ)) Ja) (JK (JX (ZDQ (ZBO (ZGj) (JW (Jf K rfl) (qv 0) JF) JF (JV _)) (ZE2 (ZJI ZAT ZBm JF (JW (Jf K rfl) (qv 0) JF) JF))))))), ?_⟩
  walk_at "s"
  walk_at "w"
  refine ZBX (.tup hT) (ZBr _) ?_
  walk_at "w"
  refine Jp ?_
  walk_at "w"
  refine Jp ?_
  walk_at "w"
  intro l hl
  refine ZAH 3 (fun i U' H' => (∃ o, U' = [o]) /\ JM H H' /\ H' l = some (.lst [])) ?_ ?_ ?_
  ·exact ⟨⟨none, rfl⟩, JM.new hl, JO⟩
  ·rintro U' H3 ⟨_, S3, f3⟩
   refine ⟨⟨_, SqT.of (S3 _ _ hT), Ue _⟩, ?_⟩
   have hT3 := S3 _ _ hT
   walk_at "w"
   refine JR (by show 0 <= sizeLine; decide) fun l4 H4 n4 f4 S4 => ?_
   refine ZGV (ns := []) (S4 _ _ f3) f4 ?_
   have hT4 := S4 _ _ hT3
   walk_at "w"
   refine Jp ?_
   walk_at "w"
   refine ZAn ?_
   walk_at "w"
   refine ZAn ?_
   walk_at "w"
   exact k H4 (S3.trans S4)
  ·rintro i U' H3 hi ⟨⟨o, rfl⟩, S3, f3⟩
   have hT3 := S3 _ _ hT
   refine ⟨⟨_, _, SqT.of hT3, Uc (show i < 3 from hi)⟩, ?_⟩
   rintro u H'' ⟨rfl, hu'⟩
   have hu' := hu' _ (SqT.of hT3)
   obtain ⟨j, rfl⟩ : ∃ j : Int, u = .int j := by
    match i, hi with
    | 0, _ => exact ⟨0, (Option.some.inj hu').symm⟩
    | 1, _ => exact ⟨1, (Option.some.inj hu').symm⟩
    | 2, _ => exact ⟨4, (Option.some.inj hu').symm⟩
   walk_at "w"
   refine ⟨j, rfl, ?_⟩
   walk_at "w"
   refine Jp ?_
   exact ⟨⟨_, rfl⟩, S3, f3⟩
def ZBs (m k : Int) : List Int := [2, 3] ++ (if k > 0 then [0] else []) ++ (if k < m - 1 then [1] else [])
def ZMz : Sp := fun vs H Q _ => ∃ (q : Addr) (b y m k : Int), vs = [.ref q, .int k] /\ H q = some (.tup [.int b, .int y, .int m]) /\ ∀ (l : Addr) (H' : Hp), H l = none -> H' l = some (.lst ((ZBs m k).map V.int)) -> JM H H' -> Q (.ref l) H'
theorem ZEW : Jd ["_law_window_here", "_law_k", "_law_some_here"] ["_law_window_here", "_law_k"] (JL ZDD) := ZAM
theorem ZIT (T : Txt K mg a) : Jt P w K mg base CX0 1 a.Zx a.Z9 ["_law_window_here", "_law_k"] ZMz := by
 refine T.Ya.ok ZEW (by walk_at "l") (fun cdv A outer s H vs Q E hr h => ?_)
 ·obtain ⟨q, b, y, m, j, rfl, hq, k⟩ := h
  refine ⟨_, QB.h (JI (qsS (i := 2) ZEW.nd (ZAi (JG JF (JG JF JH)))) (JI (Jq (JZ (ZGj) (qv 1) JF (JV _)) (JK (ZAd (ZCB PySem.F.plainAttrs_list PySem.F.slot_list_append PySem.F.type_list_append ZAI (qv 2) (JG JF JH)))) Ja) (JI (Jq (JZ (ZAT) (qv 1) (JN ZAv (JW (Jf K rfl) (qv 0) JF) JF) (JV _)) (JK (ZAd (ZCB PySem.F.plainAttrs_list PySem.F.slot_list_append PySem.F.type_list_append ZAI (qv 2) (JG JF JH)))) Ja) (JK (JX (qv 2)))))), ?_⟩
  walk_at "s"
  walk_at "w"
  refine JR (by show 2 <= sizeLine; decide) fun l H1 n1 f1 S1 => ?_
  have hq1 := S1 _ _ hq
  walk_at "w"
  refine Ju (fun h0 => ?_) (fun h0 => ?_)
  ·walk_at "w"
   refine ⟨tyL f1, ?_⟩
   walk_at "w"
   refine ZAR f1 (by show 2 < sizeLine; decide) fun H2 f2 K2 => ?_
   have hq2 := K2 _ _ hq1 fun z => by rw [z, f1] at hq1; cases hq1
   walk_at "w"
   refine Ju (fun h1 => ?_) (fun h1 => ?_)
   ·walk_at "w"
    refine ⟨tyL f2, ?_⟩
    walk_at "w"
    refine ZAR f2 (by show 3 < sizeLine; decide) fun H3 f3 K3 => ?_
    walk_at "w"
    refine k l H3 n1 ?_ (S1.kpN n1 (K2.trans K3))
    rw [f3]
    unfold ZBs
    rw [if_pos h0, if_pos h1]
    rfl
   ·walk_at "w"
    refine k l H2 n1 ?_ (S1.kpN n1 K2)
    rw [f2]
    unfold ZBs
    rw [if_pos h0, if_neg h1]
    rfl
  ·walk_at "w"
   refine Ju (fun h1 => ?_) (fun h1 => ?_)
   ·walk_at "w"
    refine ⟨tyL f1, ?_⟩
    walk_at "w"
    refine ZAR f1 (by show 2 < sizeLine; decide) fun H3 f3 K3 => ?_
    walk_at "w"
    refine k l H3 n1 ?_ (S1.kpN n1 K3)
    rw [f3]
    unfold ZBs
    rw [if_neg h0, if_pos h1]
    rfl
   ·walk_at "w"
    refine k l H1 n1 ?_ S1
    rw [f1]
    unfold ZBs
    rw [if_neg h0, if_neg h1]
    rfl
end
def InR (fs : List Int) (r : Int) : Prop := (∃ f ∈ fs, f <= r) /\ ∃ f ∈ fs, r <= f
theorem ZFa {fs rs : List Int} (h : ZCa fs 4 rs) {r : Int} (h0 : 0 <= r) (h4 : r < 4) : r ∈ rs ↔ InR fs r := by
 rcases h with ⟨e1, e2⟩ | ⟨m, M, h1, h2, h3, h5, e⟩
 ·rw [e1, e2]
  constructor
  ·intro z; cases z
  ·rintro ⟨⟨f, z, _⟩, _⟩; cases z
 ·rw [e, ZG4]
  constructor
  ·rintro ⟨_, g1, g2⟩
   exact ⟨⟨m, h1, g1⟩, M, h3, g2⟩
  ·rintro ⟨⟨f, f1, f2⟩, g, g1, g2⟩
   exact ⟨⟨h0, by show r < 4; exact h4⟩, Int.le_trans (h2 f f1) f2, Int.le_trans g2 (h5 g g1)⟩
def ZD3 (cv : PL) (b y m : Int) (j : Nat) : List Int := (ZAX (inCol cv b (b + m * y)) (b + (j : Int) * y) (b + (j : Int) * y + y)).map (fl 0 1)
theorem ZDo {cv cw : PL} {b y m : Int} {r1 r2 : List (List Int)} (h1 : ZAh cv b y m 0 1 4 r1) (h2 : ZAh cw b y m 0 1 4 r2) {j : Nat} (hj : (j : Int) < m) {r : Int} (h0 : 0 <= r) (h4 : r < 4) (hne : ¬ (InR (ZD3 cv b y m j) r ↔ InR (ZD3 cw b y m j) r)) : r1 ≠ r2 := by
 intro e
 have hj1 : j < r1.length := by rw [h1.1]; omega
 have g1 := h1.2 j _ (Uc hj1)
 have g2 := h2.2 j r1[j] (by rw [<- e]; exact Uc hj1)
 exact hne ((ZFa g1 h0 h4).symm.trans (ZFa g2 h0 h4))
theorem ZGW {cv : PL} {X Z : Int} {p : Int × Int} (hp : p ∈ cv) (h1 : X <= p.1) (h2 : p.1 < Z) : (p.2, 1) ∈ ZAX cv X Z :=
 List.mem_append_left _ (Ux.mpr ⟨p, ZCT.mpr ⟨hp, h1, h2⟩, rfl⟩)
theorem ZIU {cv : PL} {X Z : Int} {i : Nat} {p q : Int × Int} (h1 : cv[i]? = some p) (h2 : cv[i + 1]? = some q) (g1 : p.1 < Z) (g2 : X < q.1) : frP p q (mx X p.1) ∈ ZAX cv X Z /\ frP p q (mn Z q.1) ∈ ZAX cv X Z := by
 have hz : (p, q) ∈ cv.zip (cv.drop 1) := Uu (ZF7 h1 (by rw [List.getElem?_drop, Nat.add_comm]; exact h2))
 have ho : Jw X Z (p, q) = [frP p q (mx X p.1), frP p q (mn Z q.1)] := if_pos ⟨g1, g2⟩
 exact ⟨Uo _ (List.mem_flatMap.mpr ⟨_, hz, by rw [ho]; simp⟩), Uo _ (List.mem_flatMap.mpr ⟨_, hz, by rw [ho]; simp⟩)⟩
theorem ZCn {cv : PL} {X Z : Int} (ha : Asc cv) {u : Int × Int} (hu : u ∈ ZAX cv X Z) :
  (∃ p ∈ cv, X <= p.1 /\ p.1 < Z /\ u = (p.2, 1)) \/ ∃ (i : Nat) (p q : Int × Int) (t : Int), cv[i]? = some p /\ cv[i + 1]? = some q /\ p.1 < q.1 /\ p.1 < Z /\ X < q.1 /\ p.1 <= t /\ t <= q.1 /\ u = frP p q t := by
 rcases Va.mp hu with h | h
 ·obtain ⟨p, hp, rfl⟩ := Ux.mp h
  obtain ⟨h1, h2, h3⟩ := ZCT.mp hp
  exact .inl ⟨p, h1, h2, h3, rfl⟩
 ·obtain ⟨⟨p, q⟩, hz, ho⟩ := List.mem_flatMap.mp h
  obtain ⟨i, hi⟩ := List.getElem?_of_mem hz
  rw [List.getElem?_zip_eq_some] at hi
  have hs := ZEI ha hi.1 hi.2
  unfold Jw at ho
  split at ho
  ·rename_i hc
   dsimp only at hc hs
   have h2 : cv[i + 1]? = some q := by have := hi.2; rw [List.getElem?_drop, Nat.add_comm] at this; exact this
   simp only [Ul, UH, or_false] at ho
   rcases ho with rfl | rfl
   ·refine .inr ⟨i, p, q, _, hi.1, h2, hs, hc.1, hc.2, ?_, ?_, rfl⟩ <;> (unfold mx; split <;> omega)
   ·refine .inr ⟨i, p, q, _, hi.1, h2, hs, hc.1, hc.2, ?_, ?_, rfl⟩ <;> (unfold mn; split <;> omega)
  ·cases ho
theorem ZNP {p q : Int × Int} {t c : Int} (h1 : p.1 <= t) (h2 : t <= q.1) (hp : c <= p.2) (hq : c <= q.2) : c * (frP p q t).2 <= (frP p q t).1 := by
 have a1 := Int.mul_nonneg (show 0 <= p.2 - c by omega) (show 0 <= (q.1 - p.1) - (t - p.1) by omega)
 have a2 := Int.mul_nonneg (show 0 <= q.2 - c by omega) (show 0 <= t - p.1 by omega)
 show c * (q.1 - p.1) <= p.2 * (q.1 - p.1) + (q.2 - p.2) * (t - p.1)
 generalize q.1 - p.1 = d at *
 generalize t - p.1 = e at *
 simp only [Int.sub_mul, Int.mul_sub] at *
 omega
theorem ZNQ {p q : Int × Int} {t c : Int} (h1 : p.1 <= t) (h2 : t <= q.1) (hp : p.2 <= c) (hq : q.2 <= c) : (frP p q t).1 <= c * (frP p q t).2 := by
 have a1 := Int.mul_nonneg (show 0 <= c - p.2 by omega) (show 0 <= (q.1 - p.1) - (t - p.1) by omega)
 have a2 := Int.mul_nonneg (show 0 <= c - q.2 by omega) (show 0 <= t - p.1 by omega)
 show p.2 * (q.1 - p.1) + (q.2 - p.2) * (t - p.1) <= c * (q.1 - p.1)
 generalize q.1 - p.1 = d at *
 generalize t - p.1 = e at *
 simp only [Int.sub_mul, Int.mul_sub] at *
 omega
theorem ZM0 {cv : PL} {X Z c : Int} (ha : Asc cv) (h : ∀ p ∈ cv, c <= p.2) : ∀ f ∈ (ZAX cv X Z).map (fl 0 1), c <= f := by
 intro f hf
 obtain ⟨u, hu, rfl⟩ := Ux.mp hf
 rw [ZEk (by decide) (ZB3 ha u hu)]
 rcases ZCn ha hu with ⟨p, hp, _, _, rfl⟩ | ⟨i, p, q, t, e1, e2, _, _, _, h1, h2, rfl⟩
 ·have := h p hp
  show (0 + c * 1) * 1 <= p.2
  omega
 ·have := ZNP h1 h2 (h p (Uu e1)) (h q (Uu e2))
  rw [Int.zero_add, Int.mul_one]
  exact this
theorem ZM1 {cv : PL} {X Z c : Int} (ha : Asc cv) (h : ∀ p ∈ cv, p.2 <= c) : ∀ f ∈ (ZAX cv X Z).map (fl 0 1), f <= c := by
 intro f hf
 obtain ⟨u, hu, rfl⟩ := Ux.mp hf
 have hpos := ZB3 ha u hu
 rw [ZG3 (by decide) hpos]
 rcases ZCn ha hu with ⟨p, hp, _, _, rfl⟩ | ⟨i, p, q, t, e1, e2, _, _, _, h1, h2, rfl⟩
 ·have := h p hp
  show p.2 < (0 + (c + 1) * 1) * 1
  omega
 ·have := ZNQ h1 h2 (h p (Uu e1)) (h q (Uu e2))
  rw [Int.zero_add, Int.mul_one, Int.add_mul]
  omega
theorem Jz {cv : PL} {b e : Int} (h : ∀ p ∈ cv, b <= p.1 /\ p.1 < e) : inCol cv b e = cv := by
 unfold inCol
 rw [List.filter_eq_self]
 intro p hp
 have := h p hp
 simp [this.1, this.2]
def pcv (x : Int) : PL := [(x, 1), (x + 1, 3), (x + 2, 0), (x + 3, 2)]
section
variable {b y m x : Int} {j : Nat} {r1 r2 : List (List Int)}
theorem ZNR (hx : x = b + (j : Int) * y) (hy : 4 <= y) (hb : b <= x) (he : x + y <= b + m * y) (hj : (j : Int) < m) (h1 : ZAh (pcv x) b y m 0 1 4 r1) (h2 : ZAh [(x, 1), (x + 1, 3), (x + 3, 2)] b y m 0 1 4 r2) : r1 ≠ r2 := by
 refine ZDo h1 h2 hj (r := 0) (by decide) (by decide) fun z => ?_
 unfold ZD3 at z
 rw [Jz (fun p hp => by simp [pcv] at hp; rcases hp with rfl | rfl | rfl | rfl <;> (dsimp only; omega)), Jz (fun p hp => by simp at hp; rcases hp with rfl | rfl | rfl <;> (dsimp only; omega)), <- hx] at z
 have m0 : (0 : Int) ∈ (ZAX (pcv x) x (x + y)).map (fl 0 1) := Ux.mpr ⟨(0, 1), ZGW (p := (x + 2, 0)) (by simp [pcv]) (by dsimp only; omega) (by dsimp only; omega), by decide⟩
 obtain ⟨⟨f, hf, h3⟩, _⟩ := z.mp ⟨⟨0, m0, Int.le_refl _⟩, 0, m0, Int.le_refl _⟩
 have := ZM0 (c := 1) (by simp [Asc]; omega) (fun p hp => by simp at hp; rcases hp with rfl | rfl | rfl <;> (dsimp only; omega)) f hf
 omega
theorem ZNS (hx : x = b + (j : Int) * y) (hy : 4 <= y) (hb : b <= x) (he : x + y <= b + m * y) (hj : (j : Int) < m) (h1 : ZAh (pcv x) b y m 0 1 4 r1) (h2 : ZAh [(x, 1), (x + 2, 0), (x + 3, 2)] b y m 0 1 4 r2) : r1 ≠ r2 := by
 refine ZDo h1 h2 hj (r := 3) (by decide) (by decide) fun z => ?_
 unfold ZD3 at z
 rw [Jz (fun p hp => by simp [pcv] at hp; rcases hp with rfl | rfl | rfl | rfl <;> (dsimp only; omega)), Jz (fun p hp => by simp at hp; rcases hp with rfl | rfl | rfl <;> (dsimp only; omega)), <- hx] at z
 have m0 : (3 : Int) ∈ (ZAX (pcv x) x (x + y)).map (fl 0 1) := Ux.mpr ⟨(3, 1), ZGW (p := (x + 1, 3)) (by simp [pcv]) (by dsimp only; omega) (by dsimp only; omega), by decide⟩
 obtain ⟨_, f, hf, h3⟩ := z.mp ⟨⟨3, m0, Int.le_refl _⟩, 3, m0, Int.le_refl _⟩
 have := ZM1 (c := 2) (by simp [Asc]; omega) (fun p hp => by simp at hp; rcases hp with rfl | rfl | rfl <;> (dsimp only; omega)) f hf
 omega
theorem ZNT (hx : x = b + (j : Int) * y + y) (hy : 4 <= y) (hb : b + y <= x) (he : x + y <= b + m * y) (hj : (j : Int) < m) (h1 : ZAh ((x - 1, 1) :: pcv x) b y m 0 1 4 r1) (h2 : ZAh [(x - 1, 1), (x + 1, 3), (x + 2, 0), (x + 3, 2)] b y m 0 1 4 r2) : r1 ≠ r2 := by
 refine ZDo h1 h2 hj (r := 2) (by decide) (by decide) fun z => ?_
 unfold ZD3 at z
 rw [Jz (fun p hp => by simp [pcv] at hp; rcases hp with rfl | rfl | rfl | rfl | rfl <;> (dsimp only; omega)), Jz (fun p hp => by simp at hp; rcases hp with rfl | rfl | rfl | rfl <;> (dsimp only; omega)), <- hx] at z
 generalize hX : b + (j : Int) * y = X at z hx
 have ha : Asc ((x - 1, 1) :: pcv x) := by simp [Asc, pcv]; omega
 have m2 : (2 : Int) ∈ (ZAX [(x - 1, 1), (x + 1, 3), (x + 2, 0), (x + 3, 2)] X x).map (fl 0 1) := by
  have := (ZIU (cv := [(x - 1, 1), (x + 1, 3), (x + 2, 0), (x + 3, 2)]) (X := X) (Z := x) (i := 0) (p := (x - 1, 1)) (q := (x + 1, 3)) rfl rfl (by dsimp only; omega) (by dsimp only; omega)).2
  refine Ux.mpr ⟨_, this, ?_⟩
  have e1 : mn x (x + 1) = x := by unfold mn; split <;> omega
  have e2 : frP (x - 1, 1) (x + 1, 3) (mn x (x + 1)) = (4, 2) := by
   unfold frP
   dsimp only
   rw [e1]
   refine Prod.ext ?_ ?_ <;> (dsimp only; omega)
  show fl 0 1 (frP (x - 1, 1) (x + 1, 3) (mn x (x + 1))) = 2
  rw [e2]
  decide
 obtain ⟨_, f, hf, h3⟩ := z.mpr ⟨⟨2, m2, Int.le_refl _⟩, 2, m2, Int.le_refl _⟩
 obtain ⟨u, hu, rfl⟩ := Ux.mp hf
 have hpos := ZB3 ha u hu
 rw [ZEk (by decide) hpos] at h3
 rcases ZCn ha hu with ⟨p, hp, _, h5, rfl⟩ | ⟨i, p, q, t, e1, e2, _, h5, _, h6, h7, rfl⟩
 ·simp [pcv] at hp
  rcases hp with rfl | rfl | rfl | rfl | rfl <;> (dsimp only at *; omega)
 ·rcases i with _ | _ | _ | _ | i
  ·simp [pcv] at e1 e2
   subst e1 e2
   unfold frP at h3
   dsimp only at h3
   omega
  ·simp [pcv] at e1 e2
   subst e1
   dsimp only at h5
   omega
  ·simp [pcv] at e1 e2
   subst e1
   dsimp only at h5
   omega
  ·simp [pcv] at e1 e2
   subst e1
   dsimp only at h5
   omega
  ·simp [pcv] at e2
theorem ZNU {z : Int} (hx : z = b + (j : Int) * y) (hy : 4 <= y) (hb : b + y <= z) (he : z + y <= b + m * y) (hj : (j : Int) < m) (h1 : ZAh (pcv (z - 4) ++ [(z + 1, 2)]) b y m 0 1 4 r1) (h2 : ZAh [(z - 4, 1), (z - 4 + 1, 3), (z - 4 + 2, 0), (z + 1, 2)] b y m 0 1 4 r2) : r1 ≠ r2 := by
 refine ZDo h1 h2 hj (r := 1) (by decide) (by decide) fun w => ?_
 unfold ZD3 at w
 rw [Jz (fun p hp => by simp [pcv] at hp; rcases hp with rfl | rfl | rfl | rfl | rfl <;> (dsimp only; omega)), Jz (fun p hp => by simp at hp; rcases hp with rfl | rfl | rfl | rfl <;> (dsimp only; omega)), <- hx] at w
 have ha : Asc (pcv (z - 4) ++ [(z + 1, 2)]) := by simp [Asc, pcv]; omega
 have m2 : (1 : Int) ∈ (ZAX [(z - 4, 1), (z - 4 + 1, 3), (z - 4 + 2, 0), (z + 1, 2)] z (z + y)).map (fl 0 1) := by
  have := (ZIU (cv := [(z - 4, 1), (z - 4 + 1, 3), (z - 4 + 2, 0), (z + 1, 2)]) (X := z) (Z := z + y) (i := 2) (p := (z - 4 + 2, 0)) (q := (z + 1, 2)) rfl rfl (by dsimp only; omega) (by dsimp only; omega)).1
  refine Ux.mpr ⟨_, this, ?_⟩
  have e1 : mx z (z - 4 + 2) = z := by unfold mx; split <;> omega
  have e2 : frP (z - 4 + 2, 0) (z + 1, 2) (mx z (z - 4 + 2)) = (4, 3) := by
   unfold frP
   dsimp only
   rw [e1]
   refine Prod.ext ?_ ?_ <;> (dsimp only; omega)
  show fl 0 1 (frP (z - 4 + 2, 0) (z + 1, 2) (mx z (z - 4 + 2))) = 1
  rw [e2]
  decide
 obtain ⟨⟨f, hf, h3⟩, _⟩ := w.mpr ⟨⟨1, m2, Int.le_refl _⟩, 1, m2, Int.le_refl _⟩
 obtain ⟨u, hu, rfl⟩ := Ux.mp hf
 have hpos := ZB3 ha u hu
 rw [ZG3 (by decide) hpos] at h3
 rcases ZCn ha hu with ⟨p, hp, h4, h5, rfl⟩ | ⟨i, p, q, t, e1, e2, _, _, h5, h6, h7, rfl⟩
 ·simp [pcv] at hp
  rcases hp with rfl | rfl | rfl | rfl | rfl <;> (dsimp only at *; omega)
 ·rcases i with _ | _ | _ | _ | i
  ·simp [pcv] at e1 e2
   subst e2
   dsimp only at h5
   omega
  ·simp [pcv] at e1 e2
   subst e2
   dsimp only at h5
   omega
  ·simp [pcv] at e1 e2
   subst e2
   dsimp only at h5
   omega
  ·simp [pcv] at e1 e2
   subst e1 e2
   unfold frP at h3
   dsimp only at h3
   omega
  ·simp [pcv] at e2
end
theorem ZLX {cv ps : PL} {p : Int × Int} (hasc : Asc cv) (hnd : (ps.map (·.1)).Nodup) (hs : ∀ q ∈ ps, q ∈ cv) (hp : p ∈ cv) (q : Int × Int) : q ∈ ZAF ps p.1 p.2 ↔ q ∈ ps \/ q = p := by
 obtain ⟨t, h⟩ := q
 rw [<- ZBd (ZCD hnd), ZJX, <- ZBd hnd]
 by_cases e : t = p.1
 ·rw [if_pos e]
  constructor
  ·intro z
   refine .inr ?_
   rw [e, <- Option.some.inj z]
  ·rintro (z | z)
   ·have := ZLF hasc (hs _ ((ZBd hnd).mp z)) hp e
    rw [<- this]
   ·rw [<- z]
 ·rw [if_neg e]
  constructor
  ·exact .inl
  ·rintro (z | z)
   ·exact z
   ·rw [<- z] at e
    exact absurd rfl e
theorem ZGX {cv : PL} (hasc : Asc cv) : ∀ (prs acc : PL), (acc.map (·.1)).Nodup -> (∀ q ∈ acc, q ∈ cv) -> (∀ q ∈ prs, q ∈ cv) -> ∀ q, q ∈ prs.foldl (fun m p => ZAF m p.1 p.2) acc ↔ q ∈ acc \/ q ∈ prs
 | [], acc, _, _, _, q => by simp
 | p :: prs, acc, hn, ha, hp, q => by
  have hpm := ZLX hasc hn ha (hp p Us)
  rw [List.foldl_cons, ZGX hasc prs _ (ZCD hn) (fun z hz => by
   rcases (hpm z).mp hz with hz | rfl
   ·exact ha z hz
   ·exact hp z Us) (fun z hz => hp z (Um _ hz)), hpm, Ul, or_assoc]
theorem ZEm {l L cv : PL} (hC : ZB2 (ZAL l) cv) (hL : Asc L) (hm : ∀ p, p ∈ l ↔ p ∈ L) : cv = L := by
 refine ZF6 hC.1 hL fun p => ?_
 obtain ⟨t, h⟩ := p
 rw [hC.2, ZBd (ZDV _)]
 have := ZGX hL l [] List.nodup_nil (fun q hq => by cases hq) (fun q hq => (hm q).mp hq) (t, h)
 rw [show ZAL l = l.foldl (fun m p => ZAF m p.1 p.2) [] from rfl, this, <- hm]
 simp
def ZEn (B : Int) : PL := [(B, 1), (B + 3, 2), (B + 2, 0), (B + 1, 3)]
def ZIV (m k part : Int) : Prop := part = 2 \/ part = 3 \/ (part = 0 /\ 0 < k) \/ (part = 1 /\ k < m - 1)
structure ZIW (b y m k part : Int) (cv : PL) (B : Int) (pt : Int × Int) : Prop where
 asc : Asc cv
 len : cv.length <= 5
 bp : BP cv
 win : ∀ p ∈ cv, b <= p.1 /\ p.1 < b + m * y
 col : inCol cv (b + k * y) (b + k * y + y) = pcv B
 four : (ZEn B)[part.toNat]? = some pt
 ne : ∀ r1 r2, ZAh cv b y m 0 1 4 r1 -> ZAh (cv.filter fun p => decide (p ≠ pt)) b y m 0 1 4 r2 -> r1 ≠ r2
theorem ZJz {b y m k part : Int} {cv : PL} (hW : ZJx b y m) (hk0 : 0 <= k) (hk1 : k < m) (hp : ZIV m k part) (hC : ZB2 (ZAL (ZA4 (b + k * y) (b + k * y + y) part)) cv) : ∃ B pt, ZIW b y m k part cv B pt := by
 obtain ⟨hb, hy, hby, hm1, hm8⟩ := hW
 have hxe : b + k * y + y <= b + m * y := by
  have : (k + 1) * y <= m * y := Int.mul_le_mul_of_nonneg_right (by omega) (by omega)
  rw [Int.add_mul, Int.one_mul] at this
  omega
 have hxb : b <= b + k * y := by
  have := Int.mul_nonneg hk0 (show 0 <= y by omega)
  omega
 have hbx : Bn 190 (b + k * y) /\ Bn 190 (b + k * y + y) := by
  have e1 : Bn 190 (b + k * y) := (hb.add (((show Bn 7 k by unfold Bn; omega).mul hby).mono (show 7 + 140 <= 180 by decide))).mono (by decide)
  have e2 : Bn 190 (b + k * y + y) := by
   have h1 : Bn 181 (b + k * y) := hb.add (((show Bn 7 k by unfold Bn; omega).mul hby).mono (show 7 + 140 <= 180 by decide))
   exact (h1.add (hby.mono (show 140 <= 181 by decide))).mono (by decide)
  exact ⟨e1, e2⟩
 have hbp : ∀ d : Int, -5 <= d -> d <= 5 -> ∀ v, Bn 190 v -> Bn 200 (v + d) := fun d h1 h2 v hv => (hv.add ((show Bn 7 d by unfold Bn; omega).mono (show 7 <= 190 by decide))).mono (by decide)
 have hs : ∀ d : Int, 0 <= d -> d <= 5 -> Bn 200 d := fun d h1 h2 => (show Bn 7 d by unfold Bn; omega).mono (by decide)
 generalize hx : b + k * y = x at *
 obtain ⟨hbx, hbz⟩ := hbx
 rcases hp with rfl | rfl | ⟨rfl, hk⟩ | ⟨rfl, hk⟩
 ·obtain rfl := ZEm (L := pcv x) hC (by simp [Asc, pcv]; omega) (fun p => by simp [ZA4, pcv])
  refine ⟨x, (x + 2, 0), by simp [Asc, pcv]; omega, by simp [pcv], fun p hp => ?_, fun p hp => ?_, ?_, rfl, fun r1 r2 g1 g2 => ?_⟩
  ·simp [pcv] at hp
   rcases hp with rfl | rfl | rfl | rfl
   ·exact ⟨by have := hbp 0 (by decide) (by decide) x hbx; rwa [Int.add_zero] at this, hs 1 (by decide) (by decide)⟩
   ·exact ⟨hbp 1 (by decide) (by decide) x hbx, hs 3 (by decide) (by decide)⟩
   ·exact ⟨hbp 2 (by decide) (by decide) x hbx, hs 0 (by decide) (by decide)⟩
   ·exact ⟨hbp 3 (by decide) (by decide) x hbx, hs 2 (by decide) (by decide)⟩
  ·simp [pcv] at hp
   rcases hp with rfl | rfl | rfl | rfl <;> (dsimp only; omega)
  ·exact Jz fun p hp => by simp [pcv] at hp; rcases hp with rfl | rfl | rfl | rfl <;> (dsimp only; omega)
  ·refine ZNR (j := k.toNat) (x := x) (by rw [Int.toNat_of_nonneg hk0]; exact hx.symm) hy hxb hxe (by omega) g1 ?_
   have : (pcv x).filter (fun p => decide (p ≠ (x + 2, 0))) = [(x, 1), (x + 1, 3), (x + 3, 2)] := by simp [pcv]
   rw [this] at g2
   exact g2
 ·obtain rfl := ZEm (L := pcv x) hC (by simp [Asc, pcv]; omega) (fun p => by simp [ZA4, pcv])
  refine ⟨x, (x + 1, 3), by simp [Asc, pcv]; omega, by simp [pcv], fun p hp => ?_, fun p hp => ?_, ?_, rfl, fun r1 r2 g1 g2 => ?_⟩
  ·simp [pcv] at hp
   rcases hp with rfl | rfl | rfl | rfl
   ·exact ⟨by have := hbp 0 (by decide) (by decide) x hbx; rwa [Int.add_zero] at this, hs 1 (by decide) (by decide)⟩
   ·exact ⟨hbp 1 (by decide) (by decide) x hbx, hs 3 (by decide) (by decide)⟩
   ·exact ⟨hbp 2 (by decide) (by decide) x hbx, hs 0 (by decide) (by decide)⟩
   ·exact ⟨hbp 3 (by decide) (by decide) x hbx, hs 2 (by decide) (by decide)⟩
  ·simp [pcv] at hp
   rcases hp with rfl | rfl | rfl | rfl <;> (dsimp only; omega)
  ·exact Jz fun p hp => by simp [pcv] at hp; rcases hp with rfl | rfl | rfl | rfl <;> (dsimp only; omega)
  ·refine ZNS (j := k.toNat) (x := x) (by rw [Int.toNat_of_nonneg hk0]; exact hx.symm) hy hxb hxe (by omega) g1 ?_
   have : (pcv x).filter (fun p => decide (p ≠ (x + 1, 3))) = [(x, 1), (x + 2, 0), (x + 3, 2)] := by simp [pcv]
   rw [this] at g2
   exact g2
 ·have hxk : b + y <= x := by
   have : 1 * y <= k * y := Int.mul_le_mul_of_nonneg_right (by omega) (by omega)
   omega
  obtain rfl := ZEm (L := (x - 1, 1) :: pcv x) hC (by simp [Asc, pcv]; omega) (fun p => by simp [ZA4, pcv]; constructor <;> (intro h; rcases h with h | h | h | h | h <;> simp [h]))
  refine ⟨x, (x, 1), by simp [Asc, pcv]; omega, by simp [pcv], fun p hp => ?_, fun p hp => ?_, ?_, rfl, fun r1 r2 g1 g2 => ?_⟩
  ·simp [pcv] at hp
   rcases hp with rfl | rfl | rfl | rfl | rfl
   ·exact ⟨hbp (-1) (by decide) (by decide) x hbx, hs 1 (by decide) (by decide)⟩
   ·exact ⟨by have := hbp 0 (by decide) (by decide) x hbx; rwa [Int.add_zero] at this, hs 1 (by decide) (by decide)⟩
   ·exact ⟨hbp 1 (by decide) (by decide) x hbx, hs 3 (by decide) (by decide)⟩
   ·exact ⟨hbp 2 (by decide) (by decide) x hbx, hs 0 (by decide) (by decide)⟩
   ·exact ⟨hbp 3 (by decide) (by decide) x hbx, hs 2 (by decide) (by decide)⟩
  ·simp [pcv] at hp
   rcases hp with rfl | rfl | rfl | rfl | rfl <;> (dsimp only; omega)
  ·have e : inCol ((x - 1, 1) :: pcv x) x (x + y) = inCol (pcv x) x (x + y) := by
    unfold inCol
    rw [List.filter_cons_of_neg (by simp; omega)]
   rw [hx, e]
   exact Jz fun p hp => by simp [pcv] at hp; rcases hp with rfl | rfl | rfl | rfl <;> (dsimp only; omega)
  ·refine ZNT (j := (k - 1).toNat) (x := x) (by rw [Int.toNat_of_nonneg (by omega), Int.sub_mul, Int.one_mul]; omega) hy hxk hxe (by omega) g1 ?_
   have : ((x - 1, 1) :: pcv x).filter (fun p => decide (p ≠ (x, 1))) = [(x - 1, 1), (x + 1, 3), (x + 2, 0), (x + 3, 2)] := by
    rw [List.filter_cons_of_pos (by simp; omega)]
    simp [pcv]
   rw [this] at g2
   exact g2
 ·have hzk : x + y + y <= b + m * y := by
   have : (k + 1 + 1) * y <= m * y := Int.mul_le_mul_of_nonneg_right (by omega) (by omega)
   rw [Int.add_mul, Int.add_mul, Int.one_mul] at this
   omega
  generalize hz : x + y = z at *
  obtain rfl := ZEm (L := pcv (z - 4) ++ [(z + 1, 2)]) hC (by simp [Asc, pcv]; omega) (fun p => by simp [ZA4, pcv])
  refine ⟨z - 4, (z - 4 + 3, 2), by simp [Asc, pcv]; omega, by simp [pcv], fun p hp => ?_, fun p hp => ?_, ?_, rfl, fun r1 r2 g1 g2 => ?_⟩
  ·simp [pcv] at hp
   rcases hp with rfl | rfl | rfl | rfl | rfl
   ·exact ⟨hbp (-4) (by decide) (by decide) z hbz, hs 1 (by decide) (by decide)⟩
   ·exact ⟨by have := hbp (-3) (by decide) (by decide) z hbz; rwa [show z + -3 = z - 4 + 1 by omega] at this, hs 3 (by decide) (by decide)⟩
   ·exact ⟨by have := hbp (-2) (by decide) (by decide) z hbz; rwa [show z + -2 = z - 4 + 2 by omega] at this, hs 0 (by decide) (by decide)⟩
   ·exact ⟨by have := hbp (-1) (by decide) (by decide) z hbz; rwa [show z + -1 = z - 4 + 3 by omega] at this, hs 2 (by decide) (by decide)⟩
   ·exact ⟨hbp 1 (by decide) (by decide) z hbz, hs 2 (by decide) (by decide)⟩
  ·simp [pcv] at hp
   rcases hp with rfl | rfl | rfl | rfl | rfl <;> (dsimp only; omega)
  ·have e : inCol (pcv (z - 4) ++ [(z + 1, 2)]) x z = inCol (pcv (z - 4)) x z := by
    unfold inCol
    rw [Vs, List.filter_cons_of_neg (by simp; omega)]
    simp
   rw [hx, hz, e]
   exact Jz fun p hp => by simp [pcv] at hp; rcases hp with rfl | rfl | rfl | rfl <;> (dsimp only; omega)
  ·refine ZNU (j := (k + 1).toNat) (z := z) (by rw [Int.toNat_of_nonneg (by omega), Int.add_mul, Int.one_mul]; omega) hy (by omega) hzk (by omega) g1 ?_
   have : (pcv (z - 4) ++ [(z + 1, 2)]).filter (fun p => decide (p ≠ (z - 4 + 3, 2))) = [(z - 4, 1), (z - 4 + 1, 3), (z - 4 + 2, 0), (z + 1, 2)] := by
    rw [Vs, List.filter_cons_of_pos (by simp; omega)]
    simp [pcv]
   rw [this] at g2
   exact g2
theorem ZCb {K : W.Frag} {H : Hp} : ∀ {vs : List V} {rss : List (List Int)}, ZAE H vs rss -> ZAU K H vs (rss.map fun rs => PyData.list (rs.map PyData.int))
 | _, _, .nil => .nil
 | _, _, .cons ⟨b, e, z⟩ t => by
  subst e
  exact .cons (.lst (SqL.of z) (L2.ints_dats _)) (ZCb t)
theorem ZCc : ∀ rss : List (List Int), PyData.canLayAll0 (rss.map fun rs => PyData.list (rs.map PyData.int)) = true
 | [] => rfl
 | rs :: rss => by
  show (PyData.canLayAll0 (rs.map PyData.int) && PyData.canLayAll0 (rss.map fun rs => PyData.list (rs.map PyData.int))) = true
  rw [ZCc rss, ints_lay rs]
  rfl
theorem ZCw : ∀ rss : List (List Int), PyData.depthAll (rss.map fun rs => PyData.list (rs.map PyData.int)) <= 55
 | [] => by decide
 | rs :: rss => by
  have h1 := L2.ints_depth rs
  have h2 := ZCw rss
  show PyData.depthAll (PyData.list (rs.map PyData.int) :: rss.map fun rs => PyData.list (rs.map PyData.int)) <= 55
  simp only [PyData.depthAll, PyData.depth]
  omega
theorem ZEX : ∀ l m : List (List Int), PyData.eqvAll (l.map fun rs => PyData.list (rs.map PyData.int)) (m.map fun rs => PyData.list (rs.map PyData.int)) = decide (l = m)
 | [], [] => rfl
 | [], q :: m => by simp [PyData.eqvAll]
 | p :: l, [] => by simp [PyData.eqvAll]
 | p :: l, q :: m => by
  show (PyData.eqvAll (p.map PyData.int) (q.map PyData.int) && PyData.eqvAll (l.map fun rs => PyData.list (rs.map PyData.int)) (m.map fun rs => PyData.list (rs.map PyData.int))) = _
  rw [ZEX l m, ZCE p q]
  by_cases h1 : p = q <;> by_cases h2 : l = m <;> simp [h1, h2]
theorem ZIX {K : W.Frag} {H : Hp} {Q : VK} {c e : Addr} {vs ws : List V} {l m : List (List Int)} (h1 : H c = some (.lst vs)) (p1 : ZAE H vs l) (h2 : H e = some (.lst ws)) (p2 : ZAE H ws m) (h : Q (.bl (!decide (l = m))) H) : ZE6 K (.ref c) (.ref e) H Q := by
 refine ZE7 (.lst (SqL.of h1) (ZCb p1)) (.lst (SqL.of h2) (ZCb p2)) (ZCc l) (ZCc m) ?_ ?_
 ·have := ZCw l
  simp only [PyData.depth]
  omega
 ·rw [show PyData.eqv (.list (l.map fun rs => PyData.list (rs.map PyData.int))) (.list (m.map fun rs => PyData.list (rs.map PyData.int))) = decide (l = m) from ZEX l m]
  exact h
theorem ZLY {xs : List V} {v : V} (h : xs[xs.length - 1]? = some v) : atI xs (-1) = some v := by
 have hne : xs ≠ [] := fun z => by rw [z] at h; cases h
 have e : xs = xs.dropLast ++ [v] := by
  rw [<- List.getLast?_eq_getElem?, List.getLast?_eq_some_getLast hne] at h
  rw [<- Option.some.inj h, List.dropLast_concat_getLast hne]
 rw [e]
 exact ZI0 _ _
theorem ZNh (B : Int) : (ddp (ZEn B)).length = 4 := by simp [ddp, ZEn]
section
variable {P : Program} {w : World} {K : W.Frag} {mg : Str -> Option Value} {base : Heap} {a : Ad}
local macro_rules | `(tactic| walk_at "rd") => `(tactic| first
 | with_reducible refine ZDh ?_)
def ZLZ : Sp := fun vs H Q _ => ∃ (q u t h : Addr) (cv : PL) (b y m k part B : Int) (pt : Int × Int), vs = [.ref q, .int k, .int part, .ref u] /\ H q = some (.tup [.int b, .int y, .int m]) /\ ZJx b y m /\ 0 <= k /\ k < m /\ 0 <= part /\ part <= 3 /\
 H u = some (.tup [.ref t, .ref h]) /\ PrT H t cv /\ H h = some (.tup [.int 0, .int 1, .int 4]) /\ ZIW b y m k part cv B pt /\ ∀ H', JM H H' -> Q (.bl true) H'
theorem Jx : Jd ["_law_window_here", "_law_k", "_law_part", "_law_told", "_law_curve", "_law_heights", "_law_begin", "_law_wide", "_law_many", "_law_x", "_law_some_here", "_law_four", "_law_rest", "_law_drawn"] ["_law_window_here", "_law_k", "_law_part", "_law_told"] (JL ZAr) := ZAM
theorem ZHO (T : Txt K mg a) : Jt P w K mg base CX0 4 a.Zm a.Zl ["_law_window_here", "_law_k", "_law_part", "_law_told"] ZLZ := by
 refine T.YS.ok Jx (by walk_at "l") (fun cdv A outer s H vs Q E hr h => ?_)
 ·obtain ⟨q, u, t, h, cv, b, y, m, n, part, B, pt, rfl, hq, hW, hn0, hn1, hp0, hp3, hU, hT, hh, hO, k⟩ := h
  have hu := ZCe hr
  have hu64 := hr.units
  obtain ⟨us, gT, pT⟩ := id hT
  have hul : us.length = cv.length := pT.length
  have hlen := hO.len
  obtain ⟨hb, hy, hby, hm1, hm8⟩ := id hW
  refine ⟨_, QB.h (JI (Jq (QW.pt (ZB9 (J7 (ZAJ (Je (ZBb K rfl) rfl T.ZA J4 (JG (qv 3) (JG (ZA8 (v := .ty "tuple") rfl T.ZG ZA7 rfl) JH))))) (ZBY (JZ (ZGi) (Je (ZB1 K rfl) rfl T.ZM ZBV (JG (qv 3) JH)) JF (JV _))))) (JK (JX ZAZ)) Ja) (JI (ZAy (qv 3) (ZAz (n := 2) K rfl rfl (Jc (qgN (i := 4) Jx.nd) (Jc (qgN (i := 5) Jx.nd) ZAg)))) (JI (Jq (QW.pt (ZB9 (J7 (ZAJ (qcS (ZEe T) hr.m T.YZ T.Zv.kp T.Yg (JG (qv 4) JH)))) (ZBY (J7 (ZAJ (qcS (ZDI T) hr.m T.YG T.ZU.kp T.YB (JG (qv 5) JH))))))) (JK (JX ZAZ)) Ja) (JI (ZAy (qv 0) (ZAz (n := 3) K rfl rfl (Jc (qgN (i := 6) Jx.nd) (Jc (qgN (i := 7) Jx.nd) (Jc (qgN (i := 8) Jx.nd) ZAg))))) (JI (Jq (JZ (ZDT K rfl hu64) (ZBP (N := ["_law_window_here", "_law_k", "_law_part", "_law_told", "_law_curve", "_law_heights", "_law_begin", "_law_wide", "_law_many", "_law_x", "_law_some_here", "_law_four", "_law_rest", "_law_drawn"]) (sc := JL ZAr) (own := ["_law_sample"]) (caps := ["_law_begin", "_law_wide", "_law_many"]) (ks := [6, 7, 8]) rfl rfl rfl ⟨rfl, by decide +kernel, by decide +kernel, by decide +kernel, by decide +kernel, rfl, by decide +kernel⟩ (ZBc K rfl (qv 4)) (fun _ _ _ _ _ => J3 (i := 0) (show List.Nodup (α := Str) ["_law_sample", "_law_begin", "_law_wide", "_law_many"] from by decide +kernel) rfl (by walk_at "o") (.inr rfl)) (fun _ _ _ _ _ => ZAc (J7 (ZA9 ZBm ZAT (qv 1) (JW (Jf K rfl) (qv 0) JF) (JN Jl (qv 1) (JN Ji (qv 2) (qv 3)))))) (fun _ _ _ _ _ => qv 0)) (ZAi JH) (JV _)) (JK (JX ZAZ)) Ja) (JI (qsS (i := 9) Jx.nd (JN Jl (qv 6) (JN Ji (qv 1) (qv 7)))) (JI (ZBQ (N := ["_law_window_here", "_law_k", "_law_part", "_law_told", "_law_curve", "_law_heights", "_law_begin", "_law_wide", "_law_many", "_law_x", "_law_some_here", "_law_four", "_law_rest", "_law_drawn"]) (sc := JL ZAr) (own := ["_law_sample"]) (caps := ["_law_x", "_law_wide"]) (ks := [9, 7]) (i := 10) rfl rfl rfl ⟨rfl, by decide +kernel, by decide +kernel, by decide +kernel, by decide +kernel, rfl, by decide +kernel⟩ Jx.nd rfl (by walk_at "o") (ZBc K rfl (qv 4)) (fun _ _ _ _ _ => J3 (i := 0) (show List.Nodup (α := Str) ["_law_sample", "_law_x", "_law_wide"] from by decide +kernel) rfl (by walk_at "o") (.inr rfl)) (fun _ _ _ _ _ => ZAc (ZA9 ZBm ZAT (qv 1) (JW (Jf K rfl) (qv 0) JF) (JN Jl (qv 1) (qv 2)))) (fun _ _ _ _ _ => qv 0)) (JI (Jq (JZ (ZAT) (Je (ZB1 K rfl) rfl T.ZM ZBV (JG (qv 10) JH)) JF (JV _)) (JK (JX ZAZ)) Ja) (JI (qsS (i := 11) Jx.nd (ZAi (JG (JW (ZAC K rfl) (qv 10) JF) (JG (JW (ZAC K rfl) (qv 10) (ZJ4 ZHX JF)) (JG (qcS (ZDn T) hr.m T.YO T.Zr.kp T.YR (JG (qv 10) (JG JF JH))) (JG (qcS (ZDn T) hr.m T.YO T.Zr.kp T.YR (JG (qv 10) (JG (ZJ4 ZHX JF) JH))) JH)))))) (JI (qsS (i := 12) Jx.nd (ZDS (ZE5 K rfl) rfl T.ZG ZA7 (JG (ZBP (N := ["_law_window_here", "_law_k", "_law_part", "_law_told", "_law_curve", "_law_heights", "_law_begin", "_law_wide", "_law_many", "_law_x", "_law_some_here", "_law_four", "_law_rest", "_law_drawn"]) (sc := JL ZAr) (own := ["_law_sample"]) (caps := ["_law_four", "_law_part"]) (ks := [11, 2]) rfl rfl rfl ⟨rfl, by decide +kernel, by decide +kernel, by decide +kernel, by decide +kernel, rfl, by decide +kernel⟩ (ZBc K rfl (qv 4)) (fun _ _ _ _ _ => J3 (i := 0) (show List.Nodup (α := Str) ["_law_sample", "_law_four", "_law_part"] from by decide +kernel) rfl (by walk_at "o") (.inr rfl)) (fun _ _ _ _ _ => ZAc (JZ (ZDT K rfl hu64) (qv 0) (JW (ZAC K rfl) (qv 1) (qv 2)) (JV _))) (fun _ _ _ _ _ => qv 0)) JH))) (JI (Jq (JZ (ZAT) (ZIE K rfl rfl hu64 rfl T.ZM rfl T.YW (JG (qv 11) JH)) JF (JV _)) (JK (JX ZAZ)) Ja) (JI (qsS (i := 13) Jx.nd (qcS (ZEV T) hr T.YY T.Z2.kp T.YX (JG (qv 4) (JG (qv 0) (JG (qv 5) JH))))) (JK (JX (ZBO (ZDT K rfl hu64) (qv 13) (qcS (ZEV T) hr T.YY T.Z2.kp T.YX (JG (qv 12) (JG (qv 0) (JG (qv 5) JH)))) (JV _)))))))))))))))), ?_⟩
  walk_at "s"
  walk_at "w"
  refine ZBX (.tup hU) (ZBr _) ?_
  walk_at "w"
  refine Jp ?_
  walk_at "w"
  refine Jp ?_
  walk_at "w"
  refine ⟨t, cv, rfl, hT, hO.asc, by omega, fun H1 S1 => ?_⟩
  walk_at "w"
  refine Jp ?_
  walk_at "w"
  refine ⟨h, rfl, S1 _ _ hh, fun H2 S2 => ?_⟩
  walk_at "w"
  refine Jp ?_
  have S02 := S1.trans S2
  have hq2 := S02 _ _ hq
  have gT2 := S02 _ _ gT
  have pT2 := pT.same S02
  walk_at "w"
  intro l3 n3
  refine ZAH cv.length (fun i U' H' => (∃ o, U' = [o, some (.int b), some (.int y), some (.int m)]) /\ JM H2 H' /\ H' l3 = some (.lst [])) ?_ ?_ ?_
  ·exact ⟨⟨none, rfl⟩, JM.new n3, JO⟩
  ·rintro U' H3 ⟨_, S3, f3⟩
   refine ⟨⟨_, SqT.of (S3 _ _ gT2), by rw [hul]; exact Ue _⟩, ?_⟩
   walk_at "w"
   refine JR (by show 0 <= sizeLine; decide) fun l4 H4 n4 f4 S4 => ?_
   refine ZGV (ns := []) (S4 _ _ f3) f4 ?_
   have S24 := S3.trans S4
   have gT4 := S24 _ _ gT2
   have pT4 := pT2.same S24
   have hq4 := S24 _ _ hq2
   walk_at "w"
   refine Jp ?_
   walk_at "w"
   generalize hx : b + n * y = x
   intro l5 n5
   refine ZAH cv.length (fun i' U' H' => (∃ o, U' = [o, some (.int x), some (.int y)]) /\ JM H4 H' /\ ∃ vs, H' l5 = some (.lst vs) /\ JJ H' vs (inCol (cv.take i') x (x + y))) ?_ ?_ ?_
   ·exact ⟨⟨none, rfl⟩, JM.new n5, [], JO, .nil⟩
   ·rintro U' H5 ⟨_, S5, vs5, f5, hP5⟩
    refine ⟨⟨_, SqT.of (S5 _ _ gT4), by rw [hul]; exact Ue _⟩, ?_⟩
    rw [UG] at hP5
    have hcol := hO.col
    rw [hx] at hcol
    rw [hcol] at hP5
    have hvl : vs5.length = 4 := hP5.length
    walk_at "w"
    refine Ju (fun z => absurd z (by rw [hvl]; decide)) (fun _ => ?_)
    walk_at "w"
    obtain ⟨c0, q0, ec0, hq0, hc0⟩ := hP5.at (Uc (show 0 < vs5.length by omega))
    obtain ⟨c1, q1, ec1, hq1, hc1⟩ := hP5.at (Uc (show vs5.length - 1 < vs5.length by omega))
    have hx0 : vs5[0]? = some (.ref c0) := by rw [Uc (show 0 < vs5.length by omega), ec0]
    have hx1 : vs5[vs5.length - 1]? = some (.ref c1) := by rw [Uc (show vs5.length - 1 < vs5.length by omega), ec1]
    rw [hvl] at hq1
    obtain rfl : (B, 1) = q0 := Option.some.inj hq0
    obtain rfl : (B + 3, 2) = q1 := Option.some.inj hq1
    refine ZB0 (SqL.of f5) (ZCd (j := 0) hx0) ?_
    walk_at "w"
    refine ZB0 (SqL.of f5) (ZLY hx1) ?_
    walk_at "w"
    refine ⟨l5, pcv B, 1, rfl, ⟨vs5, f5, hP5⟩, by simp [pcv], .inl rfl, fun c2 q2 j2 hc2 hq2 hb2 => ?_⟩
    walk_at "w"
    refine ⟨l5, pcv B, -1, rfl, ⟨vs5, f5, hP5⟩, by simp [pcv], .inr rfl, fun c3 q3 j3 hc3 hq3 hb3 => ?_⟩
    have e2 : q2 = (B + 2, 0) := by
     have h0 := (hb2 2 (B + 2, 0) rfl).1
     rcases j2 with _ | _ | _ | _ | j
     ·obtain rfl := Option.some.inj hq2; dsimp only at h0; omega
     ·obtain rfl := Option.some.inj hq2; dsimp only at h0; omega
     ·exact (Option.some.inj hq2).symm
     ·obtain rfl := Option.some.inj hq2; dsimp only at h0; omega
     ·simp [pcv] at hq2
    have e3 : q3 = (B + 1, 3) := by
     have h0 := (hb3 1 (B + 1, 3) rfl).1
     rcases j3 with _ | _ | _ | _ | j
     ·obtain rfl := Option.some.inj hq3; dsimp only at h0; omega
     ·exact (Option.some.inj hq3).symm
     ·obtain rfl := Option.some.inj hq3; dsimp only at h0; omega
     ·obtain rfl := Option.some.inj hq3; dsimp only at h0; omega
     ·simp [pcv] at hq3
    subst e2 e3
    walk_at "w"
    refine JR (by show 4 <= sizeLine; decide) fun l6 H6 n6 f6 S6 => ?_
    have h46 : JJ H6 [.ref c0, .ref c1, .ref c2, .ref c3] (ZEn B) := .cons ⟨c0, rfl, S6 _ _ hc0⟩ (.cons ⟨c1, rfl, S6 _ _ hc1⟩ (.cons ⟨c2, rfl, S6 _ _ hc2⟩ (.cons ⟨c3, rfl, S6 _ _ hc3⟩ .nil)))
    have S46 := S5.trans S6
    have gT6 := S46 _ _ gT4
    have pT6 := pT4.same S46
    obtain ⟨cp, hxp, hcp⟩ : ∃ cp, [V.ref c0, .ref c1, .ref c2, .ref c3][part.toNat]? = some (.ref cp) /\ H6 cp = some (.tup [.int pt.1, .int pt.2]) := by
     have hlt : part.toNat < [V.ref c0, .ref c1, .ref c2, .ref c3].length := by simp; omega
     obtain ⟨cp, p', e1, e2, e3⟩ := h46.at (Uc hlt)
     rw [hO.four] at e2
     obtain rfl := Option.some.inj e2
     exact ⟨cp, by rw [Uc hlt, e1], e3⟩
    walk_at "w"
    intro l7 n7
    refine ZAH cv.length (fun i' U' H' => (∃ o, U' = [o, some (.ref l6), some (.int part)]) /\ JM H6 H' /\ ∃ vs, H' l7 = some (.lst vs) /\ JJ H' vs ((cv.take i').filter fun p => decide (p ≠ pt))) ?_ ?_ ?_
    ·exact ⟨⟨none, rfl⟩, JM.new n7, [], JO, .nil⟩
    ·rintro U' H7 ⟨_, S7, vs7, f7, hP7⟩
     refine ⟨⟨_, SqT.of (S7 _ _ gT6), by rw [hul]; exact Ue _⟩, ?_⟩
     rw [UG] at hP7
     walk_at "w"
     refine ZF2 (SqL.of f7) fun t8 H8 n8 f8 S8 => ?_
     have S68 := S7.trans S8
     walk_at "w"
     refine ZIF (SqL.of (S68 _ _ f6)) (h46.same S68) (by show 4 < 70; decide) ?_
     rw [ZNh]
     walk_at "w"
     refine Ju (fun z => absurd z (by decide)) (fun _ => ?_)
     have S48 := S46.trans S68
     have hq8 := S48 _ _ hq4
     have hh8 : H8 h = some (.tup [.int 0, .int 1, .int 4]) := S48 _ _ (S24 _ _ (S02 _ _ hh))
     have hW8 : Win H8 q b y m := ⟨hq8, hb.mono (by decide), by omega, hby.mono (by decide), hm1, by omega⟩
     have hH8 : Hts H8 h 0 1 4 := ⟨hh8, by unfold Bn; decide, by decide, by unfold Bn; decide, by decide, by decide⟩
     have hT8 : PrT H8 t cv := ⟨us, S48 _ _ gT4, pT4.same S48⟩
     have hsub : ∀ p ∈ cv.filter (fun p => decide (p ≠ pt)), p ∈ cv := fun p hp => (List.mem_filter.mp hp).1
     walk_at "w"
     refine ⟨t, q, h, cv, b, y, m, 0, 1, 4, rfl, hT8, hW8, hH8, hO.asc, hO.bp, by omega, fun u9 vs9 r9 H9 f9 hR9 hO9 S9 => ?_⟩
     walk_at "w"
     refine ⟨t8, q, h, _, b, y, m, 0, 1, 4, rfl, ⟨vs7, S9 _ _ f8, (hP7.same S8).same S9⟩, hW8.same S9, hH8.same S9, List.Pairwise.filter _ hO.asc, fun p hp => hO.bp p (hsub p hp), UP (UW _ _) (by omega), fun u10 vs10 r10 H10 f10 hR10 hO10 S10 => ?_⟩
     walk_at "w"
     refine ZIX (S10 _ _ f9) (hR9.same S10) f10 hR10 ?_
     rw [decide_eq_false (hO.ne _ _ hO9 hO10)]
     walk_at "w"
     exact k H10 (S02.trans (S24.trans (S48.trans (S9.trans S10))))
    ·rintro i' U' H7 hi' ⟨⟨o, rfl⟩, S7, vs7, f7, hP7⟩
     have hi2 : i' < us.length := by rw [hul]; exact hi'
     refine ⟨⟨_, _, SqT.of (S7 _ _ gT6), Uc hi2⟩, ?_⟩
     rintro v H'' ⟨rfl, hv⟩
     have hv := hv _ (SqT.of (S7 _ _ gT6))
     obtain ⟨c, q', rfl, hq', hc⟩ := (pT6.same S7).at hv
     have e3 : (cv.take (i' + 1)).filter (fun p => decide (p ≠ pt)) = (cv.take i').filter (fun p => decide (p ≠ pt)) ++ (if decide (q' ≠ pt) = true then [q'] else []) := by
      rw [UY, hq', Vs]
      congr 1
      show List.filter _ [q'] = _
      rw [List.filter_cons, List.filter_nil]
     have hpn : part = ((part.toNat : Nat) : Int) := by omega
     walk_at "w"
     refine ZB0 (SqL.of (S7 _ _ f6)) (by rw [hpn]; exact ZCd hxp) ?_
     walk_at "w"
     refine ZLG (l := [q'.1, q'.2]) (m := [pt.1, pt.2]) hc (S7 _ _ hcp) ?_
     have ed : decide ([q'.1, q'.2] = [pt.1, pt.2]) = decide (q' = pt) := by
      by_cases z : q' = pt
      ·rw [z, decide_eq_true rfl, decide_eq_true rfl]
      ·rw [decide_eq_false z, decide_eq_false fun e => z (by simp at e; exact Prod.ext e.1 e.2)]
     rw [ed]
     walk_at "w"
     refine ZGt (fun z => ?_) (fun z => ?_)
     ·walk_at "w"
      refine ⟨vs7, f7, ?_, ⟨_, rfl⟩, S7.kpN n7 Kp.upd, _, JO, ?_⟩
      ·rw [hP7.length]
       refine Up (UW _ _) ?_
       rw [UI]
       exact Up (Nat.min_le_right _ _) (Up hlen (by decide))
      ·rw [e3, if_pos (decide_eq_true z)]
       exact JJ.kpL Kp.upd f7 (hP7.snoc hc)
     ·refine ⟨⟨_, rfl⟩, S7, vs7, f7, ?_⟩
      rw [e3, if_neg (by rw [decide_eq_true_iff]; exact fun g => g z), UL]
      exact hP7
   ·rintro i' U' H5 hi' ⟨⟨o, rfl⟩, S5, vs5, f5, hP5⟩
    have hi2 : i' < us.length := by rw [hul]; exact hi'
    refine ⟨⟨_, _, SqT.of (S5 _ _ gT4), Uc hi2⟩, ?_⟩
    rintro v H'' ⟨rfl, hv⟩
    have hv := hv _ (SqT.of (S5 _ _ gT4))
    obtain ⟨c, q', rfl, hq', hc⟩ := (pT4.same S5).at hv
    have e4 := ZG5 (x := x) (z := x + y) hq'
    walk_at "w"
    refine Ju (fun h1 => ?_) (fun h1 => ?_)
    ·walk_at "w"
     refine Ju (fun h2 => ?_) (fun h2 => ?_)
     ·walk_at "w"
      refine ⟨vs5, f5, ?_, ⟨_, rfl⟩, S5.kpN n5 Kp.upd, _, JO, ?_⟩
      ·rw [hP5.length]
       refine Up (UW _ _) ?_
       rw [UI]
       exact Up (Nat.min_le_right _ _) (Up hlen (by decide))
      ·rw [e4, decide_eq_true h1, decide_eq_true h2, Bool.and_self, if_pos rfl]
       exact JJ.kpL Kp.upd f5 (hP5.snoc hc)
     ·refine ⟨⟨_, rfl⟩, S5, vs5, f5, ?_⟩
      rw [e4, decide_eq_false h2, Bool.and_false, if_neg (by decide), UL]
      exact hP5
    ·walk_at "w"
     refine Jp ?_
     refine ⟨⟨_, rfl⟩, S5, vs5, f5, ?_⟩
     rw [e4, decide_eq_false h1, Bool.false_and, if_neg (by decide), UL]
     exact hP5
  ·rintro i U' H3 hi ⟨⟨o, rfl⟩, S3, f3⟩
   have hi2 : i < us.length := by rw [hul]; exact hi
   refine ⟨⟨_, _, SqT.of (S3 _ _ gT2), Uc hi2⟩, ?_⟩
   rintro v H'' ⟨rfl, hv⟩
   have hv := hv _ (SqT.of (S3 _ _ gT2))
   obtain ⟨c, q', rfl, hq', hc⟩ := (pT2.same S3).at hv
   have hwin := hO.win q' (Uu hq')
   walk_at "w"
   refine Ju (fun _ => ?_) (fun z => absurd hwin.1 z)
   walk_at "w"
   rw [decide_eq_true (show q'.1 < b + y * m by rw [Int.mul_comm y m]; exact hwin.2)]
   refine Jp ?_
   exact ⟨⟨_, rfl⟩, S3, f3⟩
end
theorem ZIY {m k r : Int} (h : r ∈ ZBs m k) : ZIV m k r := by
 unfold ZBs at h
 rw [Va, Va] at h
 rcases h with (h | h) | h
 ·simp at h
  rcases h with rfl | rfl
  ·exact .inl rfl
  ·exact .inr (.inl rfl)
 ·split at h
  ·rw [UK.mp h]
   exact .inr (.inr (.inl ⟨rfl, by omega⟩))
  ·cases h
 ·split at h
  ·rw [UK.mp h]
   exact .inr (.inr (.inr ⟨rfl, by omega⟩))
  ·cases h
section
variable {P : Program} {w : World} {K : W.Frag} {mg : Str -> Option Value} {base : Heap} {a : Ad}
def ZEo (K : W.Frag) : Sp := fun vs H Q _ => ∃ (s : Addr) (ns : List Int), vs = [.ref s] /\ SqL K H s (ns.map V.int) /\ ns.length <= 63 /\ ∀ H', Q (.bl true) H'
theorem ZBl : Jd ["_law_script", "_law_k", "_law_purse_here", "_law_window_here", "_law_j", "_law_part", "_law_told"] ["_law_script"] (JL ZAm) := ZAM
theorem ZM2 (T : Txt K mg a) : Jt P w K mg base CX0 5 a.Yk a.Ym ["_law_script"] (ZEo K) := by
 refine T.Y8.ok ZBl (by walk_at "l") (fun cdv A outer s H vs Q E hr h => ?_)
 ·obtain ⟨s, ns, rfl, hS, hn, k⟩ := h
  have hu := ZCe hr
  have hu64 := hr.units
  refine ⟨_, QB.h (JI (ZBa PassesOwn.never rfl (ZCR rfl T.ZV (JG (Je (ZHl rfl) rfl T.YV ZHi (JG JF (JG (Je (ZHm rfl) rfl T.YU ZHj (JG (Je (ZB1 K rfl) rfl T.ZM ZBV (JG (qv 0) JH)) (JG JF JH))) JH))) JH)) (qgN (i := 1) ZBl.nd) (JI (qsS (i := 2) ZBl.nd (qcS (ZHM T) hr.m T.Yx T.YQ.kp T.Ys (JG (qcS (ZII T) hr.m T.Y3 T.Yd.kp T.Y0 (JG (qv 0) (JG (qv 1) JH))) (JG (qv 1) JH)))) (JI (qsS (i := 3) ZBl.nd (qcS (ZFs T) hr.m T.Yp T.YF.kp T.Yn (JG (qv 2) JH))) (JI (qsS (i := 4) ZBl.nd (qcS (ZAK T) hr.m T.ZC T.ZB.kp T.ZD (JG (qv 2) (JG (JW (Jf K rfl) (qv 3) JF) JH)))) (JK (ZBa PassesOwn.never rfl (ZBA K rfl (qcS (ZIT T) hr.m T.Y1 T.Ya.kp T.Y2 (JG (qv 3) (JG (qv 4) JH)))) (qgN (i := 5) ZBl.nd) (JI (qsS (i := 6) ZBl.nd (qcS (ZHN T) hr.m T.Yu T.YN.kp T.Yw (JG (qv 3) (JG (qv 4) (JG (qv 5) JH))))) (JK (Jq (J7 (ZAJ (qcS (ZHO T) hr T.Yt T.YS.kp T.Yv (JG (qv 3) (JG (qv 4) (JG (qv 5) (JG (qv 6) JH))))))) (JK (JX ZAZ)) Ja))))))))) (JK (JX ZAZ))), ?_⟩
  walk_at "s"
  walk_at "w"
  generalize hj : (if (if (10 : Int) < ((ns.map V.int).length : Int) then (10 : Int) else ((ns.map V.int).length : Int)) > 1 then (if (10 : Int) < ((ns.map V.int).length : Int) then (10 : Int) else ((ns.map V.int).length : Int)) else 1) = j
  have hj1 : 1 <= j := by rw [<- hj]; split <;> omega
  have hj2 : j <= 10 := by rw [<- hj]; split <;> (try split) <;> omega
  refine ZE0 (by omega) (by omega) (ZF3 (fun i U H' => (∃ v1 v2 v3 v4 v5 v6, U = [some (.ref s), v1, v2, v3, v4, v5, v6]) /\ JM H H') ⟨⟨_, _, _, _, _, _, rfl⟩, JM.refl H⟩ ?_ ?_)
  ·rintro i U H1 hi ⟨⟨v1, v2, v3, v4, v5, v6, rfl⟩, S1⟩
   have hi2 : (i : Int) < 10 := by omega
   walk_at "w"
   refine ⟨s, ns, _, rfl, S1.seq hS, by omega, ?_⟩
   walk_at "w"
   refine ⟨_, _, rfl, by omega, by omega, fun p H2 n2 P2 S2 => ?_⟩
   walk_at "w"
   refine ⟨p, rfl, P2, fun q b y m H3 hq3 hW P3 K3 => ?_⟩
   have hm1 := hW.2.2.2.1
   have hm8 := hW.2.2.2.2
   have hy := hW.2.1
   have S13 : JM H1 H3 := S2.kpN n2 K3
   walk_at "w"
   refine ⟨p, _, rfl, P3, by omega, Int.lt_of_le_of_lt hm8 (by decide), fun d4 H4 h4 h4' P4 K4 => ?_⟩
   have hq4 := K4 _ _ hq3 (P3.ne_tup hq3)
   have S14 : JM H1 H4 := S13.kpN n2 K4
   walk_at "w"
   refine ⟨q, b, y, m, d4, rfl, hq4, fun l5 H5 n5 f5 S5 => ?_⟩
   have hq5 := S5 _ _ hq4
   walk_at "w"
   refine ZDt (xs := (ZBs m d4).map V.int) (fun i' U H' => (∃ v5 v6, U = [some (.ref s), some (.int (0 + (i : Int))), some (.ref p), some (.ref q), some (.int d4), v5, v6]) /\ JM H5 H') ?_ ?_ ?_ ?_
   ·exact ⟨⟨_, _, rfl⟩, JM.refl _⟩
   ·rintro i' U H6 _ ⟨_, S6⟩
    exact SqL.of (S6 _ _ f5)
   ·rintro i' xv U H6 hx ⟨⟨v5', v6', rfl⟩, S6⟩
    rw [UB] at hx
    obtain ⟨r, hr', rfl⟩ := Option.map_eq_some_iff.mp hx
    have hpart := ZIY (Uu hr')
    have hq6 := S6 _ _ hq5
    have hr03 : 0 <= r /\ r <= 3 /\ ¬ (r = 0 /\ d4 = 0) /\ ¬ (r = 1 /\ d4 = m - 1) := by
     rcases hpart with rfl | rfl | ⟨rfl, h⟩ | ⟨rfl, h⟩ <;> omega
    walk_at "w"
    refine ⟨q, b, y, m, d4, r, rfl, hq6, h4, h4', by omega, ⟨hy, hr03.1, hr03.2.1, hr03.2.2.1, hr03.2.2.2⟩, fun u7 t7 h7 cv7 H7 f7 hP7 hC7 fh7 S7 => ?_⟩
    obtain ⟨B, pt, hO⟩ := ZJz hW h4 h4' hpart hC7
    walk_at "w"
    refine ⟨q, u7, t7, h7, cv7, b, y, m, d4, r, B, pt, rfl, S7 _ _ hq6, hW, h4, h4', hr03.1, hr03.2.1, f7, hP7, fh7, hO, fun H8 S8 => ?_⟩
    walk_at "w"
    refine Jp ?_
    walk_at "w"
    exact ⟨⟨_, _, rfl⟩, S6.trans (S7.trans S8)⟩
   ·rintro U H6 ⟨⟨v5', v6', rfl⟩, S6⟩
    walk_at "w"
    exact ⟨⟨_, _, _, _, _, _, rfl⟩, S1.trans (S14.trans (S5.trans S6))⟩
  ·rintro U H1 ⟨⟨v1, v2, v3, v4, v5, v6, rfl⟩, S1⟩
   walk_at "w"
   exact k H1
end
structure FnH (K : W.Frag) (x : Str) (st : Stmt) (f : Addr) (d : FuncData) : Prop where
 a : W.nsIn K mainGlobals x = some (some (.ref f))
 F : Fun K x x st f d
open PySem.W in
theorem all_mk {l : OpenLaw} {w : World} {K : Frag} {h : Heap} {mg : Str -> Option Value} {fa : Addr} (X : K.In h) (G : h.Ns mainGlobals mg) (hfa : mg "law" = some (.ref fa))
 {ZE ZF : Addr}
 {f0 f1 f2 f3 f4 f5 f6 f7 f8 f9 f10 f11 f12 f13 f14 f15 f16 f17 f18 f19 f20 : Addr} {d0 d1 d2 d3 d4 d5 d6 d7 d8 d9 d10 d11 d12 d13 d14 d15 d16 d17 d18 d19 : FuncData}
 {od20 an20 : Option Addr} {sl20 : Array (Option Value)} {oc20 kV20 dc20 pm20 cd20 ct20 : Value}
 (e_NoColumn : ZMj K "NoColumn" ZE)
 (e_NotApart : ZMj K "NotApart" ZF)
 (F0 : FnH K "is_whole" ZCI f0 d0)
 (F1 : FnH K "curve_of" ZBM f1 d1)
 (F2 : FnH K "times_of" ZCJ f2 d2)
 (F3 : FnH K "parting" ZCX f3 d3)
 (F4 : FnH K "check_parting" ZA2 f4 d4)
 (F5 : FnH K "_law_cell" ZDA f5 d5)
 (F6 : FnH K "_law_purse" ZCY f6 d6)
 (F7 : FnH K "_law_draw" ZDB f7 d7)
 (F8 : FnH K "_law_less" ZDC f8 d8)
 (F9 : FnH K "_law_height" ZCK f9 d9)
 (F10 : FnH K "_law_met" ZCm f10 d10)
 (F11 : FnH K "_law_rows" ZBj f11 d11)
 (F12 : FnH K "_law_dots" ZBC f12 d12)
 (F13 : FnH K "_law_window" ZCL f13 d13)
 (F14 : FnH K "_law_first" ZCZ f14 d14)
 (F15 : FnH K "_law_is_whole" ZBk f15 d15)
 (F16 : FnH K "_law_is_curve" ZA3 f16 d16)
 (F17 : FnH K "_law_are_heights" ZAa f17 d17)
 (F18 : FnH K "_law_parts" ZAr f18 d18)
 (F19 : FnH K "_law_some" ZDD f19 d19)
 (a20 : nsIn K mainGlobals "law" = some (some (.ref f20)))
 (l20 : K.lookup f20 = some ⟨oc20, od20, .func (fnOf "law" "law" (ZAN ZAm) (ZAG ZAm) (JL ZAm) .none kV20 dc20 pm20 an20 cd20 ct20), sl20⟩) (c20 : codeIn K cd20 "law" = true) (k20 : keepIn K (.ref f20) = true)
 (Zu : nsIn K mainGlobals "ValueError" = some none)
 (Yj : nsIn K mainGlobals "abs" = some none)
 (Yf : nsIn K mainGlobals "bool" = some none)
 (YT : nsIn K mainGlobals "int" = some none)
 (ZA : nsIn K mainGlobals "isinstance" = some none)
 (ZM : nsIn K mainGlobals "len" = some none)
 (YV : nsIn K mainGlobals "max" = some none)
 (YU : nsIn K mainGlobals "min" = some none)
 (ZV : nsIn K mainGlobals "range" = some none)
 (YW : nsIn K mainGlobals "set" = some none)
 (ZY : nsIn K mainGlobals "sorted" = some none)
 (ZG : nsIn K mainGlobals "tuple" = some none)
 (Yr : nsIn K mainGlobals "zip" = some none)
   : ∃ fd : FuncData, (∀ (s : Shared) (v : Value), BindsTo s fd ⟨[v], []⟩ [("_law_script", v)]) /\ ∀ base : Heap, K.In base -> base.Ns mainGlobals mg -> Jt l.prog w K mg base CX0 5 fa fd ["_law_script"] (ZEo K) := by
  have e := hfa.symm.trans (mg_of X G a20)
  cases e
  have F20 := fun_mk (st := ZAm) l20 c20 k20
  have T : Txt K mg ⟨f0, d0, f1, d1, f2, d2, f3, d3, f4, d4, f5, d5, f6, d6, f7, d7, f8, d8, f9, d9, f10, d10, f11, d11, f12, d12, f13, d13, f14, d14, f15, d15, f16, d16, f17, d17, f18, d18, f19, d19, fa, fnOf "law" "law" (ZAN ZAm) (ZAG ZAm) (JL ZAm) .none kV20 dc20 pm20 an20 cd20 ct20, ZE, ZF⟩ := ⟨F0.F, (F0.F.b1 fun _ _ _ _ _ _ _ => rfl), (mg_of X G F0.a), F1.F, (F1.F.b1 fun _ _ _ _ _ _ _ => rfl), (mg_of X G F1.a), F2.F, (F2.F.b2 fun _ _ _ _ _ _ _ _ => rfl), (mg_of X G F2.a), F3.F, (F3.F.b3 fun _ _ _ _ _ _ _ _ _ => rfl), (mg_of X G F3.a), F4.F, (F4.F.b3 fun _ _ _ _ _ _ _ _ _ => rfl), (mg_of X G F4.a), F5.F, (F5.F.b2 fun _ _ _ _ _ _ _ _ => rfl), (mg_of X G F5.a), F6.F, (F6.F.b2 fun _ _ _ _ _ _ _ _ => rfl), (mg_of X G F6.a), F7.F, (F7.F.b2 fun _ _ _ _ _ _ _ _ => rfl), (mg_of X G F7.a), F8.F, (F8.F.b2 fun _ _ _ _ _ _ _ _ => rfl), (mg_of X G F8.a), F9.F, (F9.F.b3 fun _ _ _ _ _ _ _ _ _ => rfl), (mg_of X G F9.a), F10.F, (F10.F.b3 fun _ _ _ _ _ _ _ _ _ => rfl), (mg_of X G F10.a), F11.F, (F11.F.b2 fun _ _ _ _ _ _ _ _ => rfl), (mg_of X G F11.a), F12.F, (F12.F.b3 fun _ _ _ _ _ _ _ _ _ => rfl), (mg_of X G F12.a), F13.F, (F13.F.b1 fun _ _ _ _ _ _ _ => rfl), (mg_of X G F13.a), F14.F, (F14.F.b2 fun _ _ _ _ _ _ _ _ => rfl), (mg_of X G F14.a), F15.F, (F15.F.b1 fun _ _ _ _ _ _ _ => rfl), (mg_of X G F15.a), F16.F, (F16.F.b1 fun _ _ _ _ _ _ _ => rfl), (mg_of X G F16.a), F17.F, (F17.F.b1 fun _ _ _ _ _ _ _ => rfl), (mg_of X G F17.a), F18.F, (F18.F.b4 fun _ _ _ _ _ _ _ _ _ _ => rfl), (mg_of X G F18.a), F19.F, (F19.F.b2 fun _ _ _ _ _ _ _ _ => rfl), (mg_of X G F19.a), F20, (F20.b1 fun _ _ _ _ _ _ _ => rfl), (mg_of X G a20), e_NoColumn.ex, ⟨e_NoColumn.ga, e_NoColumn.gt, e_NoColumn.cl, e_NoColumn.ob, e_NoColumn.be⟩, (mg_of X G e_NoColumn.a), e_NotApart.ex, ⟨e_NotApart.ga, e_NotApart.gt, e_NotApart.cl, e_NotApart.ob, e_NotApart.be⟩, (mg_of X G e_NotApart.a), (mg_none_of X G Zu), (mg_none_of X G Yj), (mg_none_of X G Yf), (mg_none_of X G YT), (mg_none_of X G ZA), (mg_none_of X G ZM), (mg_none_of X G YV), (mg_none_of X G YU), (mg_none_of X G ZV), (mg_none_of X G YW), (mg_none_of X G ZY), (mg_none_of X G ZG), (mg_none_of X G Yr)⟩
  exact ⟨fnOf "law" "law" (ZAN ZAm) (ZAG ZAm) (JL ZAm) .none kV20 dc20 pm20 an20 cd20 ct20, fun s v => .of_eq rfl, fun base _ _ => ZM2 T⟩
theorem walk {l : W.OpenLaw} {q : Program} {loose : List Str} {XP : (Str -> Option Value) -> Heap -> Prop} {YP : World -> Heap -> Prop} {d : DefRec} {K : Params -> W.Frag} (hn : l.most = some 63) (hdf : d.params.defaults = [])
  (hY : ∀ (w : World) (h : Heap), YP w h -> (K w.params).In h)
  (F : ∀ (w : World) (mg : Str -> Option Value) (fa : Addr) (h : Heap), (K w.params).In h -> h.Ns mainGlobals mg -> mg d.name = some (.ref fa) ->
   ∃ fd : FuncData, (∀ (s : Shared) (u : Value), BindsTo s fd ⟨[u], []⟩ [("_law_script", u)]) /\ ∀ base : Heap, (K w.params).In base -> base.Ns mainGlobals mg -> Jt l.prog w (K w.params) mg base CX0 5 fa fd ["_law_script"] (ZEo (K w.params))) :
  W.WalkO q loose XP YP l.row.toRowW d [] (fun f vs => PySem.call f vs) :=
 L2.walk_of (n := 63) (k := 5) (x := "_law_script") (CX := fun _ => CX0) (sp := fun w => ZEo (K w.params)) hn (by decide) hdf ⟨rfl, by decide, by decide, rfl⟩ hY F (fun _ _ a ns hl _ hS => ⟨a, ns, rfl, hS, hl, fun _ => rfl⟩) fun _ _ _ _ _ z => z
end My
local macro_rules | `(tactic| walk_at "e") => `(tactic| (refine' ⟨?a, ?b, ?c, ?d, ?e, ?f, ?g⟩; (case a => k_is); (case b => k_exc); (case c => k_is); (case d => k_is); (case e => k_is); (case f => k_is); (case g => k_is)))
local macro_rules | `(tactic| walk_at "c") => `(tactic| (refine' ⟨?a, ?b, ?c, ?d, ?e, ?f, ?g⟩; (case a => k_is); (case b => k_is); (case c => k_is); (case d => k_is); (case e => k_is); (case f => k_is); (case g => k_is)))
local macro_rules | `(tactic| walk_at "f") => `(tactic| (refine' ⟨?a, L2.fun_mk ?b ?c ?d⟩; (case a => k_is); (case b => k_is); (case c => k_is); (case d => k_is)))
local macro_rules | `(tactic| walk_at "m") => `(tactic| (refine' ⟨?a, ?b, L2.fun_mk ?c ?d ?e⟩; (case a => k_is); (case b => k_is); (case c => k_is); (case d => k_is); (case e => k_is)))
namespace PySem.W.Fast
def tw5737762167587745696:=()
def tw12017055701546556900:=()
def tw10145115925997716358:=()
def tw11901624415021270254:=()
def tw8518575429069398895:=()
def tw14677746521111240016:=()
def tw9876487324961127029:=()
def tw14542777388563232281:=()
def tw11469278137855905211:=()
def tw8666931587528678991:=()
def tw13018802405311665854:=()
def tw456445753583860226:=()
def tw14219799558435963988:=()
def tw12929111460925387317:=()
def tw6468897356444739919:=()
def tw7217423446599382606:=()
def tw3205152429984138987:=()
def tw5822645133012828161:=()
def tw6875278565845118061:=()
def tw13221967960664822098:=()
def tw17231443722450604856:=()
def tw3796000997994734321:=()
def tw16890305380340245597:=()
def tw16554957296250018864:=()
def tw3715910870179238910:=()
def tw11264402333008979589:=()
def tw15319049449509261324:=()
def tw3083347894940251963:=()
def tw11599154498933619053:=()
def tw11483730136183764389:=()
def tw3692223475194121474:=()
def tw141280076529585670:=()
def tw6382039758766795028:=()
def tw6497796935135299782:=()
def tw3299896587567535443:=()
def tw12356459681575495318:=()
def tw15378785552786910255:=()
def tw2295049359847207556:=()
def tw5352870468078531786:=()
def tw7177707776652365874:=()
def tw17671320279731361552:=()
def tw4030652985197284597:=()
def tw4949066185734442891:=()
def tw809109630371484966:=()
def tw12032774714515294778:=()
def tw3740446136492679773:=()
def tw5978927970081952501:=()
def tw12931705820503279230:=()
def tw14626574850782696730:=()
def tw10293164528157082175:=()
def tw3876927630107462090:=()
def tw16555426078098617177:=()
def tw8464529872102017504:=()
def tw9115331894622369078:=()
def tw10557245058002350367:=()
def tw1917777757961744701:=()
def tw3744860985489976211:=()
def tw18432745189282018635:=()
def tw3857048609266080117:=()
def tw2316058417244178036:=()
def tw7802160959042812184:=()
def tw11737911174784116615:=()
end PySem.W.Fast
open PySem PySem.W PyProof.Rows
set_option maxRecDepth 100000 in
set_option maxHeartbeats 0 in
theorem PySem.Challenge.cw_fourpoints_k84_whole_none_to_spare_holds : PySem.Challenge.rw_fourpoints_k84_whole_none_to_spare.Holds := by
 w_on; o_law; k_head; (case hw => w_witness2)
 k_fill
 refine My.walk (l := PySem.Challenge.rw_fourpoints_k84_whole_none_to_spare) rfl rfl (fun w h Y => PySem.W.kIn_of Y) ?F
 case F =>
  intro w mg fa h KX G hmg
  refine' My.all_mk KX G hmg ?taa ?tab ?tac ?tad ?tae ?taf ?tag ?tah ?tai ?taj ?tak ?tal ?tam ?tan ?tao ?tap ?taq ?tar ?tas ?tat ?tau ?tav ?taw ?tax ?tay ?taz ?tba ?tbb ?tbc ?tbd ?tbe ?tbf ?tbg ?tbh ?tbi ?tbj ?tbk ?tbl ?tbm
  (case taa | tab => walk_at "e")
  (case tac | tad | tae | taf | tag | tah | tai | taj | tak | tal | tam | tan | tao | tap | taq | tar | tas | tat | tau | tav => walk_at "f")
  (case taw | tax | tay | taz | tba | tbb | tbc | tbd | tbe | tbf | tbg | tbh | tbi | tbj | tbk | tbl | tbm => k_is)
