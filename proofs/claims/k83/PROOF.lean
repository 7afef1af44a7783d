import PyProof.Rows.All
import Wide.All
import OpenK.AllK
import Wide.FinOn
import Lean
import PyProof.EqAt
import PyProof.EqKinds
import PyProof.TupleCall
import KE.KSortTup
import PyProof.CollectWalk
import PyProof.DictWalks
import PyProof.Rows.SortWalk
import KE.KItemsList
import PyProof.ReprText
import PyProof.Rows.StrIntSpec
import PyProof.RowDictHeap
import KE.KRevIter
import KE.KMinKey
import PyProof.P3In
import KE.KIntText
import PyProof.StrLawsTight
import PyProof.StrWalks
import PyProof.ListRange
import PyProof.DictValues
import PyProof.Rows.SortStr
import KE.KDictLaws
import PyProof.Rows.SortRuns
import PyProof.Rows.SortIns
import PyProof.TupleKey
import PyProof.Rows.SetFrom
import PySem.Challenge.RW_fourpoints_k83_how_many_are_kept
set_option Elab.async false
set_option linter.all false
set_option maxRecDepth 100000
set_option maxHeartbeats 4000000
-- CHANGE: your row's module here, as the last of these rows
abbrev L2.PL := List (Int × Int)
open PySem renaming wpAny_bind → Ua, wpAny_pure → Ug, wpAny_mono → UB, wpAny_holding → UJ, codeAny_builtin → UX
open PySem.Heap renaming get?_push_of_some → Ub, get?_push_size → Uf, lt_size → Uh, get?_update_other → Uw, size_push → UW
open List renaming getElem?_eq_getElem → Uc, mem_singleton → Ud, length_map → Ui, getElem?_eq_some_iff → Uj, mem_cons → Ul, lookup_cons → Um, size_toArray → Uq, mem_append_right → Ur, mem_cons_of_mem → Us, getElem?_map → Ut, mem_cons_self → Ux, mem_map → Uy, find?_cons → Uz, mem_of_getElem? → UC, range → UD, map_cons → UF, mem_append → UI, not_mem_nil → UK, map_congr_left → UL, map_append → UN, getElem_of_mem → UO, nodup_iff_pairwise_ne → UP, any_eq_true → UQ, length_append → UR, take_length → US, length_cons → UT, map_map → UU, length_take → UY, pairwise_iff_getElem → UZ, take_succ → Vc, mem_range → Vd, nodup_cons → Vf, lookup → Vg, nodup_append → Vk, getElem?_append_right → Vl, getElem_mem → Vm, nodup_nil → Vn, mem_append_left → Vo, length_pos_iff → Vq
open Nat renaming le_refl → Ue, lt_of_lt_of_le → Uk, ne_of_lt → Uo, lt_of_le_of_lt → Uu, zero_le → UE, le_trans → UG, lt_succ_self → UM, lt_irrefl → Vi, lt_succ_of_lt → Vj, lt_trichotomy → Vp
open Bool renaming false_eq_true → Uv, false_ne_true → UH
open Array renaming length_toList → UA, getD_eq_getD_getElem? → UV, getElem?_eq_getElem → Va, getElem?_toList → Vb, mem_toList_iff → Vh
open Option renaming map_some → Ve
namespace L2
open PySem PySem.Spec PyProof.Rows
abbrev Key := Sum Int Str
def ZFi : Key -> Value -> Bool
 | .inl k, v => Value.isInt k v
 | .inr x, v => Value.isStrOf x v
def ZUQ (w : World) : Key -> Int
 | .inl k => hashInt k
 | .inr x => hashStr w x
theorem ZC9 : ∀ {k : Key} {v : Value}, ZFi k v = true -> (∃ i t, k = Sum.inl i /\ v = Value.int i t) \/ (∃ x t, k = Sum.inr x /\ v = Value.str x t)
 | .inl i, v, h => by
  obtain ⟨t, e⟩ := Value.isInt_shape (k := i) (v := v) h
  exact .inl ⟨i, t, rfl, e⟩
 | .inr x, v, h => by
  obtain ⟨t, e⟩ := Value.isStrOf_shape (x := x) (v := v) h
  exact .inr ⟨x, t, rfl, e⟩
theorem ZND (i : Int) (t : Tok) : ZFi (.inl i) (.int i t) = true := by simp [ZFi, Value.isInt]
theorem ZNE (x : Str) (t : Tok) : ZFi (.inr x) (.str x t) = true := by simp [ZFi, Value.isStrOf]
theorem ZSH (a b : Int) : decide ((Sum.inl a : Key) = Sum.inl b) = (a == b) := by
 by_cases e : a = b
 ·subst e; simp
 ·have h : ¬ (Sum.inl a : Key) = Sum.inl b := fun q => e (Sum.inl.inj q)
  rw [decide_eq_false h]
  exact (beq_eq_false_iff_ne.mpr e).symm
theorem ZSI (a b : Str) : decide ((Sum.inr a : Key) = Sum.inr b) = decide (a = b) := by
 by_cases e : a = b
 ·subst e; simp
 ·have h : ¬ (Sum.inr a : Key) = Sum.inr b := fun q => e (Sum.inr.inj q)
  rw [decide_eq_false h, decide_eq_false e]
theorem ZSJ (a : Int) (b : Str) : decide ((Sum.inl a : Key) = Sum.inr b) = false := decide_eq_false (fun q => nomatch q)
theorem ZSK (a : Str) (b : Int) : decide ((Sum.inr a : Key) = Sum.inl b) = false := decide_eq_false (fun q => nomatch q)
def ZCo (prog : Program) (w : World) : PySem.KeyKind prog w Key where
 is := ZFi
 hash := ZUQ w
 inj := fun v a b ha hb => by
  rcases ZC9 ha with ⟨i, t, rfl, rfl⟩ | ⟨x, t, rfl, rfl⟩
  ·rcases ZC9 hb with ⟨j, u, rfl, e⟩ | ⟨y, u, rfl, e⟩
   ·injection e with e1 _; rw [e1]
   ·exact nomatch e
  ·rcases ZC9 hb with ⟨j, u, rfl, e⟩ | ⟨y, u, rfl, e⟩
   ·exact nomatch e
   ·injection e with e1 _; rw [e1]
 byValue := fun k v h => by
  rcases ZC9 h with ⟨i, t, rfl, rfl⟩ | ⟨x, t, rfl, rfl⟩ <;> rfl
 pyHash := fun hv h => by
  rcases ZC9 hv with ⟨i, t, rfl, rfl⟩ | ⟨x, t, rfl, rfl⟩
  ·exact wpAny_pyHash_int h
  ·exact wpAny_pyHash_str h
 eqBool := fun hu hv h => by
  rcases ZC9 hu with ⟨i, t, rfl, rfl⟩ | ⟨x, t, rfl, rfl⟩
  ·rcases ZC9 hv with ⟨j, u, rfl, rfl⟩ | ⟨y, u, rfl, rfl⟩
   ·rw [ZSH] at h; exact wpAny_eqBool_int h
   ·rw [ZSJ] at h; exact SeqAt.EqAt.int_str i t y u _ _ _ _ h
  ·rcases ZC9 hv with ⟨j, u, rfl, rfl⟩ | ⟨y, u, rfl, rfl⟩
   ·rw [ZSK] at h; exact SeqAt.EqAt.str_int x t j u _ _ _ _ h
   ·rw [ZSI] at h; exact wpAny_eqBool_str h
 «strs» := fun k x t v h => by
  rcases ZC9 h with ⟨i, u, rfl, e⟩ | ⟨y, u, rfl, e⟩
  ·exact nomatch e
  ·injection e with e1 _
   subst e1
   cases v <;> rfl
theorem ZLL (prog : Program) (w : World) (i : Int) (t : Tok) : (ZCo prog w).is (.inl i) (.int i t) = true := ZND i t
theorem ZLM (prog : Program) (w : World) (x : Str) (t : Tok) : (ZCo prog w).is (.inr x) (.str x t) = true := ZNE x t
inductive V where
 | non | bl (b : Bool) | int (i : Int) | str (x : Str) | byt (b : Array UInt8) | flt (b : UInt64) | ref (a : Addr) | ty (n : String)
 deriving DecidableEq
def ZCb : V -> Value -> Prop
 | .non, u => u = Value.none
 | .bl b, u => u = Value.bool b
 | .int i, u => ∃ t, u = Value.int i t
 | .str x, u => ∃ t, u = Value.str x t
 | .byt b, u => ∃ t, u = Value.bytes b t
 | .flt b, u => ∃ t, u = Value.float b t
 | .ref a, u => u = Value.ref a
 | .ty n, u => u = Value.type n
abbrev ZCh : List V -> List Value -> Prop := Paired ZCb
theorem ZCh.length {xs : List V} {us : List Value} (r : ZCh xs us) : xs.length = us.length := Paired.length r
theorem ZCh.get : ∀ {xs : List V} {us : List Value} {i : Nat} {x : V}, ZCh xs us -> xs[i]? = some x -> ∃ u, us[i]? = some u /\ ZCb x u
 | _, _, _, _, .nil, e => by simp at e
 | _, _, 0, _, .cons r _, e => by simp at e; subst e; exact ⟨_, rfl, r⟩
 | _, _, i + 1, x, .cons _ t, e => by
  obtain ⟨u, h1, h2⟩ := ZCh.get (i := i) (x := x) t (by simpa using e)
  exact ⟨u, by simpa using h1, h2⟩
theorem ZCh.set {x : V} {u : Value} (r : ZCb x u) : ∀ {xs : List V} {us : List Value} (i : Nat), ZCh xs us -> ZCh (xs.set i x) (us.set i u)
 | _, _, _, .nil => .nil
 | _, _, 0, .cons _ t => .cons r t
 | _, _, i + 1, .cons q t => .cons q (ZCh.set r i t)
theorem ZCh.append : ∀ {xs ys : List V} {us ws : List Value}, ZCh xs us -> ZCh ys ws -> ZCh (xs ++ ys) (us ++ ws)
 | _, _, _, _, .nil, s => s
 | _, _, _, _, .cons r t, s => .cons r (ZCh.append t s)
def ZDz : Option V -> Option Value -> Prop
 | some v, some u => ZCb v u
 | none, none => True
 | _, _ => False
def KV {κ : Type} : List (κ × V) -> List (κ × Value) -> Prop := Paired fun (p : κ × V) (q : κ × Value) => p.1 = q.1 /\ ZCb p.2 q.2
def kV : Key -> V
 | .inl i => .int i
 | .inr x => .str x
inductive HO where
 | lst (xs : List V)
 | tup (xs : List V)
 | dK (kvs : List (Key × V)) | dT (kvs : List (List Key × V))
 | set (S : Int -> Bool) (n : Nat)
 | ins (C dx : Addr) (fs : List (Str × V))
 | own (x : Addr)
 | xd (fs : List (Str × V))
 | met (f x : Addr)
 | rng (lo hi : Int)
 | frz (o : Obj) (u : HO)
 | tbl (ps : Array Value)
 | ext (φ : Heap -> Prop)
abbrev Hp := Addr -> Option HO
def upd (H : Hp) (a : Addr) (o : HO) : Hp := fun b => if b = a then some o else H b
theorem ZCZ {H : Hp} {a : Addr} {o : HO} : upd H a o a = some o := by unfold upd; rw [if_pos rfl]
theorem ZCe {H : Hp} {a b : Addr} {o : HO} (h : b ≠ a) : upd H a o b = H b := by unfold upd; rw [if_neg h]
theorem ZT3 {H : Hp} {a b : Addr} {o u : HO} (h : H a = some o) (h' : H b = some u) (d : o ≠ u) : a ≠ b := by
 intro e; subst e; rw [h] at h'; exact d (Option.some.inj h')
theorem ZDB {H : Hp} {a b : Addr} {o : HO} (h : H a = some o) (h' : H b = none) : a ≠ b := by
 intro e; subst e; rw [h] at h'; cases h'
section
variable (P : Program) (w : World)
def ZCu (H : Hp) (h : Heap) (a : Addr) : HO -> Prop
 | .lst xs => xs.length <= sizeLine /\ ∃ (its : List Value) (n : Nat), ZCh xs its /\ h.get? a = some { cls := .type "list", data := .seq its.toArray n }
 | .tup xs => (xs.length <= sizeLine /\ ((∀ i : Int, xs.head? ≠ some (.int i)) -> ∃ o, h.get? a = some o /\ o.dict = none /\ o.slots = #[])) /\ ∃ its : List Value, ZCh xs its /\ IsTup h a its.toArray
 | .dK kvs => kvs.length <= sizeLine /\ (a == sysModules) = false /\ ∃ vs, KV kvs vs /\ h.DictOf (ZCo P w) a vs
 | .dT kvs => kvs.length <= sizeLine /\ (a == sysModules) = false /\ ∃ xs : List (List Key × Addr × Value),
  Paired (fun (p : List Key × V) (q : List Key × Addr × Value) => p.1 = q.1 /\ H q.2.1 = some (.tup (p.1.map kV)) /\ ZCb p.2 q.2.2) kvs xs /\
  ∃ o es ep, h.get? a = some o /\ o.ExactDict /\ o.data = .dict es ep /\ es.toList = xs.map (entryOfKey (tupleKind (ZCo P w))) /\ (xs.map (·.1)).Nodup
 | .set S n => h.SetOf (intKind P w) a S n
 | .ins C dx fs => H dx = some (.own a) /\ fs.length <= 1000 /\ dx ≠ a /\ h.get? a = some (PySem.W.instObj C dx) /\
  ∃ mA, h.Ns1 dx mA /\ (∀ f, ZDz (fs.lookup f) (mA f)) /\ PySem.Within mA (fs.map (·.1))
 | .own _ => ∃ o, h.get? a = some o
 | .xd fs => ∃ mA, h.Ns1 a mA /\ ∀ f, ZDz (fs.lookup f) (mA f)
 | .rng lo hi => ∃ t u v, h.get? a = some { cls := .type "range", data := .fields #[.int lo t, .int hi u, .int 1 v] }
 | .frz o u => h.get? a = some o /\ ZCu H h a u
 | .tbl ps => h.get? a = some { cls := .none, data := .fields ps }
 | .met f x => h.get? a = some (PySem.W.methodObj (.ref f) (.ref x))
 | .ext φ => φ h /\ (∃ o, h.get? a = some o) /\ ∀ h1 h2 : Heap, φ h1 -> (∀ o, h1.get? a = some o -> h2.get? a = some o) -> φ h2
def HOk (H : Hp) (h : Heap) : Prop := ∀ a o, H a = some o -> ZCu P w H h a o
end
section
variable {P : Program} {w : World} {H H' : Hp} {h h' : Heap} {a : Addr} {o : HO}
theorem ZCu.lt (x : ZCu P w H h a o) : a < h.objs.size := by
 cases o with
 | lst xs => obtain ⟨_, _, _, _, e⟩ := x; exact Uh e
 | tup xs => obtain ⟨_, _, _, p⟩ := x; exact p.lt
 | dK kvs => obtain ⟨_, _, _, _, o, _, _, e, _⟩ := x; exact Uh e
 | dT kvs => obtain ⟨_, _, _, _, o, _, _, e, _⟩ := x; exact Uh e
 | set S n => obtain ⟨o, _, _, _, e, _⟩ := x; exact Uh e
 | ins C dx fs => obtain ⟨_, _, _, e, _⟩ := x; exact Uh e
 | own y => obtain ⟨_, e⟩ := x; exact Uh e
 | xd fs => obtain ⟨_, ⟨_, _, _, e, _⟩, _⟩ := x; exact Uh e
 | rng lo hi => obtain ⟨_, _, _, e⟩ := x; exact Uh e
 | frz ob u => obtain ⟨e, _⟩ := x; exact Uh e
 | tbl ps => exact Uh (show h.get? a = some _ from x)
 | met f y => exact Uh (show h.get? a = some _ from x)
 | ext φ => obtain ⟨_, ⟨_, e⟩, _⟩ := x; exact Uh e
theorem Paired.mapP {α β : Type} {F G : α -> β -> Prop} : ∀ {l₁ : List α} {l₂ : List β}, Paired F l₁ l₂ -> (∀ a b, F a b -> G a b) -> Paired G l₁ l₂
 | _, _, .nil, _ => .nil
 | _, _, .cons r t, f => .cons (f _ _ r) (Paired.mapP t f)
theorem ZCu.stay (x : ZCu P w H h a o) (k : ∀ b u, (b = a \/ H b = some (.own a)) -> h.get? b = some u -> h'.get? b = some u)
  (ho : ∀ b, H b = some (.own a) -> H' b = some (.own a)) (ht : ∀ b xs, H b = some (.tup xs) -> H' b = some (.tup xs)) : ZCu P w H' h' a o := by
 induction o with
 | lst xs => obtain ⟨z, its, n, r, e⟩ := x; exact ⟨z, its, n, r, k _ _ (.inl rfl) e⟩
 | tup xs =>
  obtain ⟨⟨z, pd⟩, its, r, ob, e, c⟩ := x
  exact ⟨⟨z, fun q => let ⟨od, ed, cd⟩ := pd q; ⟨od, k _ _ (.inl rfl) ed, cd⟩⟩, its, r, ob, k _ _ (.inl rfl) e, c⟩
 | dK kvs => obtain ⟨z, y, vs, r, ob, es, ep, e, c⟩ := x; exact ⟨z, y, vs, r, ob, es, ep, k _ _ (.inl rfl) e, c⟩
 | dT kvs =>
  obtain ⟨z, y, xs, r, ob, es, ep, e, c⟩ := x
  exact ⟨z, y, xs, Paired.mapP r fun p q z => ⟨z.1, ht _ _ z.2.1, z.2.2⟩, ob, es, ep, k _ _ (.inl rfl) e, c⟩
 | set S n => obtain ⟨ob, es, ep, t, e, c⟩ := x; exact ⟨ob, es, ep, t, k _ _ (.inl rfl) e, c⟩
 | ins C dx fs =>
  obtain ⟨d, z, ne, e, mA, ⟨od, es, ep, e2, c⟩, r⟩ := x
  exact ⟨ho _ d, z, ne, k _ _ (.inl rfl) e, mA, ⟨od, es, ep, k _ _ (.inr d) e2, c⟩, r⟩
 | own y => obtain ⟨ob, e⟩ := x; exact ⟨ob, k _ _ (.inl rfl) e⟩
 | xd fs => obtain ⟨mA, ⟨od, es, ep, e, c⟩, r⟩ := x; exact ⟨mA, ⟨od, es, ep, k _ _ (.inl rfl) e, c⟩, r⟩
 | rng lo hi => obtain ⟨t, u, v, e⟩ := x; exact ⟨t, u, v, k _ _ (.inl rfl) e⟩
 | frz ob u ih => obtain ⟨e, q⟩ := x; exact ⟨k _ _ (.inl rfl) e, ih q⟩
 | tbl ps =>
  have e : h.get? a = some { cls := .none, data := .fields ps } := x
  show h'.get? a = some { cls := .none, data := .fields ps }
  exact k a _ (.inl rfl) e
 | met f y =>
  have e : h.get? a = some (PySem.W.methodObj (.ref f) (.ref y)) := x
  show h'.get? a = some (PySem.W.methodObj (.ref f) (.ref y))
  exact k a _ (.inl rfl) e
 | ext φ => obtain ⟨p, ⟨o, e⟩, st⟩ := x; exact ⟨st _ _ p fun o q => k _ _ (.inl rfl) q, ⟨o, k _ _ (.inl rfl) e⟩, st⟩
theorem HOk.lt (x : HOk P w H h) (e : H a = some o) : a < h.objs.size := (x a o e).lt
theorem HOk.fresh (x : HOk P w H h) (e : h.objs.size <= a) : H a = none := by
 cases q : H a with
 | none => rfl
 | some u => exact absurd (Uk (x.lt q) e) (Vi _)
theorem HOk.kept (x : HOk P w H h) (k : ∀ b u, h.get? b = some u -> h'.get? b = some u) : HOk P w H h' := fun a o e =>
 (x a o e).stay (fun b u _ q => k b u q) (fun _ q => q) fun _ _ q => q
theorem HOk.laid (x : HOk P w H h) (k : ∀ b u, h.get? b = some u -> h'.get? b = some u) (hp : h.objs.size <= a) (new : ZCu P w (upd H a o) h' a o) : HOk P w (upd H a o) h' := fun b u e => by
 have hn := x.fresh hp
 by_cases hb : b = a
 ·subst hb; rw [ZCZ] at e; cases e; exact new
 ·rw [ZCe hb] at e
  exact (x b u e).stay (fun c v _ q => k c v q) (fun c q => by rw [ZCe (ZDB q hn)]; exact q) fun c xs q => by rw [ZCe (ZDB q hn)]; exact q
end
def Rd (H : Hp) (a : Addr) (u : HO) : Prop := H a = some u \/ ∃ o, H a = some (.frz o u)
theorem Rd.ok {P : Program} {w : World} {H : Hp} {h : Heap} {a : Addr} {u : HO} (r : Rd H a u) (x : HOk P w H h) : ZCu P w H h a u := by
 rcases r with r | ⟨o, r⟩
 ·exact x a u r
 ·obtain ⟨_, q⟩ := x a _ r
  exact q
def Mut : Option HO -> Prop
 | some (.lst _) => True
 | some (.dK _) => True
 | some (.dT _) => True
 | some (.set _ _) => True
 | some (.ins _ _ _) => True
 | some (.ext _) => True
 | _ => False
section
variable {P : Program} {w : World} {H : Hp} {h h' : Heap} {x e : Addr} {o' : HO}
theorem HOk.write (ok : HOk P w H h) (mu : Mut (H x)) (he : e = x \/ H e = some (.own x)) (k : ∀ b u, b ≠ e -> h.get? b = some u -> h'.get? b = some u) (heo : ∃ u, h'.get? e = some u)
  (new : ZCu P w (upd H x o') h' x o') : HOk P w (upd H x o') h' := fun b u q => by
 have nown : ∀ c y, H c = some (.own y) -> c ≠ x := fun c y r z => by subst z; rw [r] at mu; exact mu
 have ntup : ∀ c xs, H c = some (.tup xs) -> c ≠ x := fun c xs r z => by subst z; rw [r] at mu; exact mu
 by_cases hb : b = x
 ·subst hb; rw [ZCZ] at q; cases q; exact new
 ·rw [ZCe hb] at q
  by_cases hbe : b = e
  ·have q' : H b = some (.own x) := by
    rcases he with z | z
    ·exact absurd (hbe.trans z) hb
    ·rw [hbe]; exact z
   rw [q] at q'; cases q'
   obtain ⟨v, hv⟩ := heo
   exact ⟨v, by rw [hbe]; exact hv⟩
  ·refine (ok b u q).stay (fun c v hc r => k c v ?_ r) (fun c r => by rw [ZCe (nown c b r)]; exact r) fun c xs r => by rw [ZCe (ntup c xs r)]; exact r
   rcases hc with rfl | hc
   ·exact hbe
   ·rintro rfl
    rcases he with z | z
    ·exact nown c b hc z
    ·rw [hc] at z; cases z; exact hb rfl
end
structure Un (fs ex : List Addr) (H H' : Hp) (h h' : Heap) : Prop where
 keep : ∀ b o, h.get? b = some o -> H b = none -> b ∉ fs -> b ∉ ex -> h'.get? b = some o
 slot : ∀ b o, h.get? b = some o -> H b = none -> b ∈ fs -> b ∉ ex -> ∃ sl, h'.get? b = some { o with slots := sl }
 free : ∀ b o, h.get? b = some o -> H b = none -> b ∉ ex -> H' b = none
 there : ∀ b o, h.get? b = some o -> b ∉ ex -> ∃ o', h'.get? b = some o'
 tups : ∀ b xs, H b = some (.tup xs) -> H' b = some (.tup xs)
 frzs : ∀ b o u, H b = some (.frz o u) -> H' b = some (.frz o u)
 tbls : ∀ b ps, H b = some (.tbl ps) -> ∃ more, H' b = some (.tbl (ps ++ more))
section
variable {fs fs' ex ex' : List Addr} {H H1 H2 : Hp} {h h1 h2 h' : Heap} {a x e : Addr} {o : HO}
theorem Un.any (u : Un fs ex H H1 h h1) {b : Addr} {ob : Obj} (q : h.get? b = some ob) (n : H b = none) (hx : b ∉ ex) : ∃ sl, h1.get? b = some { ob with slots := sl } := by
 by_cases hb : b ∈ fs
 ·exact u.slot b ob q n hb hx
 ·exact ⟨ob.slots, u.keep b ob q n hb hx⟩
theorem Un.kept (k : ∀ b u, h.get? b = some u -> h'.get? b = some u) : Un fs ex H H h h' :=
 ⟨fun b ob q _ _ _ => k b ob q, fun b ob q _ _ _ => ⟨ob.slots, k b ob q⟩, fun _ _ _ n _ => n, fun b ob q _ => ⟨ob, k b ob q⟩, fun _ _ q => q, fun _ _ _ q => q, fun _ ps q => ⟨#[], by rw [q]; simp⟩⟩
theorem Un.refl : Un fs ex H H h h := Un.kept fun _ _ q => q
theorem Un.laid (k : ∀ b u, h.get? b = some u -> h'.get? b = some u) (hp : h.objs.size <= a) (hn : H a = none) : Un fs ex H (upd H a o) h h' where
 keep := fun b u q _ _ _ => k b u q
 slot := fun b u q _ _ _ => ⟨u.slots, k b u q⟩
 free := fun b u q n _ => by rw [ZCe (Uo (Uk (Uh q) hp))]; exact n
 there := fun b u q _ => ⟨u, k b u q⟩
 tups := fun b xs q => by rw [ZCe (ZDB q hn)]; exact q
 frzs := fun b u xs q => by rw [ZCe (ZDB q hn)]; exact q
 tbls := fun b ps q => ⟨#[], by rw [ZCe (ZDB q hn), q]; simp⟩
theorem Un.write (mu : Mut (H x)) (he : e = x \/ H e = some (.own x)) (k : ∀ b u, b ≠ e -> h.get? b = some u -> h'.get? b = some u) (heo : ∃ u, h'.get? e = some u) : Un fs ex H (upd H x o) h h' := by
 have hx : ∀ b, H b = none -> b ≠ x := fun b n z => by subst z; rw [n] at mu; exact mu
 have hb : ∀ b, H b = none -> b ≠ e := fun b n z => by
  subst z
  rcases he with r | r
  ·exact hx b n r
  ·rw [n] at r; cases r
 have hm : ∀ b u, H b = some u -> ¬ Mut (some u) -> b ≠ x := fun b u q nm z => by subst z; rw [q] at mu; exact nm mu
 refine ⟨fun b u q n _ _ => k b u (hb b n) q, fun b u q n _ _ => ⟨u.slots, k b u (hb b n) q⟩, fun b u q n _ => by rw [ZCe (hx b n)]; exact n, fun b u q _ => ?_,
  fun b xs q => by rw [ZCe (hm b _ q fun z => z)]; exact q, fun b u xs q => by rw [ZCe (hm b _ q fun z => z)]; exact q, fun b ps q => ⟨#[], by rw [ZCe (hm b _ q fun z => z), q]; simp⟩⟩
 by_cases hbe : b = e
 ·subst hbe; exact heo
 ·exact ⟨u, k b u hbe q⟩
end
def trk (h : Heap) (H : Hp) : List Addr := (UD h.objs.size).filter fun a => (H a).isSome
def ZGF (h : Heap) (H : Hp) : Heap := PySem.W.hideAll h (trk h H)
theorem ZNF (h : Heap) (H : Hp) : (ZGF h H).objs.size = h.objs.size := PySem.W.hideAll_size _ _
theorem ZOT {h : Heap} {H : Hp} {b : Addr} {o : Obj} (e : h.get? b = some o) (n : H b = none) : (ZGF h H).get? b = some o :=
 PySem.W.hideAll_get _ e fun hm => by
  have q : (H b).isSome = true := (List.mem_filter.mp hm).2
  rw [n] at q; simp at q
theorem ZQd {h : Heap} {H : Hp} {b : Addr} {o : Obj} (e : (ZGF h H).get? b = some o) : h.get? b = some o /\ H b = none := by
 have e' : h.get? b = some o := PySem.W.of_hideAll (trk h H) e
 refine ⟨e', ?_⟩
 cases q : H b with
 | none => rfl
 | some x =>
  have hm : b ∈ trk h H := List.mem_filter.mpr ⟨Vd.mpr (Uh e'), by simp [q]⟩
  have z : (ZGF h H).get? b = none := PySem.W.hideAll_none (trk h H) hm
  rw [z] at e; cases e
def ZQe (g h : Heap) (L : Addr) : List (Addr × Obj) := (UD h.objs.size).filterMap fun a => if a = L \/ (g.get? a).isSome = true then none else (h.get? a).map fun o => (a, o)
def ZDQ (g h : Heap) (L d : Addr) : List (Addr × Obj) := (ZQe g h L).filter fun p => decide (p.1 ≠ d)
structure Mod (K : W.Frag) (mg : Str -> Option Value) (base : Heap) : Prop where
 kin : K.In base
 glob : base.Ns mainGlobals mg
 blt : ∃ mb, base.Ns builtinsNs mb /\ ∀ x : Str, x ≠ "__name__" -> mb x = bootBuiltins x
 nolimit : base.NoLimit
structure Cx where
 prog : Program
 w : World
 K : W.Frag
 mg : Str -> Option Value
 base : Heap
 A : Around
 N : List Str
 s₀ : Shared
 H₀ : Hp
 env : Env
 outer : List Env
 stack : List Env
 ex : List Addr
 fn : Str -> Bool
 calm : Bool
 pn : List (Addr × Obj)
 xe : Value -> Shared -> Prop
def frs (l : List Env) : List Addr := l.filterMap (·.frame)
abbrev Cx.fs (X : Cx) : List Addr := frs X.outer
def Vis (sc : Scope) (x : Str) : Prop := sc.names.lookup x = some .local \/ sc.names.lookup x = some .cell \/ sc.names.lookup x = some .free
def Loc (sc : Scope) (x : Str) : Prop := sc.names.lookup x = some .local \/ sc.names.lookup x = some .cell
def ZUR (env : Env) (h : Heap) (m : Str -> Option Value) (x : Str) (u : Value) : Prop :=
 (env.kindOf x = some .local /\ m x = some u) \/ ((env.kindOf x = some .cell \/ env.kindOf x = some .free) /\ ∃ c, env.cells.lookup x = some c /\ h.IsCell c (some u))
structure Cx.Ok (X : Cx) : Prop where
 mod : Mod X.K X.mg X.base
 kind : X.env.scope.kind = .function
 glob : X.env.globals = mainGlobals
 blt : X.env.builtins = builtinsNs
 above : X.s₀.heap.objs.size <= X.env.locals
 inj : ∀ x y c, X.env.cells.lookup x = some c -> X.env.cells.lookup y = some c -> x = y
 has : ∀ x, (X.env.kindOf x = some .cell \/ X.env.kindOf x = some .free) -> ∃ c, X.env.cells.lookup x = some c
 cab : ∀ x c, X.fn x = true -> X.env.cells.lookup x = some c -> X.s₀.heap.objs.size <= c
 hd : X.calm = true -> X.A.handled = none
 frames : X.A.frames = some X.stack
 stk : X.stack = X.outer \/ (X.stack = X.env :: X.outer /\ X.env.frame = some X.env.locals)
 exf : ∀ b ∈ X.ex, b ≠ X.env.locals /\ ∀ x c, X.env.cells.lookup x = some c -> c ≠ b
 bs : ∀ b o, X.base.get? b = some o -> X.s₀.heap.get? b = some o /\ X.H₀ b = none
 bsz : X.base.objs.size <= X.s₀.heap.objs.size
 noex : ∀ b o, X.base.get? b = some o -> b ∉ X.ex
 exfs : ∀ b ∈ X.ex, b ∉ X.fs
 funs : X.s₀.heap.FunFrames X.base X.outer
 frf : ∀ b ∈ X.fs, X.H₀ b = none
structure Inv (X : Cx) (pins : List (Addr × Obj)) (U : List (Option V)) (H : Hp) (s : Shared) : Prop where
 ok : X.Ok
 os : s.os = X.s₀.os
 bare : AllBare s.gens
 base : Un X.fs X.ex X.H₀ H X.s₀.heap s.heap
 loc : ∃ m, s.heap.Ns X.env.locals m /\ ∀ (i : Nat) (x : Str) (v : V), X.N[i]? = some x -> U[i]? = some (some v) -> Vis X.env.scope x -> ∃ u, ZCb v u /\ ZUR X.env s.heap m x u
 cell : ∀ x c, X.env.cells.lookup x = some c -> ∃ v, s.heap.IsCell c v
 free : H X.env.locals = none
 freeC : ∀ x c, X.env.cells.lookup x = some c -> H c = none
 pin : ∀ p ∈ X.pn ++ pins, s.heap.get? p.1 = some p.2 /\ H p.1 = none /\ p.1 ≠ X.env.locals /\ p.1 ∉ X.fs /\ ∀ v, p.2.data ≠ .cell v
 hok : HOk X.prog X.w H s.heap
 len : U.length = X.N.length
section
variable {X : Cx} {pins : List (Addr × Obj)} {U : List (Option V)} {H H' : Hp} {s : Shared} {h' : Heap}
theorem Cx.Ok.nofr (ok : X.Ok) {b : Addr} {o : Obj} (e : X.base.get? b = some o) : b ∉ X.fs := fun hb => by
 have := (ok.funs.mem hb).1
 rw [e] at this; cases this
theorem Inv.bs (I : Inv X pins U H s) : ∀ b o, X.base.get? b = some o -> s.heap.get? b = some o /\ H b = none := fun b o e =>
 ⟨I.base.keep b o (I.ok.bs b o e).1 (I.ok.bs b o e).2 (I.ok.nofr e) (I.ok.noex b o e), I.base.free b o (I.ok.bs b o e).1 (I.ok.bs b o e).2 (I.ok.noex b o e)⟩
theorem Inv.bk (I : Inv X pins U H s) : ∀ b o, X.base.get? b = some o -> s.heap.get? b = some o := fun b o e => (I.bs b o e).1
theorem Inv.mod (I : Inv X pins U H s) : Mod X.K X.mg X.base := I.ok.mod
theorem Inv.kIn (I : Inv X pins U H s) : X.K.In s.heap := I.ok.mod.kin.keeps I.bk
theorem Inv.lt (I : Inv X pins U H s) : X.env.locals < s.heap.objs.size := let ⟨_, hn, _⟩ := I.loc; hn.lt
theorem Inv.sz (I : Inv X pins U H s) : X.s₀.heap.objs.size <= s.heap.objs.size := UG I.ok.above (Nat.le_of_lt I.lt)
theorem Inv.nofs (I : Inv X pins U H s) {a : Addr} (h : s.heap.objs.size <= a) : a ∉ X.fs := fun hb => by
 obtain ⟨_, o, ho, _⟩ := I.ok.funs.mem hb
 exact absurd (Uk (Uh ho) (UG I.sz h)) (Vi _)
theorem Inv.cne (I : Inv X pins U H s) : ∀ x c, X.env.cells.lookup x = some c -> c ≠ X.env.locals := fun x c e z => by
 obtain ⟨v, o, ho, hd⟩ := I.cell x c e
 obtain ⟨m, ⟨o', es, ep, ho', hd', _⟩, _⟩ := I.loc
 rw [z, ho'] at ho; cases ho; rw [hd'] at hd; cases hd
theorem Inv.funs (I : Inv X pins U H s) : s.heap.FunFrames X.base X.outer := by
 have all : ∀ (l : List Env), (∀ b ∈ frs l, b ∈ X.fs) -> X.s₀.heap.FunFrames X.base l -> s.heap.FunFrames X.base l := by
  intro l
  induction l with
  | nil => intro _ _; trivial
  | cons env r ih =>
   intro hs hl
   obtain ⟨hk, ⟨L, o, hf, hn, ho, hd⟩, hr⟩ := hl
   have hL : L ∈ X.fs := hs L (by unfold frs; rw [List.filterMap_cons, hf]; exact Ux)
   obtain ⟨sl, e⟩ := I.base.slot L o ho (I.ok.frf L hL) hL fun z => I.ok.exfs L z hL
   exact ⟨hk, ⟨L, _, hf, hn, e, hd⟩, ih (fun b hb => hs b (by unfold frs; rw [List.filterMap_cons, hf]; exact Us _ hb)) hr⟩
 exact all X.outer (fun _ hb => hb) I.ok.funs
theorem Inv.stack (I : Inv X pins U H s) : s.heap.FunFrames X.base X.stack := by
 rcases I.ok.stk with e | ⟨e, hf⟩
 ·rw [e]; exact I.funs
 ·rw [e]
  obtain ⟨m, hn, _⟩ := I.loc
  refine .cons (by rw [I.ok.kind]; decide) hf hn ?_ I.funs
  exact Heap.get?_none_of_le (UG I.ok.bsz I.ok.above)
theorem Inv.stkSub (I : Inv X pins U H s) : ∀ b ∈ frs X.stack, b ∈ X.env.locals :: X.fs := fun b hb => by
 rcases I.ok.stk with e | ⟨e, hf⟩
 ·rw [e] at hb; exact Us _ hb
 ·rw [e] at hb
  unfold frs at hb
  rw [List.filterMap_cons, hf] at hb
  exact hb
theorem Inv.stkFree (I : Inv X pins U H s) : ∀ b ∈ frs X.stack, H b = none := fun b hb => by
 rcases Ul.mp (I.stkSub b hb) with e | hb
 ·rw [e]; exact I.free
 ·obtain ⟨_, o, ho, _⟩ := I.ok.funs.mem hb
  exact I.base.free b o ho (I.ok.frf b hb) fun z => I.ok.exfs b z hb
theorem Inv.step {g' : Array GenState} {t' : Nat} {d' : Drawn} {ch : List Addr} (I : Inv X pins U H s)
  (hch : ∀ b ∈ ch, (b ∈ X.ex \/ X.s₀.heap.objs.size <= b) /\ b ≠ X.env.locals /\ (∀ x c, X.env.cells.lookup x = some c -> c ≠ b) /\ ∀ p ∈ X.pn ++ pins, p.1 ≠ b)
  (keep : ∀ b o, b ≠ X.env.locals -> b ∉ X.fs -> b ∉ ch -> s.heap.get? b = some o -> H b = none -> h'.get? b = some o)
  (slot : ∀ b o, b ≠ X.env.locals -> b ∈ X.fs -> b ∉ ch -> s.heap.get? b = some o -> H b = none -> ∃ sl, h'.get? b = some { o with slots := sl }) (free : ∀ b o, b ∉ ch -> s.heap.get? b = some o -> H b = none -> H' b = none)
  (there : ∀ b o, b ∉ ch -> s.heap.get? b = some o -> ∃ o', h'.get? b = some o')
  (tups : ∀ b xs, H b = some (.tup xs) -> H' b = some (.tup xs)) (frzs : ∀ b o u, H b = some (.frz o u) -> H' b = some (.frz o u)) (tbls : ∀ b ps, H b = some (.tbl ps) -> ∃ more, H' b = some (.tbl (ps ++ more)))
  (ns : ∀ m, s.heap.Ns X.env.locals m -> h'.Ns X.env.locals m) (hok : HOk X.prog X.w H' h') (hg : AllBare g') :
  Inv X pins U H' { s with heap := h', gens := g', drawn := d', toks := t' } := by
 have neL : ∀ b o, X.s₀.heap.get? b = some o -> b ≠ X.env.locals := fun b o e => Uo (Uk (Uh e) I.ok.above)
 have neC : ∀ b o, X.s₀.heap.get? b = some o -> b ∉ X.ex -> b ∉ ch := fun b o e hx hb => by
  rcases (hch b hb).1 with z | z
  ·exact hx z
  ·exact absurd (Uk (Uh e) z) (Vi _)
 have cellK : ∀ x c, X.env.cells.lookup x = some c -> ∀ v, s.heap.IsCell c v -> h'.IsCell c v := fun x c e v ⟨o, ho, hd⟩ => by
  have nch : c ∉ ch := fun z => (hch c z).2.2.1 x c e rfl
  by_cases hc : c ∈ X.fs
  ·obtain ⟨sl, q⟩ := slot c o (I.cne x c e) hc nch ho (I.freeC x c e)
   exact ⟨_, q, hd⟩
  ·exact ⟨o, keep c o (I.cne x c e) hc nch ho (I.freeC x c e), hd⟩
 refine ⟨I.ok, I.os, hg, ⟨fun b o e n hb hx => ?_, fun b o e n hb hx => ?_, fun b o e n hx => ?_, fun b o e hx => ?_, fun b xs e => tups b xs (I.base.tups b xs e), fun b o xs e => frzs b o xs (I.base.frzs b o xs e), fun b ps e => ?_⟩, ?_, fun x c e => ?_, ?_, fun x c e => ?_, fun p hp => ?_, hok, I.len⟩
 ·exact keep b o (neL b o e) hb (neC b o e hx) (I.base.keep b o e n hb hx) (I.base.free b o e n hx)
 ·obtain ⟨sl, e1⟩ := I.base.slot b o e n hb hx
  obtain ⟨sl', e2⟩ := slot b _ (neL b o e) hb (neC b o e hx) e1 (I.base.free b o e n hx)
  exact ⟨sl', e2⟩
 ·obtain ⟨o', e1⟩ := I.base.there b o e hx
  exact free b o' (neC b o e hx) e1 (I.base.free b o e n hx)
 ·obtain ⟨o', e1⟩ := I.base.there b o e hx
  exact there b o' (neC b o e hx) e1
 ·obtain ⟨m1, e1⟩ := I.base.tbls b ps e
  obtain ⟨m2, e2⟩ := tbls b _ e1
  exact ⟨m1 ++ m2, by rw [e2, Array.append_assoc]⟩
 ·obtain ⟨m, hn, hl⟩ := I.loc
  refine ⟨m, ns m hn, fun i x v e1 e2 e3 => ?_⟩
  obtain ⟨u, r, l⟩ := hl i x v e1 e2 e3
  refine ⟨u, r, ?_⟩
  rcases l with l | ⟨k, c, e, z⟩
  ·exact .inl l
  ·exact .inr ⟨k, c, e, cellK x c e _ z⟩
 ·obtain ⟨v, z⟩ := I.cell x c e
  exact ⟨v, cellK x c e v z⟩
 ·obtain ⟨m, ⟨o, _, _, ho, _⟩, _⟩ := I.loc
  exact free _ o (fun z => (hch _ z).2.1 rfl) ho I.free
 ·obtain ⟨v, o, ho, hd⟩ := I.cell x c e
  exact free c o (fun z => (hch c z).2.2.1 x c e rfl) ho (I.freeC x c e)
 ·obtain ⟨e, n, ne, nf, d⟩ := I.pin p hp
  have nch : p.1 ∉ ch := fun z => (hch p.1 z).2.2.2 p hp rfl
  exact ⟨keep p.1 p.2 ne nf nch e n, free p.1 p.2 nch e n, ne, nf, d⟩
theorem Inv.un {t' : Nat} (I : Inv X pins U H s) (u : Un X.fs [] H H' s.heap h') (hok : HOk X.prog X.w H' h') : Inv X pins U H' { s with heap := h', toks := t' } := by
 obtain ⟨m, ⟨o, es, ep, ho, r⟩, _⟩ := id I.loc
 obtain ⟨sl, hL⟩ := u.any ho I.free (by simp)
 exact I.step (g' := s.gens) (d' := s.drawn) (ch := []) (fun _ z => nomatch z) (fun b o _ hb _ e n => u.keep b o e n hb (by simp)) (fun b o _ hb _ e n => u.slot b o e n hb (by simp)) (fun b o _ e n => u.free b o e n (by simp)) (fun b o _ e => u.there b o e (by simp)) u.tups u.frzs u.tbls (fun m' hm => by
  obtain ⟨o', es', ep', ho', r'⟩ := hm
  rw [ho] at ho'; cases ho'
  exact ⟨_, es', ep', hL, r'⟩) hok I.bare
theorem Inv.call {g' : Array GenState} {t' : Nat} {d' : Drawn} {ch : List Addr} (I : Inv X pins U H s) (u : Un (frs X.stack) ch H H' s.heap h') (hok : HOk X.prog X.w H' h') (hg : AllBare g')
  (hch : ∀ b ∈ ch, (b ∈ X.ex \/ X.s₀.heap.objs.size <= b) /\ b ≠ X.env.locals /\ (∀ x c, X.env.cells.lookup x = some c -> c ≠ b) /\ ∀ p ∈ X.pn ++ pins, p.1 ≠ b) :
  Inv X pins U H' { s with heap := h', gens := g', drawn := d', toks := t' } := by
 obtain ⟨m, ⟨o, es, ep, ho, r⟩, _⟩ := id I.loc
 obtain ⟨sl, hL⟩ := u.any ho I.free fun z => (hch _ z).2.1 rfl
 exact I.step (ch := ch) hch (fun b o hL hb hc e n => u.keep b o e n (fun z => (Ul.mp (I.stkSub b z)).elim hL hb) hc) (fun b o _ _ hc e n => u.any e n hc) (fun b o hc e n => u.free b o e n hc) (fun b o hc e => u.there b o e hc) u.tups u.frzs u.tbls (fun m' hm => by
  obtain ⟨o', es', ep', ho', r'⟩ := hm
  rw [ho] at ho'; cases ho'
  exact ⟨_, es', ep', hL, r'⟩) hok hg
theorem Inv.turned {t' : Nat} {it : Addr} (I : Inv X pins U H s) (k : ∀ b o, b ≠ it -> s.heap.get? b = some o -> h'.get? b = some o) (hn : H it = none) (hL : it ≠ X.env.locals)
  (h1 : it ∈ X.ex \/ X.s₀.heap.objs.size <= it) (h2 : ∀ x c, X.env.cells.lookup x = some c -> c ≠ it) (h3 : ∀ p ∈ X.pn ++ pins, p.1 ≠ it) : Inv X pins U H { s with heap := h', toks := t' } := by
 have nit : ∀ b u, H b = some u -> b ≠ it := fun b u e z => by rw [z, hn] at e; cases e
 refine I.step (g' := s.gens) (d' := s.drawn) (ch := [it]) (fun b hb => ?_) (fun b o _ _ hc e _ => k b o (fun z => hc (by simp [z])) e) (fun b o _ _ hc e _ => ⟨o.slots, k b o (fun z => hc (by simp [z])) e⟩) (fun _ _ _ _ n => n)
  (fun b o hc e => ⟨o, k b o (fun z => hc (by simp [z])) e⟩) (fun _ _ e => e) (fun _ _ _ e => e) (fun b ps e => ⟨#[], by rw [e]; simp⟩) (fun m hm => ?_) (fun b u e => ?_) I.bare
 ·have e : b = it := by simpa using hb
  subst e
  exact ⟨h1, hL, h2, h3⟩
 ·obtain ⟨o, es, ep, ho, r⟩ := hm
  exact ⟨o, es, ep, k _ o (Ne.symm hL) ho, r⟩
 ·refine (I.hok b u e).stay (fun c v hc q => k c v ?_ q) (fun _ q => q) fun _ _ q => q
  rcases hc with z | z
  ·rw [z]; exact nit b u e
  ·exact nit c _ z
theorem Inv.tok (I : Inv X pins U H s) (t : Nat) : Inv X pins U H { s with toks := t } := I.un (h' := s.heap) (t' := t) Un.refl I.hok
theorem Inv.kept {t' : Nat} (I : Inv X pins U H s) (k : ∀ b u, s.heap.get? b = some u -> h'.get? b = some u) : Inv X pins U H { s with heap := h', toks := t' } := I.un (Un.kept k) (I.hok.kept k)
theorem Inv.laid {a : Addr} {o : HO} {t' : Nat} (I : Inv X pins U H s) (k : ∀ b u, s.heap.get? b = some u -> h'.get? b = some u) (hp : s.heap.objs.size <= a) (new : ZCu X.prog X.w (upd H a o) h' a o) :
 Inv X pins U (upd H a o) { s with heap := h', toks := t' } := I.un (Un.laid k hp (I.hok.fresh hp)) (I.hok.laid k hp new)
theorem Inv.write {x e : Addr} {o : HO} {t' : Nat} (I : Inv X pins U H s) (mu : Mut (H x)) (he : e = x \/ H e = some (.own x)) (k : ∀ b u, b ≠ e -> s.heap.get? b = some u -> h'.get? b = some u) (heo : ∃ u, h'.get? e = some u)
 (new : ZCu X.prog X.w (upd H x o) h' x o) : Inv X pins U (upd H x o) { s with heap := h', toks := t' } := I.un (Un.write mu he k heo) (I.hok.write mu he k heo new)
theorem Inv.pins_of {pins' : List (Addr × Obj)} (I : Inv X pins U H s) (h : ∀ p ∈ pins', s.heap.get? p.1 = some p.2 /\ H p.1 = none /\ p.1 ≠ X.env.locals /\ p.1 ∉ X.fs /\ ∀ v, p.2.data ≠ .cell v) : Inv X pins' U H s :=
 ⟨I.ok, I.os, I.bare, I.base, I.loc, I.cell, I.free, I.freeC, fun p hp => (UI.mp hp).elim (fun z => I.pin p (Vo _ z)) (h p), I.hok, I.len⟩
theorem ZJ5 {N : List Str} (hN : N.Nodup) {i j : Nat} {x : Str} (a : N[i]? = some x) (b : N[j]? = some x) : i = j := by
 obtain ⟨h1, e1⟩ := Uj.mp a
 obtain ⟨h2, e2⟩ := Uj.mp b
 exact (List.getElem_inj hN).mp (e1.trans e2.symm)
theorem ZI9 {M : Model} {A : Around} {E : Value -> Shared -> Prop} {i : Nat} {x : Str} {v : V} {u : Value} {Q : Unit -> Shared -> Prop} (I : Inv X pins U H s) (hN : X.N.Nodup) (hi : X.N[i]? = some x) (hx : Loc X.env.scope x) (r : ZCb v u)
  (h : ∀ s', Inv X pins (U.set i (some v)) H s' -> (∃ a, Heap.SameBut a s.heap s'.heap /\ (a = X.env.locals \/ X.env.cells.lookup x = some a)) -> Q () s') (hf : X.fn x = true \/ X.env.scope.names.lookup x = some .local := by first | exact .inl rfl | exact .inr rfl | assumption) : wpAny M A (storeName X.env x u) Q E s := by
 obtain ⟨m, hn, hl⟩ := id I.loc
 have hcls : (X.env.scope.kind == .class || (X.env.scope.kind == .module && X.env.locals != X.env.globals)) = false := by rw [I.ok.kind]; rfl
 have hiσ : i < U.length := by rw [I.len]; exact (Uj.mp hi).1
 have cne := I.cne
 have tracked : ∀ {a : Addr} {h' : Heap}, (∃ o, s.heap.get? a = some o /\ H a = none) -> Heap.SameBut a s.heap h' -> HOk X.prog X.w H h' := fun {a h'} ha hs b ob e => by
  obtain ⟨_, _, hfree⟩ := ha
  refine (I.hok b ob e).stay (fun c w' hc q => (hs.2 c ?_).trans q) (fun _ q => q) fun _ _ q => q
  rintro rfl
  rcases hc with rfl | hc
  ·rw [hfree] at e; cases e
  ·rw [hfree] at hc; cases hc
 rcases hx with hk | hk
 ·refine wpAny_storeName_local hk hn (fun h' hn' hs => ?_) hcls
  obtain ⟨oL, _, _, hoL, _⟩ := id hn
  refine h _ ⟨I.ok, I.os, I.bare, ⟨fun b o e n hb hx => ?_, fun b o e n hb hx => ?_, I.base.free, fun b o e hx => ?_, I.base.tups, I.base.frzs, I.base.tbls⟩, ⟨_, hn', fun j y v' e1 e2 e3 => ?_⟩, fun y c e => ?_, I.free, I.freeC, fun p hp => ?_, tracked ⟨oL, hoL, I.free⟩ hs, by simpa using I.len⟩ ⟨_, hs, .inl rfl⟩
  ·exact (hs.2 b (Uo (Uk (Uh e) I.ok.above))).trans (I.base.keep b o e n hb hx)
  ·obtain ⟨sl, e1⟩ := I.base.slot b o e n hb hx
   exact ⟨sl, (hs.2 b (Uo (Uk (Uh e) I.ok.above))).trans e1⟩
  ·obtain ⟨o', e1⟩ := I.base.there b o e hx
   exact ⟨o', (hs.2 b (Uo (Uk (Uh e) I.ok.above))).trans e1⟩
  ·by_cases hj : j = i
   ·subst hj
    rw [hi] at e1; cases e1
    rw [List.getElem?_set_self hiσ] at e2
    cases e2
    exact ⟨u, r, .inl ⟨hk, by simp⟩⟩
   ·rw [List.getElem?_set_ne (Ne.symm hj)] at e2
    obtain ⟨u', r', q⟩ := hl j y v' e1 e2 e3
    refine ⟨u', r', ?_⟩
    rcases q with ⟨k, e⟩ | ⟨k, c, e, z⟩
    ·refine .inl ⟨k, ?_⟩
     have : y ≠ x := fun e => hj (ZJ5 hN e1 (e ▸ hi))
     simp [this, e]
    ·exact .inr ⟨k, c, e, z.sameBut hs (cne y c e)⟩
  ·obtain ⟨w', z⟩ := I.cell y c e
   exact ⟨w', z.sameBut hs (cne y c e)⟩
  ·obtain ⟨e, n, ne, nf, d⟩ := I.pin p hp
   exact ⟨(hs.2 p.1 ne).trans e, n, ne, nf, d⟩
 ·have hfn : X.fn x = true := by
   rcases hf with z | z
   ·exact z
   ·rw [z] at hk; cases hk
  obtain ⟨c, hc⟩ := I.ok.has x (.inl hk)
  obtain ⟨w', z⟩ := I.cell x c hc
  refine wpAny_storeName_cell I.ok.kind hk hc z (fun h' hc' hs => ?_)
  obtain ⟨oc, hoc, hocd⟩ := id z
  refine h { s with heap := h' } ⟨I.ok, I.os, I.bare, ⟨fun b o e n hb hx => ?_, fun b o e n hb hx => ?_, I.base.free, fun b o e hx => ?_, I.base.tups, I.base.frzs, I.base.tbls⟩, ⟨m, hn.sameBut hs (Ne.symm (cne x c hc)), fun j y v' e1 e2 e3 => ?_⟩, fun y c' e => ?_, I.free, I.freeC, fun p hp => ?_, tracked ⟨oc, hoc, I.freeC x c hc⟩ hs, by simpa using I.len⟩ ⟨c, hs, .inr hc⟩
  ·exact (hs.2 b (Uo (Uk (Uh e) (I.ok.cab x c hfn hc)))).trans (I.base.keep b o e n hb hx)
  ·obtain ⟨sl, e1⟩ := I.base.slot b o e n hb hx
   exact ⟨sl, (hs.2 b (Uo (Uk (Uh e) (I.ok.cab x c hfn hc)))).trans e1⟩
  ·obtain ⟨o', e1⟩ := I.base.there b o e hx
   exact ⟨o', (hs.2 b (Uo (Uk (Uh e) (I.ok.cab x c hfn hc)))).trans e1⟩
  ·by_cases hj : j = i
   ·subst hj
    rw [hi] at e1; cases e1
    rw [List.getElem?_set_self hiσ] at e2
    cases e2
    exact ⟨u, r, .inr ⟨.inl hk, c, hc, hc'⟩⟩
   ·rw [List.getElem?_set_ne (Ne.symm hj)] at e2
    obtain ⟨u', r', q⟩ := hl j y v' e1 e2 e3
    refine ⟨u', r', ?_⟩
    rcases q with q | ⟨k, c', e, z'⟩
    ·exact .inl q
    ·refine .inr ⟨k, c', e, z'.sameBut hs ?_⟩
     rintro rfl
     exact hj (ZJ5 hN e1 (I.ok.inj _ _ _ e hc ▸ hi))
  ·by_cases hcc : c' = c
   ·subst hcc; exact ⟨_, hc'⟩
   ·obtain ⟨w2, z2⟩ := I.cell y c' e
    exact ⟨w2, z2.sameBut hs hcc⟩
  ·obtain ⟨e, n, ne, nf, d⟩ := I.pin p hp
   refine ⟨(hs.2 p.1 ?_).trans e, n, ne, nf, d⟩
   intro q
   rw [q, hoc] at e
   have q' : oc = p.2 := Option.some.inj e
   exact d w' (by rw [<- q']; exact hocd)
theorem ZHr {M : Model} {A : Around} {E : Value -> Shared -> Prop} {i : Nat} {x : Str} {v : V} {u : Value} {Q : Unit -> Shared -> Prop} (I : Inv X pins U H s) (hN : X.N.Nodup) (hi : X.N[i]? = some x) (hx : Loc X.env.scope x) (r : ZCb v u)
  (h : ∀ s', Inv X pins (U.set i (some v)) H s' -> Q () s') (hf : X.fn x = true \/ X.env.scope.names.lookup x = some .local := by first | exact .inl rfl | exact .inr rfl | assumption) : wpAny M A (storeName X.env x u) Q E s :=
 ZI9 I hN hi hx r (fun s' I' _ => h s' I') hf
theorem Inv.call' {s' : Shared} {ch : List Addr} (I : Inv X pins U H s) (ho : s'.os = s.os) (u : Un (frs X.stack) ch H H' s.heap s'.heap) (hok : HOk X.prog X.w H' s'.heap) (hg : AllBare s'.gens)
  (hch : ∀ b ∈ ch, (b ∈ X.ex \/ X.s₀.heap.objs.size <= b) /\ b ≠ X.env.locals /\ (∀ x c, X.env.cells.lookup x = some c -> c ≠ b) /\ ∀ p ∈ X.pn ++ pins, p.1 ≠ b) : Inv X pins U H' s' := by
 obtain ⟨h', g', d', t', o'⟩ := s'
 have e : o' = s.os := ho
 subst e
 exact I.call (g' := g') (t' := t') (d' := d') u hok hg hch
end
abbrev XK := Value -> Option Addr -> Hp -> Prop
abbrev St := List (Option V)
abbrev VK := V -> Hp -> Prop
abbrev TE := St -> Hp -> VK -> Prop
abbrev TT := St -> Hp -> (Bool -> Hp -> Prop) -> Prop
abbrev TA := St -> Hp -> (List V -> Hp -> Prop) -> Prop
structure ZDT where
 nx : St -> Hp -> Prop
 rt : VK
 bk : St -> Hp -> Prop := fun _ _ => False
 ct : St -> Hp -> Prop := fun _ _ => False
abbrev TS := ZDT -> St -> Hp -> Prop
def EP (X : Cx) (pins : List (Addr × Obj)) (U : St) (Q : VK) (u : Value) (s' : Shared) : Prop := ∃ v H', Inv X pins U H' s' /\ ZCb v u /\ Q v H'
def TP (X : Cx) (pins : List (Addr × Obj)) (U : St) (Q : Bool -> Hp -> Prop) (b : Bool) (s' : Shared) : Prop := ∃ H', Inv X pins U H' s' /\ Q b H'
def AP (X : Cx) (pins : List (Addr × Obj)) (U : St) (Q : List V -> Hp -> Prop) (us : List Value) (s' : Shared) : Prop := ∃ vs H', Inv X pins U H' s' /\ ZCh vs us /\ Q vs H'
def SP (X : Cx) (pins : List (Addr × Obj)) (D : ZDT) (f : Flow) (s' : Shared) : Prop :=
 match f with
 | .next => ∃ U' H', Inv X pins U' H' s' /\ D.nx U' H'
 | .brk => ∃ U' H', Inv X pins U' H' s' /\ D.bk U' H'
 | .cont => ∃ U' H', Inv X pins U' H' s' /\ D.ct U' H'
 | .ret u => ∃ v U' H', Inv X pins U' H' s' /\ ZCb v u /\ D.rt v H'
def PE (X : Cx) (e : Expr) (t : TE) : Prop :=
 ∀ (pins : List (Addr × Obj)) (s : Shared) (U : St) (H : Hp) (Q : VK), Inv X pins U H s -> t U H Q -> wpAny (model X.prog X.w) X.A (eval e X.env) (EP X pins U Q) X.xe s
def PT (X : Cx) (e : Expr) (t : TT) : Prop :=
 ∀ (pins : List (Addr × Obj)) (s : Shared) (U : St) (H : Hp) (Q : Bool -> Hp -> Prop), Inv X pins U H s -> t U H Q -> wpAny (model X.prog X.w) X.A (isTrue e X.env (eval e X.env)) (TP X pins U Q) X.xe s
def PW (X : Cx) (e : Expr) (t : TT) : Prop :=
 ∀ (whole : Sem Value) (pins : List (Addr × Obj)) (s : Shared) (U : St) (H : Hp) (Q : Bool -> Hp -> Prop), Inv X pins U H s -> t U H Q -> wpAny (model X.prog X.w) X.A (isTrue e X.env whole) (TP X pins U Q) X.xe s
theorem PW.pt {X : Cx} {e : Expr} {t : TT} (h : PW X e t) : PT X e t := h _
def PA (X : Cx) (es : List Expr) (t : TA) : Prop :=
 ∀ (pos : Pos) (pins : List (Addr × Obj)) (s : Shared) (U : St) (H : Hp) (Q : List V -> Hp -> Prop), Inv X pins U H s -> t U H Q -> wpAny (model X.prog X.w) X.A (spliced (backTo pos (starEach es X.env))) (AP X pins U Q) X.xe s
def PS (X : Cx) (st : Stmt) (t : TS) : Prop :=
 ∀ (pins : List (Addr × Obj)) (s : Shared) (U : St) (H : Hp) (D : ZDT), Inv X pins U H s -> t D U H -> wpAny (model X.prog X.w) X.A (exec st X.env) (SP X pins D) X.xe s
def PSs (X : Cx) (st : List Stmt) (t : TS) : Prop :=
 ∀ (pins : List (Addr × Obj)) (s : Shared) (U : St) (H : Hp) (D : ZDT), Inv X pins U H s -> t D U H -> wpAny (model X.prog X.w) X.A (execs st X.env) (SP X pins D) X.xe s
theorem thn {α : Type} {t : Sem α} {Q Q' : α -> Shared -> Prop} {M : Model} {A : Around} {E : Value -> Shared -> Prop} {s : Shared} (h : wpAny M A t Q E s) (hQ : ∀ a s, Q a s -> Q' a s) : wpAny M A t Q' E s := UB h hQ fun _ _ x => x
section
variable {X : Cx}
theorem bin {a b : Expr} {ta tb : TE} (ha : PE X a ta) (hb : PE X b tb) {pins : List (Addr × Obj)} {s : Shared} {U : St} {H : Hp} {R : V -> V -> Hp -> Prop} (I : Inv X pins U H s) (h : ta U H fun x H1 => tb U H1 fun y H2 => R x y H2)
  {α : Type} {Q : α -> Shared -> Prop} {f : Value -> Value -> Sem α}
  (hf : ∀ v u s2 x y H2, Inv X pins U H2 s2 -> ZCb x v -> ZCb y u -> R x y H2 -> wpAny (model X.prog X.w) X.A (f v u) Q X.xe s2) :
  wpAny (model X.prog X.w) X.A (eval a X.env) (fun v s₁ => wpAny (model X.prog X.w) X.A (eval b X.env) (fun u s₂ => wpAny (model X.prog X.w) X.A (f v u) Q X.xe s₂) X.xe s₁) X.xe s := by
 refine thn (ha pins s U H _ I h) fun v s1 ⟨x, H1, I1, r1, q1⟩ => ?_
 refine thn (hb pins s1 U H1 _ I1 q1) fun u s2 ⟨y, H2, I2, r2, q2⟩ => ?_
 exact hf v u s2 x y H2 I2 r1 r2 q2
def ZOU (i : Nat) : TE := fun U H Q => ∃ v, U[i]? = some (some v) /\ Q v H
def tC (v : V) : TE := fun _ H Q => Q v H
theorem ZSL {i : Nat} {x : Str} {pos : Pos} (hN : X.N[i]? = some x) (hv : Vis X.env.scope x) (hd : (x == ("__debug__" : Str)) = false := by decide) (hcd : (x == ("__classdict__" : Str)) = false := by decide) : PE X (.Name x pos) (ZOU i) := by
 intro pins s U H Q I h
 obtain ⟨v, e, h⟩ := h
 obtain ⟨m, hn, hl⟩ := I.loc
 obtain ⟨u, r, l⟩ := hl i x v hN e hv
 have fin : EP X pins U Q u s := ⟨v, H, I, r, h⟩
 rcases l with ⟨hk, hm⟩ | ⟨hk, c, hc, hcell⟩
 ·exact wpAny_Name (wpAny_loadName_local I.ok.kind hk hn hm fin) hd
 ·rcases hk with hk | hk
  ·exact wpAny_Name (wpAny_loadName_cell I.ok.kind hk hc hcell fin) hd
  ·exact wpAny_Name (wpAny_loadName_free I.ok.kind hk hc hcell fin hcd) hd
theorem ZSM {i j pos} : PE X (.Constant (.int i) j pos) (tC (.int i)) := fun _ _ _ H _ I h => wpAny_Constant_int ⟨.int i, H, I.tok _, ⟨_, rfl⟩, h⟩
theorem ZT4 {b j pos} : PE X (.Constant (.bool b) j pos) (tC (.bl b)) := fun _ _ _ H _ I h => Constant_bool ⟨.bl b, H, I, rfl, h⟩
theorem ZSN {j pos} : PE X (.Constant .none j pos) (tC .non) := fun _ _ _ H _ I h => Constant_none ⟨.non, H, I, rfl, h⟩
theorem ZSO {x j pos} : PE X (.Constant (.str x) j pos) (tC (.str x)) := fun _ _ _ H _ I h => Calls.Constant_str ⟨.str x, H, I.tok _, ⟨_, rfl⟩, h⟩
def Gl (X : Cx) (x : Str) : Prop := X.env.kindOf x = some .globalImplicit
theorem ZFI {E : Value -> Shared -> Prop} {pins : List (Addr × Obj)} {s : Shared} {U : St} {H : Hp} {x : Str} {u : Value} {pos : Pos} {Q : Value -> Shared -> Prop} (I : Inv X pins U H s) (hg : Gl X x) (hm : X.mg x = some u) (h : Q u s)
  (hd : (x == ("__debug__" : Str)) = false := by decide) : wpAny (model X.prog X.w) X.A (eval (.Name x pos) X.env) Q E s :=
 Calls.Name_function_global I.ok.kind hg (Calls.loadGlobal_global (by rw [I.ok.glob]; exact I.mod.glob.keeps I.bk) hm h) hd
theorem ZEb {E : Value -> Shared -> Prop} {pins : List (Addr × Obj)} {s : Shared} {U : St} {H : Hp} {x : Str} {u : Value} {pos : Pos} {Q : Value -> Shared -> Prop} (I : Inv X pins U H s) (hg : Gl X x) (hm : X.mg x = none) (hv : bootBuiltins x = some u) (h : Q u s)
  (hn : x ≠ "__name__" := by decide) (hd : (x == ("__debug__" : Str)) = false := by decide) : wpAny (model X.prog X.w) X.A (eval (.Name x pos) X.env) Q E s := by
 obtain ⟨mb, h1, h2⟩ := I.mod.blt
 exact Calls.Name_function_global I.ok.kind hg (Calls.loadGlobal_builtin (by rw [I.ok.glob]; exact I.mod.glob.keeps I.bk) hm (by rw [I.ok.blt]; exact h1.keeps I.bk) ((h2 x hn).trans hv) h) hd
theorem ZQf {x : Str} {v : V} {u : Value} {pos : Pos} (hg : Gl X x) (hm : X.mg x = some u) (r : ZCb v u) (hd : (x == ("__debug__" : Str)) = false := by decide) : PE X (.Name x pos) (tC v) :=
 fun _ _ _ H _ I h => ZFI I hg hm ⟨v, H, I, r, h⟩ hd
theorem ZQg {x : Str} {v : V} {u : Value} {pos : Pos} (hg : Gl X x) (hm : X.mg x = none) (hv : bootBuiltins x = some u) (r : ZCb v u) (hn : x ≠ "__name__" := by decide) (hd : (x == ("__debug__" : Str)) = false := by decide) : PE X (.Name x pos) (tC v) :=
 fun _ _ _ H _ I h => ZEb I hg hm hv ⟨v, H, I, r, h⟩ hn hd
variable {a b : Expr} {ta tb : TE} {pos : Pos}
def tB (t : TE) : TT := fun U H Q => t U H fun x H1 => ∃ c, x = .bl c /\ Q c H1
theorem ZSP {e : Expr} {t : TE} (h : PE X e t) (he : ∀ whole, isTrue e X.env whole = (do let v <- whole; standAt e.pos; holding [v] (truthy v)) := by intro _; rfl) : PT X e (tB t) := by
 intro pins s U H Q I hw
 refine isTrue_plain (thn (h pins s U H _ I hw) fun v s1 ⟨x, H1, I1, r1, q1⟩ => ?_) (he _)
 obtain ⟨d, rfl, q⟩ := q1
 cases r1
 exact wpAny_truthy_bool ⟨H1, I1, q⟩
variable {tA tB' : TT} {ZDQ : List Expr}
def ZOV (t u : TT) : TT := fun U H Q => t U H fun c H1 => if c = true then u U H1 Q else Q false H1
def tOr (t u : TT) : TT := fun U H Q => t U H fun c H1 => if c = true then Q true H1 else u U H1 Q
def ZOW (t : TT) : TT := fun U H Q => t U H fun c H1 => Q (!c) H1
theorem ZQh (ha : PT X a tA) : PW X (.BoolOp .And [a] pos) tA := by
 intro wh pins s U H Q I h
 refine isTrue_and (thn (ha pins s U H Q I h) fun c s1 e => ?_)
 cases c with
 | true => exact isTrue_and_nil e
 | false => exact e
theorem ZSQ (ha : PT X a tA) : PW X (.BoolOp .Or [a] pos) tA := by
 intro wh pins s U H Q I h
 refine isTrue_or (thn (ha pins s U H Q I h) fun c s1 e => ?_)
 cases c with
 | false => exact isTrue_or_nil e
 | true => exact e
theorem ZSR (ha : PT X a tA) (hb : PW X (.BoolOp .And (b :: ZDQ) pos) tB') : PW X (.BoolOp .And (a :: b :: ZDQ) pos) (ZOV tA tB') := by
 intro wh pins s U H Q I h
 refine isTrue_and (thn (ha pins s U H _ I h) fun c s1 ⟨H1, I1, q1⟩ => ?_)
 cases c with
 | true => exact hb wh pins s1 U H1 Q I1 q1
 | false => exact ⟨H1, I1, q1⟩
theorem ZT5 (ha : PT X a tA) (hb : PW X (.BoolOp .Or (b :: ZDQ) pos) tB') : PW X (.BoolOp .Or (a :: b :: ZDQ) pos) (tOr tA tB') := by
 intro wh pins s U H Q I h
 refine isTrue_or (thn (ha pins s U H _ I h) fun c s1 ⟨H1, I1, q1⟩ => ?_)
 cases c with
 | true => exact ⟨H1, I1, q1⟩
 | false => exact hb wh pins s1 U H1 Q I1 q1
theorem ZSS (ha : PT X a tA) : PT X (.UnaryOp .Not a pos) (ZOW tA) := by
 intro pins s U H Q I h
 exact isTrue_not (ha pins s U H (fun c H1 => Q (!c) H1) I h)
def ZMC (ta tb : TE) : TE := fun U H Q => ta U H fun x H1 => ∃ c, x = .bl c /\ if c = true then tb U H1 Q else Q (.bl false) H1
def ZMD (ta : TE) : TE := fun U H Q => ta U H fun x H1 => ∃ c, x = .bl c /\ Q (.bl (!c)) H1
theorem ZST {op} {t : TE} (h : PE X a t) : PE X (.BoolOp op [a] pos) t := fun pins s U H Q I hw => BoolOp_one (h pins s U H Q I hw)
theorem ZSU (ha : PE X a ta) (hb : PE X (.BoolOp .And (b :: ZDQ) pos) tb) : PE X (.BoolOp .And (a :: b :: ZDQ) pos) (ZMC ta tb) := by
 intro pins s U H Q I h
 refine BoolOp_and (thn (ha pins s U H _ I h) fun v s1 ⟨x, H1, I1, r1, q1⟩ => ?_)
 obtain ⟨c, rfl, q1⟩ := q1
 cases r1
 refine wpAny_truthy_bool ?_
 cases c with
 | true => exact hb pins s1 U H1 Q I1 q1
 | false => exact ⟨.bl false, H1, I1, rfl, q1⟩
theorem ZSV (ha : PE X a ta) : PE X (.UnaryOp .Not a pos) (ZMD ta) := by
 intro pins s U H Q I h
 refine UnaryOp_ (thn (ha pins s U H _ I h) fun v s1 ⟨x, H1, I1, r1, q1⟩ => ?_)
 obtain ⟨c, rfl, q1⟩ := q1
 cases r1
 exact not_of (wpAny_truthy_bool ⟨.bl (!c), H1, I1, rfl, q1⟩)
def tIf (t : TT) (ta tb : TE) : TE := fun U H Q => t U H fun c H1 => if c = true then ta U H1 Q else tb U H1 Q
theorem ZOX {c : Expr} (hc : PT X c tA) (ha : PE X a ta) (hb : PE X b tb) : PE X (.IfExp c a b pos) (tIf tA ta tb) := by
 intro pins s U H Q I h
 refine wpAny_IfExp (thn (hc pins s U H _ I h) fun d s1 ⟨H1, I1, q1⟩ => ?_)
 cases d with
 | true => exact ha pins s1 U H1 Q I1 q1
 | false => exact hb pins s1 U H1 Q I1 q1
end
def SqL (K : W.Frag) (H : Hp) (a : Addr) (xs : List V) : Prop :=
 Rd H a (.lst xs) \/
  ∃ (o : Obj) (its : Array Value) (n : Nat), K.lookup a = some o /\ o.cls = .type "list" /\ o.dict = none /\ o.data = .seq its n /\ its.size <= sizeLine /\ ZCh xs its.toList
def SqT (K : W.Frag) (H : Hp) (a : Addr) (xs : List V) : Prop :=
 Rd H a (.tup xs) \/
  ∃ (o : Obj) (its : Array Value) (n : Nat), K.lookup a = some o /\ o.cls = .type "tuple" /\ o.data = .seq its n /\ its.size <= sizeLine /\ ZCh xs its.toList
def ZUS : Value -> Option V
 | .none => some .non
 | .bool b => some (.bl b)
 | .int i _ => some (.int i)
 | .str x _ => some (.str x)
 | .bytes b _ => some (.byt b)
 | .float b _ => some (.flt b)
 | .ref a => some (.ref a)
 | .type n => some (.ty n)
 | _ => none
theorem ZCb.abs {x : V} {u : Value} (r : ZCb x u) : ZUS u = some x := by
 cases x with
 | non => cases r; rfl
 | bl _ => cases r; rfl
 | int _ => obtain ⟨t, rfl⟩ := r; rfl
 | str _ => obtain ⟨t, rfl⟩ := r; rfl
 | byt _ => obtain ⟨t, rfl⟩ := r; rfl
 | flt _ => obtain ⟨t, rfl⟩ := r; rfl
 | ref _ => cases r; rfl
 | ty _ => cases r; rfl
theorem ZCb.inj {x y : V} {u : Value} (r : ZCb x u) (q : ZCb y u) : x = y := Option.some.inj (r.abs.symm.trans q.abs)
theorem ZCh.inj : ∀ {xs ys : List V} {us : List Value}, ZCh xs us -> ZCh ys us -> xs = ys
 | _, _, _, .nil, .nil => rfl
 | _, _, _, .cons r t, .cons r' t' => by rw [r.inj r', ZCh.inj t t']
section
variable {X : Cx} {pins : List (Addr × Obj)} {U : St} {H : Hp} {s : Shared} {a : Addr} {xs ys : List V}
theorem SqL.of {K : W.Frag} (h : H a = some (.lst xs)) : SqL K H a xs := .inl (.inl h)
theorem SqT.of {K : W.Frag} (h : H a = some (.tup xs)) : SqT K H a xs := .inl (.inl h)
theorem Inv.list (I : Inv X pins U H s) (h : SqL X.K H a xs) : ∃ its : List Value, ZCh xs its /\ PlainL s.heap a its.toArray /\ xs.length <= sizeLine := by
 rcases h with h | ⟨o, its, n, hk, hc, hd, hs, hz, r⟩
 ·obtain ⟨z, its, n, r, e⟩ := h.ok I.hok
  exact ⟨its, r, ⟨_, n, e, rfl, rfl, rfl⟩, z⟩
 ·refine ⟨its.toList, r, ⟨o, n, I.kIn a o hk, hc, hd, by simpa using hs⟩, ?_⟩
  have e := r.length
  simp only [UA] at e
  omega
theorem Inv.tuple (I : Inv X pins U H s) (h : SqT X.K H a xs) : ∃ its : List Value, ZCh xs its /\ IsTup s.heap a its.toArray /\ xs.length <= sizeLine := by
 rcases h with h | ⟨o, its, n, hk, hc, hs, hz, r⟩
 ·obtain ⟨z, its, r, p⟩ := h.ok I.hok
  exact ⟨its, r, p, z.1⟩
 ·refine ⟨its.toList, r, ⟨o, I.kIn a o hk, hc, n, by simpa using hs⟩, ?_⟩
  have e := r.length
  simp only [UA] at e
  omega
theorem Inv.list_inj (I : Inv X pins U H s) (h : SqL X.K H a xs) (h' : SqL X.K H a ys) : xs = ys := by
 obtain ⟨its, r, ⟨o, n, e, _, _, d⟩, _⟩ := I.list h
 obtain ⟨its', r', ⟨o', n', e', _, _, d'⟩, _⟩ := I.list h'
 rw [e] at e'; cases e'
 rw [d] at d'
 injection d' with d1 _
 have : its = its' := by simpa using congrArg Array.toList d1
 subst this
 exact r.inj r'
theorem Inv.tuple_inj (I : Inv X pins U H s) (h : SqT X.K H a xs) (h' : SqT X.K H a ys) : xs = ys := by
 obtain ⟨its, r, ⟨o, e, _, n, d⟩, _⟩ := I.tuple h
 obtain ⟨its', r', ⟨o', e', _, n', d'⟩, _⟩ := I.tuple h'
 rw [e] at e'; cases e'
 rw [d] at d'
 injection d' with d1 _
 have : its = its' := by simpa using congrArg Array.toList d1
 subst this
 exact r.inj r'
end
abbrev Cx.wish (X : Cx) (E : Value -> Shared -> Prop) : Cx := { X with xe := E }
abbrev Cx.nox (X : Cx) : Cx := X.wish fun _ _ => False
theorem Cx.Ok.wish {X : Cx} (ok : X.Ok) (E : Value -> Shared -> Prop) : (X.wish E).Ok :=
 ⟨ok.mod, ok.kind, ok.glob, ok.blt, ok.above, ok.inj, ok.has, ok.cab, ok.hd, ok.frames, ok.stk, ok.exf, ok.bs, ok.bsz, ok.noex, ok.exfs, ok.funs, ok.frf⟩
theorem Cx.Ok.unwish {X : Cx} {E : Value -> Shared -> Prop} (ok : (X.wish E).Ok) : X.Ok :=
 ⟨ok.mod, ok.kind, ok.glob, ok.blt, ok.above, ok.inj, ok.has, ok.cab, ok.hd, ok.frames, ok.stk, ok.exf, ok.bs, ok.bsz, ok.noex, ok.exfs, ok.funs, ok.frf⟩
section
variable {X : Cx} {pins : List (Addr × Obj)} {U : St} {H : Hp} {s : Shared} {E : Value -> Shared -> Prop}
theorem Inv.wish (I : Inv X pins U H s) (E : Value -> Shared -> Prop) : Inv (X.wish E) pins U H s := ⟨I.ok.wish E, I.os, I.bare, I.base, I.loc, I.cell, I.free, I.freeC, I.pin, I.hok, I.len⟩
theorem Inv.unwish (I : Inv (X.wish E) pins U H s) : Inv X pins U H s := ⟨I.ok.unwish, I.os, I.bare, I.base, I.loc, I.cell, I.free, I.freeC, I.pin, I.hok, I.len⟩
theorem SP.unwish {D : ZDT} {f : Flow} {s' : Shared} (h : SP (X.wish E) pins D f s') : SP X pins D f s' := by
 cases f with
 | next => obtain ⟨U', H', I, q⟩ := h; exact ⟨U', H', I.unwish, q⟩
 | brk => obtain ⟨U', H', I, q⟩ := h; exact ⟨U', H', I.unwish, q⟩
 | cont => obtain ⟨U', H', I, q⟩ := h; exact ⟨U', H', I.unwish, q⟩
 | ret u => obtain ⟨v, U', H', I, r, q⟩ := h; exact ⟨v, U', H', I.unwish, r, q⟩
theorem PSs.nox {st : List Stmt} {t : TS} (h : PSs X.nox st t) : PSs X st t := fun pins s U H D I hw =>
 UB (h pins s U H D (I.wish _) hw) (fun _ _ q => q.unwish) fun _ _ z => False.elim z
end
section
variable {X : Cx} {st : Stmt} {ZDQ : List Stmt} {t u : TS} {e : Expr} {te : TE} {pos : Pos}
def ZME : TS := fun D U H => D.nx U H
def ZOY (t u : TS) : TS := fun D U H => t { D with nx := u D } U H
theorem ZQi : PSs X [] ZME := fun _ _ U H _ I h => wpAny_execs_nil ⟨U, H, I, h⟩
theorem ZOZ (h1 : PS X st t) (h2 : PSs X ZDQ u) : PSs X (st :: ZDQ) (ZOY t u) := by
 intro pins s U H D I h
 refine wpAny_execs_cons (thn (h1 pins s U H { D with nx := u D } I h) fun f s1 q => ?_)
 cases f with
 | next =>
  obtain ⟨U', H', I', q⟩ := q
  exact h2 pins s1 U' H' D I' q
 | ret v => exact q
 | brk => exact q
 | cont => exact q
theorem ZQj (h1 : PS X st t) : PSs X [st] t := by
 intro pins s U H D I h
 refine wpAny_execs_cons (thn (h1 pins s U H D I h) fun f s1 q => ?_)
 cases f with
 | next => exact wpAny_execs_nil q
 | ret v => exact q
 | brk => exact q
 | cont => exact q
theorem Inv.quiet {pins : List (Addr × Obj)} {U : St} {H : Hp} {s : Shared} (I : Inv X pins U H s) : interactive X.env = false := by simp [interactive, I.ok.kind]
def ZJu (te : TE) : TS := fun D U H => te U H fun _ H1 => D.nx U H1
theorem ZQk (he : PE X e te) (hs : swapsWith e none pos.line X.env = pure false := by rfl) : PS X (.Expr e pos) (ZJu te) := by
 intro pins s U H D I h
 exact wpAny_Expr_any (thn (he pins s U H _ I h) fun v s1 ⟨x, H1, I1, r1, q1⟩ => ⟨U, H1, I1, q1⟩) I.quiet hs
def ZOa (te : TE) : TS := fun D U H => te U H D.rt
theorem ZSW (he : PE X e te) : PS X (.Return (some e) pos) (ZOa te) := by
 intro pins s U H D I h
 exact wpAny_Return_some (thn (he pins s U H _ I h) fun v s1 ⟨x, H1, I1, r1, q1⟩ => ⟨x, U, H1, I1, r1, q1⟩)
def ZJ6 (c : TT) (t u : TS) : TS := fun D U H => c U H fun b H1 => if b = true then t D U H1 else u D U H1
theorem ZT6 {c : Expr} {a b : List Stmt} {tc : TT} (hc : PT X c tc) (ha : PSs X a t) (hb : PSs X b u) : PS X (.If c a b pos) (ZJ6 tc t u) := by
 intro pins s U H D I h
 refine wpAny_If (thn (hc pins s U H _ I h) fun d s1 ⟨H1, I1, q1⟩ => ?_)
 cases d with
 | true => exact ha pins s1 U H1 D I1 q1
 | false => exact hb pins s1 U H1 D I1 q1
def ZNG : TS := fun _ _ _ => False
theorem ZOb : PS X st ZNG := fun _ _ _ _ _ _ h => h.elim
end
abbrev TG := V -> St -> Hp -> (St -> Hp -> Prop) -> Prop
abbrev TGs := List V -> St -> Hp -> (St -> Hp -> Prop) -> Prop
def PG (X : Cx) (target : Expr) (t : TG) : Prop :=
 ∀ (pins : List (Addr × Obj)) (s : Shared) (U : St) (H : Hp) (v : V) (u : Value) (Q : St -> Hp -> Prop), Inv X pins U H s -> ZCb v u -> t v U H Q ->
  wpAny (model X.prog X.w) X.A (assign target X.env u) (fun _ s' => ∃ U' H', Inv X pins U' H' s' /\ Q U' H') X.xe s
def PGs (X : Cx) (ts : List Expr) (t : TGs) : Prop :=
 ∀ (pins : List (Addr × Obj)) (s : Shared) (U : St) (H : Hp) (vs : List V) (us : List Value) (Q : St -> Hp -> Prop), Inv X pins U H s -> ZCh vs us -> t vs U H Q ->
  wpAny (model X.prog X.w) X.A (assignInOrder ((assignEach ts X.env).map (·.2)) us) (fun _ s' => ∃ U' H', Inv X pins U' H' s' /\ Q U' H') X.xe s
abbrev ZJ7 := V -> V -> V -> Hp -> (Hp -> Prop) -> Prop
def ZOc (X : Cx) (t : ZJ7) : Prop :=
 ∀ (pins : List (Addr × Obj)) (s : Shared) (U : St) (H : Hp) (o i v : V) (ov iv u : Value) (Q : Hp -> Prop), Inv X pins U H s -> ZCb o ov -> ZCb i iv -> ZCb v u -> t o i v H Q ->
  wpAny (model X.prog X.w) X.A (setItem ov iv u) (fun _ s' => ∃ H', Inv X pins U H' s' /\ Q H') X.xe s
abbrev TIp := V -> V -> Hp -> VK -> Prop
def PIp (X : Cx) (op : Operator) (t : TIp) : Prop :=
 ∀ (pins : List (Addr × Obj)) (s : Shared) (U : St) (H : Hp) (x y : V) (v u : Value) (Q : VK), Inv X pins U H s -> ZCb x v -> ZCb y u -> t x y H Q ->
  wpAny (model X.prog X.w) X.A (inplaceOp op v u) (EP X pins U Q) X.xe s
section
variable {X : Cx} {pos : Pos}
def ZEc (i : Nat) : TG := fun v U H Q => Q (U.set i (some v)) H
theorem ZQl {i : Nat} {x : Str} (hN : X.N.Nodup) (hi : X.N[i]? = some x) (hx : Loc X.env.scope x) (hf : X.fn x = true \/ X.env.scope.names.lookup x = some .local := by first | exact .inl rfl | exact .inr rfl | assumption) : PG X (.Name x pos) (ZEc i) := by
 intro pins s U H v u Q I r h
 exact wpAny_assign_Name (ZHr I hN hi hx r (fun s' I' => ⟨_, H, I', h⟩) hf)
def ZOd : TGs := fun vs U H Q => vs = [] /\ Q U H
def ZMF (t : TG) (u : TGs) : TGs := fun vs U H Q => ∃ v r, vs = v :: r /\ t v U H fun U' H' => u r U' H' Q
theorem ZQm : PGs X [] ZOd := by
 intro pins s U H vs us Q I r h
 obtain ⟨e, h⟩ := h
 subst e
 cases r
 exact assignInOrder_nil ⟨U, H, I, h⟩
theorem ZOe {e : Expr} {es : List Expr} {t : TG} {u : TGs} (h1 : PG X e t) (h2 : PGs X es u)
  (hs : (assignEach (e :: es) X.env).map (·.2) = assign e X.env :: (assignEach es X.env).map (·.2) := by rfl) : PGs X (e :: es) (ZMF t u) := by
 intro pins s U H vs us Q I r h
 obtain ⟨v, vr, e1, h⟩ := h
 subst e1
 cases r with
 | cons r rr =>
  rw [hs]
  refine assignInOrder_cons (thn (h1 pins s U H _ _ _ I r h) fun _ s1 ⟨U1, H1, I1, q1⟩ => ?_)
  exact h2 pins s1 U1 H1 _ _ Q I1 rr q1
def ZMG (K : W.Frag) (n : Nat) (t : TGs) : TG := fun v U H Q => ∃ a xs, v = .ref a /\ SqT K H a xs /\ xs.length = n /\ t xs U H Q
theorem ZSX {es : List Expr} {k : Nat} {t : TGs} {n : Nat} (hc : X.calm = true) (h : PGs X es t)
  (hn : (assignEach es X.env).length = n := by rfl) (hst : (assignEach es X.env).findIdx? (·.1) = none := by rfl) : PG X (.Tuple es k pos) (ZMG X.K n t) := by
 intro pins s U H v u Q I r hw
 obtain ⟨a, xs, e1, hq, hl, hw⟩ := hw
 subst e1
 cases r
 obtain ⟨its, rv, ht, hz⟩ := I.tuple hq
 refine assign_Tuple_tuple (I.ok.hd hc) ht (by simp [hn, <- hl, rv.length]) hst fun h' hx => ?_
 have I1 : Inv X pins U H { s with heap := h' } := I.kept (t' := s.toks) fun b o e => hx b o (Uo (Uh e)) e
 exact h pins _ U H xs _ Q I1 (by simpa using rv) hw
def ZOf (to ti : TE) (t : ZJ7) : TG := fun v U H Q => to U H fun o H1 => ti U H1 fun i H2 => t o i v H2 fun H3 => Q U H3
theorem ZSY {o i : Expr} {to ti : TE} {t : ZJ7} (ho : PE X o to) (hi : PE X i ti) (hs : ZOc X t)
  (ha : ∀ v, assign (.Subscript o i pos) X.env v = (do
   let ov <- holding [v] (eval o X.env)
   let iv <- holding [v, ov] (eval i X.env)
   standAt pos
   holding [v, ov, iv] (setItem ov iv v)
   release [v, ov, iv] []) := by intro _; rfl) : PG X (.Subscript o i pos) (ZOf to ti t) := by
 intro pins s U H v u Q I r h
 rw [ha]
 refine Ua (UJ (thn (ho pins s U H _ I h) fun ov s1 ⟨x, H1, I1, r1, q1⟩ => ?_))
 refine Ua (UJ (thn (hi pins s1 U H1 _ I1 q1) fun iv s2 ⟨y, H2, I2, r2, q2⟩ => ?_))
 refine Ua (wpAny_standAt (Ua (UJ (thn (hs pins s2 U H2 x y v ov iv u _ I2 r1 r2 r q2) fun _ s3 ⟨H3, I3, q3⟩ => ?_))))
 exact wpAny_release ⟨U, H3, I3, q3⟩
def ZGG (te : TE) (g : TG) : TS := fun D U H => te U H fun x H1 => g x U H1 D.nx
theorem ZSZ {tg e : Expr} {te : TE} {g : TG} (he : PE X e te) (hg : PG X tg g) (hs : swapsWithSole [tg] e pos.line X.env = pure false := by rfl) (hw : swappedStores [tg] e X.env = pure none := by rfl)
  (h1 : (assignEach [tg] X.env).map (·.2) = [assign tg X.env] := by rfl) : PS X (.Assign [tg] e pos) (ZGG te g) := by
 intro pins s U H D I h
 refine wpAny_Assign_stores (thn (he pins s U H _ I h) fun v s1 ⟨x, H1, I1, r1, q1⟩ => ?_) hs hw
 rw [h1]
 exact thn (hg pins s1 U H1 x v _ I1 r1 q1) fun _ s2 q => q
theorem ZSa {i : Nat} {x : Str} {e : Expr} {te : TE} {pos' : Pos} (hN : X.N.Nodup) (hi : X.N[i]? = some x) (hx : Loc X.env.scope x) (he : PE X e te) (hs : swapsWith e (some (.Name x pos')) pos.line X.env = pure false := by rfl) (hf : X.fn x = true \/ X.env.scope.names.lookup x = some .local := by first | exact .inl rfl | exact .inr rfl | assumption) :
  PS X (.Assign [.Name x pos'] e pos) (ZGG te (ZEc i)) := by
 intro pins s U H D I h
 refine wpAny_Assign_Name (thn (he pins s U H _ I h) fun v s1 ⟨y, H1, I1, r1, q1⟩ => ?_) hs
 exact ZHr I1 hN hi hx r1 (fun s2 I2 => ⟨_, H1, I2, q1⟩) hf
def ZOg (i : Nat) (te : TE) (ti : TIp) : TS := fun D U H => ∃ x, U[i]? = some (some x) /\ te U H fun y H1 => ti x y H1 fun z H2 => D.nx (U.set i (some z)) H2
theorem ZSb {i : Nat} {x : Str} {e : Expr} {te : TE} {op : Operator} {ti : TIp} {pos' : Pos} (hN : X.N.Nodup) (hi : X.N[i]? = some x) (hx : Loc X.env.scope x) (he : PE X e te) (ho : PIp X op ti) (hf : X.fn x = true \/ X.env.scope.names.lookup x = some .local := by first | exact .inl rfl | exact .inr rfl | assumption) :
  PS X (.AugAssign (.Name x pos') op e pos) (ZOg i te ti) := by
 intro pins s U H D I h
 obtain ⟨v, e1, h⟩ := h
 obtain ⟨m, hn, hl⟩ := I.loc
 have vis : Vis X.env.scope x := by rcases hx with k | k; exact .inl k; exact .inr (.inl k)
 obtain ⟨u, r, l⟩ := hl i x v hi e1 vis
 refine wpAny_AugAssign_Name ?_
 have go : wpAny (model X.prog X.w) X.A (eval e X.env) (fun w s₂ => wpAny (model X.prog X.w) X.A (inplaceOp op u w) (fun r s₃ => wpAny (model X.prog X.w) X.A (storeName X.env x r) (fun _ => SP X pins D .next) X.xe s₃) X.xe s₂) X.xe s := by
  refine thn (he pins s U H _ I h) fun w s1 ⟨y, H1, I1, r1, q1⟩ => ?_
  refine thn (ho pins s1 U H1 v y u w _ I1 r r1 q1) fun z s2 ⟨zv, H2, I2, r2, q2⟩ => ?_
  exact ZHr I2 hN hi hx r2 (fun s3 I3 => ⟨_, H2, I3, q2⟩) hf
 rcases l with ⟨hk, hm⟩ | ⟨hk, c, hc, hcell⟩
 ·exact wpAny_loadName_local I.ok.kind hk hn hm go
 ·rcases hk with hk | hk
  ·exact wpAny_loadName_cell I.ok.kind hk hc hcell go
  ·rcases hx with k | k
   ·have : X.env.scope.names.lookup x = some .free := hk
    rw [k] at this; cases this
   ·have : X.env.scope.names.lookup x = some .free := hk
    rw [k] at this; cases this
def ZJ8 (c : TT) (tb : TS) : TS := fun D U H => ∃ W : Nat -> St -> Hp -> Prop, (∃ m, W m U H) /\ ∀ m U H, W m U H ->
 c U H fun b H1 => if b = true then ∃ N : St -> Hp -> Prop, (∀ U' H', N U' H' -> ∃ m', m' < m /\ W m' U' H') /\ tb { D with nx := N, ct := N, bk := D.nx } U H1 else D.nx U H1
theorem ZOh {c : Expr} {body : List Stmt} {tc : TT} {tb : TS} (hp : PassesOwn (model X.prog X.w) X.A X.env X.xe) (hc : PT X c tc) (hb : PSs X body tb) : PS X (.While c body [] pos) (ZJ8 tc tb) := by
 intro pins s U H D I h
 obtain ⟨W, ⟨m0, w0⟩, turn⟩ := h
 refine wpAny_While (codeAny_whileLoop (fun n s' => ∃ U' H', Inv X pins U' H' s' /\ W n U' H') ?_ m0 ⟨U, H, I, w0⟩)
 rintro n s1 ⟨U1, H1, I1, w1⟩
 refine wpAny_passesOwn hp (thn (hc pins s1 U1 H1 _ I1 (turn n U1 H1 w1)) fun b s2 ⟨H2, I2, q2⟩ => ?_)
 cases b with
 | true =>
  obtain ⟨N, hN, q2⟩ := q2
  rw [if_pos rfl]
  refine wpAny_passesOwn hp (thn (hb pins s2 U1 H2 _ I2 q2) fun f s3 q3 => ?_)
  cases f with
  | next =>
   obtain ⟨U3, H3, I3, n3⟩ := q3
   obtain ⟨m', hm, w3⟩ := hN U3 H3 n3
   exact ⟨m', hm, U3, H3, I3, w3⟩
  | cont =>
   obtain ⟨U3, H3, I3, n3⟩ := q3
   obtain ⟨m', hm, w3⟩ := hN U3 H3 n3
   exact ⟨m', hm, U3, H3, I3, w3⟩
  | brk => exact q3
  | ret v => exact q3
 | false =>
  rw [if_neg UH]
  exact wpAny_execs_nil ⟨U1, H2, I2, q2⟩
end
structure It where
 go : Nat -> Hp -> Prop
 yld : Nat -> Hp -> V -> Hp -> Prop
 stop : Nat -> Hp -> Prop
def ZDo (X : Cx) (pins : List (Addr × Obj)) (H : Hp) (b : Addr) : Prop :=
 H b = none /\ b ≠ X.env.locals /\ b ∉ X.fs /\ (b ∈ X.ex \/ X.s₀.heap.objs.size <= b) /\ (∀ x c, X.env.cells.lookup x = some c -> c ≠ b) /\ ∀ p ∈ X.pn ++ pins, p.1 ≠ b
theorem Inv.fpOk {X : Cx} {pins : List (Addr × Obj)} {U : St} {H H' : Hp} {s : Shared} {b : Addr} (I : Inv X pins U H s) (hb : s.heap.objs.size <= b) (hn : H' b = none) : ZDo X pins H' b := by
 refine ⟨hn, Nat.ne_of_gt (Uk I.lt hb), I.nofs hb, .inr (UG I.sz hb), fun x c e z => ?_, fun p hp z => ?_⟩
 ·obtain ⟨v, q⟩ := I.cell x c e
  exact absurd (Uk q.lt (by rw [z]; exact hb)) (Vi _)
 ·exact absurd (Uk (Uh (I.pin p hp).1) (by rw [z]; exact hb)) (Vi _)
structure ZHs (P : Program) (w : World) (K : W.Frag) (tg : Expr) (J : It) (fp : List Addr) (it : Addr) (tn : Nat -> Heap -> Prop) : Prop where
 mem : it ∈ fp
 obj : ∀ i h, tn i h -> ∀ b ∈ fp, ∃ o, h.get? b = some o /\ ∀ v, o.data ≠ .cell v
 keep : ∀ i h h', tn i h -> (∀ b ∈ fp, ∀ o, h.get? b = some o -> h'.get? b = some o) -> tn i h'
 item : ∀ (X : Cx), X.prog = P -> X.w = w -> X.K = K -> X.calm = true -> ∀ (i : Nat) (pins : List (Addr × Obj)) (s : Shared) (U : St) (H : Hp) (E : Value -> Shared -> Prop), Inv X pins U H s -> (∀ b ∈ fp, ZDo X pins H b) -> tn i s.heap -> J.go i H ->
  wpAny (model P w) X.A (pyNext (.ref it)) (fun r s1 => ∃ u, r = some u /\
   wpAny (model P w) X.A (letOwnedTupleGo tg (.ref it) u) (fun _ s2 => ∃ x H', Inv X pins U H' s2 /\ ZCb x u /\ J.yld i H x H' /\ tn (i + 1) s2.heap /\ ∀ b ∈ fp, H' b = none) E s1) E s
 done : ∀ (X : Cx), X.prog = P -> X.w = w -> X.K = K -> X.calm = true -> ∀ (i : Nat) (pins : List (Addr × Obj)) (s : Shared) (U : St) (H : Hp) (E : Value -> Shared -> Prop), Inv X pins U H s -> (∀ b ∈ fp, ZDo X pins H b) -> tn i s.heap -> J.stop i H ->
  wpAny (model P w) X.A (pyNext (.ref it)) (fun r s1 => r = none /\ Inv X pins U H s1) E s
 self : ∀ (A : Around) (i : Nat) (s : Shared) (Q : Value -> Shared -> Prop) (E : Value -> Shared -> Prop), tn i s.heap -> Q (.ref it) s -> wpAny (model P w) A (pyIter (.ref it)) Q E s
abbrev TI := St -> Hp -> (It -> Hp -> Prop) -> Prop
def PIE (X : Cx) (pins : List (Addr × Obj)) (U : St) (tg : Expr) (R : It -> Hp -> Prop) (itv : Value) (s2 : Shared) : Prop :=
 ∃ (it : Addr) (fp : List Addr) (tn : Nat -> Heap -> Prop) (J : It) (H' : Hp), itv = .ref it /\ Inv X pins U H' s2 /\ ZHs X.prog X.w X.K tg J fp it tn /\ tn 0 s2.heap /\ (∀ b ∈ fp, ZDo X pins H' b) /\ R J H'
def PI (X : Cx) (tg iter : Expr) (wi : TI) : Prop :=
 ∀ (pins : List (Addr × Obj)) (s : Shared) (U : St) (H : Hp) (R : It -> Hp -> Prop), Inv X pins U H s -> wi U H R ->
  wpAny (model X.prog X.w) X.A (eval iter X.env) (fun v s1 => wpAny (model X.prog X.w) X.A (pyIter v) (PIE X pins U tg R) X.xe s1) X.xe s
theorem ZHU {M : Model} {A : Around} {E : Value -> Shared -> Prop} {s : Shared} {tg : Expr} {it : Addr} {u : Value} {o : Obj} {n : String} {vs : Array Value} {Q : Unit -> Shared -> Prop} (ho : s.heap.get? it = some o) (hc : o.cls = .type n) (hd : o.data = .fields vs)
    (hn : ["enumerate", "zip", "dict_itemiterator", "dict_reverseitemiterator", "odict_iterator", "itertools.zip_longest", "itertools.pairwise"].contains n = false) (hQ : Q () s) : wpAny M A (letOwnedTupleGo tg (.ref it) u) Q E s := by
  unfold letOwnedTupleGo
  cases tg <;> first
    | exact Ug hQ
    | (cases u <;> first
        | exact Ug hQ
        | (refine Ua (wpAny_load ho ?_)
           rw [hc, hd]
           show wpAny M A (if (["enumerate", "zip", "dict_itemiterator", "dict_reverseitemiterator", "odict_iterator", "itertools.zip_longest", "itertools.pairwise"].contains n && vs[0]? == some (rawInt _)) = true then _ else _) Q E s
           rw [if_neg (by intro h; rw [hn, Bool.false_and] at h; cases h)]
           exact Ug hQ))
def Itl (K : W.Frag) (a : Addr) : It :=
 ⟨fun i H => ∃ xs x, SqL K H a xs /\ xs[i]? = some x, fun i H x H' => H' = H /\ ∀ xs, SqL K H a xs -> xs[i]? = some x, fun i H => ∃ xs, SqL K H a xs /\ xs.length <= i⟩
def Itt (K : W.Frag) (a : Addr) : It :=
 ⟨fun i H => ∃ xs x, SqT K H a xs /\ xs[i]? = some x, fun i H x H' => H' = H /\ ∀ xs, SqT K H a xs -> xs[i]? = some x, fun i H => ∃ xs, SqT K H a xs /\ xs.length <= i⟩
def Itr (lo : Int) (n : Nat) : It := ⟨fun i _ => i < n, fun i H x H' => H' = H /\ x = .int (lo + i), fun i _ => n <= i⟩
theorem ZJA {P : Program} {w : World} {K : W.Frag} {tg : Expr} (a it : Addr) : ZHs P w K tg (Itl K a) [it] it (fun i h => h.IsListIter it a i) where
 mem := by simp
 obj := fun i h st b hb => by
  have e : b = it := by simpa using hb
  subst e
  obtain ⟨o, e, c, d⟩ := st
  exact ⟨o, e, fun v z => by rw [d] at z; cases z⟩
 keep := fun i h h' st k => st.at fun o e => k it (by simp) o e
 item := by
  intro X hP hw hK hc i pins s U H E I hf st hg
  subst hP hw hK
  obtain ⟨xs, x, hq, hx⟩ := hg
  obtain ⟨its, rv, p, hz⟩ := I.list hq
  obtain ⟨u, hu, ru⟩ := rv.get hx
  obtain ⟨f0, f1, f2, f3, f4, f5⟩ := hf it (by simp)
  refine wpAny_pyNext_list_item st p.isList (x := u) (by simpa using hu) fun h' st' sb => ?_
  have I1 : Inv X pins U H { s with heap := h' } := I.turned (t' := s.toks) (fun b o hb e => (sb.2 b hb).trans e) f0 f1 f3 f4 f5
  obtain ⟨o, e, c, d⟩ := id st'
  exact ⟨u, rfl, ZHU (s := { s with heap := h' }) e c d (by decide) ⟨x, H, I1, ru, ⟨rfl, fun ys hy => by rw [I.list_inj hy hq]; exact hx⟩, st', fun b hb => (hf b hb).1⟩⟩
 done := by
  intro X hP hw hK hc i pins s U H E I hf st hg
  subst hP hw hK
  obtain ⟨xs, hq, hx⟩ := hg
  obtain ⟨its, rv, p, hz⟩ := I.list hq
  obtain ⟨f0, f1, f2, f3, f4, f5⟩ := hf it (by simp)
  have hl := rv.length
  exact wpAny_pyNext_list_end (I.ok.hd hc) st p.isList (by simp; omega) fun h' eb => ⟨rfl, I.turned (t' := s.toks) (fun b o hb e => eb b o hb e) f0 f1 f3 f4 f5⟩
 self := fun _ _ _ _ _ st h => wpAny_pyIter_listiter st h
theorem ZIJ {P : Program} {w : World} {K : W.Frag} {tg : Expr} (a it : Addr) : ZHs P w K tg (Itt K a) [it] it (fun i h => h.IsTupleIter it a i) where
 mem := by simp
 obj := fun i h st b hb => by
  have e : b = it := by simpa using hb
  subst e
  obtain ⟨o, e, c, d⟩ := st
  exact ⟨o, e, fun v z => by rw [d] at z; cases z⟩
 keep := fun i h h' st k => st.at fun o e => k it (by simp) o e
 item := by
  intro X hP hw hK hc i pins s U H E I hf st hg
  subst hP hw hK
  obtain ⟨xs, x, hq, hx⟩ := hg
  obtain ⟨its, rv, p, hz⟩ := I.tuple hq
  obtain ⟨u, hu, ru⟩ := rv.get hx
  obtain ⟨f0, f1, f2, f3, f4, f5⟩ := hf it (by simp)
  refine wpAny_pyNext_tuple_item st (show s.heap.IsTuple a its.toArray from p) (x := u) (by simpa using hu) fun h' st' sb => ?_
  have I1 : Inv X pins U H { s with heap := h' } := I.turned (t' := s.toks) (fun b o hb e => (sb.2 b hb).trans e) f0 f1 f3 f4 f5
  obtain ⟨o, e, c, d⟩ := id st'
  exact ⟨u, rfl, ZHU (s := { s with heap := h' }) e c d (by decide) ⟨x, H, I1, ru, ⟨rfl, fun ys hy => by rw [I.tuple_inj hy hq]; exact hx⟩, st', fun b hb => (hf b hb).1⟩⟩
 done := by
  intro X hP hw hK hc i pins s U H E I hf st hg
  subst hP hw hK
  obtain ⟨xs, hq, hx⟩ := hg
  obtain ⟨its, rv, p, hz⟩ := I.tuple hq
  obtain ⟨f0, f1, f2, f3, f4, f5⟩ := hf it (by simp)
  have hl := rv.length
  exact wpAny_pyNext_tuple_end (I.ok.hd hc) st (show s.heap.IsTuple a its.toArray from p) (by simp; omega) fun h' eb => ⟨rfl, I.turned (t' := s.toks) (fun b o hb e => eb b o hb e) f0 f1 f3 f4 f5⟩
 self := fun _ _ _ _ _ st h => wpAny_pyIter_tupleiter st h
theorem ZMH {P : Program} {w : World} {K : W.Frag} {tg : Expr} (it : Addr) (lo : Int) (n : Nat) : ZHs P w K tg (Itr lo n) [it] it (fun i h => IsRangeIter h it (lo + (i : Nat) * 1) ((n : Int) - (i : Nat)) 1) where
 mem := by simp
 obj := fun i h st b hb => by
  have e : b = it := by simpa using hb
  subst e
  exact ⟨_, st, fun v z => by
   have z' : Data.fields _ = Data.cell v := z
   cases z'⟩
 keep := fun i h h' st k => k it (by simp) _ st
 item := by
  intro X hP hw hK hc i pins s U H E I hf st hg
  subst hP hw hK
  obtain ⟨f0, f1, f2, f3, f4, f5⟩ := hf it (by simp)
  have W := Walks.range (prog := X.prog) (w := X.w) (I.ok.hd hc) it lo 1 n
  refine W.item i s _ _ hg st fun v h' tk hv st' kk => ?_
  obtain ⟨t, rfl⟩ := hv
  have I1 : Inv X pins U H { s with heap := h', toks := tk } := I.turned (fun b o hb e => kk b o (by simpa using hb) e) f0 f1 f3 f4 f5
  refine ⟨_, rfl, ZHU (s := { s with heap := h', toks := tk }) (n := "range_iterator") st' rfl rfl (by decide) ⟨.int (lo + i), H, I1, ⟨t, ?_⟩, ⟨rfl, rfl⟩, st', fun b hb => (hf b hb).1⟩⟩
  rw [Int.mul_one]
 done := by
  intro X hP hw hK hc i pins s U H E I hf st hg
  subst hP hw hK
  obtain ⟨f0, f1, f2, f3, f4, f5⟩ := hf it (by simp)
  exact wpAny_pyNext_range_end (I.ok.hd hc) st (by have : n <= i := hg; omega) fun h' eb => ⟨rfl, I.turned (t' := s.toks) (fun b o hb e => eb b o hb e) f0 f1 f3 f4 f5⟩
 self := fun _ _ _ _ _ st h => wpAny_pyIter_rangeiter st h
section
variable {X : Cx} {tg : Expr}
def ZJv (K : W.Frag) (tl : TE) : TI := fun U H R => tl U H fun x H1 => ∃ a, x = .ref a /\ (∃ xs, SqL K H1 a xs) /\ R (Itl K a) H1
def ZMI (K : W.Frag) (tl : TE) : TI := fun U H R => tl U H fun x H1 => ∃ a, x = .ref a /\ (∃ xs, SqT K H1 a xs) /\ R (Itt K a) H1
theorem ZQn {l : Expr} {tl : TE} (hl : PE X l tl) : PI X tg l (ZJv X.K tl) := by
 intro pins s U H R I h
 refine thn (hl pins s U H _ I h) fun v s1 ⟨x, H1, I1, r1, q1⟩ => ?_
 obtain ⟨a, e, ⟨xs, hq⟩, q⟩ := q1
 subst e
 cases r1
 obtain ⟨its, rv, p, hz⟩ := I1.list hq
 refine wpAny_pyIter_list p.isList ?_
 refine ⟨s1.heap.objs.size, [s1.heap.objs.size], _, _, H1, rfl, I1.kept (t' := s1.toks) fun b o e => Ub _ e, ZJA a _, ⟨_, Uf _ rfl, rfl, rfl⟩, fun b hb => ?_, q⟩
 have e : b = s1.heap.objs.size := by simpa using hb
 subst e
 exact I1.fpOk (Ue _) (I1.hok.fresh (Ue _))
theorem ZSc {l : Expr} {tl : TE} (hl : PE X l tl) : PI X tg l (ZMI X.K tl) := by
 intro pins s U H R I h
 refine thn (hl pins s U H _ I h) fun v s1 ⟨x, H1, I1, r1, q1⟩ => ?_
 obtain ⟨a, e, ⟨xs, hq⟩, q⟩ := q1
 subst e
 cases r1
 obtain ⟨its, rv, p, hz⟩ := I1.tuple hq
 refine wpAny_pyIter_tuple (show s1.heap.IsTuple a its.toArray from p) ?_
 refine ⟨s1.heap.objs.size, [s1.heap.objs.size], _, _, H1, rfl, I1.kept (t' := s1.toks) fun b o e => Ub _ e, ZIJ a _, ⟨_, Uf _ rfl, rfl, rfl⟩, fun b hb => ?_, q⟩
 have e : b = s1.heap.objs.size := by simpa using hb
 subst e
 exact I1.fpOk (Ue _) (I1.hok.fresh (Ue _))
theorem ZOi {pins : List (Addr × Obj)} {U : St} {H : Hp} {s : Shared} {R : It -> Hp -> Prop} {E : Value -> Shared -> Prop} {lo hi : Int} {t u v : Tok} {tk : Nat} (I : Inv X pins U H s) (h1 : -(2 ^ 62) <= lo) (h2 : lo < 2 ^ 62) (h3 : -(2 ^ 62) <= hi) (h4 : hi < 2 ^ 62)
  (q : R (Itr lo (hi - lo).toNat) H) : wpAny (model X.prog X.w) X.A (pyIter (.ref s.heap.objs.size)) (PIE X pins U tg R) E { s with heap := s.heap.push { cls := .type "range", data := .fields #[.int lo t, .int hi u, .int 1 v] }, toks := tk } := by
 refine wpAny_pyIter_range (IsRange.new ..) (small_one h1 h2 h3 h4) ?_
 have I1 : Inv X pins U H { s with heap := s.heap.push { cls := .type "range", data := .fields #[.int lo t, .int hi u, .int 1 v] }, toks := tk } := I.kept fun b o e => Ub _ e
 refine ⟨(s.heap.push { cls := .type "range", data := .fields #[.int lo t, .int hi u, .int 1 v] }).objs.size, [(s.heap.push { cls := .type "range", data := .fields #[.int lo t, .int hi u, .int 1 v] }).objs.size], _, _, H, rfl,
  I1.kept (t' := tk) fun b o e => Ub _ e, ZMH _ lo (hi - lo).toNat, ?_, fun b hb => ?_, q⟩
 ·have e1 : lo + ((0 : Nat) : Int) * 1 = lo := by simp
  have e2 : (((hi - lo).toNat : Nat) : Int) - ((0 : Nat) : Int) = Builtin.Range.rangeSize lo hi 1 := by rw [rangeSize_one]; split <;> omega
  show IsRangeIter _ _ (lo + ((0 : Nat) : Int) * 1) ((((hi - lo).toNat : Nat) : Int) - ((0 : Nat) : Int)) 1
  rw [e1, e2]
  exact Uf _ rfl
 ·have e : b = (s.heap.push { cls := .type "range", data := .fields #[.int lo t, .int hi u, .int 1 v] }).objs.size := by simpa using hb
  subst e
  exact I1.fpOk (Ue _) (I1.hok.fresh (Ue _))
def ZMJ (ta : TA) : TI := fun U H R => ta U H fun vs H1 => ∃ j : Int, vs = [.int j] /\ -(2 ^ 62) <= j /\ j < 2 ^ 62 /\ R (Itr 0 j.toNat) H1
theorem ZNH {a : Expr} {ta : TA} {p pos : Pos} (hg : Gl X "range") (hm : X.mg "range" = none) (ha : PA X [a] ta) (hs : starEach [a] X.env = [(false, eval a X.env)] := by rfl) : PI X tg (.Call (.Name "range" p) [a] [] pos) (ZMJ ta) := by
 intro pins s U H R I h
 refine Call_ (ZEb I hg hm boot_range (PyProof.Rows.callWith_type1 (thn (ha pos pins s U H _ I h) fun us s1 ⟨vs, H1, I1, r1, q1⟩ => ?_) hs rfl))
 obtain ⟨j, e, q1, q2, q⟩ := q1
 subst e
 cases r1 with
 | cons r rr =>
  cases rr
  obtain ⟨t, rfl⟩ := r
  exact call_range_1 (ZOi I1 (by omega) (by omega) q1 q2 (by simpa using q))
def ZOj (wi : TI) (g : TG) (tb : TS) : TS := fun D U H => wi U H fun J H1 => ∃ W : Nat -> Nat -> St -> Hp -> Prop, (∃ m, W 0 m U H1) /\ ∀ i m U H, W i m U H ->
 (J.stop i H /\ D.nx U H) \/ (J.go i H /\ ∃ N : St -> Hp -> Prop, (∀ U' H', N U' H' -> ∃ m', m' < m /\ W (i + 1) m' U' H') /\ ∀ x H', J.yld i H x H' -> g x U H' fun U2 H2 => tb { D with nx := N, ct := N, bk := D.nx } U2 H2)
def ZF3 (fp : List Addr) (h : Heap) : List (Addr × Obj) := fp.filterMap fun b => (h.get? b).map fun o => (b, o)
theorem ZEA {fp : List Addr} {h : Heap} {b : Addr} {o : Obj} (hb : b ∈ fp) (e : h.get? b = some o) : (b, o) ∈ ZF3 fp h := List.mem_filterMap.mpr ⟨b, hb, by rw [e]; rfl⟩
theorem ZNI {fp : List Addr} {h : Heap} {p : Addr × Obj} (hp : p ∈ ZF3 fp h) : p.1 ∈ fp /\ h.get? p.1 = some p.2 := by
 obtain ⟨b, hb, e⟩ := List.mem_filterMap.mp hp
 cases q : h.get? b with
 | none => rw [q] at e; cases e
 | some o =>
  rw [q] at e
  have e' : (b, o) = p := Option.some.inj e
  subst e'
  exact ⟨hb, q⟩
theorem Inv.pinned {pins : List (Addr × Obj)} {U : St} {H : Hp} {s : Shared} {fp : List Addr} (I : Inv X pins U H s) (hf : ∀ b ∈ fp, ZDo X pins H b) (ho : ∀ b ∈ fp, ∃ o, s.heap.get? b = some o /\ ∀ v, o.data ≠ .cell v) : Inv X (pins ++ ZF3 fp s.heap) U H s :=
 I.pins_of fun p hp => (UI.mp hp).elim (fun z => I.pin p (Ur _ z)) fun z => by
  obtain ⟨hb, e⟩ := ZNI z
  obtain ⟨f0, f1, f2, _⟩ := hf p.1 hb
  obtain ⟨o, e', d⟩ := ho p.1 hb
  rw [e] at e'; cases e'
  exact ⟨e, f0, f1, f2, d⟩
theorem Inv.unpinned {pins pl : List (Addr × Obj)} {U : St} {H : Hp} {s : Shared} (I : Inv X (pins ++ pl) U H s) : Inv X pins U H s := I.pins_of fun p hp => I.pin p (Ur _ (Vo _ hp))
theorem ZSd {iter : Expr} {body : List Stmt} {wi : TI} {g : TG} {tb : TS} {pos : Pos} (hp : PassesOwn (model X.prog X.w) X.A X.env X.xe) (hc : X.calm = true) (hi : PI X tg iter wi) (hg : PG X tg g) (hb : PSs X body tb)
  (hs : ∀ x, foldedSetIterable iter X.env x = pure x := by intro _; rfl) : PS X (.For tg iter body [] pos) (ZOj wi g tb) := by
 intro pins s U H D I h
 refine wpAny_For (thn (hi pins s U H _ I h) fun v s1 h1 => thn h1 fun itv s2 h2 => ?_) hs
 obtain ⟨it, fp, tn, J, H2, e, I2, T, st2, f2, W, ⟨m0, w0⟩, turn⟩ := h2
 subst e
 -- what stays true of the iterator's objects through the loop
 have stat : ∀ {H' : Hp}, (∀ b ∈ fp, H' b = none) -> ∀ b ∈ fp, ZDo X pins H' b := fun hn b hb => ⟨hn b hb, (f2 b hb).2⟩
 refine codeAny_forLoop_any (fun n s' => ∃ i U' H', Inv X pins U' H' s' /\ tn i s'.heap /\ (∀ b ∈ fp, H' b = none) /\ W i n U' H') ?_ m0 ⟨0, U, H2, I2, st2, fun b hb => (f2 b hb).1, w0⟩
 rintro n s3 ⟨i, U3, H3, I3, st3, fr3, w3⟩
 rcases turn i n U3 H3 w3 with ⟨stop, qn⟩ | ⟨go, N, hN, step⟩
 ·refine wpAny_passesOwn hp (thn (T.done X rfl rfl rfl hc i pins s3 U3 H3 X.xe I3 (stat fr3) st3 stop) fun r s4 ⟨hr, I4⟩ => ?_)
  subst hr
  exact wpAny_execs_nil ⟨U3, H3, I4, qn⟩
 ·refine wpAny_passesOwn hp (thn (T.item X rfl rfl rfl hc i pins s3 U3 H3 X.xe I3 (stat fr3) st3 go) fun r s4 ⟨u, hr, h4⟩ => ?_)
  subst hr
  refine wpAny_passesOwn hp (thn h4 fun _ s5 ⟨x, H5, I5, r5, y5, st5, fr5⟩ => ?_)
  have I5' := I5.pinned (stat fr5) (T.obj _ _ st5)
  refine wpAny_passesOwn hp (thn (hg _ s5 U3 H5 x u _ I5' r5 (step x H5 y5)) fun _ s6 ⟨U6, H6, I6, q6⟩ => ?_)
  refine wpAny_passesOwn hp (thn (hb _ s6 U6 H6 _ I6 q6) fun f s7 q7 => ?_)
  have again : ∀ {U7 : St} {H7 : Hp}, Inv X (pins ++ ZF3 fp s5.heap) U7 H7 s7 -> N U7 H7 -> ∃ m, m < n /\ ∃ i U' H', Inv X pins U' H' s7 /\ tn i s7.heap /\ (∀ b ∈ fp, H' b = none) /\ W i m U' H' := fun {U7 H7} I7 n7 => by
   obtain ⟨m', hm, w7⟩ := hN U7 H7 n7
   refine ⟨m', hm, i + 1, U7, H7, I7.unpinned, T.keep _ _ _ st5 fun b hb o e => (I7.pin (b, o) (Ur _ (Ur _ (ZEA hb e)))).1, fun b hb => ?_, w7⟩
   obtain ⟨o, e, d⟩ := T.obj _ _ st5 b hb
   exact (I7.pin (b, o) (Ur _ (Ur _ (ZEA hb e)))).2.1
  cases f with
  | next => obtain ⟨U7, H7, I7, n7⟩ := q7; exact again I7 n7
  | cont => obtain ⟨U7, H7, I7, n7⟩ := q7; exact again I7 n7
  | brk => obtain ⟨U7, H7, I7, q7⟩ := q7; exact ⟨U7, H7, I7.unpinned, q7⟩
  | ret v => obtain ⟨x7, U7, H7, I7, r7, q7⟩ := q7; exact ⟨x7, U7, H7, I7.unpinned, r7, q7⟩
end
theorem ZOk {K : W.Frag} {a : Addr} {xs : List V} {g : TG} {tb : TS} {D : ZDT} {U : St} {H : Hp} (Pv : Nat -> St -> Hp -> Prop) (h0 : Pv 0 U H) (hl : ∀ i U H, i <= xs.length -> Pv i U H -> SqL K H a xs)
  (hs : ∀ i x U H, xs[i]? = some x -> Pv i U H -> g x U H fun U2 H2 => tb { D with nx := Pv (i + 1), ct := Pv (i + 1), bk := D.nx } U2 H2) (hd : ∀ U H, Pv xs.length U H -> D.nx U H) :
  ∃ W : Nat -> Nat -> St -> Hp -> Prop, (∃ m, W 0 m U H) /\ ∀ i m U H, W i m U H ->
   ((Itl K a).stop i H /\ D.nx U H) \/ ((Itl K a).go i H /\ ∃ N : St -> Hp -> Prop, (∀ U' H', N U' H' -> ∃ m', m' < m /\ W (i + 1) m' U' H') /\ ∀ x H', (Itl K a).yld i H x H' -> g x U H' fun U2 H2 => tb { D with nx := N, ct := N, bk := D.nx } U2 H2) := by
 refine ⟨fun i m U H => m = xs.length - i /\ i <= xs.length /\ Pv i U H, ⟨xs.length, by simp, UE _, h0⟩, ?_⟩
 rintro i m U H ⟨rfl, hi, p⟩
 have q := hl i U H hi p
 by_cases hlt : i < xs.length
 ·refine .inr ⟨⟨xs, xs[i], q, by simp [hlt]⟩, Pv (i + 1), fun U' H' p' => ⟨xs.length - (i + 1), by omega, rfl, hlt, p'⟩, fun x H' y => ?_⟩
  obtain ⟨e, y⟩ := y
  subst e
  exact hs i x U _ (y xs q) p
 ·have e : i = xs.length := by omega
  subst e
  exact .inl ⟨⟨xs, q, Ue _⟩, hd U H p⟩
theorem ZQo {K : W.Frag} {a : Addr} {xs : List V} {g : TG} {tb : TS} {D : ZDT} {U : St} {H : Hp} (Pv : Nat -> St -> Hp -> Prop) (h0 : Pv 0 U H) (hl : ∀ i U H, i <= xs.length -> Pv i U H -> SqT K H a xs)
  (hs : ∀ i x U H, xs[i]? = some x -> Pv i U H -> g x U H fun U2 H2 => tb { D with nx := Pv (i + 1), ct := Pv (i + 1), bk := D.nx } U2 H2) (hd : ∀ U H, Pv xs.length U H -> D.nx U H) :
  ∃ W : Nat -> Nat -> St -> Hp -> Prop, (∃ m, W 0 m U H) /\ ∀ i m U H, W i m U H ->
   ((Itt K a).stop i H /\ D.nx U H) \/ ((Itt K a).go i H /\ ∃ N : St -> Hp -> Prop, (∀ U' H', N U' H' -> ∃ m', m' < m /\ W (i + 1) m' U' H') /\ ∀ x H', (Itt K a).yld i H x H' -> g x U H' fun U2 H2 => tb { D with nx := N, ct := N, bk := D.nx } U2 H2) := by
 refine ⟨fun i m U H => m = xs.length - i /\ i <= xs.length /\ Pv i U H, ⟨xs.length, by simp, UE _, h0⟩, ?_⟩
 rintro i m U H ⟨rfl, hi, p⟩
 have q := hl i U H hi p
 by_cases hlt : i < xs.length
 ·refine .inr ⟨⟨xs, xs[i], q, by simp [hlt]⟩, Pv (i + 1), fun U' H' p' => ⟨xs.length - (i + 1), by omega, rfl, hlt, p'⟩, fun x H' y => ?_⟩
  obtain ⟨e, y⟩ := y
  subst e
  exact hs i x U _ (y xs q) p
 ·have e : i = xs.length := by omega
  subst e
  exact .inl ⟨⟨xs, q, Ue _⟩, hd U H p⟩
theorem ZNJ {lo : Int} {n : Nat} {g : TG} {tb : TS} {D : ZDT} {U : St} {H : Hp} (Pv : Nat -> St -> Hp -> Prop) (h0 : Pv 0 U H)
  (hs : ∀ i U H, i < n -> Pv i U H -> g (.int (lo + i)) U H fun U2 H2 => tb { D with nx := Pv (i + 1), ct := Pv (i + 1), bk := D.nx } U2 H2) (hd : ∀ U H, Pv n U H -> D.nx U H) :
  ∃ W : Nat -> Nat -> St -> Hp -> Prop, (∃ m, W 0 m U H) /\ ∀ i m U H, W i m U H ->
   ((Itr lo n).stop i H /\ D.nx U H) \/ ((Itr lo n).go i H /\ ∃ N : St -> Hp -> Prop, (∀ U' H', N U' H' -> ∃ m', m' < m /\ W (i + 1) m' U' H') /\ ∀ x H', (Itr lo n).yld i H x H' -> g x U H' fun U2 H2 => tb { D with nx := N, ct := N, bk := D.nx } U2 H2) := by
 refine ⟨fun i m U H => m = n - i /\ i <= n /\ Pv i U H, ⟨n, by simp, UE _, h0⟩, ?_⟩
 rintro i m U H ⟨rfl, hi, p⟩
 by_cases hlt : i < n
 ·refine .inr ⟨hlt, Pv (i + 1), fun U' H' p' => ⟨n - (i + 1), by omega, rfl, hlt, p'⟩, fun x H' y => ?_⟩
  obtain ⟨e, y⟩ := y
  subst e y
  exact hs i U _ hlt p
 ·have e : i = n := by omega
  subst e
  exact .inl ⟨Ue _, hd U H p⟩
abbrev R2 := V -> V -> Hp -> VK -> Prop
def OpR (X : Cx) (f : Value -> Value -> Sem Value) (r : R2) : Prop :=
 ∀ (pins : List (Addr × Obj)) (s : Shared) (U : St) (H : Hp) (x y : V) (v u : Value) (Q : VK), Inv X pins U H s -> ZCb x v -> ZCb y u -> r x y H Q ->
  wpAny (model X.prog X.w) X.A (f v u) (EP X pins U Q) X.xe s
def UnR (X : Cx) (f : Value -> Sem Value) (r : V -> Hp -> VK -> Prop) : Prop :=
 ∀ (pins : List (Addr × Obj)) (s : Shared) (U : St) (H : Hp) (x : V) (v : Value) (Q : VK), Inv X pins U H s -> ZCb x v -> r x H Q ->
  wpAny (model X.prog X.w) X.A (f v) (EP X pins U Q) X.xe s
def ZC8 (X : Cx) (f : Value) (r : List V -> Hp -> VK -> Prop) : Prop :=
 ∀ (pins : List (Addr × Obj)) (s : Shared) (U : St) (H : Hp) (xs : List V) (us : List Value) (Q : VK), Inv X pins U H s -> ZCh xs us -> r xs H Q ->
  wpAny (model X.prog X.w) X.A (call f us) (EP X pins U Q) X.xe s
def tOp (r : R2) (ta tb : TE) : TE := fun U H Q => ta U H fun x H1 => tb U H1 fun y H2 => r x y H2 Q
def tUn (r : V -> Hp -> VK -> Prop) (ta : TE) : TE := fun U H Q => ta U H fun x H1 => r x H1 Q
def rI (C : Int -> Int -> Prop) (g : Int -> Int -> V) : R2 := fun x y H Q => ∃ i j, x = .int i /\ y = .int j /\ C i j /\ Q (g i j) H
def rI0 (g : Int -> Int -> V) : R2 := fun x y H Q => ∃ i j, x = .int i /\ y = .int j /\ Q (g i j) H
def rU (g : Int -> V) : V -> Hp -> VK -> Prop := fun x H Q => ∃ i, x = .int i /\ Q (g i) H
section
variable {X : Cx} {a b c : Expr} {ta tb tc : TE} {pos : Pos}
theorem ZOl (ha : PE X a ta) (hb : PE X b tb) {pins : List (Addr × Obj)} {s : Shared} {U : St} {H : Hp} {R : V -> V -> Hp -> Prop} (I : Inv X pins U H s)
  (h : ta U H fun x H1 => tb U H1 fun y H2 => R x y H2) {Q : Value -> Shared -> Prop} {f : Value -> Value -> Sem Value}
  (hf : ∀ v u s2 x y H2, Inv X pins U H2 s2 -> ZCb x v -> ZCb y u -> R x y H2 -> wpAny (model X.prog X.w) X.A (f v u) Q X.xe s2) :
  wpAny (model X.prog X.w) X.A (eval a X.env) (fun v s₁ => wpAny (model X.prog X.w) X.A (eval b X.env) (fun u s₂ => wpAny (model X.prog X.w) X.A (f v u) Q X.xe s₂) X.xe s₁) X.xe s := by
 refine thn (ha pins s U H _ I h) fun v s1 ⟨x, H1, I1, r1, q1⟩ => ?_
 refine thn (hb pins s1 U H1 _ I1 q1) fun u s2 ⟨y, H2, I2, r2, q2⟩ => ?_
 exact hf v u s2 x y H2 I2 r1 r2 q2
theorem ZT7 {op : Operator} {r : R2} (ho : OpR X (binaryOp op) r) (ha : PE X a ta) (hb : PE X b tb) : PE X (.BinOp a op b pos) (tOp r ta tb) := by
 intro pins s U H Q I h
 exact wpAny_BinOp (ZOl ha hb I h fun v u s2 x y H2 I2 rx ry q => ho pins s2 U H2 x y v u Q I2 rx ry q)
theorem ZT8 {op : UnaryOp} {r : V -> Hp -> VK -> Prop} (ho : UnR X (unaryOp op) r) (ha : PE X a ta) : PE X (.UnaryOp op a pos) (tUn r ta) := by
 intro pins s U H Q I h
 exact UnaryOp_ (thn (ha pins s U H _ I h) fun v s1 ⟨x, H1, I1, r1, q1⟩ => ho pins s1 U H1 x v Q I1 r1 q1)
theorem opI {f : Value -> Value -> Sem Value} {C : Int -> Int -> Prop} {g : Int -> Int -> Int}
  (rule : ∀ (i j : Int) (t u : Tok) (s : Shared) (Q : Value -> Shared -> Prop) (E : Value -> Shared -> Prop), C i j -> Q (.int (g i j) s.toks) { s with toks := s.toks + 1 } -> wpAny (model X.prog X.w) X.A (f (.int i t) (.int j u)) Q E s) :
  OpR X f (rI C fun i j => .int (g i j)) := by
 intro pins s U H x y v u Q I rx ry h
 obtain ⟨i, j, rfl, rfl, hc, q⟩ := h
 obtain ⟨t, rfl⟩ := rx
 obtain ⟨t', rfl⟩ := ry
 exact rule i j t t' s _ _ hc ⟨.int (g i j), H, I.tok _, ⟨_, rfl⟩, q⟩
theorem ZOm {f : Value -> Value -> Sem Value} {g : Int -> Int -> Int}
  (rule : ∀ (i j : Int) (t u : Tok) (s : Shared) (Q : Value -> Shared -> Prop) (E : Value -> Shared -> Prop), Q (.int (g i j) s.toks) { s with toks := s.toks + 1 } -> wpAny (model X.prog X.w) X.A (f (.int i t) (.int j u)) Q E s) :
  OpR X f (rI0 fun i j => .int (g i j)) := by
 intro pins s U H x y v u Q I rx ry h
 obtain ⟨i, j, rfl, rfl, q⟩ := h
 obtain ⟨t, rfl⟩ := rx
 obtain ⟨t', rfl⟩ := ry
 exact rule i j t t' s _ _ ⟨.int (g i j), H, I.tok _, ⟨_, rfl⟩, q⟩
theorem ZMK {f : Value -> Value -> Sem Value} {g : Int -> Int -> Bool}
  (rule : ∀ (i j : Int) (t u : Tok) (s : Shared) (Q : Value -> Shared -> Prop) (E : Value -> Shared -> Prop), Q (.bool (g i j)) s -> wpAny (model X.prog X.w) X.A (f (.int i t) (.int j u)) Q E s) :
  OpR X f (rI0 fun i j => .bl (g i j)) := by
 intro pins s U H x y v u Q I rx ry h
 obtain ⟨i, j, rfl, rfl, q⟩ := h
 obtain ⟨t, rfl⟩ := rx
 obtain ⟨t', rfl⟩ := ry
 exact rule i j t t' s _ _ ⟨.bl (g i j), H, I, rfl, q⟩
def ZOn (i j : Int) : Prop := 0 <= j /\ j <= 1000000 /\ i.natAbs < 2 ^ 64
def ZOo (i j : Int) : Prop := (-(2 ^ 64) < i /\ i < 2 ^ 64) \/ (-(2 ^ 64) < j /\ j < 2 ^ 64)
theorem ZOo.ok {i j : Int} (h : ZOo i j) : IntMulOk i j := by
 rcases h with ⟨h1, h2⟩ | ⟨h1, h2⟩
 ·exact .of_left (intBits_le_64 h1 h2)
 ·exact .of_right (intBits_le_64 h1 h2)
theorem ZDK : OpR X (binaryOp .Add) (rI0 fun i j => .int (i + j)) := ZOm fun _ _ _ _ _ _ _ q => add_int q
theorem ZF4 : OpR X (binaryOp .Sub) (rI0 fun i j => .int (i - j)) := ZOm fun _ _ _ _ _ _ _ q => sub_int q
theorem ZFN : OpR X (binaryOp .Mod) (rI (fun _ j => 0 < j) fun i j => .int (i % j)) := opI fun i j _ _ _ _ _ hc q => by
 have h1 : (0 : Int) < j := hc
 exact mod_int' (by omega) (by rw [Int.fmod_eq_emod_of_nonneg i (by omega)]; exact q)
theorem ZJ9 : OpR X (binaryOp .Pow) (rI ZOn fun i j => .int (i ^ j.toNat)) := opI fun _ _ _ _ _ _ _ hc q => pow_int_small hc.1 hc.2.1 hc.2.2 q
theorem ZLi : OpR X (inplaceOp .Add) (rI0 fun i j => .int (i + j)) := ZOm fun _ _ _ _ _ _ _ q => iadd_int q
theorem ZQp : OpR X (inplaceOp .Mult) (rI ZOo fun i j => .int (i * j)) := opI fun _ _ _ _ _ _ _ hc q => imul_int q hc.ok
theorem unI {f : Value -> Sem Value} {g : Int -> Int}
  (rule : ∀ (i : Int) (t : Tok) (s : Shared) (Q : Value -> Shared -> Prop) (E : Value -> Shared -> Prop), Q (.int (g i) s.toks) { s with toks := s.toks + 1 } -> wpAny (model X.prog X.w) X.A (f (.int i t)) Q E s) :
  UnR X f (rU fun i => .int (g i)) := by
 intro pins s U H x v Q I rx h
 obtain ⟨i, rfl, q⟩ := h
 obtain ⟨t, rfl⟩ := rx
 exact rule i t s _ _ ⟨.int (g i), H, I.tok _, ⟨_, rfl⟩, q⟩
theorem ZIK : UnR X (unaryOp .USub) (rU fun i => .int (-i)) := unI fun _ _ _ _ _ q => neg_int q
end
def ZUT : V -> V -> Bool
 | .non, .non => true | .non, .int _ => true | .int _, .non => true | .non, .bl _ => true | .bl _, .non => true | .non, .str _ => true | .str _, .non => true
 | .int _, .int _ => true | .bl _, .bl _ => true | .str _, .str _ => true | .byt _, .byt _ => true
 | .int _, .str _ => true | .str _, .int _ => true | .bl _, .str _ => true | .str _, .bl _ => true
 | _, _ => false
def rEq : R2 := fun x y H Q => ZUT x y = true /\ Q (.bl (decide (x = y))) H
theorem ZQq {i j : Int} : decide (V.int i = V.int j) = (i == j) := by
 rw [Bool.eq_iff_iff]
 simp
theorem ZSe {i j : Bool} : decide (V.bl i = V.bl j) = (i == j) := by
 rw [Bool.eq_iff_iff]
 simp
theorem ZQr {i j : Str} : decide (V.str i = V.str j) = (i == j) := by
 rw [Bool.eq_iff_iff]
 simp
theorem ZQs {i j : Array UInt8} : decide (V.byt i = V.byt j) = (i.toList == j.toList) := by
 rw [Bool.eq_iff_iff]
 cases i
 cases j
 simp
section
variable {X : Cx} {a b c : Expr} {ta tb tc : TE} {pos : Pos}
theorem ZDV {pins : List (Addr × Obj)} {U : St} {H : Hp} {s : Shared} {Q : VK} {k k' : Bool} (I : Inv X pins U H s) (q : Q (.bl k) H) (e : k = k') : EP X pins U Q (.bool k') s := by
 subst e
 exact ⟨.bl k, H, I, rfl, q⟩
theorem ZIL : OpR X (compareOp .Eq) rEq := by
 intro pins s U H x y v u Q I rx ry h
 obtain ⟨hs, q⟩ := h
 cases x with
 | non =>
  cases rx
  cases y with
  | non => cases ry; exact PySem.EqNone.eq_none_none (ZDV I q (by simp))
  | bl j => cases ry; exact PySem.EqNone.eq_none_bool (ZDV I q (by simp))
  | int j => obtain ⟨t', rfl⟩ := ry; exact PySem.EqNone.eq_none_int (ZDV I q (by simp))
  | str j => obtain ⟨t', rfl⟩ := ry; exact PySem.EqNone.eq_none_str (ZDV I q (by simp))
  | _ => exact absurd (show false = true from hs) UH
 | bl i =>
  cases rx
  cases y with
  | non => cases ry; exact PySem.EqNone.eq_bool_none (ZDV I q (by simp))
  | bl j => cases ry; exact eq_bool (ZDV I q ZSe)
  | str j => obtain ⟨t', rfl⟩ := ry; exact PySem.EqMixed.eq_bool_str (ZDV I q (by simp))
  | _ => exact absurd (show false = true from hs) UH
 | int i =>
  obtain ⟨t, rfl⟩ := rx
  cases y with
  | non => cases ry; exact PySem.EqNone.eq_int_none (ZDV I q (by simp))
  | int j => obtain ⟨t', rfl⟩ := ry; exact eq_int (ZDV I q ZQq)
  | str j => obtain ⟨t', rfl⟩ := ry; exact PySem.EqMixed.eq_int_str (ZDV I q (by simp))
  | _ => exact absurd (show false = true from hs) UH
 | str i =>
  obtain ⟨t, rfl⟩ := rx
  cases y with
  | non => cases ry; exact PySem.EqNone.eq_str_none (ZDV I q (by simp))
  | bl j => cases ry; exact PySem.EqMixed.eq_str_bool (ZDV I q (by simp))
  | int j => obtain ⟨t', rfl⟩ := ry; exact PySem.EqMixed.eq_str_int (ZDV I q (by simp))
  | str j => obtain ⟨t', rfl⟩ := ry; exact eq_str (ZDV I q ZQr)
  | _ => exact absurd (show false = true from hs) UH
 | byt i =>
  obtain ⟨t, rfl⟩ := rx
  cases y with
  | byt j => obtain ⟨t', rfl⟩ := ry; exact PySem.W.eq_bytes (ZDV I q ZQs)
  | _ => exact absurd (show false = true from hs) UH
 | _ => cases y <;> exact absurd (show false = true from hs) UH
theorem ZIM : OpR X (compareOp .Lt) (rI0 fun i j => .bl (decide (i < j))) := ZMK fun _ _ _ _ _ _ _ q => lt_int q
theorem ZFE : OpR X (compareOp .LtE) (rI0 fun i j => .bl (decide (i <= j))) := ZMK fun _ _ _ _ _ _ _ q => le_int q
theorem ZT9 : OpR X (compareOp .Gt) (rI0 fun i j => .bl (decide (j < i))) := ZMK fun _ _ _ _ _ _ _ q => gt_int q
theorem ZQM : OpR X (compareOp .GtE) (rI0 fun i j => .bl (decide (j <= i))) := ZMK fun _ _ _ _ _ _ _ q => ge_int q
theorem ZSf : OpR X (compareOp .Is) (fun x y H Q => y = .non /\ Q (.bl (decide (x = .non))) H) := by
 intro pins s U H x y v u Q I rx ry h
 obtain ⟨rfl, q⟩ := h
 cases ry
 refine is_none_gen (ZDV I q ?_)
 cases x <;> first
  | (cases rx; rfl)
  | (obtain ⟨t, rfl⟩ := rx; rfl)
theorem ZQt : OpR X (compareOp .IsNot) (fun x y H Q => y = .non /\ Q (.bl (!decide (x = .non))) H) := by
 intro pins s U H x y v u Q I rx ry h
 obtain ⟨rfl, q⟩ := h
 cases ry
 refine isnot_none_gen (ZDV I q ?_)
 cases x <;> first
  | (cases rx; rfl)
  | (obtain ⟨t, rfl⟩ := rx; rfl)
theorem ZDL (b : Expr) {op : CmpOp} (h : op ≠ .In := by decide) (h2 : op ≠ .NotIn := by decide) : behindInMarks op b = false := by
 have e1 : (op == CmpOp.In) = false := by cases op <;> first | rfl | exact absurd rfl h
 have e2 : (op == CmpOp.NotIn) = false := by cases op <;> first | rfl | exact absurd rfl h2
 cases b <;> simp [behindInMarks, e1, e2]
theorem ZQu {op : CmpOp} {r : R2} (ho : OpR X (compareOp op) r) (ha : PE X a ta) (hb : PE X b tb) (hm : behindInMarks op b = false) : PE X (.Compare a [op] [b] pos) (tOp r ta tb) := by
 intro pins s U H Q I h
 exact wpAny_Compare1 (ZOl ha hb I h fun v u s2 x y H2 I2 rx ry q => ho pins s2 U H2 x y v u Q I2 rx ry q) hm
def ZIN (t : TE) : TT := fun U H Q => t U H fun x H' => ∃ k, x = .bl k /\ Q k H'
theorem ZQv {op : CmpOp} {r : R2} (ho : OpR X (compareOp op) r) (ha : PE X a ta) (hb : PE X b tb) (hm : behindInMarks op b = false) : PT X (.Compare a [op] [b] pos) (ZIN (tOp r ta tb)) := by
 intro pins s U H Q I h
 refine wpAny_isTrue_Compare1 (thn (ha pins s U H _ I h) fun v s1 ⟨x, H1, I1, r1, q1⟩ => thn (hb pins s1 U H1 _ I1 q1) fun u s2 ⟨y, H2, I2, r2, q2⟩ =>
  thn (ho pins s2 U H2 x y v u _ I2 r1 r2 q2) fun c s3 ⟨z, H3, I3, r3, k, e, q3⟩ => ?_) hm
 subst e
 cases r3
 exact wpAny_truthy_bool ⟨H3, I3, q3⟩
def ZGo (r r' : R2) (ta tb tc : TE) : TE := fun U H Q => ta U H fun x H1 => tb U H1 fun y H2 => r x y H2 fun z H3 => ∃ k, z = .bl k /\
 (if k = true then tc U H3 fun w' H4 => r' y w' H4 Q else Q (.bl false) H3)
theorem ZOp {op op' : CmpOp} {r r' : R2} (ho : OpR X (compareOp op) r) (ho' : OpR X (compareOp op') r') (ha : PE X a ta) (hb : PE X b tb) (hc : PE X c tc)
  (hm : lastMarks [op, op'] [b, c] = false := by with_unfolding_all rfl) : PE X (.Compare a [op, op'] [b, c] pos) (ZGo r r' ta tb tc) := by
 intro pins s U H Q I h
 refine Compare_chain (thn (ha pins s U H _ I h) fun v s1 ⟨x, H1, I1, r1, q1⟩ => chain_link (thn (hb pins s1 U H1 _ I1 q1) fun u s2 ⟨y, H2, I2, r2, q2⟩ =>
  thn (ho pins s2 U H2 x y v u _ I2 r1 r2 q2) fun d s3 ⟨z, H3, I3, r3, k, e, q3⟩ => ?_)) hm
 subst e
 cases r3
 refine wpAny_truthy_bool ?_
 cases k with
 | false => exact ite_ff ⟨.bl false, H3, I3, rfl, q3⟩
 | true => exact ite_tt (chain_last (thn (hc pins s3 U H3 _ I3 q3) fun w' s4 ⟨z', H4, I4, r4, q4⟩ => ho' pins s4 U H4 y z' u w' Q I4 r2 r4 q4))
theorem ZOq {op op' : CmpOp} {r r' : R2} (ho : OpR X (compareOp op) r) (ho' : OpR X (compareOp op') r') (ha : PE X a ta) (hb : PE X b tb) (hc : PE X c tc)
  (hm : lastMarks [op, op'] [b, c] = false := by with_unfolding_all rfl) : PT X (.Compare a [op, op'] [b, c] pos) (ZIN (ZGo r r' ta tb tc)) := by
 intro pins s U H Q I h
 refine isTrue_chain (thn (ha pins s U H _ I h) fun v s1 ⟨x, H1, I1, r1, q1⟩ => test_link (thn (hb pins s1 U H1 _ I1 q1) fun u s2 ⟨y, H2, I2, r2, q2⟩ =>
  thn (ho pins s2 U H2 x y v u _ I2 r1 r2 q2) fun d s3 ⟨z, H3, I3, r3, k, e, q3⟩ => ?_)) hm
 subst e
 cases r3
 refine wpAny_truthy_bool ?_
 cases k with
 | false =>
  obtain ⟨k', e', q'⟩ := q3
  cases e'
  exact ite_ff ⟨H3, I3, q'⟩
 | true =>
  refine ite_tt (test_last (thn (hc pins s3 U H3 _ I3 q3) fun w' s4 ⟨z', H4, I4, r4, q4⟩ => thn (ho' pins s4 U H4 y z' u w' _ I4 r2 r4 q4) fun d' s5 ⟨z2, H5, I5, r5, k2, e2, q5⟩ => ?_))
  subst e2
  cases r5
  exact wpAny_truthy_bool ⟨H5, I5, q5⟩
theorem ZGp : (sizeLine : Nat) < 2 ^ 63 := by rw [sizeLine_eq]; decide
theorem ZIO {x : V} {us : List Value} (r : ZCh [x] us) : ∃ u, us = [u] /\ ZCb x u := by
 cases r with
 | cons r1 r2 => cases r2; exact ⟨_, rfl, r1⟩
theorem ZQN {x y : V} {us : List Value} (r : ZCh [x, y] us) : ∃ u w', us = [u, w'] /\ ZCb x u /\ ZCb y w' := by
 cases r with
 | cons r1 r2 =>
  cases r2 with
  | cons r3 r4 => cases r4; exact ⟨_, _, rfl, r1, r3⟩
theorem ZOr : ZC8 X (.builtin "abs") (fun xs H Q => ∃ i, xs = [.int i] /\ Q (.int (if i < 0 then -i else i)) H) := by
 intro pins s U H xs us Q I r h
 obtain ⟨i, rfl, q⟩ := h
 obtain ⟨u, rfl, t, rfl⟩ := ZIO r
 exact call_abs_int fun u tk => ⟨.int (if i < 0 then -i else i), H, I.tok _, ⟨_, rfl⟩, q⟩
theorem ZNK (hc : X.calm = true) : ZC8 X (.builtin "max") (fun xs H Q => ∃ i j, xs = [.int i, .int j] /\ Q (.int (if j > i then j else i)) H) := by
 intro pins s U H xs us Q I r h
 obtain ⟨i, j, rfl, q⟩ := h
 obtain ⟨u, w', rfl, ⟨t, rfl⟩, ⟨t', rfl⟩⟩ := ZQN r
 refine max_two_ints (I.ok.hd hc) fun h' tk k => ⟨_, H, I.kept k, ?_, q⟩
 by_cases hj : j > i
 ·rw [if_pos hj, if_pos hj]; exact ⟨_, rfl⟩
 ·rw [if_neg hj, if_neg hj]; exact ⟨_, rfl⟩
theorem ZNL (hc : X.calm = true) : ZC8 X (.builtin "min") (fun xs H Q => ∃ i j, xs = [.int i, .int j] /\ Q (.int (if j < i then j else i)) H) := by
 intro pins s U H xs us Q I r h
 obtain ⟨i, j, rfl, q⟩ := h
 obtain ⟨u, w', rfl, ⟨t, rfl⟩, ⟨t', rfl⟩⟩ := ZQN r
 refine min_two_ints (I.ok.hd hc) fun h' tk k => ⟨_, H, I.kept k, ?_, q⟩
 by_cases hj : j < i
 ·rw [if_pos hj, if_pos hj]; exact ⟨_, rfl⟩
 ·rw [if_neg hj, if_neg hj]; exact ⟨_, rfl⟩
end
structure ZHt (h : Heap) (x dx C : Addr) (mA : Str -> Option Value) : Prop where
 obj : h.get? x = some (PySem.W.instObj C dx)
 ns : h.Ns1 dx mA
 ne : dx ≠ x
theorem ZNM {h : Heap} {dx : Addr} {mA : Str -> Option Value} (n : h.Ns1 dx mA) : ∃ od, h.get? dx = some od /\ ∀ name, PySem.W.lookIn name od = some (mA name) := by
 obtain ⟨o, es, ep, ho, hd, hk, _, hm⟩ := n
 refine ⟨o, ho, fun name => ?_⟩
 have e := hm name
 unfold nsFind findBy at e
 rw [<- Array.find?_toList] at e
 unfold PySem.W.lookIn
 rw [hd]
 dsimp only
 split
 ·rename_i y q
  rw [q] at e
  exact congrArg some e
 ·rename_i q
  rw [q] at e
  have a : es.toList.any (·.refKey) = false := by
   rw [List.any_eq_false]
   intro y hy
   obtain ⟨z, t, hkey⟩ := hk y (Vh.mp hy)
   simp [DictEntry.refKey, hkey]
  have a' : ¬ es.toList.any (·.refKey) = true := by rw [a]; exact UH
  rw [if_neg a']
  exact congrArg some e
theorem ZHt.look {h : Heap} {x dx C : Addr} {mA : Str -> Option Value} (I : ZHt h x dx C mA) : ∃ od, PySem.W.InstAt h x (PySem.W.instObj C dx) C (some od) /\ ∀ name, PySem.W.lookIn name od = some (mA name) :=
 let ⟨od, ho, hl⟩ := ZNM I.ns
 ⟨od, ⟨I.obj, rfl, rfl, ho⟩, hl⟩
section
variable {prog : Program} {w : World} {A : Around} {E : Value -> Shared -> Prop} {s : Shared} {K : W.Frag} {x dx C f : Addr} {mA : Str -> Option Value} {name : Str} {v : Value}
theorem ZQw {expr : Bool} {Q : Value -> Shared -> Prop} (X : K.In s.heap) (I : ZHt s.heap x dx C mA) (hg : PySem.W.plainGet K C name = true) (hh : PySem.W.hasDictIn K C = true)
  (ha : W.findIn K (.ref C) name = some none) (hv : mA name = some v) (hv' : PySem.W.handedIn v = true) (h : Q v { s with toks := s.toks + 1 }) :
  wpAny (model prog w) A (getAttr (.ref x) name expr) Q E s := by
 obtain ⟨od, J, hl⟩ := I.look
 exact PySem.W.get_value X J (PySem.W.plainGet_of hg).1 (PySem.W.findObj_own hh ha rfl (by rw [hl, hv])) hv' h
theorem ZOs {pl : Sem Bool} {Q : Value × List Value -> Shared -> Prop} (X : K.In s.heap) (I : ZHt s.heap x dx C mA) (hg : PySem.W.plainGet K C name = true)
  (hf : W.findIn K (.ref C) name = some (some (.ref f))) (ht : PySem.W.isFn K (.ref f) = true) (hv : mA name = none) (h : Q (.ref f, [.ref x]) s) :
  wpAny (model prog w) A (getMethod (.ref x) name pl) Q E s := by
 obtain ⟨od, J, hl⟩ := I.look
 exact PySem.W.method_fn X J (PySem.W.plainGet_of hg).1 (PySem.W.plainGet_of hg).2 hf (beq_iff_eq.mp ht) (by show (PySem.W.lookIn name od).map (·.isSome) = some false; rw [hl, hv]; rfl) h
theorem ZQx {ns : List Str} {Q : Unit -> Shared -> Prop} (X : K.In s.heap) (I : ZHt s.heap x dx C mA)
  (hs : W.findIn K (.ref C) "__setattr__" = some (some (.builtin "object.__setattr__"))) (hp : PySem.W.plainOver K C = true) (ht : PySem.W.takerIn K C name = some none) (hh : PySem.W.hasDictIn K C = true)
  (hw : PySem.Within mA ns) (hsz : ns.length <= sizeLine)
  (h : ∀ h', ZHt h' x dx C (fun y => if y = name then some v else mA y) -> Heap.SameBut dx s.heap h' -> Q () { s with heap := h', toks := s.toks + 2 }) :
  wpAny (model prog w) A (setAttr (.ref x) name v) Q E s := by
 obtain ⟨od, J, hl⟩ := I.look
 refine PySem.W.set_plain X J hs (PySem.W.osa_open (s := { s with toks := s.toks + 1 }) (r := none) X J hp ht fun b => ?_)
 obtain ⟨cd, hc, hd'⟩ := PySem.W.any_some hh
 have hx : s.heap.get? x = some ⟨.ref C, some dx, .plain, #[]⟩ := I.obj
 refine Ua (Ug (Ua (Ua (wpAny_loadPart hx (Ua (PySem.W.Looks.here (s := { s with toks := s.toks + 1 }) (PySem.W.looks_clsIn X hc) ?_))))))
 rw [hd']
 refine Ug (a := some dx) (Ua (Ug (Ua ?_)))
 refine wpAny_nsSet1 (s := { s with toks := s.toks + 1 }) I.ns fun h' hn2 hs2 => ?_
 obtain ⟨oD, esD, epD, hoD, hdD, hcD⟩ := hn2.count (PySem.Within.cons name v hw)
 refine Ua (wpAny_lookBehind hoD (by rw [hdD]; exact pastItsLine_dict (UG hcD (by rw [UT]; omega))) ?_)
 exact Ug (h _ ⟨(hs2.2 _ (Ne.symm I.ne)).trans I.obj, hn2, I.ne⟩ hs2)
theorem ZOt {R : Result -> Shared -> Prop} {vs : List Value} {kw : List (Str × Value)} (X : K.In s.heap) (hm : PySem.W.makesIn K C = true)
  (hi : W.findIn K (.ref C) "__init__" = some (some (.ref f))) (hf : PySem.W.typeIn K (.ref f) = some (.type "function"))
  (h : codeAny (model prog w) (A.under (.builtin "type.__call__" ⟨.ref C :: vs, kw⟩)) (.call (.ref f) ⟨.ref (s.heap.objs.size + 1) :: vs, kw⟩) (PySem.W.InitBack (s.heap.objs.size + 1) R)
   { s with heap := (s.heap.push PySem.W.emptyDict).push (PySem.W.instObj C s.heap.objs.size) }) :
  codeAny (model prog w) A (.call (.ref C) ⟨vs, kw⟩) R s := by
 obtain ⟨hh, g, d, t, os⟩ := s
 exact PySem.W.make_core (PySem.W.makes_of X hm) (PySem.W.looks_findIn X hi) (fun self => PySem.W.bind_fn X self hf) (.inl rfl) h
end
def ZCw (f : Str) (v : V) : List (Str × V) -> List (Str × V)
 | [] => [(f, v)]
 | (g, x) :: r => if g = f then (g, v) :: r else (g, x) :: ZCw f v r
theorem ZHh (f g : Str) (v : V) : ∀ fs : List (Str × V), (ZCw f v fs).lookup g = if g = f then some v else fs.lookup g
 | [] => by
  show Vg g [(f, v)] = _
  by_cases h : g = f
  ·have hb : (g == f) = true := beq_iff_eq.mpr h
   simp only [Vg, hb, if_pos h]
  ·have hb : (g == f) = false := beq_eq_false_iff_ne.mpr h
   simp only [Vg, hb, if_neg h]
 | (k, x) :: r => by
  have ih := ZHh f g v r
  rw [show ZCw f v ((k, x) :: r) = (if k = f then (k, v) :: r else (k, x) :: ZCw f v r) from rfl]
  by_cases hk : k = f
  ·rw [if_pos hk]
   by_cases h : g = k
   ·have hb : (g == k) = true := beq_iff_eq.mpr h
    simp only [Vg, hb, if_pos (h.trans hk)]
   ·have hb : (g == k) = false := beq_eq_false_iff_ne.mpr h
    simp only [Vg, hb, if_neg (fun e : g = f => h (e.trans hk.symm))]
  ·rw [if_neg hk]
   by_cases h : g = k
   ·have hb : (g == k) = true := beq_iff_eq.mpr h
    simp only [Vg, hb, if_neg (fun e : g = f => hk (h.symm.trans e))]
   ·have hb : (g == k) = false := beq_eq_false_iff_ne.mpr h
    simp only [Vg, hb]
    exact ih
theorem ZGq (f : Str) (v : V) : ∀ fs : List (Str × V), f ∈ (ZCw f v fs).map (·.1) /\ ∀ g, g ∈ fs.map (·.1) -> g ∈ (ZCw f v fs).map (·.1)
 | [] => ⟨by simp [ZCw], fun g h => by simp at h⟩
 | (k, x) :: r => by
  obtain ⟨i1, i2⟩ := ZGq f v r
  rw [show ZCw f v ((k, x) :: r) = (if k = f then (k, v) :: r else (k, x) :: ZCw f v r) from rfl]
  by_cases hk : k = f
  ·rw [if_pos hk]
   subst hk
   exact ⟨by simp, fun g h => by simpa using h⟩
  ·rw [if_neg hk]
   refine ⟨?_, fun g h => ?_⟩
   ·rw [UF]
    exact Us _ i1
   ·rw [UF] at h ⊢
    rcases Ul.mp h with e | e
    ·exact Ul.mpr (.inl e)
    ·exact Us _ (i2 g e)
theorem ZHi (f : Str) (v : V) : ∀ fs : List (Str × V), (ZCw f v fs).length <= fs.length + 1
 | [] => by simp [ZCw]
 | (k, x) :: r => by
  have ih := ZHi f v r
  rw [show ZCw f v ((k, x) :: r) = (if k = f then (k, v) :: r else (k, x) :: ZCw f v r) from rfl]
  by_cases hk : k = f
  ·rw [if_pos hk, UT, UT]; omega
  ·rw [if_neg hk, UT, UT]; omega
theorem ZDz.some_of {v : V} {o : Option Value} (r : ZDz (some v) o) : ∃ u, o = some u /\ ZCb v u := by
 cases o with
 | none => exact (show False from r).elim
 | some u => exact ⟨u, rfl, r⟩
theorem ZDz.none_of {o : Option Value} (r : ZDz none o) : o = none := by
 cases o with
 | none => rfl
 | some u => exact (show False from r).elim
theorem ZNN {v : V} {u : Value} (r : ZCb v u) : PySem.W.handedIn u = true := by
 cases v with
 | non => cases (show u = Value.none from r); rfl
 | bl b => cases (show u = Value.bool b from r); rfl
 | int i => obtain ⟨t, e⟩ := (show ∃ t, u = Value.int i t from r); cases e; rfl
 | str x => obtain ⟨t, e⟩ := (show ∃ t, u = Value.str x t from r); cases e; rfl
 | byt b => obtain ⟨t, e⟩ := (show ∃ t, u = Value.bytes b t from r); cases e; rfl
 | flt b => obtain ⟨t, e⟩ := (show ∃ t, u = Value.float b t from r); cases e; rfl
 | ref a => cases (show u = Value.ref a from r); rfl
 | ty n => cases (show u = Value.type n from r); rfl
section
variable {P : Program} {w : World} {H H' : Hp} {h h' : Heap} {a C dx : Addr} {fs fs' : List (Str × V)}
theorem ZHV (hok : HOk P w H h) (e : H a = some (.ins C dx fs)) : ∃ mA, ZHt h a dx C mA /\ (∀ f, ZDz (fs.lookup f) (mA f)) /\ PySem.Within mA (fs.map (·.1)) /\ fs.length <= 1000 /\ H dx = some (.own a) := by
 obtain ⟨d, z, ne, ob, mA, n, r, q⟩ := (show ZCu P w H h a (.ins C dx fs) from hok a _ e)
 exact ⟨mA, ⟨ob, n, ne⟩, r, q, z, d⟩
end
structure Cls (K : W.Frag) (C : Addr) : Prop where
 pg : PySem.W.plainGet K C Str.empty = true
 hd : PySem.W.hasDictIn K C = true
 po : PySem.W.plainOver K C = true
 sa : W.findIn K (.ref C) "__setattr__" = some (some (.builtin "object.__setattr__"))
theorem Cls.get {K : W.Frag} {C : Addr} (c : Cls K C) (f : Str) : PySem.W.plainGet K C f = true := c.pg
def ZDM (K : W.Frag) (C : Addr) (f : Str) : Prop := W.findIn K (.ref C) f = some none
theorem ZDM.taker {K : W.Frag} {C : Addr} {f : Str} (n : ZDM K C f) : PySem.W.takerIn K C f = some none := by
 unfold PySem.W.takerIn
 rw [show W.findIn K (.ref C) f = some none from n]
 rfl
structure ZDb (K : W.Frag) (C : Addr) (m : Str) (f : Addr) : Prop where
 at_ : W.findIn K (.ref C) m = some (some (.ref f))
 fn : PySem.W.isFn K (.ref f) = true
 kp : W.keepIn K (.ref f) = true
section
variable {X : Cx} {pins : List (Addr × Obj)} {U : St} {H : Hp} {s : Shared} {a C dx : Addr} {fs : List (Str × V)} {f : Str} {v : V} {A : Around} {E : Value -> Shared -> Prop}
theorem ZIP {b : Bool} {Q : Value -> Shared -> Prop} (I : Inv X pins U H s) (e : H a = some (.ins C dx fs)) (c : Cls X.K C) (n : ZDM X.K C f) (l : fs.lookup f = some v)
  (h : ∀ u s', Inv X pins U H s' -> ZCb v u -> Q u s') : wpAny (model X.prog X.w) A (getAttr (.ref a) f b) Q E s := by
 obtain ⟨mA, O, r, _, _, _⟩ := ZHV I.hok e
 obtain ⟨u, hu, ru⟩ := ZDz.some_of (v := v) (o := mA f) (by rw [<- l]; exact r f)
 exact ZQw I.kIn O (c.get f) c.hd n hu (ZNN ru) (h u _ (I.tok _) ru)
theorem ZML {m : Str} {g : Addr} {pl : Sem Bool} {Q : Value × List Value -> Shared -> Prop} (I : Inv X pins U H s) (e : H a = some (.ins C dx fs)) (c : Cls X.K C) (k : ZDb X.K C m g) (l : fs.lookup m = none)
  (h : Q (.ref g, [.ref a]) s) : wpAny (model X.prog X.w) A (getMethod (.ref a) m pl) Q E s := by
 obtain ⟨mA, O, r, _, _, _⟩ := ZHV I.hok e
 have hn : mA m = none := ZDz.none_of (by rw [<- l]; exact r m)
 exact ZOs I.kIn O (c.get m) k.at_ k.fn hn h
theorem ZIQ {y : V} {u : Value} {Q : Unit -> Shared -> Prop} (I : Inv X pins U H s) (e : H a = some (.ins C dx fs)) (c : Cls X.K C) (n : ZDM X.K C f) (hl : fs.length < 1000) (ry : ZCb y u)
  (h : ∀ s', Inv X pins U (upd H a (.ins C dx (ZCw f y fs))) s' -> Q () s') : wpAny (model X.prog X.w) A (setAttr (.ref a) f u) Q E s := by
 obtain ⟨mA, O, r, wi, _, ho⟩ := ZHV I.hok e
 have hz : (fs.map (·.1)).length <= sizeLine := by rw [Ui, sizeLine_eq]; omega
 refine ZQx I.kIn O c.sa c.po n.taker c.hd wi hz fun h' O' sb => h _ ?_
 have hd : ∃ o, h'.get? dx = some o := let ⟨o, _, _, e', _⟩ := O'.ns; ⟨o, e'⟩
 refine I.write (x := a) (e := dx) (by rw [e]; exact True.intro) (.inr ho) (fun b q hb z => (sb.2 b hb).trans z) hd ?_
 refine ⟨by rw [ZCe O.ne]; exact ho, ?_, O.ne, O'.obj, _, O'.ns, fun g => ?_, fun g hg => ?_⟩
 ·have := ZHi f y fs; omega
 ·show ZDz ((ZCw f y fs).lookup g) (if g = f then some u else mA g)
  rw [ZHh]
  by_cases q : g = f
  ·rw [if_pos q, if_pos q]; exact ry
  ·rw [if_neg q, if_neg q]; exact r g
 ·by_cases q : g = f
  ·rw [q]; exact (ZGq f y fs).1
  ·refine (ZGq f y fs).2 g (wi g fun z => hg ?_)
   show (if g = f then some u else mA g) = none
   rw [if_neg q]; exact z
theorem Inv.made (I : Inv X pins U H s) : Inv X pins U (upd (upd H s.heap.objs.size (.own (s.heap.objs.size + 1))) (s.heap.objs.size + 1) (.ins C s.heap.objs.size []))
  { s with heap := (s.heap.push PySem.W.emptyDict).push (PySem.W.instObj C s.heap.objs.size) } := by
 have e1 : (s.heap.push PySem.W.emptyDict).get? s.heap.objs.size = some PySem.W.emptyDict := Uf s.heap rfl
 have e2 : ((s.heap.push PySem.W.emptyDict).push (PySem.W.instObj C s.heap.objs.size)).get? (s.heap.objs.size + 1) = some (PySem.W.instObj C s.heap.objs.size) := by
  have := Uf (s.heap.push PySem.W.emptyDict) (o := PySem.W.instObj C s.heap.objs.size) rfl
  rwa [UW] at this
 have e3 : (s.heap.push PySem.W.emptyDict).Ns s.heap.objs.size (fun _ => none) := ⟨PySem.W.emptyDict, #[], _, e1, rfl, (fun e he => absurd he (by simp)), fun _ => rfl⟩
 have I1 := I.laid (a := s.heap.objs.size) (o := .own (s.heap.objs.size + 1)) (h' := s.heap.push PySem.W.emptyDict) (t' := s.toks) (fun b u q => Ub _ q) (Ue _) ⟨_, e1⟩
 refine I1.laid (a := s.heap.objs.size + 1) (o := .ins C s.heap.objs.size []) (t' := s.toks) (fun b u q => Ub _ q) (Nat.le_of_eq (UW _ _)) ?_
 have ne : s.heap.objs.size ≠ s.heap.objs.size + 1 := Uo (UM _)
 refine ⟨by rw [ZCe ne, ZCZ], UE _, ne, e2, fun _ => none, (Heap.Ns1.of_empty e3).at fun o q => Ub _ q, fun _ => True.intro, fun y hy => absurd rfl hy⟩
theorem ZQy {prog : Program} {w : World} {env : Env} {e : Expr} {f : Str} {pos : Pos} {s : Shared} {Q : Value -> Shared -> Prop} (hb : attributeBase e f env (eval e env) = eval e env)
  (h : wpAny (model prog w) A (eval e env) (fun o s₁ => wpAny (model prog w) A (getAttr o f true) Q E s₁) E s) : wpAny (model prog w) A (eval (.Attribute e f pos) env) Q E s :=
 Attribute_any_ h (by rw [arm_eval_Attribute, hb])
end
def ZOu (K : W.Frag) (ta : TE) (f : Str) : TE := fun U H Q => ta U H fun x H1 => ∃ a C dx fs v, x = .ref a /\ H1 a = some (.ins C dx fs) /\ Cls K C /\ ZDM K C f /\ fs.lookup f = some v /\ Q v H1
def ZOv (K : W.Frag) (ta tv : TE) (f : Str) : TS := fun D U H => tv U H fun y H1 => ta U H1 fun x H2 => ∃ a C dx fs, x = .ref a /\ H2 a = some (.ins C dx fs) /\ Cls K C /\ ZDM K C f /\ fs.length < 1000 /\
 D.nx U (upd H2 a (.ins C dx (ZCw f y fs)))
def ZSg (X : Cx) (op : Operator) (rd : V -> V -> Hp -> VK -> Prop) : Prop :=
 ∀ (pins : List (Addr × Obj)) (s : Shared) (U : St) (H : Hp) (x y : V) (u v : Value) (Q : VK), Inv X pins U H s -> ZCb x u -> ZCb y v -> rd x y H Q -> wpAny (model X.prog X.w) X.A (inplaceOp op u v) (EP X pins U Q) X.xe s
def ZIl (K : W.Frag) (ta tv : TE) (rd : V -> V -> Hp -> VK -> Prop) (f : Str) : TS := fun D U H => ta U H fun x H1 => ∃ a C dx fs v, x = .ref a /\ H1 a = some (.ins C dx fs) /\ Cls K C /\ ZDM K C f /\ fs.lookup f = some v /\
 tv U H1 fun y H2 => rd v y H2 fun z H3 => ∃ dx' fs', H3 a = some (.ins C dx' fs') /\ fs'.length < 1000 /\ D.nx U (upd H3 a (.ins C dx' (ZCw f z fs')))
section
variable {X : Cx} {o e value : Expr} {f : Str} {pos pos' tpos : Pos} {ta tv : TE}
theorem ZSh (he : PE X e ta) (hb : attributeBase e f X.env (eval e X.env) = eval e X.env) : PE X (.Attribute e f pos) (ZOu X.K ta f) := by
 intro pins s U H Q I h
 refine ZQy hb (thn (he pins s U H _ I h) fun u s1 ⟨x, H1, I1, rx, a, C, dx, fs, v, ex, ea, c, n, l, q⟩ => ?_)
 subst ex
 obtain rfl : u = Value.ref a := rx
 exact ZIP I1 ea c n l fun u' s2 I2 ru => ⟨v, H1, I2, ru, q⟩
theorem ZSi (ha : PE X o ta) (hv : PE X value tv) (hs : swapsWith value (some (.Attribute o f pos')) pos.line X.env = pure false) : PS X (.Assign [.Attribute o f pos'] value pos) (ZOv X.K ta tv f) := by
 intro pins s U H D I h
 refine plainObj_wpAny_Assign_Attribute (thn (hv pins s U H _ I h) fun u s1 ⟨y, H1, I1, ry, q⟩ => thn (ha pins s1 U H1 _ I1 q) fun ov s2 ⟨x, H2, I2, rx, a, C, dx, fs, ex, ea, c, n, l, q2⟩ => ?_) hs
 subst ex
 obtain rfl : ov = Value.ref a := rx
 exact ZIQ I2 ea c n l ry fun s3 I3 => ⟨U, _, I3, q2⟩
theorem ZNO {op : Operator} {rd : V -> V -> Hp -> VK -> Prop} (ha : PE X o ta) (hv : PE X value tv) (hop : ZSg X op rd) : PS X (.AugAssign (.Attribute o f tpos) op value pos) (ZIl X.K ta tv rd f) := by
 intro pins s U H D I h
 refine wpAny_AugAssign_AttributeAny (thn (ha pins s U H _ I h) fun ov s1 ⟨x, H1, I1, rx, a, C, dx, fs, v, ex, ea, c, n, l, q⟩ => ?_)
 subst ex
 obtain rfl : ov = Value.ref a := rx
 refine ZIP I1 ea c n l fun u s2 I2 ru => thn (hv pins s2 U H1 _ I2 q) fun w3 s3 ⟨y, H2, I3, ry, q3⟩ => thn (hop pins s3 U H2 v y u w3 _ I3 ru ry q3) fun w4 s4 ⟨z, H3, I4, rz, dx', fs', ea', l', q4⟩ => ?_
 exact ZIQ I4 ea' c n l' rz fun s5 I5 => ⟨U, _, I5, q4⟩
def ZKA : V -> V -> Hp -> VK -> Prop := fun x y H Q => ∃ i j, x = .int i /\ y = .int j /\ Q (.int (i + j)) H
theorem ZSj : ZSg X .Add ZKA := by
 rintro pins s U H x y u v Q I rx ry ⟨i, j, rfl, rfl, q⟩
 obtain ⟨t, rfl⟩ := (show ∃ t, u = Value.int i t from rx)
 obtain ⟨t', rfl⟩ := (show ∃ t', v = Value.int j t' from ry)
 exact PyProof.Rows.iadd_int ⟨.int (i + j), H, I.tok _, ⟨_, rfl⟩, q⟩
end
section
variable {X : Cx} {pins : List (Addr × Obj)} {U : St} {H : Hp} {s : Shared} {A : Around} {E : Value -> Shared -> Prop} {Q : Value -> Shared -> Prop} {c : Value} {b : Bool}
inductive ZEd (K : W.Frag) (H : Hp) : V -> Value -> Prop where
 | non : ZEd K H .non (.type "NoneType")
 | bl (x : Bool) : ZEd K H (.bl x) (.type "bool")
 | int (i : Int) : ZEd K H (.int i) (.type "int")
 | str (x : Str) : ZEd K H (.str x) (.type "str")
 | flt (x : UInt64) : ZEd K H (.flt x) (.type "float")
 | lst {a : Addr} {xs : List V} (e : H a = some (.lst xs)) : ZEd K H (.ref a) (.type "list")
 | frz {a : Addr} {o : Obj} {xs : List V} (e : H a = some (.frz o (.lst xs))) : ZEd K H (.ref a) (.type "list")
 | tup {a : Addr} {xs : List V} (e : H a = some (.tup xs)) : ZEd K H (.ref a) (.type "tuple")
 | dK {a : Addr} {kvs : List (Key × V)} (e : H a = some (.dK kvs)) : ZEd K H (.ref a) (.type "dict")
 | dT {a : Addr} {kvs : List (List Key × V)} (e : H a = some (.dT kvs)) : ZEd K H (.ref a) (.type "dict")
 | ins {a C dx : Addr} {fs : List (Str × V)} (e : H a = some (.ins C dx fs)) (cl : Cls K C) (ha : W.findIn K (.ref C) "__class__" = some (some (.builtin "object.__class__")))
  (hn : PySem.W.specialIn K (.builtin "object.__class__") "__get__" = some (some (.builtin "getset_descriptor.__get__"))) (htk : PySem.W.takesIn K (.builtin "object.__class__") = some true)
  (hm : PySem.W.mroIn K C (.type "object") = some true) : ZEd K H (.ref a) (.ref C)
theorem ZNP {x : V} {u t : Value} (I : Inv X pins U H s) (rx : ZCb x u) (ty : ZEd X.K H x t) (e : W.kitOne X.K t c = some b) (h : ∀ tk, Q (.bool b) { s with toks := tk }) :
  wpAny (model X.prog X.w) A (call (.builtin "isinstance") [u, c]) Q E s := by
 cases ty with
 | non => cases (show u = Value.none from rx); exact PySem.W.kia_one PySem.W.kitx_none I.kIn True.intro e (fun z => nomatch z) h
 | bl y => cases (show u = Value.bool y from rx); exact PySem.W.kia_one PySem.W.kitx_bool I.kIn True.intro e (fun z => nomatch z) h
 | int i => obtain ⟨t, q⟩ := (show ∃ t, u = Value.int i t from rx); cases q; exact PySem.W.kia_one PySem.W.kitx_int I.kIn True.intro e (fun z => nomatch z) h
 | str y => obtain ⟨t, q⟩ := (show ∃ t, u = Value.str y t from rx); cases q; exact PySem.W.kia_one PySem.W.kitx_str I.kIn True.intro e (fun z => nomatch z) h
 | flt y => obtain ⟨t, q⟩ := (show ∃ t, u = Value.float y t from rx); cases q; exact PySem.W.kia_one PySem.W.kitx_float I.kIn True.intro e (fun z => nomatch z) h
 | @lst a xs ea =>
  cases (show u = Value.ref a from rx)
  obtain ⟨_, _, n, _, h1⟩ := (show ZCu X.prog X.w H s.heap a (.lst xs) from I.hok a _ ea)
  exact PySem.W.kia_one PySem.W.kitx_list I.kIn ⟨_, h1, rfl⟩ e (fun z => nomatch z) h
 | @frz a ob xs ea =>
  cases (show u = Value.ref a from rx)
  obtain ⟨_, _, _, n, _, h1⟩ := (show ZCu X.prog X.w H s.heap a (.frz ob (.lst xs)) from I.hok a _ ea)
  exact PySem.W.kia_one PySem.W.kitx_list I.kIn ⟨_, h1, rfl⟩ e (fun z => nomatch z) h
 | @tup a xs ea =>
  cases (show u = Value.ref a from rx)
  obtain ⟨_, _, _, p⟩ := (show ZCu X.prog X.w H s.heap a (.tup xs) from I.hok a _ ea)
  obtain ⟨o, h1, h2, _⟩ := p
  exact PySem.W.kia_one PySem.W.kitx_tuple I.kIn ⟨o, h1, h2⟩ e (fun z => nomatch z) h
 | @dK a kvs ea =>
  cases (show u = Value.ref a from rx)
  obtain ⟨_, _, vs, _, p⟩ := (show ZCu X.prog X.w H s.heap a (.dK kvs) from I.hok a _ ea)
  obtain ⟨o, es, ep, h1, h2, _⟩ := p
  exact PySem.W.kia_one PySem.W.kitx_dict I.kIn ⟨o, h1, h2.1⟩ e (fun z => nomatch z) h
 | @dT a kvs ea =>
  cases (show u = Value.ref a from rx)
  obtain ⟨_, _, xs, _, o, es, ep, h1, h2, _⟩ := (show ZCu X.prog X.w H s.heap a (.dT kvs) from I.hok a _ ea)
  exact PySem.W.kia_one PySem.W.kitx_dict I.kIn ⟨o, h1, h2.1⟩ e (fun z => nomatch z) h
 | @ins a C dx fs ea cl ha hn htk hm =>
  cases (show u = Value.ref a from rx)
  obtain ⟨mA, O, _⟩ := ZHV I.hok ea
  obtain ⟨od, J, _⟩ := O.look
  exact PySem.W.kia_one (PySem.W.kitx_own (cl.get _) cl.hd ha hn htk hm) I.kIn J e (fun z => nomatch z) h
end
structure Room (k : Nat) (A : Around) : Prop where
 hd : A.handled = none
 dp : A.depth + 3 * k + 5 < recursionLimit
 un : A.units + 16 * k + 200 < cLine
 gd : A.guards = some []
theorem Room.mono {j k : Nat} {A : Around} (r : Room k A) (h : j <= k) : Room j A := ⟨r.hd, by have := r.dp; omega, by have := r.un; omega, r.gd⟩
theorem Room.deeper {k : Nat} {A : Around} (r : Room (k + 1) A) (env : Env) : Room k (A.deeper env) :=
 ⟨r.hd, by have := r.dp; show A.depth + 1 + 3 * k + 5 < _; omega, by have := r.un; show A.units + 3 + 16 * k + 200 < _; omega, r.gd⟩
theorem Room.in1 {k : Nat} {A : Around} (r : Room (k + 1) A) : Room k A.in1 :=
 ⟨r.hd, by have := r.dp; show A.depth + 3 * k + 5 < _; omega, by have := r.un; show A.units + 1 + 16 * k + 200 < _; omega, r.gd⟩
theorem ZMM {A : Around} {C : Addr} {us : List Value} {kw : List (Str × Value)} : (A.under (.builtin "type.__call__" ⟨.ref C :: us, kw⟩)).depth = A.depth + 1 := by
 first | rfl | simp [Around.under, Code.weight, Code.isCreation, Code.isGuard, Code.isCaller, Code.frames, Code.isFrame, guardIds]
theorem ZMN {A : Around} {C : Addr} {us : List Value} {kw : List (Str × Value)} : (A.under (.builtin "type.__call__" ⟨.ref C :: us, kw⟩)).units = A.units + 1 := by
 first | rfl | simp [Around.under, Code.cUnits, Code.frames, Code.isFrame]
theorem ZLN {A : Around} {C : Addr} {us : List Value} {kw : List (Str × Value)} : (A.under (.builtin "type.__call__" ⟨.ref C :: us, kw⟩)).guards = A.guards := by
 have e : pushGuards [] A.guards = A.guards := by cases A.guards <;> rfl
 first | exact e | rfl | simp [Around.under, Code.guards, Code.isGuard, guardIds, pushGuards]
theorem Room.make {k : Nat} {A : Around} (r : Room (k + 1) A) (C : Addr) (us : List Value) (kw : List (Str × Value)) : Room k (A.under (.builtin "type.__call__" ⟨.ref C :: us, kw⟩)) :=
 ⟨r.hd, by have := r.dp; rw [ZMM]; omega, by have := r.un; rw [ZMN]; omega, (ZLN).trans r.gd⟩
theorem Room.depth {k : Nat} {A : Around} (r : Room k A) : A.depth < recursionLimit := by have := r.dp; omega
theorem Room.units {k : Nat} {A : Around} (r : Room k A) : A.units + 64 < cLine := by have := r.un; omega
def ZKB : TA := fun _ H Q => Q [] H
def ZJw (ta : TE) (tr : TA) : TA := fun U H Q => ta U H fun x H1 => tr U H1 fun xs H2 => Q (x :: xs) H2
section
variable {X : Cx} {e : Expr} {es : List Expr} {te : TE} {t : TA} {pos : Pos}
theorem ZSk : PA X [] ZKB := fun _ _ _ _ H Q I h => Calls.spliced_nil ⟨[], H, I, .nil, h⟩
theorem ZQz (ha : PE X e te) (hr : PA X es t) (hs : starEach (e :: es) X.env = (false, eval e X.env) :: starEach es X.env := by rfl) : PA X (e :: es) (ZJw te t) := by
 intro pos pins s U H Q I h
 rw [hs]
 show wpAny _ _ (spliced ((false, eval e X.env) :: backTo pos (starEach es X.env))) _ _ s
 refine Calls.spliced_cons (thn (ha pins s U H _ I h) fun u s1 ⟨x, H1, I1, r1, q1⟩ => ?_)
 exact thn (hr pos pins s1 U H1 _ I1 q1) fun us s2 ⟨xs, H2, I2, r2, q2⟩ => ⟨x :: xs, H2, I2, .cons r1 r2, q2⟩
def ZOw (t : TA) : TE := fun U H Q => t U H fun xs H1 => xs.length <= sizeLine /\ ∀ p, H1 p = none -> Q (.ref p) (upd H1 p (.tup xs))
def ZOx (t : TA) : TE := fun U H Q => t U H fun xs H1 => xs.length <= sizeLine /\ ∀ p, H1 p = none -> Q (.ref p) (upd H1 p (.lst xs))
theorem ZSl {x1} (h : PA X es t) : PE X (.Tuple es x1 pos) (ZOw t) := by
 intro pins s U H Q I hq
 refine wpAny_Tuple_spliced (thn (h pos pins s U H _ I hq) fun us s1 ⟨xs, H1, I1, r, z, q⟩ => ⟨by rw [<- r.length]; exact z, ?_⟩)
 have hf : H1 s1.heap.objs.size = none := I1.hok.fresh (Ue _)
 refine ⟨.ref s1.heap.objs.size, upd H1 s1.heap.objs.size (.tup xs), I1.laid (t' := s1.toks) (fun b u e => Ub _ e) (Ue _) ?_, rfl, q _ hf⟩
 exact ⟨⟨z, fun _ => ⟨_, Uf _ rfl, rfl, rfl⟩⟩, us, r, ⟨_, Uf _ rfl, rfl, _, rfl⟩⟩
theorem ZSm (h : PA X es t) : PE X (.List es pos) (ZOx t) := by
 intro pins s U H Q I hq
 refine wpAny_List_spliced (thn (h pos pins s U H _ I hq) fun us s1 ⟨xs, H1, I1, r, z, q⟩ => ⟨by rw [<- r.length]; exact z, ?_⟩)
 have hf : H1 s1.heap.objs.size = none := I1.hok.fresh (Ue _)
 refine ⟨.ref s1.heap.objs.size, upd H1 s1.heap.objs.size (.lst xs), I1.laid (t' := s1.toks) (fun b u e => Ub _ e) (Ue _) ?_, rfl, q _ hf⟩
 exact ⟨z, us, 0, r, Uf _ rfl⟩
end
abbrev Sp := List V -> Hp -> VK -> XK -> Prop
abbrev CXT := List Env -> Hp -> Shared -> XK -> Value -> Shared -> Prop
structure ZFs (P : Program) (w : World) (K : W.Frag) (mg : Str -> Option Value) (base : Heap) (A : Around) (outer : List Env) (s : Shared) (H : Hp) : Prop where
 frames : A.frames = some outer
 mod : Mod K mg base
 bs : ∀ b o, base.get? b = some o -> s.heap.get? b = some o /\ H b = none
 bsz : base.objs.size <= s.heap.objs.size
 funs : s.heap.FunFrames base outer
 frf : ∀ b ∈ frs outer, H b = none
 hok : HOk P w H s.heap
 bare : AllBare s.gens
def CE (outer : List Env) (P : Program) (w : World) (H : Hp) (s : Shared) (Q : VK) (u : Value) (s' : Shared) : Prop :=
 ∃ v H', s'.os = s.os /\ AllBare s'.gens /\ Un (frs outer) [] H H' s.heap s'.heap /\ HOk P w H' s'.heap /\ ZCb v u /\ Q v H'
def CR (CX : CXT) (outer : List Env) (P : Program) (w : World) (H : Hp) (s : Shared) (Q : VK) (E : XK) (r : Result) (s' : Shared) : Prop :=
 match r with
 | .ok (.ret u) => CE outer P w H s Q u s'
 | .ok _ => False
 | .error e => CX outer H s E e s'
structure ZCi (P : Program) (w : World) (K : W.Frag) (mg : Str -> Option Value) (base : Heap) (CX : CXT) (k : Nat) (f : Addr) (fd : FuncData) (ps : List Str) (sp : Sp) : Prop where
 len : ∀ vs H Q E, sp vs H Q E -> vs.length = ps.length
 run : ∀ (A : Around) (outer : List Env) (s : Shared) (H : Hp) (args : Args) (us : List Value) (vs : List V) (Q : VK) (E : XK), Room k A -> ZFs P w K mg base A outer s H -> BindsTo s fd args (ps.zip us) -> ZCh vs us -> sp vs H Q E ->
  codeAny (model P w) A (.call (.ref f) args) (CR CX outer P w H s Q E) s
theorem ZFs.make {P : Program} {w : World} {K : W.Frag} {mg : Str -> Option Value} {base : Heap} {A : Around} {outer : List Env} {s : Shared} {H : Hp} (e : ZFs P w K mg base A outer s H) (C : Addr) (us : List Value) (kw : List (Str × Value)) :
 ZFs P w K mg base (A.under (.builtin "type.__call__" ⟨.ref C :: us, kw⟩)) outer s H := ⟨by first | exact e.frames | (simpa [Around.under, Code.envs, Code.isFrame, pushEnvs] using e.frames), e.mod, e.bs, e.bsz, e.funs, e.frf, e.hok, e.bare⟩
theorem ZFs.in1 {P : Program} {w : World} {K : W.Frag} {mg : Str -> Option Value} {base : Heap} {A : Around} {outer : List Env} {s : Shared} {H : Hp} (e : ZFs P w K mg base A outer s H) :
 ZFs P w K mg base A.in1 outer s H := ⟨e.frames, e.mod, e.bs, e.bsz, e.funs, e.frf, e.hok, e.bare⟩
section
variable {X : Cx} {pins : List (Addr × Obj)} {U : St} {H : Hp} {s s' : Shared}
theorem Inv.env0 (I : Inv X pins U H s) : ZFs X.prog X.w X.K X.mg X.base X.A X.stack s H :=
 ⟨I.ok.frames, I.ok.mod, I.bs, UG I.ok.bsz I.sz, I.stack, I.stkFree, I.hok, I.bare⟩
theorem Inv.after {Q : VK} {u : Value} (I : Inv X pins U H s) (h : CE X.stack X.prog X.w H s Q u s') : EP X pins U Q u s' := by
 obtain ⟨v, H', os, bare, un, hok, r, q⟩ := h
 obtain ⟨hh, g, d, t, os'⟩ := s'
 obtain rfl : os' = s.os := os
 exact ⟨v, H', I.call (h' := hh) (g' := g) (d' := d) (t' := t) (ch := []) un hok bare (fun b z => absurd z (by simp)), r, q⟩
end
def ZIR (sp : Sp) (dvs : List V) (E : XK) (t : TA) : TE := fun U H Q => t U H fun vs H1 => sp (vs ++ dvs) H1 Q E
def ZMO (C : Addr) (m : Str) (sp : Sp) (dvs : List V) (E : XK) (ta : TE) (t : TA) : TE := fun U H Q => ta U H fun x H1 => ∃ a dx fs, x = .ref a /\ H1 a = some (.ins C dx fs) /\ fs.lookup m = none /\
 t U H1 fun vs H2 => sp (x :: (vs ++ dvs)) H2 Q E
def ZIS (C : Addr) (sp : Sp) (dvs : List V) (E : XK) (t : TA) : TE := fun U H Q => t U H fun vs H1 => ∀ x dx, H1 x = none -> H1 dx = none -> dx ≠ x ->
 sp (.ref x :: (vs ++ dvs)) (upd (upd H1 dx (.own x)) x (.ins C dx [])) (fun v H2 => v = .non /\ Q (.ref x) H2) E
def ZCX (K : W.Frag) (fd : FuncData) (ps : List Str) (ds : List Value) : Prop :=
 ∀ (s : Shared) (us : List Value), K.In s.heap -> (us ++ ds).length = ps.length -> BindsTo s fd ⟨us, []⟩ (ps.zip (us ++ ds))
theorem ZCX.all {K : W.Frag} {fd : FuncData} {ps : List Str} (h : ∀ us : List Value, us.length = ps.length -> bindArgs fd ⟨us, []⟩ = pure (ps.zip us)) : ZCX K fd ps [] := fun s us _ hl => by
 rw [List.append_nil] at hl ⊢
 exact .of_eq (h us hl)
def ZD0 (CX : CXT) (X : Cx) (E : XK) : Prop := ∀ (pins : List (Addr × Obj)) (U : St) (H : Hp) (s : Shared) (e : Value) (s' : Shared), Inv X pins U H s -> CX X.stack H s E e s' -> X.xe e s'
section
variable {X : Cx} {CX : CXT} {k : Nat} {f C : Addr} {fd : FuncData} {ps : List Str} {sp : Sp} {dvs : List V} {ds : List Value} {E : XK} {x m : Str} {p pos apos : Pos} {e o : Expr} {es : List Expr} {ta : TE} {t : TA}
theorem ZNQ {pins : List (Addr × Obj)} {U : St} {H : Hp} {s : Shared} {Q : VK} {us : List Value} {vs : List V} (F : ZCi X.prog X.w X.K X.mg X.base CX k f fd ps sp) (hr : Room k X.A) (hb : ZCX X.K fd ps ds) (hd : ZCh dvs ds) (hx : ZD0 CX X E)
  (I : Inv X pins U H s) (r : ZCh vs us) (h : sp (vs ++ dvs) H Q E) : wpAny (model X.prog X.w) X.A (call (.ref f) us) (EP X pins U Q) X.xe s := by
 have r2 : ZCh (vs ++ dvs) (us ++ ds) := r.append hd
 have hl : (us ++ ds).length = ps.length := by rw [<- r2.length]; exact F.len _ _ _ _ h
 refine wpAny_call (codeAny_mono (F.run X.A X.stack s H ⟨us, []⟩ (us ++ ds) (vs ++ dvs) Q E hr I.env0 (hb s us I.kIn hl) r2 h) fun r s' hq => ?_)
 cases r with
 | error e => exact hx pins U H s e s' I hq
 | ok fl =>
  cases fl with
  | ret u => exact I.after hq
  | next => exact False.elim hq
  | brk => exact False.elim hq
  | cont => exact False.elim hq
theorem ZQ0 (F : ZCi X.prog X.w X.K X.mg X.base CX k f fd ps sp) (hr : Room k X.A) (hg : Gl X x) (hm : X.mg x = some (.ref f)) (hk : W.keepIn X.K (.ref f) = true) (hb : ZCX X.K fd ps ds) (hd : ZCh dvs ds) (hx : ZD0 CX X E)
  (ha : PA X (e :: es) t) (hdb : (x == ("__debug__" : Str)) = false := by decide) (he : starEach (e :: es) X.env = (false, eval e X.env) :: starEach es X.env := by rfl) (hpl : (backTo pos (starEach es X.env)).any (·.1) = false := by rfl) :
  PE X (.Call (.Name x p) (e :: es) [] pos) (ZIR sp dvs E t) := by
 intro pins s U H Q I h
 refine wpAny_Call_Name_kw (ZFI I hg hm ?_ hdb)
 refine PySem.W.callWith_K (h₀ := X.base) I.ok.mod.kin hk (thn (ha pos pins s U H _ I h) fun us s1 ⟨vs, H1, I1, r, q⟩ => ⟨I1.kIn, ?_⟩) he hpl
 exact ZNQ F hr hb hd hx I1 r q
theorem ZQ1 {pl : Sem Bool} (he : PE X o ta) (c : Cls X.K C) (hm : ZDb X.K C m f) (F : ZCi X.prog X.w X.K X.mg X.base CX k f fd ps sp) (hr : Room k X.A) (hb : ZCX X.K fd ps ds) (hd : ZCh dvs ds) (hx : ZD0 CX X E) (ha : PA X (e :: es) t)
  (hst : starEach (e :: es) X.env = (false, eval e X.env) :: starEach es X.env := by rfl) (hpl : (backTo pos (starEach es X.env)).any (·.1) = false := by rfl)
  (ht : eval (.Call (.Attribute o m apos) (e :: es) [] pos) X.env = (do
   let ov <- eval o X.env
   standAt apos.atName
   let (f, first) <- holding [ov] (getMethod ov m pl)
   callWith pos f first (backTo pos (starEach (e :: es) X.env)) (backToKw pos (keywordEach [] X.env))) := by rfl) :
  PE X (.Call (.Attribute o m apos) (e :: es) [] pos) (ZMO C m sp dvs E ta t) := by
 intro pins s U H Q I h
 refine PySem.W.methodCall_KW (pl := pl) (thn (he pins s U H _ I h) fun u s1 ⟨x, H1, I1, rx, a, dx, fs, ex, ea, l, q⟩ => ?_) ht
 subst ex
 obtain rfl : u = Value.ref a := rx
 refine ZML I1 ea c hm l ?_
 refine PySem.W.callWith_K (first := [.ref a]) (h₀ := X.base) I.ok.mod.kin hm.kp (thn (ha pos pins s1 U H1 _ I1 q) fun us s2 ⟨vs, H2, I2, r, q2⟩ => ⟨I2.kIn, ?_⟩) hst hpl
 exact ZNQ (us := .ref a :: us) (vs := .ref a :: vs) F hr hb hd hx I2 (.cons rfl r) q2
structure Mk (K : W.Frag) (C f : Addr) : Prop where
 makes : PySem.W.makesIn K C = true
 init : W.findIn K (.ref C) "__init__" = some (some (.ref f))
 fn : PySem.W.isFn K (.ref f) = true
 kp : W.keepIn K (.ref C) = true
theorem ZKC {pins : List (Addr × Obj)} {U : St} {H : Hp} {s : Shared} {Q : VK} {us : List Value} {vs : List V} (M : Mk X.K C f) (F : ZCi X.prog X.w X.K X.mg X.base CX k f fd ps sp) (hr : Room (k + 1) X.A) (hb : ZCX X.K fd ps ds) (hd : ZCh dvs ds)
  (hx : ZD0 CX X E) (I : Inv X pins U H s) (r : ZCh vs us)
  (h : ∀ x dx, H x = none -> H dx = none -> dx ≠ x -> sp (.ref x :: (vs ++ dvs)) (upd (upd H dx (.own x)) x (.ins C dx [])) (fun v H2 => v = .non /\ Q (.ref x) H2) E) :
  wpAny (model X.prog X.w) X.A (call (.ref C) us) (EP X pins U Q) X.xe s := by
 have hq := h (s.heap.objs.size + 1) s.heap.objs.size (I.hok.fresh (Nat.le_succ _)) (I.hok.fresh (Ue _)) (Uo (UM _))
 have I2 := Inv.made (C := C) I
 have r2 : ZCh (V.ref (s.heap.objs.size + 1) :: (vs ++ dvs)) (Value.ref (s.heap.objs.size + 1) :: (us ++ ds)) := .cons rfl (r.append hd)
 have hl : (Value.ref (s.heap.objs.size + 1) :: us ++ ds).length = ps.length := by
  have e := r2.length
  rw [F.len _ _ _ _ hq] at e
  exact e.symm
 refine wpAny_call (ZOt (f := f) I.kIn M.makes M.init (beq_iff_eq.mp M.fn) (codeAny_mono (F.run _ X.stack _ _ ⟨Value.ref (s.heap.objs.size + 1) :: us, []⟩ (Value.ref (s.heap.objs.size + 1) :: (us ++ ds)) _ _ E (hr.make C us [])
  (I2.env0.make C us []) (hb _ (Value.ref (s.heap.objs.size + 1) :: us) I2.kIn hl) r2 hq) fun r s' hq' => ?_))
 cases r with
 | error e => exact hx pins U _ _ e s' I2 hq'
 | ok fl =>
  cases fl with
  | ret u =>
   obtain ⟨v, H', I3, rv, ev, q3⟩ := I2.after hq'
   subst ev
   exact ⟨rv, ⟨V.ref (s.heap.objs.size + 1), H', I3, rfl, q3⟩⟩
  | next => exact False.elim hq'
  | brk => exact False.elim hq'
  | cont => exact False.elim hq'
theorem ZQ2 (M : Mk X.K C f) (F : ZCi X.prog X.w X.K X.mg X.base CX k f fd ps sp) (hr : Room (k + 1) X.A) (hg : Gl X x) (hm : X.mg x = some (.ref C)) (hb : ZCX X.K fd ps ds) (hd : ZCh dvs ds) (hx : ZD0 CX X E)
  (ha : PA X (e :: es) t) (hdb : (x == ("__debug__" : Str)) = false := by decide) (he : starEach (e :: es) X.env = (false, eval e X.env) :: starEach es X.env := by rfl) (hpl : (backTo pos (starEach es X.env)).any (·.1) = false := by rfl) :
  PE X (.Call (.Name x p) (e :: es) [] pos) (ZIS C sp dvs E t) := by
 intro pins s U H Q I h
 refine wpAny_Call_Name_kw (ZFI I hg hm ?_ hdb)
 refine PySem.W.callWith_K (h₀ := X.base) I.ok.mod.kin M.kp (thn (ha pos pins s U H _ I h) fun us s1 ⟨vs, H1, I1, r, q⟩ => ⟨I1.kIn, ?_⟩) he hpl
 exact ZKC M F hr hb hd hx I1 r q
theorem ZOy (M : Mk X.K C f) (F : ZCi X.prog X.w X.K X.mg X.base CX k f fd ps sp) (hr : Room (k + 1) X.A) (hg : Gl X x) (hm : X.mg x = some (.ref C)) (hb : ZCX X.K fd ps ds) (hd : ZCh dvs ds) (hx : ZD0 CX X E)
  (hdb : (x == ("__debug__" : Str)) = false := by decide) : PE X (.Call (.Name x p) [] [] pos) (ZIS C sp dvs E ZKB) := by
 intro pins s U H Q I h
 refine wpAny_Call_Name_kw (ZFI I hg hm ?_ hdb)
 exact PySem.W.callWith_K0 I.kIn M.kp (ZKC (us := []) M F hr hb hd hx I .nil h)
end
structure ZCd (N P : List Str) (sc : Scope) : Prop where
 kind : sc.kind = .function
 co : sc.isCoroutine = false
 gen : sc.isGenerator = false
 nd : N.Nodup
 pre : N.take P.length = P
 par : ∀ x ∈ P, sc.names.lookup x = some .local \/ sc.names.lookup x = some .cell
 nofree : ∀ y ∈ sc.names, y.2 ≠ .free
theorem ZJB {kindOf : Str -> Option NameKind} {x : Str} : ∀ {binds : List (Str × Value)} {m : Str -> Option Value}, (∀ v, (x, v) ∉ binds) -> bindL kindOf binds m x = m x
 | [], _, _ => rfl
 | (n, v) :: r, m, h => by
  unfold bindL
  rw [ZJB fun w hw => h w (Us _ hw)]
  split
  ·have : x ≠ n := by rintro rfl; exact h v Ux
   simp [this]
  ·rfl
theorem ZJC {kindOf : Str -> Option NameKind} {x : Str} : ∀ {binds : List (Str × Value)} {m : Str -> Option Value}, (∀ v, (x, v) ∉ binds) -> bindC kindOf binds m x = m x
 | [], _, _ => rfl
 | (n, v) :: r, m, h => by
  unfold bindC
  rw [ZJC fun w hw => h w (Us _ hw)]
  split
  ·rfl
  ·have : x ≠ n := by rintro rfl; exact h v Ux
   simp [this]
theorem ZJD {kindOf : Str -> Option NameKind} {x : Str} {v : Value} : ∀ {P : List Str} {vs : List Value} {i : Nat} {m : Str -> Option Value}, P.Nodup -> P[i]? = some x -> vs[i]? = some v -> kindOf x = some .local ->
  bindL kindOf (P.zip vs) m x = some v
 | [], _, _, _, _, h, _, _ => by simp at h
 | _ :: _, [], _, _, _, _, h, _ => by simp at h
 | p :: P, w :: vs, 0, m, nd, h1, h2, hk => by
  simp at h1 h2; subst h1; subst h2
  show bindL kindOf ((p, w) :: P.zip vs) m p = _
  unfold bindL
  rw [ZJB fun v hv => (Vf.mp nd).1 (List.of_mem_zip hv).1, if_pos hk]
  simp
 | p :: P, w :: vs, i + 1, m, nd, h1, h2, hk => by
  show bindL kindOf ((p, w) :: P.zip vs) m x = _
  unfold bindL
  exact ZJD (i := i) (Vf.mp nd).2 (by simpa using h1) (by simpa using h2) hk
theorem ZJE {kindOf : Str -> Option NameKind} {x : Str} {v : Value} : ∀ {P : List Str} {vs : List Value} {i : Nat} {m : Str -> Option Value}, P.Nodup -> P[i]? = some x -> vs[i]? = some v -> kindOf x ≠ some .local ->
  bindC kindOf (P.zip vs) m x = some v
 | [], _, _, _, _, h, _, _ => by simp at h
 | _ :: _, [], _, _, _, _, h, _ => by simp at h
 | p :: P, w :: vs, 0, m, nd, h1, h2, hk => by
  simp at h1 h2; subst h1; subst h2
  show bindC kindOf ((p, w) :: P.zip vs) m p = _
  unfold bindC
  rw [ZJC fun v hv => (Vf.mp nd).1 (List.of_mem_zip hv).1, if_neg hk]
  simp
 | p :: P, w :: vs, i + 1, m, nd, h1, h2, hk => by
  show bindC kindOf ((p, w) :: P.zip vs) m x = _
  unfold bindC
  exact ZJE (i := i) (Vf.mp nd).2 (by simpa using h1) (by simpa using h2) hk
def start (N : List Str) (vs : List V) : St := vs.map some ++ List.replicate (N.length - vs.length) none
def ZHu (CX : CXT) (P : Program) (w : World) (K : W.Frag) (mg : Str -> Option Value) (base : Heap) (N : List Str) (qual : Str) (scope : Scope) (f : Addr) (cd : Value) (A : Around) (outer : List Env) (s : Shared) (H : Hp) (E : XK) : Cx where
 prog := P
 w := w
 K := K
 mg := mg
 base := base
 A := A.deeper (envOfC qual scope s.heap.objs.size f cd)
 N := N
 s₀ := s
 H₀ := H
 env := envOfC qual scope s.heap.objs.size f cd
 outer := outer
 stack := envOfC qual scope s.heap.objs.size f cd :: outer
 ex := []
 calm := true
 fn := fun _ => true
 pn := []
 xe := fun e s' => wpAny (model P w) (A.deeper (envOfC qual scope s.heap.objs.size f cd)) (leaving (envOfC qual scope s.heap.objs.size f cd) e) (fun _ s'' => CX outer H s E e s'') (fun e' s'' => CX outer H s E e' s'') s'
theorem ZKD {sc : Scope} {n : Nat} {x : Str} (h : sc.names.lookup x = some .cell) : ∃ c, (cellsFrom n sc.names []).lookup x = some c := by
 have q := PySem.W.cellsFrom_some sc.names n [] (.inl h)
 exact Option.isSome_iff_exists.mp q
theorem ZNR {CX : CXT} {P : Program} {w : World} {K : W.Frag} {mg : Str -> Option Value} {base : Heap} {N ps : List Str} {qual : Str} {scope : Scope} {f : Addr} {cd : Value} {A : Around} {outer : List Env} {s s1 : Shared} {H : Hp} {E : XK} {us : List Value} {vs : List V}
  (S : ZCd N ps scope) (hd : A.handled = none) (e0 : ZFs P w K mg base A outer s H) (hl : vs.length = ps.length) (r : ZCh vs us)
  (x : InCallC s s.heap.objs.size (bindL (envOfC qual scope s.heap.objs.size f cd).kindOf (ps.zip us) fun _ => none) (cellsFrom (s.heap.objs.size + 1) scope.names []) (bindC (envOfC qual scope s.heap.objs.size f cd).kindOf (ps.zip us) fun _ => none) s1) :
  Inv (ZHu CX P w K mg base N qual scope f cd A outer s H E) [] (start N vs) H s1 := by
 have hpl : ps.length <= N.length := by have := congrArg List.length S.pre; rw [UY] at this; omega
 obtain ⟨h1, tk, rfl, hk⟩ := x.done
 have noA : ∀ b : Addr, b ∉ (ZHu CX P w K mg base N qual scope f cd A outer s H E).ex := fun b z => absurd (show b ∈ ([] : List Addr) from z) (by simp)
 refine ⟨⟨e0.mod, S.kind, rfl, rfl, Ue _, fun y z c h1 h2 => ?_, fun y hy => ?_, fun y c _ h => ?_, fun _ => hd, Around.frames_deeper e0.frames, .inr ⟨rfl, rfl⟩, fun b z => absurd z (noA b), e0.bs, e0.bsz, fun b _ _ => noA b, fun b z => absurd z (noA b), e0.funs, e0.frf⟩,
  rfl, e0.bare, Un.kept hk, ⟨_, x.toInCall.ns, fun i y v h1 h2 h3 => ?_⟩, fun y c h => ⟨_, x.cell y c h⟩, e0.hok.fresh (Ue _), fun y c h => ?_, fun p hp => absurd (show p ∈ ([] : List (Addr × Obj)) from hp) (by simp), e0.hok.kept hk, ?_⟩
 ·exact name_of_addr x.apart (PySem.mem_of_lookup h1) (PySem.mem_of_lookup h2)
 ·have hy : scope.names.lookup y = some .cell \/ scope.names.lookup y = some .free := hy
  rcases hy with hy | hy
  ·exact ZKD hy
  ·exact absurd rfl (S.nofree _ (PySem.mem_of_lookup hy))
 ·exact Nat.le_of_lt (x.above y c (PySem.mem_of_lookup h))
 ·have hi : i < vs.length := by
   unfold start at h2
   by_cases hi : i < vs.length
   ·exact hi
   ·rw [Vl (by simpa using hi)] at h2
    rw [List.getElem?_replicate] at h2
    split at h2 <;> cases h2
  have ha : vs[i]? = some v := by
   unfold start at h2
   rw [List.getElem?_append_left (by simpa using hi), Ut] at h2
   cases e : vs[i]? with
   | none => rw [e] at h2; cases h2
   | some a => rw [e] at h2; cases h2; rfl
  obtain ⟨u, hu, rv⟩ := r.get ha
  have hp : ps[i]? = some y := by
   rw [<- S.pre, List.getElem?_take_of_lt (by omega)]; exact h1
  have ndP : ps.Nodup := by rw [<- S.pre]; exact S.nd.sublist (List.take_sublist _ _)
  refine ⟨u, rv, ?_⟩
  rcases S.par y (UC hp) with k | k
  ·exact .inl ⟨k, ZJD ndP hp hu k⟩
  ·obtain ⟨c, e⟩ := ZKD (n := s.heap.objs.size + 1) k
   refine .inr ⟨.inl k, c, e, ?_⟩
   have q := x.cell y c e
   rw [ZJE ndP hp hu (by show scope.names.lookup y ≠ _; rw [k]; decide)] at q
   exact q
 ·exact e0.hok.fresh (Nat.le_of_lt (x.above y c (PySem.mem_of_lookup h)))
 ·unfold start
  show _ = N.length
  rw [UR, Ui, List.length_replicate]
  omega
theorem ZQO {CX : CXT} {P : Program} {w : World} {K : W.Frag} {mg : Str -> Option Value} {base : Heap} {k : Nat} {f : Addr} {name qual : Str} {params : Arguments} {body : List Stmt} {scope : Scope} {dV kV doc pm cdv ct oc : Value} {an od : Option Addr}
  {osl : Array (Option Value)} {N ps : List Str} {sp : Sp} (lk : K.lookup f = some ⟨oc, od, .func (W.fnOf name qual params body scope dV kV doc pm an cdv ct), osl⟩) (hcd : W.codeIn K cdv qual = true) (S : ZCd N ps scope)
  (len : ∀ vs H Q E, sp vs H Q E -> vs.length = ps.length)
  (hbody : ∀ (A : Around) (outer : List Env) (s : Shared) (H : Hp) (vs : List V) (Q : VK) (E : XK), Room k (A.deeper (envOfC qual scope s.heap.objs.size f cdv)) -> sp vs H Q E ->
   ∃ t, PSs (ZHu CX P w K mg base N qual scope f cdv A outer s H E) body t /\ t { nx := fun _ H' => Q .non H', rt := Q } (start N vs) H) :
  ZCi P w K mg base CX (k + 1) f (W.fnOf name qual params body scope dV kV doc pm an cdv ct) ps sp := by
 refine ⟨len, fun A outer s H args us vs Q E hr e0 hb r hsp => ?_⟩
 have hl := len _ _ _ _ hsp
 have KX : K.In s.heap := e0.mod.kin.keeps fun b o e => (e0.bs b o e).1
 have lim : s.heap.NoLimit := e0.mod.nolimit.keeps fun b o e => (e0.bs b o e).1
 have hkind : ∀ y ∈ ps.zip us, scope.names.lookup y.1 = some .local \/ (scope.names.lookup y.1 = some .cell /\ ((cellsFrom (s.heap.objs.size + 1) scope.names []).lookup y.1).isSome = true) := fun ⟨n, v⟩ hy => by
  rcases S.par n (List.of_mem_zip hy).1 with q | q
  ·exact .inl q
  ·exact .inr ⟨q, PySem.W.cellsFrom_some _ _ _ (.inl q)⟩
 refine codeAny_call_function hr.depth (KX _ _ lk) rfl S.co S.gen rfl (PySem.W.codeRec_of KX hcd) (hb _ _ _ _ ?_)
 refine wpAny_newFunctionEnv_cells S.kind hkind fun env he s1 x => ?_
 subst he
 refine ⟨lim.keeps x.toInCall.keep, codeAny_func ?_⟩
 obtain ⟨t, ht, hq⟩ := hbody A outer s H vs Q E (hr.deeper _) hsp
 have I : Inv (ZHu CX P w K mg base N qual scope f cdv A outer s H E) [] (start N vs) H s1 := ZNR S hr.hd e0 hl r x
 refine UB (ht [] s1 (start N vs) H _ I hq) (fun fl s' hs => ?_) fun e s' hs => hs
 have fin : ∀ {U' : St} {H' : Hp} {v : V} {u : Value}, Inv (ZHu CX P w K mg base N qual scope f cdv A outer s H E) [] U' H' s' -> ZCb v u -> Q v H' -> CE outer P w H s Q u s' :=
  fun {U' H' v u} J rv q => ⟨v, H', J.os, J.bare, J.base, J.hok, rv, q⟩
 cases fl with
 | ret u =>
  obtain ⟨v, U', H', J, rv, q⟩ := hs
  exact fin J rv q
 | next =>
  obtain ⟨U', H', J, q⟩ := hs
  exact fin (v := V.non) (u := Value.none) J rfl q
 | brk =>
  obtain ⟨_, _, _, q⟩ := hs
  exact False.elim q
 | cont =>
  obtain ⟨_, _, _, q⟩ := hs
  exact False.elim q
section
variable {X : Cx} {x : Str} {p pos : Pos} {e : Expr} {es : List Expr} {t : TA} {id T : String} {r : List V -> Hp -> VK -> Prop}
def tCB (r : List V -> Hp -> VK -> Prop) (t : TA) : TE := fun U H Q => t U H fun vs H1 => r vs H1 Q
theorem ZOz (hc : ZC8 X (.builtin id) r) (hg : Gl X x) (hm : X.mg x = none) (hv : bootBuiltins x = some (.builtin id)) (ha : PA X (e :: es) t) (hn : x ≠ "__name__" := by decide) (hdb : (x == ("__debug__" : Str)) = false := by decide)
  (he : starEach (e :: es) X.env = (false, eval e X.env) :: starEach es X.env := by rfl) (hpl : (backTo pos (starEach es X.env)).any (·.1) = false := by rfl) : PE X (.Call (.Name x p) (e :: es) [] pos) (tCB r t) := by
 intro pins s U H Q I h
 refine wpAny_Call_Name_kw (ZEb I hg hm hv ?_ hn hdb)
 exact PyProof.Rows.callWith_builtin1 (thn (ha pos pins s U H _ I h) fun us s1 ⟨vs, H1, I1, r1, q1⟩ => hc pins s1 U H1 vs us Q I1 r1 q1) he hpl
theorem ZNS (hc : ZC8 X (.type T) r) (hg : Gl X x) (hm : X.mg x = none) (hv : bootBuiltins x = some (.type T)) (ha : PA X (e :: es) t) (hn : x ≠ "__name__" := by decide) (hdb : (x == ("__debug__" : Str)) = false := by decide)
  (he : starEach (e :: es) X.env = (false, eval e X.env) :: starEach es X.env := by rfl) (hpl : (backTo pos (starEach es X.env)).any (·.1) = false := by rfl) : PE X (.Call (.Name x p) (e :: es) [] pos) (tCB r t) := by
 intro pins s U H Q I h
 refine wpAny_Call_Name_kw (ZEb I hg hm hv ?_ hn hdb)
 exact PyProof.Rows.callWith_type1 (thn (ha pos pins s U H _ I h) fun us s1 ⟨vs, H1, I1, r1, q1⟩ => hc pins s1 U H1 vs us Q I1 r1 q1) he hpl
end
end L2
namespace HT
open PySem PyProof.Rows
end HT
namespace L2
open PySem PySem.Spec PyProof.Rows
abbrev TO := St -> Hp -> (Option Int -> Hp -> Prop) -> Prop
def ixN (n : Nat) (i : Int) : Option Nat := if 0 <= i then (if i < n then some i.toNat else none) else if -(n : Int) <= i then some (i + n).toNat else none
def atI {α : Type} (xs : List α) (i : Int) : Option α := (ixN xs.length i).bind fun j => xs[j]?
theorem ZLj {n : Nat} {i : Int} {j : Nat} (h : ixN n i = some j) : seqIndex? i n = some j /\ j < n /\ -(n : Int) <= i /\ i < n := by
 unfold ixN at h
 by_cases h0 : 0 <= i
 ·rw [if_pos h0] at h
  by_cases h1 : i < n
  ·rw [if_pos h1] at h
   have e : i.toNat = j := Option.some.inj h
   exact ⟨by rw [seqIndex_of h0 h1, e], by omega, by omega, h1⟩
  ·rw [if_neg h1] at h; cases h
 ·rw [if_neg h0] at h
  by_cases h1 : -(n : Int) <= i
  ·rw [if_pos h1] at h
   have e : (i + n).toNat = j := Option.some.inj h
   exact ⟨by rw [seqIndex_neg (by omega) h1, e], by omega, h1, by omega⟩
  ·rw [if_neg h1] at h; cases h
theorem ZLk {α : Type} {xs : List α} {i : Int} {v : α} (h : atI xs i = some v) : ∃ j, seqIndex? i xs.length = some j /\ xs[j]? = some v /\ j < xs.length /\ -(xs.length : Int) <= i /\ i < xs.length := by
 unfold atI at h
 cases e : ixN xs.length i with
 | none => rw [e] at h; cases h
 | some j =>
  rw [e] at h
  obtain ⟨h1, h2, h3, h4⟩ := ZLj e
  exact ⟨j, h1, h, h2, h3, h4⟩
theorem ZEo {α : Type} {xs : List α} {j : Nat} {v : α} (h : xs[j]? = some v) : atI xs (j : Int) = some v := by
 have hj : j < xs.length := (Uj.mp h).1
 have e : ixN xs.length (j : Int) = some j := by
  unfold ixN
  rw [if_pos (by omega), if_pos (by omega)]; simp
 unfold atI; rw [e]; exact h
def ZLl (b : Expr) : Prop := ∀ o i, subscripted b false o i = operate [o, i] (getItem o i)
def IxR (X : Cx) (r : R2) : Prop :=
 ∀ (value slice : Expr) (pins : List (Addr × Obj)) (s : Shared) (U : St) (H : Hp) (x y : V) (v u : Value) (Q : VK), Inv X pins U H s -> ZCb x v -> ZCb y u -> r x y H Q ->
  subscripted slice false v u = operate [v, u] (getItem v u) -> wpAny (model X.prog X.w) X.A (subscriptTail value slice v u) (EP X pins U Q) X.xe s
def MtR (X : Cx) (id : String) (r : V -> List V -> Hp -> VK -> Prop) : Prop :=
 ∀ (pins : List (Addr × Obj)) (s : Shared) (U : St) (H : Hp) (x : V) (xs : List V) (v : Value) (us : List Value) (Q : VK), Inv X pins U H s -> ZCb x v -> ZCh xs us -> r x xs H Q ->
  wpAny (model X.prog X.w) X.A (call (.builtin id) (v :: us)) (EP X pins U Q) X.xe s
section
variable {X : Cx} {a b : Expr} {ta tb : TE} {pos : Pos}
theorem ZUA {r : R2} (hr : IxR X r) (ha : PE X a ta) (hb : PE X b tb) (hs : ZLl b) : PE X (.Subscript a b pos) (tOp r ta tb) := by
 intro pins s U H Q I h
 exact Subscript_ (ZOl ha hb I h fun v u s2 x y H2 I2 rx ry q => hr a b pins s2 U H2 x y v u Q I2 rx ry q (hs _ _))
def ZMP (K : W.Frag) : R2 := fun x y H Q => ∃ p xs i v, x = .ref p /\ y = .int i /\ SqL K H p xs /\ atI xs i = some v /\ Q v H
def ZO0 (K : W.Frag) : R2 := fun x y H Q => ∃ p xs i v, x = .ref p /\ y = .int i /\ SqT K H p xs /\ atI xs i = some v /\ Q v H
theorem ZQ3 : IxR X (ZMP X.K) := by
 intro value slice pins s U H x y v u Q I rx ry h hs
 obtain ⟨p, xs, i, z, rfl, rfl, hq, he, q⟩ := h
 cases rx
 obtain ⟨t, rfl⟩ := ry
 obtain ⟨its, r, pl, hz⟩ := I.list hq
 obtain ⟨j, h1, h2, h3, h4, h5⟩ := ZLk he
 obtain ⟨w, ew, rw'⟩ := r.get h2
 have hl := r.length
 have hn := ZGp
 have fin : EP X pins U Q w s := ⟨z, H, I, rw', q⟩
 by_cases h0 : 0 <= i
 ·have hj : i.toNat = j := by
   rw [seqIndex_of h0 h5] at h1
   exact Option.some.inj h1
  exact item_listR pl.isList h0 (by omega) (by rw [hj]; simpa using ew) fin hs
 ·have hj : (i + (its.toArray.size : Int)).toNat = j := by
   rw [seqIndex_neg (by omega) h4] at h1
   rw [Uq, <- hl]
   exact Option.some.inj h1
  exact subscriptTail_builtinR (x := w) pl.isList.typeIs slot_list_getitem.lookup
   (wpAny_getItem_list_neg (Q := fun r s' => r = w /\ EP X pins U Q r s') pl.isList (by omega) (by rw [Uq] <;> omega) (by omega) (by rw [hj]; simpa using ew) ⟨rfl, fin⟩) hs
theorem ZSn : IxR X (ZO0 X.K) := by
 intro value slice pins s U H x y v u Q I rx ry h hs
 obtain ⟨p, xs, i, z, rfl, rfl, hq, he, q⟩ := h
 cases rx
 obtain ⟨t, rfl⟩ := ry
 obtain ⟨its, r, pl, hz⟩ := I.tuple hq
 obtain ⟨j, h1, h2, h3, h4, h5⟩ := ZLk he
 obtain ⟨w, ew, rw'⟩ := r.get h2
 have hl := r.length
 have hn := ZGp
 have fin : EP X pins U Q w s := ⟨z, H, I, rw', q⟩
 exact subscriptTail_builtinR (x := w) pl.typeIs slot_tuple_getitem.lookup
  (getItem_tuple (j := j) (Q := fun r s' => r = w /\ EP X pins U Q r s') pl (by omega) (by omega) (by rw [Uq, <- hl]; exact h1) (by simpa using ew) ⟨rfl, fin⟩) hs
theorem ZMQ (its : List Value) (n j : Nat) (u : Value) : Obj.mapSeq (·.setIfInBounds j u) { cls := .type "list", data := .seq its.toArray n } = { cls := .type "list", data := .seq (its.set j u).toArray n } := by
 simp [Obj.mapSeq]
theorem Inv.lst {pins : List (Addr × Obj)} {U : St} {H : Hp} {s : Shared} {p : Addr} {xs : List V} (I : Inv X pins U H s) (h : H p = some (.lst xs)) :
  ∃ (its : List Value) (n : Nat), ZCh xs its /\ s.heap.get? p = some { cls := .type "list", data := .seq its.toArray n } /\ xs.length <= sizeLine := by
 obtain ⟨z, its, n, r, e⟩ := I.hok p _ h
 exact ⟨its, n, r, e, z⟩
theorem Inv.lstUpd {pins : List (Addr × Obj)} {U : St} {H : Hp} {s : Shared} {p : Addr} {xs ys : List V} {its its' : List Value} {n n' : Nat} {f : Obj -> Obj} (I : Inv X pins U H s) (h : H p = some (.lst xs))
  (ho : s.heap.get? p = some { cls := .type "list", data := .seq its.toArray n }) (hf : f { cls := .type "list", data := .seq its.toArray n } = { cls := .type "list", data := .seq its'.toArray n' }) (r : ZCh ys its') (hz : ys.length <= sizeLine) (t : Nat) :
  Inv X pins U (upd H p (.lst ys)) { s with heap := s.heap.update p f, toks := t } := by
 have e : (s.heap.update p f).get? p = some { cls := .type "list", data := .seq its'.toArray n' } := by
  rw [Heap.get?_update_self f ho (by rw [hf] <;> rfl), hf]
 refine I.write (x := p) (e := p) (by rw [h]; trivial) (.inl rfl) (fun b u hb q => (Uw _ _ (Ne.symm hb)).trans q) ⟨_, e⟩ ?_
 exact ⟨hz, its', n', r, e⟩
def ZMR : V -> V -> V -> Hp -> (Hp -> Prop) -> Prop := fun o i v H Q => ∃ p xs k j, o = .ref p /\ i = .int k /\ H p = some (.lst xs) /\ ixN xs.length k = some j /\ Q (upd H p (.lst (xs.set j v)))
theorem ZHv : ZOc X ZMR := by
 intro pins s U H o i v ov iv u Q I ro ri rv h
 obtain ⟨p, xs, k, j, rfl, rfl, hp, hj, q⟩ := h
 cases ro
 obtain ⟨t, rfl⟩ := ri
 obtain ⟨its, n, r, ho, hz⟩ := I.lst hp
 obtain ⟨h1, h2, h3, h4⟩ := ZLj hj
 have hl := r.length
 have hn := ZGp
 have I' : Inv X pins U (upd H p (.lst (xs.set j v))) { s with heap := s.heap.update p (Obj.mapSeq (·.setIfInBounds j u)) } :=
  I.lstUpd hp ho (ZMQ its n j u) (r.set rv j) (by rw [List.length_set]; exact hz) s.toks
 by_cases h0 : 0 <= k
 ·have hk : k.toNat = j := by
   rw [seqIndex_of h0 h4] at h1
   exact Option.some.inj h1
  exact PySem.W.ki_setAt ho h0 (by omega) (by rw [Uq, <- hl]; exact h4) (by rw [hk]; exact ⟨_, I', q⟩)
 ·have hk : (k + (its.toArray.size : Int)).toNat = j := by
   rw [seqIndex_neg (by omega) h3] at h1
   rw [Uq, <- hl]
   exact Option.some.inj h1
  exact PySem.W.ki_setBack ho (by omega) (by rw [Uq, <- hl]; exact h3) (by omega) (by rw [hk]; exact ⟨_, I', q⟩)
theorem ZKE : ZC8 X (.builtin "len") (fun xs H Q => ∃ p ys, xs = [.ref p] /\ (SqL X.K H p ys \/ SqT X.K H p ys) /\ Q (.int ys.length) H) := by
 intro pins s U H xs us Q I r h
 obtain ⟨p, ys, rfl, hq, q⟩ := h
 obtain ⟨u, rfl, rx⟩ := ZIO r
 cases rx
 have hn := ZGp
 rcases hq with hq | hq
 ·obtain ⟨its, r', pl, hz⟩ := I.list hq
  have hlen := r'.length
  exact Calls.call_len_list pl.isList (by simp only [Uq] <;> omega) ⟨.int ys.length, H, I.tok _, ⟨s.toks + 1, by rw [Uq, hlen]⟩, q⟩
 ·obtain ⟨its, r', pl, hz⟩ := I.tuple hq
  have hlen := r'.length
  exact len_tuple pl (by simp only [Uq] <;> omega) ⟨.int ys.length, H, I.tok _, ⟨s.toks + 1, by rw [Uq, hlen]⟩, q⟩
theorem ZKF : ZC8 X (.builtin "len") (fun xs H Q => ∃ z, xs = [.str z] /\ z.length <= sizeLine /\ Q (.int z.length) H) := by
 intro pins s U H xs us Q I r h
 obtain ⟨z, rfl, hz, q⟩ := h
 obtain ⟨u, rfl, t, rfl⟩ := ZIO r
 have hn := ZGp
 exact len_str (by omega) ⟨.int z.length, H, I.tok _, ⟨_, rfl⟩, q⟩
theorem ZJg : ZC8 X (.type "tuple") (fun xs H Q => ∃ p ys, xs = [.ref p] /\ ((SqL X.K H p ys /\ ∀ l, H l = none -> Q (.ref l) (upd H l (.tup ys))) \/ (SqT X.K H p ys /\ Q (.ref p) H))) := by
 intro pins s U H xs us Q I r h
 obtain ⟨p, ys, rfl, h⟩ := h
 obtain ⟨u, rfl, rx⟩ := ZIO r
 cases rx
 rcases h with ⟨hq, q⟩ | ⟨hq, q⟩
 ·obtain ⟨its, r', pl, hz⟩ := I.list hq
  have hlen := r'.length
  refine call_tuple_list pl.isList (fun h' kp => ?_) (by simp only [Uq] <;> omega)
  have I1 : Inv X pins U H { s with heap := h' } := I.kept (t' := s.toks) kp
  have I2 : Inv X pins U (upd H h'.objs.size (.tup ys)) { s with heap := h'.push { cls := .type "tuple", data := .seq its.toArray } } :=
   I1.laid (t' := s.toks) (fun b o e => Ub _ e) (Ue _) (show ZCu X.prog X.w _ _ _ (.tup ys) from ⟨⟨hz, fun _ => ⟨_, Uf _ rfl, rfl, rfl⟩⟩, its, r', IsTup.new _ _⟩)
  exact ⟨.ref h'.objs.size, _, I2, rfl, q _ (I1.hok.fresh (Ue _))⟩
 ·obtain ⟨its, r', pl, hz⟩ := I.tuple hq
  exact call_tuple_same pl ⟨.ref p, H, I, rfl, q⟩
def tyV (K : W.Frag) (T : String) (x : V) (H : Hp) : Prop := match x with
 | .str _ => T = "str"
 | .int _ => T = "int"
 | .ref p => (T = "list" /\ ∃ xs, SqL K H p xs) \/ (T = "tuple" /\ ∃ o, K.lookup p = some o /\ o.cls = .type "tuple" /\ o.dict = none) \/
  (T = "dict" /\ ((∃ kvs, H p = some (.dK kvs)) \/ ∃ kvs, H p = some (.dT kvs))) \/ (T = "set" /\ ∃ S n, H p = some (.set S n))
 | _ => False
theorem ZSo {pins : List (Addr × Obj)} {U : St} {H : Hp} {s : Shared} {T : String} {x : V} {v : Value} (I : Inv X pins U H s) (r : ZCb x v) (ty : tyV X.K T x H) :
  s.TypeIs v T /\ ∀ a, v = .ref a -> ∃ ob, s.heap.get? a = some ob /\ ob.dict = none := by
 cases x with
 | str z =>
  obtain ⟨t, rfl⟩ := r
  cases (show T = "str" from ty)
  exact ⟨typeIs_str s z t, fun _ e => nomatch e⟩
 | int i =>
  obtain ⟨t, rfl⟩ := r
  cases (show T = "int" from ty)
  exact ⟨typeIs_int s i t, fun _ e => nomatch e⟩
 | ref p =>
  cases r
  rcases ty with ⟨rfl, xs, hq⟩ | ⟨rfl, o, hk, hc, hd⟩ | ⟨rfl, hk⟩ | ⟨rfl, S, n, hk⟩
  ·obtain ⟨its, _, pl, _⟩ := I.list hq
   refine ⟨pl.isList.typeIs, fun a e => ?_⟩
   cases e
   obtain ⟨o, n, e, c, hd, _⟩ := pl
   exact ⟨o, e, hd⟩
  ·refine ⟨⟨o, I.kIn p o hk, hc⟩, fun a e => ?_⟩
   cases e
   exact ⟨o, I.kIn _ o hk, hd⟩
  ·have z : ∃ o, s.heap.get? p = some o /\ o.ExactDict := by
    rcases hk with ⟨kvs, hk⟩ | ⟨kvs, hk⟩
    ·obtain ⟨_, _, _, _, o, _, _, e, ex, _⟩ := I.hok p _ hk
     exact ⟨o, e, ex⟩
    ·obtain ⟨_, _, _, _, o, _, _, e, ex, _⟩ := I.hok p _ hk
     exact ⟨o, e, ex⟩
   obtain ⟨o, e, ex⟩ := z
   refine ⟨⟨o, e, ex.1⟩, fun a e2 => ?_⟩
   cases e2
   exact ⟨o, e, ex.2.1⟩
  ·obtain ⟨o, _, _, _, e, ex, _⟩ := I.hok p _ hk
   refine ⟨⟨o, e, ex.1⟩, fun a e2 => ?_⟩
   cases e2
   exact ⟨o, e, ex.2.1⟩
 | _ => exact False.elim ty
def tBM (K : W.Frag) (T : String) (r : V -> List V -> Hp -> VK -> Prop) (to : TE) (t : TA) : TE := fun U H Q => to U H fun x H1 => tyV K T x H1 /\ t U H1 fun xs H2 => r x xs H2 Q
variable {o e : Expr} {es : List Expr} {to : TE} {t : TA} {name : Str} {apos cpos : Pos} {T id : String} {r : V -> List V -> Hp -> VK -> Prop}
theorem ZUB (pa : PlainAttrs T) (slot : Slot T name id) (hty : typeOf (.builtin id) = pure (.type "method_descriptor")) (hm : MtR X id r) (ho : PE X o to) (ha : PA X (e :: es) t)
  (hbase : attributeBase o name X.env (eval o X.env) = eval o X.env := by rfl)
  (hfew : ((backTo cpos (starEach (e :: es) X.env)).all (fun x => !x.1) && (backToKw cpos (keywordEach [] X.env)).all (fun x => x.1.isSome)
   && decide ((e :: es).length + ([] : List Keyword).length + (if ([] : List Keyword).isEmpty then 0 else 1) < 30)) = true := by rfl)
  (hline : (apos.endLine == cpos.line) = true := by rfl) (hs : starEach (e :: es) X.env = (false, eval e X.env) :: starEach es X.env := by rfl) (hplain : (backTo cpos (starEach es X.env)).any (·.1) = false := by rfl) :
  PE X (.Call (.Attribute o name apos) (e :: es) [] cpos) (tBM X.K T r to t) := by
 intro pins s U H Q I h
 refine wpAny_Call_method_late hbase hfew hline rfl (thn (ho pins s U H _ I h) fun v s1 ⟨x, H1, I1, r1, ty, q1⟩ => ?_)
 obtain ⟨h1, h2⟩ := ZSo I1 r1 ty
 refine ⟨T, id, pa, slot, hty, h1, h2, ?_⟩
 have hA := ha cpos pins s1 U H1 _ I1 q1
 rw [hs] at hA ⊢
 refine Calls.callWith_builtin (by show (false || (backTo cpos (starEach es X.env)).any (·.1)) = false; rw [hplain] <;> rfl) (Calls.evalArgs_plain ?_)
 exact thn hA fun us s2 ⟨vs, H2, I2, r2, q2⟩ => hm pins s2 U H2 x vs v us Q I2 r1 r2 q2
end
def MtM (X : Cx) (id : String) (r : V -> List V -> Hp -> VK -> Prop) : Prop :=
 ∀ (pins : List (Addr × Obj)) (s : Shared) (U : St) (H : Hp) (x : V) (xs : List V) (v : Value) (us : List Value) (Q : VK), Inv X pins U H s -> ZCb x v -> ZCh xs us -> r x xs H Q ->
  wpAny (model X.prog X.w) X.A (call (.builtin id) (v :: us)) (EP X pins U Q) X.xe s
theorem ZCh.one : ∀ {x : V} {us : List Value}, ZCh [x] us -> ∃ u, us = [u] /\ ZCb x u
 | _, _, .cons r .nil => ⟨_, rfl, r⟩
theorem ZCh.two : ∀ {x y : V} {us : List Value}, ZCh [x, y] us -> ∃ u v, us = [u, v] /\ ZCb x u /\ ZCb y v
 | _, _, _, .cons r (.cons q .nil) => ⟨_, _, rfl, r, q⟩
section
variable {X : Cx} {pins : List (Addr × Obj)} {U : St} {H : Hp} {s : Shared} {l b : Addr} {xs ys zs : List V}
theorem Inv.lset {its its' : List Value} {n : Nat} {f : Array Value -> Array Value} {t' : Nat} (I : Inv X pins U H s) (hH : H l = some (.lst xs))
  (e : s.heap.get? l = some { cls := .type "list", data := .seq its.toArray n }) (hf : f its.toArray = its'.toArray) (hv : ZCh ys its') (hz : ys.length <= sizeLine) :
  Inv X pins U (upd H l (.lst ys)) { s with heap := s.heap.update l (Obj.mapSeq f), toks := t' } := by
 have q := PySem.IsL.update e f
 rw [hf] at q
 refine I.write (x := l) (e := l) (by rw [hH]; exact trivial) (.inl rfl) (fun b' u hb hu => (Uw s.heap (Obj.mapSeq f) (Ne.symm hb)).trans hu) ⟨_, q⟩ ?_
 exact ⟨hz, its', _, hv, q⟩
theorem Inv.lnew {its : List Value} {t' : Nat} (I : Inv X pins U H s) (hv : ZCh ys its) (hz : ys.length <= sizeLine) :
  Inv X pins U (upd H s.heap.objs.size (.lst ys)) { s with heap := s.heap.push { cls := .type "list", data := .seq its.toArray }, toks := t' } :=
 I.laid (fun _ _ q => Ub _ q) (Ue _) ⟨hz, its, 0, hv, Uf _ rfl⟩
theorem Inv.fresh (I : Inv X pins U H s) : H s.heap.objs.size = none := I.hok.fresh (Ue _)
theorem Inv.lstM (I : Inv X pins U H s) (hH : H l = some (.lst xs)) : xs.length <= sizeLine /\ ∃ (its : List Value) (n : Nat), ZCh xs its /\ xs.length = its.length /\ s.heap.get? l = some { cls := .type "list", data := .seq its.toArray n } := by
 obtain ⟨z, its, n, r, e⟩ := I.hok l _ hH
 exact ⟨z, its, n, r, r.length, e⟩
theorem ZO1 {n : Nat} (h : n <= sizeLine) : Builtin.List.listTooLong n = false := by
 unfold Builtin.List.listTooLong
 exact decide_eq_false (by omega)
end
section
variable {X : Cx}
def ZLm : V -> List V -> Hp -> VK -> Prop := fun x vs H Q => ∃ l xs y, x = .ref l /\ vs = [y] /\ H l = some (.lst xs) /\ xs.length < sizeLine /\ Q .non (upd H l (.lst (xs ++ [y])))
theorem ZE0 : MtM X "list.append" ZLm := by
 intro pins s U H x vs v us Q I rx rv h
 obtain ⟨l, xs, y, rfl, rfl, hH, hz, q⟩ := h
 cases rx
 obtain ⟨u, rfl, ru⟩ := rv.one
 obtain ⟨z, its, n, r, hl, e⟩ := I.lstM hH
 refine call_meets F.slot_list_append ⟨_, e, rfl⟩ F.entry_list_append (F.args_list_append_2 _ _) (PySem.list_append l its.toArray n u (by rw [Uq]; omega)) ⟨e, ?_⟩
 refine ⟨.non, _, I.lset (its' := its ++ [u]) hH e (by simp) (r.append (.cons ru .nil)) ?_, rfl, q⟩
 rw [UR, List.length_singleton]
 omega
def ZSp : R2 := fun x y H Q => ∃ l b xs zs, x = .ref l /\ y = .ref b /\ H l = some (.lst xs) /\ H b = some (.lst zs) /\ xs.length + zs.length <= sizeLine /\ ∀ p, H p = none -> Q (.ref p) (upd H p (.lst (xs ++ zs)))
theorem ZSq : OpR X (binaryOp .Add) ZSp := by
 intro pins s U H x y v u Q I rx ry h
 obtain ⟨l, b, xs, zs, rfl, rfl, hH, hB, hz, q⟩ := h
 cases rx
 cases ry
 obtain ⟨z, its, n, r, hl, e⟩ := I.lstM hH
 obtain ⟨z2, its2, n2, r2, hl2, e2⟩ := I.lstM hB
 refine PySem.P.add_list e e2 ?_ (by rw [Uq, Uq]; omega)
 have ea : its.toArray ++ its2.toArray = (its ++ its2).toArray := by simp
 rw [ea]
 exact ⟨.ref _, _, I.lnew (t' := s.toks) (r.append r2) (by rw [UR]; omega), rfl, q _ I.fresh⟩
end
end L2
namespace Att
open PySem PySem.W PySem.Calls PyProof.Rows
theorem ZIT {P : Params} {h : Heap} : ∀ (ns : List Int) (vs : List Value), WellAll P h vs (ns.map WData.int) -> IntsAre vs ns := by
 intro ns
 induction ns with
 | nil =>
  intro vs w
  rw [List.map_nil] at w
  cases w
  exact .nil
 | cons n ns ih =>
  intro vs w
  rw [UF] at w
  cases w with
  | cons a b =>
   cases a
   exact .cons _ _ (ih _ b)
theorem ZNT {l : OpenLaw} {n : Nat} (hn : l.most = some n) {P : Params} {h : Heap} {args : List WData} {vals : List Value}
  (hpre : l.row.toRowW.claim.pre args = true) (hwl : WellAll P h vals args) :
  ∃ a vs ns, vals = [Value.ref a] /\ args = [WData.list (ns.map WData.int)] /\ h.get? a = some { cls := .type "list", data := .seq vs.toArray } /\ IntsAre vs ns /\ ns.length <= n := by
 have hsh : WShape.hasAll [] args [.list .int] = true := (pre_splitW hpre).1
 have hc : l.pre.holds [] { args := args } = true := (pre_splitW hpre).2
 obtain ⟨d, r, rfl, h1, h2⟩ := hasAllW_cons hsh
 obtain rfl := hasAllW_nil h2
 obtain ⟨xs, rfl, h3⟩ := hasW_list h1
 obtain ⟨ns, rfl⟩ := items_int h3
 have hlen : ns.length <= n := by
  unfold OpenLaw.pre at hc
  have h4 : (WTm.not (.lt (.lit (.int (n : Int))) (.len (.arg 0)))).holds [] { args := [.list (ns.map .int)] } = true := by
   have h4 := (holds_andW hc).1
   rw [hn] at h4
   exact h4
  have h5 := condW_of h4 (w_not (w_lt w_lit (w_len_list (w_arg rfl))))
  rw [Ui] at h5
  refine Nat.le_of_not_lt fun q => ?_
  have q' : (n : Int) < ((ns.length : Nat) : Int) := by omega
  first
   | (rw [decide_eq_true q'] at h5; exact absurd h5 (by decide))
   | (simp at h5; omega)
 cases hwl with
 | cons w1 w2 =>
  cases w2
  cases w1 with
  | list ho hall => exact ⟨_, _, ns, rfl, rfl, ho, ZIT ns _ hall, hlen⟩
theorem ZNU (l : OpenLaw) (args : List WData) : l.row.toRowW.claim.post args (.bool true) args = true :=
 postW_of (r := l.row.toRowW) (X := (true == true))
  (show WShape.has [] (.bool true) .bool = true by first | rfl | decide | simp [WShape.has, WShape.arms, WShape.armsAll])
  (show (WTm.eq .res (.lit (.bool true))).value [] { args := args, res := some (.bool true), after := args } = some (.bool (true == true)) from w_eq_bool (w_res rfl) w_lit) rfl
theorem attach_call {l : OpenLaw} {n : Nat} {q : Program} {loose : List Str} {XP : (Str -> Option Value) -> Heap -> Prop} {YP : World -> Heap -> Prop} {d : DefRec}
  (hn : l.most = some n) (hdf : d.params.defaults = [])
  (call : ∀ (w : World) (s₀ s₁ : Shared) (mg mb : Str -> Option Value) (fa : Addr) (o : Obj) (pm cd doc : Value) (a : Addr) (vs : List Value) (ns : List Int),
   Ground q loose [] XP w s₀ mg mb s₁.heap -> YP w s₁.heap ->
   s₁.heap.get? fa = some o -> o.data = .func (docDef d.name d.params d.body d.scope pm cd doc) -> s₁.heap.CodeRec cd d.name -> mg d.name = some (.ref fa) ->
   s₁.heap.get? a = some { cls := .type "list", data := .seq vs.toArray } -> IntsAre vs ns -> ns.length <= n -> s₁.gens = #[] ->
   codeAny (model l.prog w) callerA (.call (.ref fa) ⟨[.ref a], []⟩) (fun r s' => r = .ok (.ret (.bool true)) /\ OldK s₁.heap s'.heap /\ s'.os = s₁.os /\ AllBare s'.gens) s₁) :
  WalkO q loose XP YP l.row.toRowW d [] (fun f vs => PySem.call f vs) := by
 intro w s₀ s₁ mg mb G Y fa o pm cd doc dV kV ho hd hcd hD hmg hg args vals as hpre hlay hrd hwl hlo
 obtain rfl : dV = .none := Dflts.none hD hdf
 obtain rfl : kV = .none := Dflts.noKw hD
 obtain ⟨a, vs, ns, rfl, rfl, hobj, hints, hlen⟩ := ZNT hn hpre hwl
 refine enter_call (codeAny_mono (call w s₀ s₁ mg mb fa o pm cd doc a vs ns G Y ho (fd_plain hd) hcd hmg hobj hints hlen hg) fun r s' hq => ?_)
 obtain ⟨rfl, h2, h3, h4⟩ := hq
 exact ⟨.inl ⟨.bool true, .bool true, [], rfl, fun _ => rfl, .bool true, ZNU l _, fun _ => ⟨List.Pairwise.nil, fun _ hm => (nomatch hm)⟩⟩, h2, h3, h4⟩
section
variable {prog : Program} {w : World} {A : Around} {E : Value -> Shared -> Prop} {s : Shared} {K : Frag}
def ZUd (h : Heap) (L d : Addr) : List (Addr × Obj) := (UD h.objs.size).filterMap fun a => if a = L \/ a = d then none else (h.get? a).map fun o => (a, o)
end
end Att
namespace L2
open PySem PySem.Spec PyProof.Rows
theorem ZJF : ∀ {vs : List Value} {ns : List Int}, IntsAre vs ns -> ZCh (ns.map V.int) vs
 | _, _, .nil => .nil
 | _, _, .cons n t h => .cons ⟨t, rfl⟩ (ZJF h)
def ZO2 (H : Hp) : Prop := ∀ b, H b = none \/ ∃ o xs, H b = some (.frz o (.lst xs))
theorem ZO3 {P : Program} {w : World} {K : W.Frag} {mg mb : Str -> Option Value} {CX : CXT} {k : Nat} {fa a : Addr} {fd : FuncData} {x : Str} {sp : Sp} {s₁ : Shared} {vs : List Value} {ns : List Int}
  (KX : K.In s₁.heap) (hns : s₁.heap.Ns mainGlobals mg) (hb : s₁.heap.Ns builtinsNs mb) (hbb : ∀ x : Str, x ≠ "__name__" -> mb x = bootBuiltins x) (hlim : s₁.heap.NoLimit) (hg : s₁.gens = #[])
  (ha : s₁.heap.get? a = some { cls := .type "list", data := .seq vs.toArray }) (hi : IntsAre vs ns) (hl : ns.length <= sizeLine) (hr : Room k callerA)
  (F : ∀ base : Heap, K.In base -> base.Ns mainGlobals mg -> ZCi P w K mg base CX k fa fd [x] sp) (hbind : ∀ (s : Shared) (u : Value), BindsTo s fd ⟨[u], []⟩ [(x, u)])
  (hsp : ∀ H : Hp, ZO2 H -> SqL K H a (ns.map V.int) -> sp [.ref a] H (fun v _ => v = .bl true) fun _ _ _ => False)
  (hCX : ∀ H e s', CX [] H s₁ (fun _ _ _ => False) e s' -> False) :
  codeAny (model P w) callerA (.call (.ref fa) ⟨[.ref a], []⟩) (fun r s' => r = .ok (.ret (.bool true)) /\ OldK s₁.heap s'.heap /\ s'.os = s₁.os /\ AllBare s'.gens) s₁ := by
 have rv := ZJF hi
 have lenV := hi.length
 -- from an abstract heap in which nothing but the script may be tracked
 have core : ∀ H : Hp, ZO2 H -> SqL K H a (ns.map V.int) -> HOk P w H s₁.heap -> (∀ b, H b ≠ none -> b = a) -> (H a ≠ none -> K.lookup a = none) ->
   codeAny (model P w) callerA (.call (.ref fa) ⟨[.ref a], []⟩) (fun r s' => r = .ok (.ret (.bool true)) /\ OldK s₁.heap s'.heap /\ s'.os = s₁.os /\ AllBare s'.gens) s₁ := by
  intro H hO hS hok hA hK
  have base_of : ∀ {b : Addr} {o : Obj}, s₁.heap.get? b = some o -> H b = none -> (ZGF s₁.heap H).get? b = some o := fun e n => ZOT e n
  have noA : ∀ {b : Addr} {o : Obj} {es : Array DictEntry} {ep : Nat}, s₁.heap.get? b = some o -> o.data = .dict es ep -> H b = none := fun {b o es ep} e d => by
   cases q : H b with
   | none => rfl
   | some u =>
    have e' : b = a := hA b (by rw [q]; simp)
    subst e'
    rw [ha] at e; cases e
    have d' : Data.seq vs.toArray _ = Data.dict es ep := d
    cases d'
  have nsK : ∀ {b : Addr} {m : Str -> Option Value}, s₁.heap.Ns b m -> (ZGF s₁.heap H).Ns b m := fun {b m} ⟨o, es, ep, e, d, r⟩ => ⟨o, es, ep, base_of e (noA e d), d, r⟩
  have hKb : K.In (ZGF s₁.heap H) := fun b o e => base_of (KX b o e) (by
   cases q : H b with
   | none => rfl
   | some u =>
    have e' : b = a := hA b (by rw [q]; simp)
    subst e'
    rw [hK (by rw [q]; simp)] at e; cases e)
  have hM : Mod K mg (ZGF s₁.heap H) := ⟨hKb, nsK hns, ⟨mb, nsK hb, hbb⟩, let ⟨mc, h1, h2⟩ := hlim; ⟨mc, nsK h1, h2⟩⟩
  have e0 : ZFs P w K mg (ZGF s₁.heap H) callerA [] s₁ H := ⟨rfl, hM, fun b o e => ZQd e, Nat.le_of_eq (ZNF _ _), trivial, fun b hb => absurd (show b ∈ ([] : List Addr) from hb) (by simp), hok, .of_eq hg⟩
  refine codeAny_mono ((F _ hKb (nsK hns)).run callerA [] s₁ H ⟨[.ref a], []⟩ [.ref a] [.ref a] _ _ hr e0 (hbind s₁ (.ref a)) (.cons rfl .nil) (hsp H hO hS)) fun r s' h => ?_
  cases r with
  | error e => exact (hCX H e s' h).elim
  | ok fl =>
   cases fl with
   | next => exact False.elim h
   | brk => exact False.elim h
   | cont => exact False.elim h
   | ret u =>
    obtain ⟨v, H', os, bare, un, hok', r', q⟩ := h
    have q' : v = .bl true := q
    subst q'
    obtain rfl : u = Value.bool true := r'
    refine ⟨rfl, OldK.of_keep fun b o e => ?_, os, bare⟩
    cases q : H b with
    | none => exact un.keep b o e q (by intro z; exact absurd (show b ∈ ([] : List Addr) from z) (by simp)) (by simp)
    | some u =>
     rcases hO b with z | ⟨ob, xs, z⟩
     ·rw [q] at z; cases z
     ·have z2 := un.frzs b ob _ z
      obtain ⟨e1, _⟩ := hok b _ z
      obtain ⟨e2, _⟩ := hok' b _ z2
      rw [e] at e1; cases e1
      exact e2
 cases hk : K.lookup a with
 | some o =>
  -- the script is one of the module's own objects
  have e := KX a o hk
  rw [ha] at e
  cases e
  refine core (fun _ => none) (fun _ => .inl rfl) (.inr ⟨_, vs.toArray, _, hk, rfl, rfl, rfl, by rw [Uq, lenV]; exact hl, by simpa using rv⟩) (fun b u z => by have z' : (none : Option HO) = some u := z; cases z') (fun b z => absurd rfl z) fun z => absurd rfl z
 | none =>
  refine core (fun b => if b = a then some (.frz { cls := .type "list", data := .seq vs.toArray } (.lst (ns.map V.int))) else none) (fun b => ?_) (.inl (.inr ⟨{ cls := .type "list", data := .seq vs.toArray }, if_pos rfl⟩)) (fun b u z => ?_) (fun b z => ?_) fun _ => hk
  ·by_cases hb : b = a
   ·exact .inr ⟨_, _, if_pos hb⟩
   ·exact .inl (if_neg hb)
  ·by_cases hb : b = a
   ·have z' := (if_pos hb).symm.trans z
    cases z'
    subst hb
    exact ⟨ha, by rw [Ui]; exact hl, vs, _, rv, ha⟩
   ·have z' := (if_neg hb).symm.trans z
    cases z'
  ·by_cases hb : b = a
   ·exact hb
   ·exact absurd (if_neg hb) z
theorem walk_of {l : PySem.W.OpenLaw} {n k : Nat} {q : Program} {loose : List Str} {XP : (Str -> Option Value) -> Heap -> Prop} {YP : World -> Heap -> Prop} {d : DefRec} {K : Params -> W.Frag} {CX : World -> CXT} {sp : World -> Sp} {x : Str}
  (hn : l.most = some n) (hn2 : n <= sizeLine) (hdf : d.params.defaults = []) (hr : Room k callerA)
  (hY : ∀ (w : World) (h : Heap), YP w h -> (K w.params).In h)
  (F : ∀ (w : World) (mg : Str -> Option Value) (fa : Addr) (h : Heap), (K w.params).In h -> h.Ns mainGlobals mg -> mg d.name = some (.ref fa) ->
   ∃ fd : FuncData, (∀ (s : Shared) (u : Value), BindsTo s fd ⟨[u], []⟩ [(x, u)]) /\
    ∀ base : Heap, (K w.params).In base -> base.Ns mainGlobals mg -> ZCi l.prog w (K w.params) mg base (CX w) k fa fd [x] (sp w))
  (hsp : ∀ (w : World) (H : Hp) (a : Addr) (ns : List Int), ns.length <= n -> ZO2 H -> SqL (K w.params) H a (ns.map V.int) -> sp w [.ref a] H (fun v _ => v = .bl true) fun _ _ _ => False)
  (hCX : ∀ (w : World) (H : Hp) (s : Shared) (e : Value) (s' : Shared), CX w [] H s (fun _ _ _ => False) e s' -> False) :
  PySem.W.WalkO q loose XP YP l.row.toRowW d [] (fun f vs => PySem.call f vs) := by
 refine Att.attach_call hn hdf fun w s₀ s₁ mg mb fa o pm cd doc a vs ns G Y ho hd hcd hmg hobj hints hlen hg => ?_
 have KX := hY w _ Y
 obtain ⟨fd, hb, hF⟩ := F w mg fa _ KX G.T.g hmg
 exact ZO3 KX G.T.g G.T.b G.T.builtins G.T.nolimit hg hobj hints (UG hlen hn2) hr hF hb (fun H hO hS => hsp w H a ns hlen hO hS) fun H e s' => hCX w H s₁ e s'
end L2
namespace L2
open PySem PySem.Spec PyProof.Rows
def ZCs (s : Stmt) (j : Nat) : Stmt := match s with
 | .ClassDef _ _ _ body _ _ _ _ _ _ _ => body.getD j (.Pass ⟨0, 0, 0, 0⟩)
 | _ => .Pass ⟨0, 0, 0, 0⟩
def ZDS (s : Stmt) : Arguments := match s with
 | .FunctionDef _ a _ _ _ _ _ _ _ _ => a
 | _ => { posonlyargs := [], args := [], vararg := none, kwonlyargs := [], kw_defaults := [], kwarg := none, defaults := [] }
def ZDH (s : Stmt) : List Stmt := match s with
 | .FunctionDef _ _ b _ _ _ _ _ _ _ => b
 | _ => []
def ZCU (s : Stmt) : Scope := match s with
 | .FunctionDef _ _ _ _ _ _ sc _ _ _ => sc
 | _ => { kind := .function, names := [], isGenerator := false, isCoroutine := false }
abbrev CX0 : CXT := fun _ _ _ _ _ _ => False
abbrev E0 : XK := fun _ _ _ => False
theorem ZDh {X : Cx} : ZD0 CX0 X E0 := fun _ _ _ _ _ _ _ h => h.elim
structure Fun (K : W.Frag) (x qual : Str) (st : Stmt) (f : Addr) (fd : FuncData) : Prop where
 ex : ∃ (oc : Value) (od : Option Addr) (kV doc pm : Value) (an : Option Addr) (cdv ct : Value) (osl : Array (Option Value)),
  fd = W.fnOf x qual (ZDS st) (ZDH st) (ZCU st) .none kV doc pm an cdv ct /\ K.lookup f = some ⟨oc, od, .func fd, osl⟩ /\ W.codeIn K cdv qual = true
 kp : W.keepIn K (.ref f) = true
section
variable {P : Program} {w : World} {K : W.Frag} {mg : Str -> Option Value} {base : Heap}
theorem Fun.ok {x qual : Str} {st : Stmt} {f : Addr} {fd : FuncData} {N ps : List Str} {k : Nat} {sp : Sp} (F : Fun K x qual st f fd) (S : ZCd N ps (ZCU st)) (len : ∀ vs H Q E, sp vs H Q E -> vs.length = ps.length)
  (hbody : ∀ (cdv : Value) (A : Around) (outer : List Env) (s : Shared) (H : Hp) (vs : List V) (Q : VK) (E : XK), Room k (A.deeper (envOfC qual (ZCU st) s.heap.objs.size f cdv)) -> sp vs H Q E ->
   ∃ t, PSs (ZHu CX0 P w K mg base N qual (ZCU st) f cdv A outer s H E).nox (ZDH st) t /\ t { nx := fun _ H' => Q .non H', rt := Q } (start N vs) H) : ZCi P w K mg base CX0 (k + 1) f fd ps sp := by
 obtain ⟨oc, od, kV, doc, pm, an, cdv, ct, osl, rfl, lk, hcd⟩ := F.ex
 refine ZQO lk hcd S len fun A outer s H vs Q E hr hsp => ?_
 obtain ⟨t, h, q⟩ := hbody cdv A outer s H vs Q E hr hsp
 exact ⟨t, h.nox, q⟩
theorem Fun.binds {x qual : Str} {st : Stmt} {f : Addr} {fd : FuncData} {ps : List Str} (F : Fun K x qual st f fd)
  (h : ∀ (kV doc pm : Value) (an : Option Addr) (cdv ct : Value) (us : List Value), us.length = ps.length -> bindArgs (W.fnOf x qual (ZDS st) (ZDH st) (ZCU st) .none kV doc pm an cdv ct) ⟨us, []⟩ = pure (ps.zip us)) : ZCX K fd ps [] := by
 obtain ⟨oc, od, kV, doc, pm, an, cdv, ct, osl, rfl, lk, hcd⟩ := F.ex
 exact .all (h kV doc pm an cdv ct)
theorem fun_mk {x qual : Str} {st : Stmt} {f : Addr} {oc : Value} {od an : Option Addr} {osl : Array (Option Value)} {kV doc pm cdv ct : Value} (l : K.lookup f = some ⟨oc, od, .func (W.fnOf x qual (ZDS st) (ZDH st) (ZCU st) .none kV doc pm an cdv ct), osl⟩)
 (c : W.codeIn K cdv qual = true) (k : W.keepIn K (.ref f) = true) : Fun K x qual st f (W.fnOf x qual (ZDS st) (ZDH st) (ZCU st) .none kV doc pm an cdv ct) := ⟨⟨oc, od, kV, doc, pm, an, cdv, ct, osl, rfl, l, c⟩, k⟩
end
theorem ZEK {A : Around} {k : Nat} (hr : Room k A) : A.units + 1 < cLine := Uu (Nat.add_le_add_left (by decide : 1 <= 64) _) hr.units
theorem ZDp {A B : Prop} (h : B) : if false = true then A else B := by
 rw [if_neg UH]
 exact h
theorem ZEe {A B : Prop} (h : A) : if true = true then A else B := by
 rw [if_pos rfl]
 exact h
def ZCW (H H' : Hp) : Prop := ∀ b o, H b = some o -> H' b = some o
theorem ZCW.refl (H : Hp) : ZCW H H := fun _ _ h => h
theorem ZCW.trans {H H1 H2 : Hp} (a : ZCW H H1) (b : ZCW H1 H2) : ZCW H H2 := fun c o h => b c o (a c o h)
theorem ZCW.seq {K : W.Frag} {H H' : Hp} {a : Addr} {xs : List V} (e : ZCW H H') (h : SqL K H a xs) : SqL K H' a xs := by
 rcases h with (h | ⟨o, h⟩) | h
 ·exact .inl (.inl (e _ _ h))
 ·exact .inl (.inr ⟨o, e _ _ h⟩)
 ·exact .inr h
end L2
namespace L2
open PySem PySem.Spec PyProof.Rows PySem.W
def evT (c : Nat -> Nat -> Bool) {α : Type} : KasT α -> α
 | .ret a => a
 | .ask i j k => evT c (k (c i j))
theorem ZEp (c : Nat -> Nat -> Bool) {α β : Type} (f : α -> KasT β) : ∀ t : KasT α, evT c (t.bind f) = evT c (f (evT c t))
 | .ret _ => rfl
 | .ask i j k => ZEp c f (k (c i j))
abbrev gt0 (p : Array Nat) (i : Nat) : Nat := p.getD i 0
section
variable {c : Nat -> Nat -> Bool} {n : Nat}
structure Ord (c : Nat -> Nat -> Bool) (n : Nat) : Prop where
 tr : ∀ i j k, c i j = true -> c j k = true -> c i k = true
 asy : ∀ i j, c i j = true -> c j i = false
 tot : ∀ i j, i < n -> j < n -> i ≠ j -> c i j = false -> c j i = true
structure Ixs (p : Array Nat) (n : Nat) : Prop where
 size : p.size = n
 lt : ∀ i, i < n -> gt0 p i < n
 inj : ∀ i j, i < n -> j < n -> gt0 p i = gt0 p j -> i = j
theorem ZIU {p : Array Nat} {i v : Nat} (h : p[i]? = some v) : gt0 p i = v := by
 simp [gt0, h]
theorem ZET {p : Array Nat} {i : Nat} (h : i < p.size) : p[i]? = some (gt0 p i) := by
 simp [gt0, h]
theorem Ixs.of_perm {p : Array Nat} (h : p.toList.Perm (UD n)) : Ixs p n := by
 have hs : p.size = n := by have := h.length_eq; simpa using this
 refine ⟨hs, fun i hi => ?_, fun i j hi hj e => ?_⟩
 ·have hm : gt0 p i ∈ p.toList := by
   have := ZET (p := p) (i := i) (by omega)
   exact Vh.mpr (Array.mem_of_getElem? this)
  exact Vd.mp (h.mem_iff.mp hm)
 ·have hn : p.toList.Nodup := h.nodup_iff.mpr List.nodup_range
  have h1 : p.toList[i]? = some (gt0 p i) := by rw [Vb]; exact ZET (by omega)
  have h2 : p.toList[j]? = some (gt0 p i) := by rw [Vb, e]; exact ZET (by omega)
  have hi' : i < p.toList.length := by simp; omega
  have hj' : j < p.toList.length := by simp; omega
  rw [Uc hi'] at h1
  rw [Uc hj'] at h2
  have hpw := UZ.mp (UP.mp hn)
  have ee : p.toList[i] = p.toList[j] := by rw [Option.some.inj h1, Option.some.inj h2]
  rcases Vp i j with z | z | z
  ·exact absurd ee (hpw i j hi' hj' z)
  ·exact z
  ·exact absurd ee.symm (hpw j i hj' hi' z)
def Up (c : Nat -> Nat -> Bool) (p : Array Nat) (m : Nat) : Prop := ∀ a b, a < b -> b < m -> c (gt0 p a) (gt0 p b) = true
theorem ZHj (O : Ord c n) {p : Array Nat} {m : Nat} (h : ∀ i, 1 <= i -> i < m -> c (gt0 p (i - 1)) (gt0 p i) = true) : Up c p m := by
 intro a b hab hb
 obtain ⟨d, rfl⟩ := Nat.exists_eq_add_of_lt hab
 induction d with
 | zero => have := h (a + 1) (by omega) hb; simpa using this
 | succ d ih =>
  have h1 := ih (by omega) (by omega)
  have h2 := h (a + (d + 1) + 1) (by omega) hb
  have e : a + (d + 1) + 1 - 1 = a + d + 1 := by omega
  rw [e] at h2
  exact O.tr _ _ _ h1 h2
theorem ZIV (p : Array Nat) : ∀ (f a : Nat), a <= evT c (kas_asc p f a) /\ evT c (kas_asc p f a) <= a + f /\ (∀ i, a <= i -> i < evT c (kas_asc p f a) -> c (gt0 p i) (gt0 p (i - 1)) = false) /\
  (evT c (kas_asc p f a) = a + f \/ c (gt0 p (evT c (kas_asc p f a))) (gt0 p (evT c (kas_asc p f a) - 1)) = true)
 | 0, a => ⟨Ue _, Ue _, fun i h1 h2 => absurd h2 (by show ¬ i < a; omega), .inl rfl⟩
 | f + 1, a => by
  have e : evT c (kas_asc p (f + 1) a) = evT c (if c (gt0 p a) (gt0 p (a - 1)) = true then KasT.ret a else kas_asc p f (a + 1)) := rfl
  rw [e]
  cases hc : c (gt0 p a) (gt0 p (a - 1)) with
  | true =>
   rw [if_pos rfl]
   exact ⟨Ue _, Nat.le_add_right _ _, fun i h1 h2 => absurd h2 (by show ¬ i < a; omega), .inr hc⟩
  | false =>
   rw [if_neg (by decide)]
   obtain ⟨h1, h2, h3, h4⟩ := ZIV p f (a + 1)
   refine ⟨by omega, by omega, fun i g1 g2 => ?_, ?_⟩
   ·by_cases z : i = a
    ·rw [z]; exact hc
    ·exact h3 i (by omega) g2
   ·rcases h4 with h4 | h4
    ·left; omega
    ·right; exact h4
theorem ZLn (O : Ord c n) {p : Array Nat} (P : Ixs p n) : ∀ (f a : Nat), 1 <= a -> a + f <= n -> ∃ m, evT c (kas_desc f p a 0) = (p, m, 0) /\ a <= m /\ m <= a + f /\ ∀ i, a <= i -> i < m -> c (gt0 p i) (gt0 p (i - 1)) = true
 | 0, a, _, _ => ⟨a, rfl, Ue _, Ue _, fun i h1 h2 => absurd h2 (by omega)⟩
 | f + 1, a, h1, h2 => by
  have e : evT c (kas_desc (f + 1) p a 0) = evT c (if c (gt0 p a) (gt0 p (a - 1)) = true then (if 0 > 0 then kas_desc f (kas_rev p (a - (0 + 1)) a) (a + 1) 0 else kas_desc f p (a + 1) 0)
   else .ask (p.getD (a - 1) 0) (p.getD a 0) fun d => if d = true then .ret (p, a, 0) else kas_desc f p (a + 1) (0 + 1)) := rfl
  rw [e]
  cases hc : c (gt0 p a) (gt0 p (a - 1)) with
  | true =>
   rw [if_pos rfl, if_neg (by decide)]
   obtain ⟨m, g1, g2, g3, g4⟩ := ZLn O P f (a + 1) (by omega) (by omega)
   refine ⟨m, g1, by omega, by omega, fun i k1 k2 => ?_⟩
   by_cases z : i = a
   ·rw [z]; exact hc
   ·exact g4 i (by omega) k2
  | false =>
   rw [if_neg (by decide)]
   have hd : c (gt0 p (a - 1)) (gt0 p a) = true := O.tot _ _ (P.lt _ (by omega)) (P.lt _ (by omega)) (fun z => by have := P.inj _ _ (by omega) (by omega) z; omega) hc
   have e2 : evT c (KasT.ask (p.getD (a - 1) 0) (p.getD a 0) fun d => if d = true then KasT.ret (p, a, 0) else kas_desc f p (a + 1) (0 + 1)) = evT c (if c (gt0 p (a - 1)) (gt0 p a) = true then KasT.ret (p, a, 0) else kas_desc f p (a + 1) (0 + 1)) := rfl
   rw [e2, hd, if_pos rfl]
   exact ⟨a, rfl, Ue _, by omega, fun i k1 k2 => absurd k2 (by omega)⟩
theorem ZKG (p : Array Nat) (i j : Nat) : (kas_rev p i j).toList.Perm p.toList := Array.perm_iff_toList_perm.mp (mirror_perm p i j _)
theorem ZLo {p : Array Nat} {m : Nat} (hm : m <= p.size) (k : Nat) (hk : k < m) : gt0 (kas_rev p 0 m) k = gt0 p (m - 1 - k) := by
 refine ZIU ?_
 have e : (kas_rev p 0 m)[k]? = if 0 <= k /\ k < m then p[0 + m - 1 - k]? else p[k]? := getElem?_mirror_all (i := 0) hm k
 rw [e, if_pos ⟨by omega, hk⟩]
 have e2 : 0 + m - 1 - k = m - 1 - k := by omega
 rw [e2]
 exact ZET (by omega)
theorem ZLp (O : Ord c n) {p : Array Nat} (P : Ixs p n) {m f : Nat} (h1 : 1 <= m) (h : Up c p m) (hf : m + f <= n) : Up c p (evT c (kas_asc p f m)) := by
 obtain ⟨g1, g2, g3, _⟩ := ZIV (c := c) p f m
 refine ZHj O fun i hi1 hi2 => ?_
 by_cases z : i < m
 ·exact h (i - 1) i (by omega) z
 ·have := g3 i (by omega) hi2
  exact O.tot _ _ (P.lt _ (by omega)) (P.lt _ (by omega)) (fun e => by have := P.inj _ _ (by omega) (by omega) e; omega) this
theorem ZO4 (O : Ord c n) {p : Array Nat} (hp : p.toList.Perm (UD n)) (hn : 1 <= n) : (evT c (kas_count n p)).2.toList.Perm (UD n) /\ 1 <= (evT c (kas_count n p)).1 /\ (evT c (kas_count n p)).1 <= n /\ Up c (evT c (kas_count n p)).2 (evT c (kas_count n p)).1 := by
 have P := Ixs.of_perm hp
 unfold kas_count
 rw [ZEp]
 obtain ⟨g1, g2, g3, g4⟩ := ZIV (c := c) p (n - 1) 1
 have hup := ZLp O P (m := 1) (f := n - 1) (Ue _) (fun a b h1 h2 => by omega) (by omega)
 generalize hm : evT c (kas_asc p (n - 1) 1) = m at *
 by_cases h1 : (m == n) = true
 ·rw [if_pos h1]
  exact ⟨hp, g1, by show m <= n; omega, hup⟩
 ·rw [if_neg h1]
  have hmn : m < n := by
   have : m ≠ n := fun z => h1 (by simp [z])
   omega
  by_cases h2 : m > 1
  ·rw [if_pos h2]
   have hc : c (gt0 p 0) (gt0 p (m - 1)) = true := hup 0 (m - 1) (by omega) (by omega)
   have e : evT c (KasT.ask (p.getD 0 0) (p.getD (m - 1) 0) fun c => if c = true then KasT.ret (m, p) else kas_descPart m n (kas_rev p 0 m)) = evT c (if c (gt0 p 0) (gt0 p (m - 1)) = true then KasT.ret (m, p) else kas_descPart m n (kas_rev p 0 m)) := rfl
   rw [e, hc, if_pos rfl]
   exact ⟨hp, by show 1 <= m; omega, by show m <= n; omega, hup⟩
  ·rw [if_neg h2]
   have hm1 : m = 1 := by omega
   subst hm1
   have h10 : c (gt0 p 1) (gt0 p 0) = true := by
    rcases g4 with g4 | g4
    ·omega
    ·exact g4
   unfold kas_descPart
   rw [ZEp]
   obtain ⟨m, k1, k2, k3, k4⟩ := ZLn O P (n - (1 + 1)) (1 + 1) (by omega) (by omega)
   rw [k1]
   rw [if_neg (show ¬ ((p, m, 0) : Array Nat × Nat × Nat).2.2 > 0 by show ¬ 0 > 0; omega)]
   show (evT c (kas_tail3 m n p)).2.toList.Perm (UD n) /\ _
   unfold kas_tail3
   rw [ZEp]
   have hrp : (kas_rev p 0 m).toList.Perm (UD n) := (ZKG p 0 m).trans hp
   have R := Ixs.of_perm hrp
   have hupr : Up c (kas_rev p 0 m) m := by
    refine ZHj O fun i hi1 hi2 => ?_
    rw [ZLo (by rw [P.size]; omega) _ (by omega), ZLo (by rw [P.size]; omega) _ hi2]
    have e : m - 1 - (i - 1) = m - i := by omega
    have e2 : m - 1 - i = m - i - 1 := by omega
    rw [e, e2]
    by_cases z : m - i = 1
    ·rw [z]; exact h10
    ·exact k4 (m - i) (by omega) (by omega)
   have hfin := ZLp O R (m := m) (f := n - m) (by omega) hupr (by omega)
   obtain ⟨q1, q2, _, _⟩ := ZIV (c := c) (kas_rev p 0 m) (n - m) m
   exact ⟨hrp, by show 1 <= evT c _; omega, by show evT c _ <= n; omega, hfin⟩
theorem ZHw (O : Ord c n) {p : Array Nat} (P : Ixs p n) {k : Nat} (hk : k < n) (h : Up c p k) : ∀ (f l r : Nat), l <= r -> r <= k -> r - l <= f -> (∀ i, i < l -> c (gt0 p i) (gt0 p k) = true) -> (∀ i, r <= i -> i < k -> c (gt0 p k) (gt0 p i) = true) ->
  ∃ m, evT c (kas_place p k f l r) = m /\ m <= k /\ (∀ i, i < m -> c (gt0 p i) (gt0 p k) = true) /\ (∀ i, m <= i -> i < k -> c (gt0 p k) (gt0 p i) = true)
 | 0, l, r, h1, h2, h3, h4, h5 => ⟨l, rfl, by omega, h4, fun i g1 g2 => h5 i (by omega) g2⟩
 | f + 1, l, r, h1, h2, h3, h4, h5 => by
  by_cases hlr : l >= r
  ·have e : evT c (kas_place p k (f + 1) l r) = l := by
    show evT c (if l >= r then KasT.ret l else _) = l
    rw [if_pos hlr]
    rfl
   exact ⟨l, e, by omega, h4, fun i g1 g2 => h5 i (by omega) g2⟩
  ·have e : evT c (kas_place p k (f + 1) l r) = evT c (if c (gt0 p k) (gt0 p ((l + r) / 2)) = true then kas_place p k f l ((l + r) / 2) else kas_place p k f ((l + r) / 2 + 1) r) := by
    show evT c (if l >= r then KasT.ret l else _) = _
    rw [if_neg hlr]
    rfl
   rw [e]
   cases hc : c (gt0 p k) (gt0 p ((l + r) / 2)) with
   | true =>
    rw [if_pos rfl]
    refine ZHw O P hk h f l ((l + r) / 2) (by omega) (by omega) (by omega) h4 fun i g1 g2 => ?_
    by_cases z : i = (l + r) / 2
    ·rw [z]; exact hc
    ·exact O.tr _ _ _ hc (h ((l + r) / 2) i (by omega) g2)
   | false =>
    rw [if_neg (by decide)]
    have hd : c (gt0 p ((l + r) / 2)) (gt0 p k) = true := O.tot _ _ (P.lt _ hk) (P.lt _ (by omega)) (fun z => by have := P.inj _ _ hk (by omega) z; omega) hc
    refine ZHw O P hk h f ((l + r) / 2 + 1) r (by omega) h2 (by omega) (fun i g1 => ?_) h5
    by_cases z : i = (l + r) / 2
    ·rw [z]; exact hd
    ·exact O.tr _ _ _ (h i ((l + r) / 2) (by omega) (by omega)) hd
theorem ZLq {p : Array Nat} {k l : Nat} (hk : k < p.size) (hl : l <= k) (i : Nat) (hi : i < p.size) : gt0 (bubble p k (k - l)) i = if i = l then gt0 p k else if l < i /\ i <= k then gt0 p (i - 1) else gt0 p i := by
 refine ZIU ?_
 rw [getElem?_bubble hk (k - l) (by omega)]
 have e : k - (k - l) = l := by omega
 rw [e]
 by_cases h1 : i = l
 ·rw [if_pos h1, if_pos h1]; exact ZET hk
 ·rw [if_neg h1, if_neg h1]
  by_cases h2 : l < i /\ i <= k
  ·rw [if_pos h2, if_pos h2]; exact ZET (by omega)
  ·rw [if_neg h2, if_neg h2]; exact ZET hi
theorem ZNV (O : Ord c n) : ∀ (f : Nat) (p : Array Nat) (k : Nat), p.toList.Perm (UD n) -> k + f = n -> Up c p k -> (evT c (kas_bin f p k)).toList.Perm (UD n) /\ Up c (evT c (kas_bin f p k)) n
 | 0, p, k, hp, hk, h => by
  have e : k = n := by omega
  refine ⟨hp, ?_⟩
  show Up c p n
  rw [<- e]
  exact h
 | f + 1, p, k, hp, hk, h => by
  have P := Ixs.of_perm hp
  show (evT c ((kas_place p k k 0 k).bind fun l => kas_bin f (bubble p k (k - l)) (k + 1))).toList.Perm (UD n) /\ Up c (evT c ((kas_place p k k 0 k).bind fun l => kas_bin f (bubble p k (k - l)) (k + 1))) n
  rw [ZEp]
  obtain ⟨m, e, g1, g2, g3⟩ := ZHw O P (k := k) (by omega) h k 0 k (by omega) (Ue _) (by omega) (fun i hi => by omega) (fun i h1 h2 => by omega)
  rw [e]
  refine ZNV O f (bubble p k (k - m)) (k + 1) ((Array.perm_iff_toList_perm.mp (bubble_perm p k _)).trans hp) (by omega) fun a b hab hb => ?_
  rw [ZLq (by rw [P.size]; omega) g1 a (by rw [P.size]; omega), ZLq (by rw [P.size]; omega) g1 b (by rw [P.size]; omega)]
  by_cases ha : a = m
  ·rw [if_pos ha, if_neg (by omega), if_pos ⟨by omega, by omega⟩]
   exact g3 (b - 1) (by omega) (by omega)
  ·rw [if_neg ha]
   by_cases hb2 : b = m
   ·rw [if_pos hb2, if_neg (by omega)]
    exact g2 a (by omega)
   ·rw [if_neg hb2]
    by_cases ha3 : m < a /\ a <= k
    ·rw [if_pos ha3, if_pos ⟨by omega, by omega⟩]
     exact h (a - 1) (b - 1) (by omega) (by omega)
    ·rw [if_neg ha3]
     by_cases hb3 : m < b /\ b <= k
     ·rw [if_pos hb3]
      by_cases z : a = b - 1
      ·omega
      ·exact h a (b - 1) (by omega) (by omega)
     ·rw [if_neg hb3]
      exact h a b hab (by omega)
theorem ZQ4 (O : Ord c n) (hn : 1 <= n) : (evT c (kas_sort n)).toList.Perm (UD n) /\ Up c (evT c (kas_sort n)) n := by
 unfold kas_sort
 rw [ZEp]
 obtain ⟨h1, h2, h3, h4⟩ := ZO4 O (p := List.toArray (UD n)) (List.Perm.refl _) hn
 generalize evT c (kas_count n (List.toArray (UD n))) = r at *
 by_cases h : r.1 < n
 ·rw [if_pos h]
  have e : max r.1 1 = r.1 := by omega
  rw [e]
  exact ZNV O (n - r.1) r.2 r.1 h1 (by omega) h4
 ·rw [if_neg h]
  refine ⟨h1, ?_⟩
  have e : r.1 = n := by omega
  rw [e] at h4
  exact h4
end
section
variable {X : Cx}
theorem ZCz : OpR X (binaryOp .Mult) (rI IntMulOk fun i j => .int (i * j)) := opI fun _ _ _ _ _ _ _ hc q => mul_int q hc
def ZHW (_ j : Int) : Prop := 0 < j /\ j.natAbs.log2 < 9000
theorem ZGH : OpR X (binaryOp .FloorDiv) (rI ZHW fun i j => .int (i / j)) := opI fun i j _ _ _ _ _ hc q => by
 have h1 : (0 : Int) < j := hc.1
 exact floordiv_int (by omega) (by rw [Int.fdiv_eq_ediv_of_nonneg i (by omega)]; exact q) (.inl (PyProof.noPylong_of_log2 hc.2))
theorem ZHW.of {i j : Int} (h : 0 < j) {k : Nat} (h2 : j < 2 ^ k) (hk : k <= 9000) : ZHW i j := by
 refine ⟨h, ?_⟩
 have h3 : j.natAbs < 2 ^ k := by
  have e : ((j.natAbs : Nat) : Int) = j := by omega
  have e2 : ((2 ^ k : Nat) : Int) = (2 : Int) ^ k := by simp
  have : ((j.natAbs : Nat) : Int) < ((2 ^ k : Nat) : Int) := by rw [e, e2]; exact h2
  exact Int.ofNat_lt.mp this
 have h4 : j.natAbs.log2 < k := (Nat.log2_lt (by omega)).mpr h3
 omega
theorem ZUU {i j : Int} (h1 : -(2 ^ 64) < i) (h2 : i < 2 ^ 64) : IntMulOk i j := .of_left (intBits_le_64 h1 h2)
theorem ZUV {i j : Int} (h1 : -(2 ^ 64) < j) (h2 : j < 2 ^ 64) : IntMulOk i j := .of_right (intBits_le_64 h1 h2)
theorem ZIW : ∀ {bs : List Bool} {us : List Value}, ZCh (bs.map V.bl) us -> ∀ (i : Nat) (v : Value), us[i]? = some v -> ∃ b, bs[i]? = some b /\ v = .bool b
 | [], _, .nil, i, v, h => by simp at h
 | b :: bs, _, .cons r t, 0, v, h => by
  simp at h; subst h
  exact ⟨b, rfl, r⟩
 | b :: bs, _, .cons r t, i + 1, v, h => by
  simpa using ZIW t i v (by simpa using h)
theorem ZO5 (hc : X.calm = true) : ZC8 X (.builtin "all") (fun xs H Q => ∃ (p : Addr) (bs : List Bool), xs = [.ref p] /\ SqL X.K H p (bs.map V.bl) /\ Q (.bl (bs.all id)) H) := by
 intro pins s U H xs us Q I r h
 obtain ⟨p, bs, rfl, hq, q⟩ := h
 cases r with
 | cons r1 r2 =>
 cases r2
 cases r1
 obtain ⟨its, rv, pl, hz⟩ := I.list hq
 have hl : s.heap.IsList p its.toArray := pl.isList
 have hlt : p < s.heap.objs.size := by obtain ⟨_, e, _⟩ := hl; exact Uh e
 refine call_all_walk (wpAny_pyIter_list hl ?_)
 refine ⟨s.heap.objs.size, [s.heap.objs.size, p], [s.heap.objs.size], its.toArray.size, _, _, fun i => (bs[i]?).getD true, rfl, Walks.list (A := X.A.in1) (I.ok.hd hc) _ p (Uo hlt) its.toArray,
  ⟨⟨_, Uf _ rfl, rfl, rfl⟩, hl.push _⟩, fun i v s' Q' E' hP hQ => ?_, fun h' tk hk => ?_⟩
 ·obtain ⟨b, e, rfl⟩ := ZIW rv i v (by simpa using hP)
  simp only [e, Option.getD_some] at hQ
  exact wpAny_truthy_bool hQ
 ·have e : ((UD its.toArray.size).all fun i => (bs[i]?).getD true) = bs.all id := by
   have hl2 := rv.length
   rw [Ui] at hl2
   rw [Uq, <- hl2]; exact PyProof.Rows.LSm.range_all bs
  rw [e]
  refine ⟨.bl _, H, I.kept fun b x e => hk b x (fun hm => by rw [Ud.mp hm] at e; exact Vi _ (Uh e)) (Ub _ e), rfl, q⟩
def ZO6 (K : W.Frag) : List V -> Hp -> VK -> Prop := fun xs H Q => ∃ x n t b, xs = [x, .ty n] /\ ZEd K H x t /\ W.kitOne K t (.type n) = some b /\ Q (.bl b) H
theorem ZO7 : ZC8 X (.builtin "isinstance") (ZO6 X.K) := by
 intro pins s U H xs us Q I r h
 obtain ⟨x, n, t, b, rfl, ty, e, q⟩ := h
 obtain ⟨u, v, rfl, ru, rv⟩ := r.two
 obtain rfl : v = Value.type n := rv
 exact ZNP I ru ty e fun tk => ⟨.bl b, H, I.tok _, rfl, q⟩
end
theorem ZJh {l : List (Str × Addr)} {x : Str} {c : Addr} (h : (x, c) ∈ l) : ∃ d, l.lookup x = some d := by
 induction l with
 | nil => cases h
 | cons p r ih =>
  obtain ⟨y, d⟩ := p
  cases hx : x == y with
  | true => exact ⟨d, by simp [Um, hx]⟩
  | false =>
   have hr : (x, c) ∈ r := by
    rcases Ul.mp h with e | e
    ·cases e
     simp at hx
    ·exact e
   obtain ⟨d', e⟩ := ih hr
   exact ⟨d', by simp only [Um, hx]; exact e⟩
theorem ZFO {env : Env} : ∀ (names : List (Str × NameKind)) (acc : List (Str × Addr)), (∀ y ∈ names, y.2 = NameKind.free -> ∃ c, env.cells.lookup y.1 = some c) -> (∀ p ∈ acc, env.cells.lookup p.1 = some p.2) ->
  ∃ cl : List (Str × Addr), (forIn names acc fun (x : Str × NameKind) (r : List (Str × Addr)) => (match x with | (name, kind) => if (kind == NameKind.free) = true then (do let a <- cellOf env name; pure (ForInStep.yield ((name, a) :: r))) else pure (ForInStep.yield r) : Sem (ForInStep (List (Str × Addr))))) = pure cl
   /\ (∀ p ∈ cl, env.cells.lookup p.1 = some p.2) /\ (∀ p ∈ acc, p ∈ cl) /\ ∀ y ∈ names, y.2 = NameKind.free -> ∃ c, (y.1, c) ∈ cl
 | [], acc, _, ha => ⟨acc, by simp, ha, fun _ h => h, fun y h => by cases h⟩
 | (n, k) :: r, acc, h, ha => by
  by_cases hk : k = NameKind.free
  ·subst hk
   obtain ⟨c, hc⟩ := h (n, .free) Ux rfl
   obtain ⟨cl, e, h1, h2, h3⟩ := ZFO r ((n, c) :: acc) (fun y hy => h y (Us _ hy)) (fun p hp => by
    rcases Ul.mp hp with rfl | hp
    ·exact hc
    ·exact ha p hp)
   refine ⟨cl, ?_, h1, fun p hp => h2 p (Us _ hp), fun y hy hf => ?_⟩
   ·rw [List.forIn_cons]
    simp only [beq_self_eq_true, if_true, cellOf, hc, pure_bind]
    exact e
   ·rcases Ul.mp hy with rfl | hy
    ·exact ⟨c, h2 _ Ux⟩
    ·exact h3 y hy hf
  ·obtain ⟨cl, e, h1, h2, h3⟩ := ZFO r acc (fun y hy => h y (Us _ hy)) ha
   have hb : (k == NameKind.free) = false := by simpa using hk
   refine ⟨cl, ?_, h1, h2, fun y hy hf => ?_⟩
   ·rw [List.forIn_cons]
    simp only [hb, Uv, if_false, pure_bind]
    exact e
   ·rcases Ul.mp hy with rfl | hy
    ·exact absurd hf hk
    ·exact h3 y hy hf
theorem ZIX {scope : Scope} {env : Env} (h : ∀ y ∈ scope.names, y.2 = NameKind.free -> ∃ c, env.cells.lookup y.1 = some c) :
  ∃ cl, closureFor scope env = pure cl /\ (∀ x c, cl.lookup x = some c -> env.cells.lookup x = some c) /\ ∀ y ∈ scope.names, y.2 = .free -> ∃ c, cl.lookup y.1 = some c := by
 obtain ⟨cl, e, h1, _, h3⟩ := ZFO scope.names [] h (fun p hp => by cases hp)
 refine ⟨cl, ?_, fun x c hx => h1 (x, c) (PySem.mem_of_lookup hx), fun y hy hf => ?_⟩
 ·simp only [closureFor]
  rw [e]
  rfl
 ·obtain ⟨c, hc⟩ := h3 y hy hf
  exact ZJh hc
theorem ZEq {env : Env} : ∀ (names : List (Str × NameKind)) (x : Str),
  (names.map fun (n, k) => if (k == NameKind.free && env.scope.kind == .function && env.kindOf n == some .cell) then (n, NameKind.cell) else (n, k)).lookup x =
   (names.lookup x).map fun k => if (k == NameKind.free && env.scope.kind == .function && env.kindOf x == some .cell) then NameKind.cell else k
 | [], _ => rfl
 | (n, k) :: r, x => by
  have ih := ZEq (env := env) r x
  show Vg x ((if (k == NameKind.free && env.scope.kind == .function && env.kindOf n == some .cell) = true then (n, NameKind.cell) else (n, k)) :: _) = _
  cases hx : x == n with
  | true =>
   have e : x = n := eq_of_beq hx
   subst e
   by_cases hc : (k == NameKind.free && env.scope.kind == .function && env.kindOf x == some .cell) = true
   ·rw [if_pos hc]
    simp only [Um, beq_self_eq_true, Ve]
    rw [if_pos hc]
   ·rw [if_neg hc]
    simp only [Um, beq_self_eq_true, Ve]
    rw [if_neg hc]
  | false =>
   by_cases hc : (k == NameKind.free && env.scope.kind == .function && env.kindOf n == some .cell) = true
   ·rw [if_pos hc]; simp only [Um, hx]; exact ih
   ·rw [if_neg hc]; simp only [Um, hx]; exact ih
structure ZGr (N : List Str) (sc : Scope) (own caps : List Str) (ks : List Nat) (scope : Scope) : Prop where
 kind : scope.kind = .function
 nocell : ∀ y ∈ scope.names, y.2 ≠ .cell
 names : ∀ y ∈ scope.names, y.2 = .local -> scope.names.lookup y.1 = some .local
 free : ∀ y ∈ scope.names, y.2 = .free -> sc.names.lookup y.1 = some .cell
 nd : (own ++ caps).Nodup
 cap : ks.map (fun k => N[k]?) = caps.map some
 fr : ∀ x ∈ caps, scope.names.lookup x = some .free
def ZCk (X : Cx) (N' : List Str) (scope : Scope) (cl : List (Str × Addr)) (C : Addr) (s₂ : Shared) (H₂ : Hp) (fp : List Addr) : Cx :=
 { X with N := N', s₀ := s₂, H₀ := H₂, env := compEnvC scope cl C X.env, outer := X.stack, stack := X.stack, ex := fp, fn := fun _ => false, pn := [], xe := fun _ _ => False }
def ZEL (own : Nat) (ks : List Nat) (U : St) : St := List.replicate own none ++ ks.map fun k => (U[k]?).join
section
variable {prog : Program} {w : World} {A : Around} {R : Result -> Shared -> Prop} {s : Shared}
theorem ZEf {elt target iter : Expr} {ifs : List Expr} {scope : Scope} {pos : Pos} {it acc : Value} {env : Env} (I : Nat -> Shared -> Prop)
  (turn : ∀ n s, I n s -> wpAny (model prog w) A (pyNext it) (fun r s₁ => match r with
   | none => R (.ok .next) s₁
   | some v => wpAny (model prog w) A (letOwnedTupleGo target it v) (fun _ s₁' => wpAny (model prog w) A (assign target env v) (fun _ s₂ =>
    wpAny (model prog w) A (forIn ifs true fun c r => if r = true then do let ok <- isTrue c env (eval c env); pure (ForInStep.yield ok) else pure (ForInStep.yield r)) (fun ok s₃ =>
     if ok = true then wpAny (model prog w) A (eval elt env) (fun x s₄ =>
      wpAny (model prog w) A (call (.builtin "list.append") [acc, x]) (fun _ s₅ => ∃ m, m < n /\ I m s₅) (notedBy (model prog w) A env fun e s' => R (.error e) s') s₄) (notedBy (model prog w) A env fun e s' => R (.error e) s') s₃
     else ∃ m, m < n /\ I m s₃) (notedBy (model prog w) A env fun e s' => R (.error e) s') s₂) (notedBy (model prog w) A env fun e s' => R (.error e) s') s₁') (notedBy (model prog w) A env fun e s' => R (.error e) s') s₁) (notedBy (model prog w) A env fun e s' => R (.error e) s') s)
  (n : Nat) (h : I n s) :
  codeAny (model prog w) A (.compLoop (.ListComp elt [⟨target, iter, ifs, 0⟩] scope pos) 0 it acc env) R s := by
 refine codeAny_loop rfl I (fun n s hI => ?_) n h
 show wpAny _ A ((compTurn (.ListComp elt [⟨target, iter, ifs, 0⟩] scope pos) 0 it acc env).onRaise (fun x => do noteFrame x env; theTreesLotGoes x)) _ _ s
 refine wpAny_noted ?_
 rw [compTurn_list]
 refine Ua (wpAny_standAt (Ua (UB (turn n s hI) (fun r s₁ h₁ => ?_) fun _ _ h' => h')))
 cases r with
 | none => exact Ug h₁
 | some v =>
  refine Ua (UB h₁ (fun _ s₁' h₁' => ?_) fun _ _ h' => h')
  refine Ua (UB h₁' (fun _ s₂ h₂ => Ua (UB h₂ (fun ok s₃ h₃ => ?_) fun _ _ h' => h')) fun _ _ h' => h')
  cases ok with
  | false => exact Ug ⟨rfl, h₃⟩
  | true =>
   exact Ua (Ua (UB h₃ (fun x s₄ h₄ => Ua (UB h₄ (fun _ s₅ h₅ => Ug (Ug ⟨rfl, h₅⟩)) fun _ _ h' => h')) fun _ _ h' => h'))
end
def ZIm (X : Cx) (ifs : List Expr) (t : TT) : Prop :=
 ∀ (pins : List (Addr × Obj)) (s : Shared) (U : St) (H : Hp) (Q : Bool -> Hp -> Prop), Inv X pins U H s -> t U H Q ->
  wpAny (model X.prog X.w) X.A (forIn ifs true fun c r => if r = true then do let ok <- isTrue c X.env (eval c X.env); pure (ForInStep.yield ok) else pure (ForInStep.yield r)) (TP X pins U Q) X.xe s
def ZMS : TT := fun _ H Q => Q true H
section
variable {X : Cx}
theorem ZO8 : ZIm X [] ZMS := fun _ _ _ H _ I h => wpAny_tests_nil ⟨H, I, h⟩
theorem ZO9 {c : Expr} {t : TT} (hc : PT X c t) : ZIm X [c] t := fun pins s U H Q I h => wpAny_tests_one (hc pins s U H Q I h)
def ZHX (own : Nat) (ks : List Nat) (wi : TI) (g : TG) (tt : TT) (te : TE) : TE := fun U H Q => wi U H fun J H1 => ∀ l, H1 l = none ->
 ∃ W : Nat -> Nat -> St -> Hp -> Prop, (∃ m, W 0 m (ZEL own ks U) (upd H1 l (.lst []))) /\ ∀ i m U' H', W i m U' H' ->
  (J.stop i H' /\ Q (.ref l) H') \/ (J.go i H' /\ ∃ N : St -> Hp -> Prop, (∀ U2 H2, N U2 H2 -> ∃ m', m' < m /\ W (i + 1) m' U2 H2) /\
   ∀ x H'', J.yld i H' x H'' -> g x U' H'' fun U2 H2 => tt U2 H2 fun b H3 =>
    if b = true then te U2 H3 fun v H4 => ∃ xs, H4 l = some (.lst xs) /\ xs.length < sizeLine /\ N U2 (upd H4 l (.lst (xs ++ [v]))) else N U2 H3)
theorem ZJG {α : Type} {o : Option (Option α)} {v : α} (h : o.join = some v) : o = some (some v) := by
 cases o with
 | none => cases h
 | some x => exact congrArg some h
theorem ZQ5 {N : List Str} {sc : Scope} {own caps : List Str} {ks : List Nat} {elt tg iter : Expr} {ifs : List Expr} {scope : Scope} {pos : Pos} {wi : TI} {g : TG} {tt : TT} {te : TE}
  (hN : X.N = N) (hsc : X.env.scope = sc) (hc : X.calm = true) (S : ZGr N sc own caps ks scope) (hi : PI X tg iter wi)
  (hg : ∀ cl C s₂ H₂ fp, PG (ZCk X (own ++ caps) scope cl C s₂ H₂ fp) tg g)
  (ht : ∀ cl C s₂ H₂ fp, ZIm (ZCk X (own ++ caps) scope cl C s₂ H₂ fp) ifs tt)
  (he : ∀ cl C s₂ H₂ fp, PE (ZCk X (own ++ caps) scope cl C s₂ H₂ fp) elt te)
  (hs : ∀ x, foldedSetIterable iter X.env x = pure x := by intro _; rfl) :
  PE X (.ListComp elt [⟨tg, iter, ifs, 0⟩] scope pos) (ZHX own.length ks wi g tt te) := by
 intro pins s U H Q I h
 subst hN hsc
 rw [eval_ListComp]
 obtain ⟨cl, hclos, hcl, hclf⟩ := ZIX (scope := scope) (env := X.env) fun y hy hf => I.ok.has y.1 (.inl (S.free y hy hf))
 refine wpAny_comprehension_free (use := none) rfl hs hclos S.kind S.names (UB (hi pins s U H _ I h) (fun xv s₁ h₁ => UB h₁ (fun it s₂ h₂ => ?_) fun _ _ e => e) fun _ _ e => e)
 obtain ⟨it, fp, tn, J, H2, e, I2, T, st2, f2, q⟩ := h₂
 subst e
 refine wpAny_newObj_type (wpAny_newFunctionEnv S.nocell (by intro y hy; simp at hy) (fun h₁ hns₁ hsb₁ => ?_) S.kind)
 dsimp only at hns₁ hsb₁ ⊢
 generalize hH2 : s₂.heap.push { cls := .type "list", dict := none, data := .seq ([] : List Value).toArray } = HP at hns₁ hsb₁ ⊢
 have hC : HP.objs.size = s₂.heap.objs.size + 1 := by rw [<- hH2, UW]
 have hDC : s₂.heap.objs.size ≠ HP.objs.size := by rw [hC]; exact Uo (UM _)
 have hCle : s₂.heap.objs.size <= HP.objs.size := by rw [hC]; exact Nat.le_succ _
 have old : ∀ b o, s₂.heap.get? b = some o -> h₁.get? b = some o := fun b o e => by
  have hb : b < s₂.heap.objs.size := Uh e
  exact hsb₁.extBut b o (by rw [hC]; exact Uo (Vj hb)) (Ub _ (hH2 ▸ Ub _ e))
 have hacc : h₁.get? s₂.heap.objs.size = some { cls := .type "list", dict := none, data := .seq ([] : List Value).toArray } := hsb₁.extBut _ _ hDC (Ub _ (hH2 ▸ Uf _ rfl))
 have fpl : ∀ b ∈ fp, b < s₂.heap.objs.size := fun b hb => by
  obtain ⟨o, e, _⟩ := T.obj _ _ st2 b hb
  exact Uh e
 have hfD : H2 s₂.heap.objs.size = none := I2.hok.fresh (Ue _)
 obtain ⟨W, ⟨m0, w0⟩, turn⟩ := q s₂.heap.objs.size hfD
 have hkr : ∀ x, (compEnvC scope cl HP.objs.size X.env).kindOf x = (scope.names.lookup x).map fun k => if (k == NameKind.free && X.env.scope.kind == .function && X.env.kindOf x == some .cell) then NameKind.cell else k := fun x => ZEq (env := X.env) scope.names x
 have cellOfN : ∀ x, scope.names.lookup x = some .free -> X.env.kindOf x = some .cell := fun x e => S.free (x, .free) (PySem.mem_of_lookup e) rfl
 -- the context within
 have ok : (ZCk X (own ++ caps) scope cl HP.objs.size s₂ H2 fp).Ok := by
  refine ⟨I2.ok.mod, S.kind, I2.ok.glob, I2.ok.blt, hCle, fun x y c e1 e2 => I2.ok.inj x y c (hcl x c e1) (hcl y c e2), fun x hx => ?_, fun x c z => (by cases z), I2.ok.hd, I2.ok.frames, .inl rfl, fun b hb => ⟨?_, fun x c e => (f2 b hb).2.2.2.2.1 x c (hcl x c e)⟩,
   I2.bs, UG I2.ok.bsz I2.sz, fun b o e hb => ?_, fun b hb z => ?_, I2.stack, I2.stkFree⟩
  ·have hx' : (scope.names.lookup x).map (fun k => if (k == NameKind.free && X.env.scope.kind == .function && X.env.kindOf x == some .cell) then NameKind.cell else k) = some .cell \/
     (scope.names.lookup x).map (fun k => if (k == NameKind.free && X.env.scope.kind == .function && X.env.kindOf x == some .cell) then NameKind.cell else k) = some .free := by rw [<- hkr x]; exact hx
   cases e : scope.names.lookup x with
   | none => rw [e] at hx'; rcases hx' with z | z <;> cases z
   | some k =>
    have hm := PySem.mem_of_lookup e
    have hk : k = .free := by
     by_cases hkf : k = .free
     ·exact hkf
     ·have hb : (k == NameKind.free) = false := by simpa using hkf
      rw [e] at hx'
      simp only [Ve, hb, Bool.false_and, Uv, if_false, Option.some.injEq] at hx'
      rcases hx' with z | z
      ·exact absurd z (S.nocell _ hm)
      ·exact z
    exact hclf _ hm hk
  ·exact Uo (Uk (fpl b hb) hCle)
  ·rcases (f2 b hb).2.2.2.1 with z | z
   ·exact I2.ok.noex b o e z
   ·exact absurd (Uk (Uh e) (UG I2.ok.bsz z)) (Vi _)
  ·rcases Ul.mp (I2.stkSub b z) with r | r
   ·exact (f2 b hb).2.1 r
   ·exact (f2 b hb).2.2.1 r
 have hlen : (ZEL own.length ks U).length = (own ++ caps).length := by
  have := congrArg List.length S.cap
  simp only [Ui] at this
  simp [ZEL, this]
 have I4 : Inv (ZCk X (own ++ caps) scope cl HP.objs.size s₂ H2 fp) [] (ZEL own.length ks U) (upd H2 s₂.heap.objs.size (.lst [])) { s₂ with heap := h₁, toks := s₂.toks + ([] : List (Str × Value)).length } := by
  obtain ⟨mX, hnX, hlX⟩ := I2.loc
  refine ⟨ok, rfl, I2.bare, Un.laid old (Ue _) hfD, ⟨_, hns₁, fun i x v e1 e2 e3 => ?_⟩, fun x c e => ?_, ?_, fun x c e => ?_, fun p hp => (by cases hp), I2.hok.laid old (Ue _) ⟨UE _, [], 0, .nil, hacc⟩, hlen⟩
  ·have e1 : (own ++ caps)[i]? = some x := e1
   by_cases hio : i < own.length
   ·unfold ZEL at e2
    rw [List.getElem?_append_left (by simpa using hio), List.getElem?_replicate] at e2
    rw [if_pos hio] at e2
    cases e2
   ·unfold ZEL at e2
    rw [Vl (by simpa using hio), List.length_replicate, Ut] at e2
    rw [Vl (by simpa using hio)] at e1
    cases ek : ks[i - own.length]? with
    | none => rw [ek] at e2; cases e2
    | some k =>
     rw [ek] at e2
     have e2' := ZJG (Option.some.inj e2)
     have hcap := congrArg (fun l => l[i - own.length]?) S.cap
     simp only [Ut, ek, e1, Ve] at hcap
     have hNk : X.N[k]? = some x := Option.some.inj hcap
     have hfx := S.fr x (UC e1)
     have hkX := cellOfN x hfx
     obtain ⟨u, ru, lk⟩ := hlX k x v hNk e2' (.inr (.inl hkX))
     refine ⟨u, ru, .inr ⟨.inl ?_, ?_⟩⟩
     ·show (compEnvC scope cl HP.objs.size X.env).kindOf x = some .cell
      rw [hkr x, hfx]
      simp [I2.ok.kind, hkX]
     ·rcases lk with ⟨z, _⟩ | ⟨_, c, ec, o, ho, hd⟩
      ·rw [hkX] at z; cases z
      ·obtain ⟨c', ec'⟩ := hclf (x, .free) (PySem.mem_of_lookup hfx) rfl
       have := hcl _ _ ec'
       rw [ec] at this
       cases this
       exact ⟨c, ec', o, old _ _ ho, hd⟩
  ·obtain ⟨v, o, ho, hd⟩ := I2.cell x c (hcl x c e)
   exact ⟨v, o, old _ _ ho, hd⟩
  ·show upd H2 s₂.heap.objs.size (.lst []) HP.objs.size = none
   rw [ZCe (Ne.symm hDC)]
   exact I2.hok.fresh hCle
  ·obtain ⟨v, o, ho, hd⟩ := I2.cell x c (hcl x c e)
   show upd H2 s₂.heap.objs.size (.lst []) c = none
   rw [ZCe (Uo (Uh ho))]
   exact I2.freeC x c (hcl x c e)
 -- the way out
 have out : ∀ {U' : St} {H' : Hp} {s' : Shared}, Inv (ZCk X (own ++ caps) scope cl HP.objs.size s₂ H2 fp) [] U' H' s' -> Q (.ref s₂.heap.objs.size) H' ->
   ∃ m, s'.heap.Ns HP.objs.size m /\ ∀ h', Heap.SameBut HP.objs.size s'.heap h' -> EP X pins U Q (.ref s₂.heap.objs.size) { s' with heap := h' } := fun {U' H' s'} I' q' => by
  obtain ⟨m, hn, _⟩ := I'.loc
  refine ⟨m, hn, fun h' hs' => ⟨.ref s₂.heap.objs.size, H', ?_, rfl, q'⟩⟩
  have hfree : H' HP.objs.size = none := I'.free
  have neC : ∀ {b : Addr} {o : Obj}, s₂.heap.get? b = some o -> b ≠ HP.objs.size := fun e => Uo (Uk (Uh e) hCle)
  refine I2.call' (ch := fp) (s' := { s' with heap := h' }) I'.os ⟨fun b o e n hb hx => ?_, fun b o e n hb hx => ?_, I'.base.free, fun b o e hx => ?_, I'.base.tups, I'.base.frzs, I'.base.tbls⟩ (fun b ob e => ?_) I'.bare fun b hb => ⟨(f2 b hb).2.2.2.1, (f2 b hb).2.1, (f2 b hb).2.2.2.2.1, (f2 b hb).2.2.2.2.2⟩
  ·exact (hs'.2 b (neC e)).trans (I'.base.keep b o e n hb hx)
  ·obtain ⟨sl, e1⟩ := I'.base.slot b o e n hb hx
   exact ⟨sl, (hs'.2 b (neC e)).trans e1⟩
  ·obtain ⟨o', e1⟩ := I'.base.there b o e hx
   exact ⟨o', (hs'.2 b (neC e)).trans e1⟩
  ·refine (I'.hok b ob e).stay (fun c w' hc q => (hs'.2 c ?_).trans q) (fun _ q => q) fun _ _ q => q
   rintro rfl
   rcases hc with rfl | hc
   ·rw [hfree] at e; cases e
   ·rw [hfree] at hc; cases hc
 have stat : ∀ {H' : Hp}, (∀ b ∈ fp, H' b = none) -> ∀ b ∈ fp, ZDo (ZCk X (own ++ caps) scope cl HP.objs.size s₂ H2 fp) [] H' b := fun hn b hb =>
  ⟨hn b hb, Uo (Uk (fpl b hb) hCle), ok.exfs b hb, .inl hb, (ok.exf b hb).2, fun p hp => by cases hp⟩
 have fr4 : ∀ b ∈ fp, upd H2 s₂.heap.objs.size (.lst []) b = none := fun b hb => by
  rw [ZCe (Uo (fpl b hb))]
  exact (f2 b hb).1
 have tn4 : tn 0 h₁ := T.keep _ _ _ st2 fun b _ o e => old b o e
 have loop : ∀ s4 : Shared, s4 = { s₂ with heap := h₁, toks := s₂.toks + ([] : List (Str × Value)).length } ->
   codeAny (model X.prog X.w) X.A (.compLoop (.ListComp elt [⟨tg, iter, ifs, 0⟩] scope pos) 0 (.ref it) (.ref s₂.heap.objs.size) (compEnvC scope cl HP.objs.size X.env))
    (compPost (model X.prog X.w) X.A X.xe none (EP X pins U Q) (.ref s₂.heap.objs.size) HP.objs.size) s4 := by
  rintro s4 rfl
  refine ZEf (fun n s' => ∃ i U' H', Inv (ZCk X (own ++ caps) scope cl HP.objs.size s₂ H2 fp) [] U' H' s' /\ tn i s'.heap /\ (∀ b ∈ fp, H' b = none) /\ W i n U' H') ?_ m0 ⟨0, _, _, I4, tn4, fr4, w0⟩
  rintro n s3 ⟨i, U3, H3, I3, st3, fr3, w3⟩
  rcases turn i n U3 H3 w3 with ⟨stop, qn⟩ | ⟨go, N, hN, step⟩
  ·refine UB (T.done (ZCk X (own ++ caps) scope cl HP.objs.size s₂ H2 fp) rfl rfl rfl hc i [] s3 U3 H3 (fun _ _ => False) I3 (stat fr3) st3 stop) (fun r s4 ⟨hr, I4'⟩ => ?_) fun _ _ z => False.elim z
   subst hr
   exact out I4' qn
  ·refine UB (T.item (ZCk X (own ++ caps) scope cl HP.objs.size s₂ H2 fp) rfl rfl rfl hc i [] s3 U3 H3 (fun _ _ => False) I3 (stat fr3) st3 go) (fun r s4 ⟨u, hr, h4⟩ => ?_) fun _ _ z => False.elim z
   subst hr
   refine UB h4 (fun _ s5 ⟨x, H5, I5, r5, y5, st5, fr5⟩ => ?_) fun _ _ z => False.elim z
   have I5' := I5.pinned (stat fr5) (T.obj _ _ st5)
   have back : ∀ {s7 : Shared} {U7 : St} {H7 : Hp}, Inv (ZCk X (own ++ caps) scope cl HP.objs.size s₂ H2 fp) ([] ++ ZF3 fp s5.heap) U7 H7 s7 -> N U7 H7 ->
     ∃ m, m < n /\ ∃ i U' H', Inv (ZCk X (own ++ caps) scope cl HP.objs.size s₂ H2 fp) [] U' H' s7 /\ tn i s7.heap /\ (∀ b ∈ fp, H' b = none) /\ W i m U' H' := fun {s7 U7 H7} I7 n7 => by
    obtain ⟨m', hm, w7⟩ := hN U7 H7 n7
    refine ⟨m', hm, i + 1, U7, H7, I7.unpinned, T.keep _ _ _ st5 fun b hb o e => (I7.pin (b, o) (Ur _ (Ur _ (ZEA hb e)))).1, fun b hb => ?_, w7⟩
    obtain ⟨o, e, d⟩ := T.obj _ _ st5 b hb
    exact (I7.pin (b, o) (Ur _ (Ur _ (ZEA hb e)))).2.1
   refine UB (hg _ _ _ _ _ _ s5 U3 H5 x u _ I5' r5 (step x H5 y5)) (fun _ s6 ⟨U6, H6, I6, q6⟩ => ?_) fun _ _ z => False.elim z
   refine UB (ht _ _ _ _ _ _ s6 U6 H6 _ I6 q6) (fun b s7 ⟨H7, I7, q7⟩ => ?_) fun _ _ z => False.elim z
   cases b with
   | false =>
    rw [if_neg UH]
    rw [if_neg UH] at q7
    exact back I7 q7
   | true =>
    rw [if_pos rfl]
    rw [if_pos rfl] at q7
    refine UB (he _ _ _ _ _ _ s7 U6 H7 _ I7 q7) (fun y s8 ⟨v, H8, I8, r8, xs, hx8, hz8, n8⟩ => ?_) fun _ _ z => False.elim z
    refine UB (ZE0 (X := ZCk X (own ++ caps) scope cl HP.objs.size s₂ H2 fp) _ s8 U6 H8 (.ref s₂.heap.objs.size) [v] (.ref s₂.heap.objs.size) [y] (fun _ H' => N U6 H') I8 rfl (.cons r8 .nil) ⟨_, xs, v, rfl, rfl, hx8, hz8, n8⟩) (fun _ s9 ⟨_, H9, I9, _, n9⟩ => ?_) fun _ _ z => False.elim z
    exact back I9 n9
 exact codeAny_compStart_list (loop _ rfl) (T.self _ 0 _ _ _ tn4 (loop _ rfl))
end
theorem ZSr : bootBuiltins "int" = some (.type "int") := by decide +kernel
theorem ZQ6 : bootBuiltins "bool" = some (.type "bool") := by decide +kernel
theorem ZSs : bootBuiltins "str" = some (.type "str") := by decide +kernel
theorem ZHx : bootBuiltins "tuple" = some (.type "tuple") := by decide +kernel
theorem ZEg : bootBuiltins "len" = some (.builtin "len") := by decide +kernel
theorem ZSt : bootBuiltins "abs" = some (.builtin "abs") := by decide +kernel
theorem ZNW : bootBuiltins "max" = some (.builtin "max") := by decide +kernel
theorem ZNX : bootBuiltins "min" = some (.builtin "min") := by decide +kernel
theorem ZSu : bootBuiltins "all" = some (.builtin "all") := by decide +kernel
theorem ZGs : bootBuiltins "sorted" = some (.builtin "sorted") := by decide +kernel
theorem ZE8 : bootBuiltins "isinstance" = some (.builtin "isinstance") := by decide +kernel
def ZEG : Expr -> Bool
 | .Starred _ _ => true
 | _ => false
def ZDI (es : List Expr) : Bool := es.all fun e => !ZEG e
theorem ZEU {e : Expr} {es : List Expr} {env : Env} (h : ZEG e = false) : starEach (e :: es) env = (false, eval e env) :: starEach es env := by
 cases e <;> first | rfl | cases h
theorem ZEr {e : Expr} {es : List Expr} {env : Env} (h : ZDI (e :: es) = true) : starEach (e :: es) env = (false, eval e env) :: starEach es env := by
 refine ZEU ?_
 unfold ZDI at h
 rw [List.all_cons, Bool.and_eq_true] at h
 simpa using h.1
theorem ZEP {pos : Pos} {env : Env} : ∀ {es : List Expr}, ZDI es = true -> (backTo pos (starEach es env)).any (·.1) = false
 | [], _ => rfl
 | e :: es, h => by
  rw [ZEr h]
  have h2 : ZDI es = true := by
   unfold ZDI at h ⊢
   rw [List.all_cons, Bool.and_eq_true] at h
   exact h.2
  exact ZEP h2
theorem ZEV {e : Expr} {es : List Expr} (h : ZDI (e :: es) = true) : ZDI es = true := by
 unfold ZDI at h ⊢
 rw [List.all_cons, Bool.and_eq_true] at h
 exact h.2
section
variable {X : Cx} {CX : CXT} {k : Nat} {f : Addr} {fd : FuncData} {ps : List Str} {sp : Sp} {dvs : List V} {ds : List Value} {E : XK} {x : Str} {p pos : Pos} {e : Expr} {es : List Expr} {te : TE} {t : TA} {id T : String} {r : List V -> Hp -> VK -> Prop}
theorem ZUW (ha : PE X e te) (hr : PA X es t) (hs : ZEG e = false := by rfl) : PA X (e :: es) (ZJw te t) := ZQz ha hr (ZEU hs)
theorem ZPA (F : ZCi X.prog X.w X.K X.mg X.base CX k f fd ps sp) (hr : Room k X.A) (hg : Gl X x) (hm : X.mg x = some (.ref f)) (hk : W.keepIn X.K (.ref f) = true) (hb : ZCX X.K fd ps ds) (hd : ZCh dvs ds) (hx : ZD0 CX X E)
  (ha : PA X (e :: es) t) (hns : ZDI (e :: es) = true := by rfl) (hdb : (x == ("__debug__" : Str)) = false := by decide) : PE X (.Call (.Name x p) (e :: es) [] pos) (ZIR sp dvs E t) :=
 ZQ0 F hr hg hm hk hb hd hx ha hdb (ZEr hns) (ZEP (ZEV hns))
theorem ZNY (hc : ZC8 X (.builtin id) r) (hg : Gl X x) (hm : X.mg x = none) (hv : bootBuiltins x = some (.builtin id)) (ha : PA X (e :: es) t) (hns : ZDI (e :: es) = true := by rfl) (hn : x ≠ "__name__" := by decide) (hdb : (x == ("__debug__" : Str)) = false := by decide) :
 PE X (.Call (.Name x p) (e :: es) [] pos) (tCB r t) := ZOz hc hg hm hv ha hn hdb (ZEr hns) (ZEP (ZEV hns))
theorem ZMT (hc : ZC8 X (.type T) r) (hg : Gl X x) (hm : X.mg x = none) (hv : bootBuiltins x = some (.type T)) (ha : PA X (e :: es) t) (hns : ZDI (e :: es) = true := by rfl) (hn : x ≠ "__name__" := by decide) (hdb : (x == ("__debug__" : Str)) = false := by decide) :
 PE X (.Call (.Name x p) (e :: es) [] pos) (tCB r t) := ZNS hc hg hm hv ha hn hdb (ZEr hns) (ZEP (ZEV hns))
end
def ZEB : Expr -> Bool
 | .ListComp _ _ _ _ => true
 | .SetComp _ _ _ _ => true
 | .DictComp _ _ _ _ _ => true
 | _ => false
theorem ZFP {e : Expr} {tg : Option Expr} {n : Nat} {env : Env} (h : ZEB e = false) : swapsWith e tg n env = pure false := by
 cases e <;> first | rfl | cases h
section
variable {X : Cx} {e : Expr} {te : TE} {pos : Pos}
theorem ZPB (he : PE X e te) (hs : ZEB e = false := by rfl) : PS X (.Expr e pos) (ZJu te) := ZQk he (ZFP hs)
theorem ZQ7 {i : Nat} {x : Str} {pos' : Pos} (hN : X.N.Nodup) (hi : X.N[i]? = some x) (hx : Loc X.env.scope x) (he : PE X e te) (hs : ZEB e = false := by rfl) (hf : X.fn x = true \/ X.env.scope.names.lookup x = some .local := by first | exact .inl rfl | exact .inr rfl | assumption) :
 PS X (.Assign [.Name x pos'] e pos) (ZGG te (ZEc i)) := ZSa hN hi hx he (ZFP hs) hf
end
def ZMU (K : W.Frag) : List V -> Hp -> VK -> Prop := fun xs H Q => ∃ p ys, xs = [.ref p] /\ (SqL K H p ys \/ SqT K H p ys) /\ Q (.int ys.length) H
def ZSv : List V -> Hp -> VK -> Prop := fun xs H Q => ∃ i, xs = [.int i] /\ Q (.int (if i < 0 then -i else i)) H
def ZSw : List V -> Hp -> VK -> Prop := fun xs H Q => ∃ i j, xs = [.int i, .int j] /\ Q (.int (if j > i then j else i)) H
def ZSx : List V -> Hp -> VK -> Prop := fun xs H Q => ∃ i j, xs = [.int i, .int j] /\ Q (.int (if j < i then j else i)) H
def ZPC (K : W.Frag) : List V -> Hp -> VK -> Prop := fun xs H Q => ∃ (p : Addr) (bs : List Bool), xs = [.ref p] /\ SqL K H p (bs.map V.bl) /\ Q (.bl (bs.all id)) H
def ZKH (K : W.Frag) : List V -> Hp -> VK -> Prop := fun xs H Q => ∃ p ys, xs = [.ref p] /\ ((SqL K H p ys /\ ∀ l, H l = none -> Q (.ref l) (upd H l (.tup ys))) \/ (SqT K H p ys /\ Q (.ref p) H))
def ZSy : R2 := fun x y H Q => y = .non /\ Q (.bl (decide (x = .non))) H
def ZQP : R2 := fun x y H Q => y = .non /\ Q (.bl (!decide (x = .non))) H
section
variable {X : Cx}
theorem ZSz : ZC8 X (.builtin "len") (ZMU X.K) := ZKE
theorem ZS0 : ZC8 X (.builtin "abs") ZSv := ZOr
theorem ZS1 (hc : X.calm = true) : ZC8 X (.builtin "max") ZSw := ZNK hc
theorem ZS2 (hc : X.calm = true) : ZC8 X (.builtin "min") ZSx := ZNL hc
theorem ZS3 (hc : X.calm = true) : ZC8 X (.builtin "all") (ZPC X.K) := ZO5 hc
theorem ZPD : ZC8 X (.type "tuple") (ZKH X.K) := ZJg
theorem ZKI : OpR X (compareOp .Is) ZSy := ZSf
theorem ZLr : OpR X (compareOp .IsNot) ZQP := ZQt
end
section
variable {K : W.Frag} {U : St} {H : Hp} {Q : VK} {D : ZDT}
theorem ZS4 {t u : TS} (h : t { D with nx := u D } U H) : ZOY t u D U H := h
theorem ZS5 {te : TE} (h : te U H D.rt) : ZOa te D U H := h
theorem ZQ8 {te : TE} (h : te U H fun _ H1 => D.nx U H1) : ZJu te D U H := h
theorem ZQ9 (h : D.nx U H) : ZME D U H := h
theorem ZS6 {te : TE} {g : TG} (h : te U H fun x H1 => g x U H1 D.nx) : ZGG te g D U H := h
theorem ZPE {i : Nat} {v : V} {R : St -> Hp -> Prop} (h : R (U.set i (some v)) H) : ZEc i v U H R := h
theorem ZRA {R : St -> Hp -> Prop} (h : R U H) : ZOd [] U H R := ⟨rfl, h⟩
theorem ZPF {t : TG} {u : TGs} {v : V} {r : List V} {R : St -> Hp -> Prop} (h : t v U H fun U' H' => u r U' H' R) : ZMF t u (v :: r) U H R := ⟨v, r, rfl, h⟩
theorem ZRB {to ti : TE} {t : ZJ7} {v : V} {R : St -> Hp -> Prop} (h : to U H fun o H1 => ti U H1 fun i H2 => t o i v H2 fun H3 => R U H3) : ZOf to ti t v U H R := h
theorem ZS7 {c : TT} {t u : TS} (h : c U H fun b H1 => if b = true then t D U H1 else u D U H1) : ZJ6 c t u D U H := h
theorem ZRC {t : TE} {R : Bool -> Hp -> Prop} (h : t U H fun x H' => ∃ k, x = .bl k /\ R k H') : ZIN t U H R := h
theorem ZUX {t : TE} {R : Bool -> Hp -> Prop} (h : t U H fun x H' => ∃ k, x = .bl k /\ R k H') : tB t U H R := h
theorem ZHy {b : Bool} {R : Bool -> Prop} (h : R b) : ∃ k, V.bl b = .bl k /\ R k := ⟨b, rfl, h⟩
theorem ZS8 {t u : TT} {R : Bool -> Hp -> Prop} (h : t U H fun c H1 => if c = true then u U H1 R else R false H1) : ZOV t u U H R := h
theorem ZUC {t u : TT} {R : Bool -> Hp -> Prop} (h : t U H fun c H1 => if c = true then R true H1 else u U H1 R) : tOr t u U H R := h
theorem ZS9 {t : TT} {R : Bool -> Hp -> Prop} (h : t U H fun c H1 => R (!c) H1) : ZOW t U H R := h
theorem ZRD {t u : TE} (h : t U H fun x H1 => ∃ c, x = .bl c /\ if c = true then u U H1 Q else Q (.bl false) H1) : ZMC t u U H Q := h
theorem ZRE {t : TE} (h : t U H fun x H1 => ∃ c, x = .bl c /\ Q (.bl (!c)) H1) : ZMD t U H Q := h
theorem ZUD {t : TT} {ta tb : TE} (h : t U H fun c H1 => if c = true then ta U H1 Q else tb U H1 Q) : tIf t ta tb U H Q := h
theorem ZTA {i : Nat} {v : V} (e : U[i]? = some (some v)) (h : Q v H) : ZOU i U H Q := ⟨v, e, h⟩
theorem ZKJ {i j : Int} (h1 : 0 <= j) (h2 : j <= 1000000) (h3 : i.natAbs < 2 ^ 64) : ZOn i j := ⟨h1, h2, h3⟩
theorem ZUY {v : V} (h : Q v H) : tC v U H Q := h
theorem ZUE {r : R2} {ta tb : TE} (h : ta U H fun x H1 => tb U H1 fun y H2 => r x y H2 Q) : tOp r ta tb U H Q := h
theorem ZUF {r : V -> Hp -> VK -> Prop} {ta : TE} (h : ta U H fun x H1 => r x H1 Q) : tUn r ta U H Q := h
theorem ZUG {g : Int -> Int -> V} {i j : Int} (h : Q (g i j) H) : rI0 g (.int i) (.int j) H Q := ⟨i, j, rfl, rfl, h⟩
theorem ZTB {C : Int -> Int -> Prop} {g : Int -> Int -> V} {i j : Int} (c : C i j) (h : Q (g i j) H) : rI C g (.int i) (.int j) H Q := ⟨i, j, rfl, rfl, c, h⟩
theorem ZUZ {g : Int -> V} {i : Int} (h : Q (g i) H) : rU g (.int i) H Q := ⟨i, rfl, h⟩
theorem ZTC {i j : Int} (h : Q (.bl (decide (V.int i = V.int j))) H) : rEq (.int i) (.int j) H Q := ⟨rfl, h⟩
theorem ZUH {r : List V -> Hp -> VK -> Prop} {t : TA} (h : t U H fun vs H1 => r vs H1 Q) : tCB r t U H Q := h
theorem ZRF {sp : Sp} {dvs : List V} {E : XK} {t : TA} (h : t U H fun vs H1 => sp (vs ++ dvs) H1 Q E) : ZIR sp dvs E t U H Q := h
theorem ZRG {ta : TE} {tr : TA} {R : List V -> Hp -> Prop} (h : ta U H fun x H1 => tr U H1 fun xs H2 => R (x :: xs) H2) : ZJw ta tr U H R := h
theorem ZTD {R : List V -> Hp -> Prop} (h : R [] H) : ZKB U H R := h
def ZPG (n : Nat) (o : HO) (H : Hp) (Q : VK) : Prop := n <= sizeLine /\ ∀ p, H p = none -> Q (.ref p) (upd H p o)
theorem ZTE {t : TA} (h : t U H fun xs H1 => ZPG xs.length (.tup xs) H1 Q) : ZOw t U H Q := h
theorem ZTF {t : TA} (h : t U H fun xs H1 => ZPG xs.length (.lst xs) H1 Q) : ZOx t U H Q := h
theorem ZCm {n : Nat} {o : HO} (hz : n <= sizeLine) (h : ∀ p H2, H p = none -> H2 p = some o -> ZCW H H2 -> Q (.ref p) H2) : ZPG n o H Q :=
 ⟨hz, fun p hp => h p _ hp ZCZ (fun b u e => by rw [ZCe (ZDB e hp)]; exact e)⟩
theorem ZPH {r r' : R2} {ta tb tc : TE} (h : ta U H fun x H1 => tb U H1 fun y H2 => r x y H2 fun z H3 => ∃ k, z = .bl k /\ (if k = true then tc U H3 fun w' H4 => r' y w' H4 Q else Q (.bl false) H3)) : ZGo r r' ta tb tc U H Q := h
theorem ZE1 {p : Addr} {xs : List V} {i : Int} {v : V} (h1 : SqL K H p xs) (h2 : atI xs i = some v) (h : Q v H) : ZMP K (.ref p) (.int i) H Q := ⟨p, xs, i, v, rfl, rfl, h1, h2, h⟩
theorem ZKK {p : Addr} {xs : List V} {i : Int} {v : V} (h1 : SqT K H p xs) (h2 : atI xs i = some v) (h : Q v H) : ZO0 K (.ref p) (.int i) H Q := ⟨p, xs, i, v, rfl, rfl, h1, h2, h⟩
theorem ZLs {p : Addr} {xs : List V} {k : Int} {j : Nat} {v : V} {R : Hp -> Prop} (h1 : H p = some (.lst xs)) (h2 : ixN xs.length k = some j)
  (h : ∀ H2, H2 p = some (.lst (xs.set j v)) -> (∀ q o, H q = some o -> q ≠ p -> H2 q = some o) -> R H2) : ZMR (.ref p) (.int k) v H R :=
 ⟨p, xs, k, j, rfl, rfl, h1, h2, h _ ZCZ fun q o e n => by rw [ZCe n]; exact e⟩
theorem ZRH {p : Addr} {xs : List V} {k : Int} {j : Nat} {v : V} {R : Hp -> Prop} (h1 : H p = some (.lst xs)) (h2 : ixN xs.length k = some j) (h : R (upd H p (.lst (xs.set j v)))) : ZMR (.ref p) (.int k) v H R := ⟨p, xs, k, j, rfl, rfl, h1, h2, h⟩
def rFor (J : It) (g : TG) (tb : TS) (D : ZDT) (U : St) (H : Hp) : Prop := ∃ W : Nat -> Nat -> St -> Hp -> Prop, (∃ m, W 0 m U H) /\ ∀ i m U H, W i m U H ->
 (J.stop i H /\ D.nx U H) \/ (J.go i H /\ ∃ N : St -> Hp -> Prop, (∀ U' H', N U' H' -> ∃ m', m' < m /\ W (i + 1) m' U' H') /\ ∀ x H', J.yld i H x H' -> g x U H' fun U2 H2 => tb { D with nx := N, ct := N, bk := D.nx } U2 H2)
theorem ZTG {wi : TI} {g : TG} {tb : TS} (h : wi U H fun J H1 => rFor J g tb D U H1) : ZOj wi g tb D U H := h
def ZQQ (vs : List V) (H : Hp) (R : It -> Hp -> Prop) : Prop := ∃ j : Int, vs = [.int j] /\ -(2 ^ 62) <= j /\ j < 2 ^ 62 /\ R (Itr 0 j.toNat) H
theorem ZRI {ta : TA} {R : It -> Hp -> Prop} (h : ta U H fun vs H1 => ZQQ vs H1 R) : ZMJ ta U H R := h
theorem ZF5 {j : Int} {R : It -> Hp -> Prop} (h1 : -(2 ^ 62) <= j) (h2 : j < 2 ^ 62) (h : R (Itr 0 j.toNat) H) : ZQQ [.int j] H R := ⟨j, rfl, h1, h2, h⟩
theorem ZTH {i : Int} (h : Q (.int (if i < 0 then -i else i)) H) : ZSv [.int i] H Q := ⟨i, rfl, h⟩
theorem ZTI {i j : Int} (h : Q (.int (if j > i then j else i)) H) : ZSw [.int i, .int j] H Q := ⟨i, j, rfl, h⟩
theorem ZTJ {i j : Int} (h : Q (.int (if j < i then j else i)) H) : ZSx [.int i, .int j] H Q := ⟨i, j, rfl, h⟩
theorem ZRJ {p : Addr} {ys : List V} (h1 : SqL K H p ys) (h : Q (.int ys.length) H) : ZMU K [.ref p] H Q := ⟨p, ys, rfl, .inl h1, h⟩
theorem ZRK {p : Addr} {ys : List V} (h1 : SqT K H p ys) (h : Q (.int ys.length) H) : ZMU K [.ref p] H Q := ⟨p, ys, rfl, .inr h1, h⟩
theorem ZTK {p : Addr} {bs : List Bool} (h1 : SqL K H p (bs.map V.bl)) (h : Q (.bl (bs.all id)) H) : ZPC K [.ref p] H Q := ⟨p, bs, rfl, h1, h⟩
theorem ZE2 {x : V} {n : String} {t : Value} {b : Bool} (ty : ZEd K H x t) (e : W.kitOne K t (.type n) = some b) (h : Q (.bl b) H) : ZO6 K [x, .ty n] H Q := ⟨x, n, t, b, rfl, ty, e, h⟩
theorem ZTL {x : V} (h : Q (.bl (decide (x = .non))) H) : ZSy x .non H Q := ⟨rfl, h⟩
theorem ZRL {x : V} (h : Q (.bl (!decide (x = .non))) H) : ZQP x .non H Q := ⟨rfl, h⟩
theorem ZRM {n : Nat} {t : TGs} {p : Addr} {xs : List V} {R : St -> Hp -> Prop} (h1 : SqT K H p xs) (h2 : xs.length = n) (h : t xs U H R) : ZMG K n t (.ref p) U H R := ⟨p, xs, rfl, h1, h2, h⟩
theorem ZIn {p : Addr} {ys : List V} (h1 : SqL K H p ys) (h : ∀ l H2, H l = none -> H2 l = some (.tup ys) -> ZCW H H2 -> Q (.ref l) H2) :
  ZKH K [.ref p] H Q :=
 ⟨p, ys, rfl, .inl ⟨h1, fun l hl => h l _ hl ZCZ (fun b u e => by rw [ZCe (ZDB e hl)]; exact e)⟩⟩
theorem ZTM {p q : Addr} {xs zs : List V} (h1 : H p = some (.lst xs)) (h2 : H q = some (.lst zs)) (hz : xs.length + zs.length <= sizeLine) (h : ∀ l H2, H l = none -> H2 l = some (.lst (xs ++ zs)) -> ZCW H H2 -> Q (.ref l) H2) : ZSp (.ref p) (.ref q) H Q :=
 ⟨p, q, xs, zs, rfl, rfl, h1, h2, hz, fun l hl => h l _ hl ZCZ (fun b u e => by rw [ZCe (ZDB e hl)]; exact e)⟩
theorem ZDe {c A B : Prop} [Decidable c] (h1 : c -> A) (h2 : ¬ c -> B) : if decide c = true then A else B := by
 by_cases h : c
 ·rw [decide_eq_true h]; exact ZEe (h1 h)
 ·rw [decide_eq_false h]; exact ZDp (h2 h)
theorem ZJx {c A B : Prop} [Decidable c] (h1 : ¬ c -> A) (h2 : c -> B) : if (!decide c) = true then A else B := by
 by_cases h : c
 ·rw [decide_eq_true h]; exact ZDp (h2 h)
 ·rw [decide_eq_false h]; exact ZEe (h1 h)
theorem ZMV {i j : Int} : decide (V.int i = V.int j) = decide (i = j) := by
 by_cases h : i = j
 ·subst h; simp
 ·rw [decide_eq_false h, decide_eq_false (fun z => h (V.int.inj z))]
theorem ZF6 {lo : Int} {n : Nat} {g : TG} {tb : TS} (Pv : Nat -> St -> Hp -> Prop) (h0 : Pv 0 U H)
 (hs : ∀ i U H, i < n -> Pv i U H -> g (.int (lo + i)) U H fun U2 H2 => tb { D with nx := Pv (i + 1), ct := Pv (i + 1), bk := D.nx } U2 H2) (hd : ∀ U H, Pv n U H -> D.nx U H) :
 rFor (Itr lo n) g tb D U H := ZNJ Pv h0 hs hd
theorem ZLt {a : Addr} {xs : List V} {g : TG} {tb : TS} (Pv : Nat -> St -> Hp -> Prop) (h0 : Pv 0 U H) (hl : ∀ i U H, i <= xs.length -> Pv i U H -> SqL K H a xs)
 (hs : ∀ i x U H, xs[i]? = some x -> Pv i U H -> g x U H fun U2 H2 => tb { D with nx := Pv (i + 1), ct := Pv (i + 1), bk := D.nx } U2 H2) (hd : ∀ U H, Pv xs.length U H -> D.nx U H) :
 rFor (Itl K a) g tb D U H := ZOk Pv h0 hl hs hd
theorem ZHY {a : Addr} {xs : List V} {g : TG} {tb : TS} (Pv : Nat -> St -> Hp -> Prop) (h0 : Pv 0 U H) (hl : ∀ i U H, i <= xs.length -> Pv i U H -> SqT K H a xs)
 (hs : ∀ i x U H, xs[i]? = some x -> Pv i U H -> g x U H fun U2 H2 => tb { D with nx := Pv (i + 1), ct := Pv (i + 1), bk := D.nx } U2 H2) (hd : ∀ U H, Pv xs.length U H -> D.nx U H) :
 rFor (Itt K a) g tb D U H := ZQo Pv h0 hl hs hd
def ZQR (J : It) (g : TG) (tt : TT) (te : TE) (l : Addr) (U0 : St) (H : Hp) (Q : VK) : Prop :=
 ∃ W : Nat -> Nat -> St -> Hp -> Prop, (∃ m, W 0 m U0 (upd H l (.lst []))) /\ ∀ i m U' H', W i m U' H' ->
  (J.stop i H' /\ Q (.ref l) H') \/ (J.go i H' /\ ∃ N : St -> Hp -> Prop, (∀ U2 H2, N U2 H2 -> ∃ m', m' < m /\ W (i + 1) m' U2 H2) /\
   ∀ x H'', J.yld i H' x H'' -> g x U' H'' fun U2 H2 => tt U2 H2 fun b H3 =>
    if b = true then te U2 H3 fun v H4 => ∃ xs, H4 l = some (.lst xs) /\ xs.length < sizeLine /\ N U2 (upd H4 l (.lst (xs ++ [v]))) else N U2 H3)
theorem ZFJ {J : It} {g : TG} {tt : TT} {te : TE} {U0 : St} {l : Addr} (n : Nat) (Pv : Nat -> St -> Hp -> Prop) (h0 : Pv 0 U0 (upd H l (.lst [])))
  (stop : ∀ U H, Pv n U H -> J.stop n H /\ Q (.ref l) H)
  (go : ∀ i U H, i < n -> Pv i U H -> J.go i H /\ ∀ x H', J.yld i H x H' -> g x U H' fun U2 H2 => tt U2 H2 fun b H3 =>
   if b = true then te U2 H3 fun v H4 => ∃ xs, H4 l = some (.lst xs) /\ xs.length < sizeLine /\ Pv (i + 1) U2 (upd H4 l (.lst (xs ++ [v]))) else Pv (i + 1) U2 H3) :
  ZQR J g tt te l U0 H Q := by
 refine ⟨fun i m U H => m = n - i /\ i <= n /\ Pv i U H, ⟨n, by simp, UE _, h0⟩, ?_⟩
 rintro i m U H ⟨rfl, hi, p⟩
 by_cases hlt : i < n
 ·obtain ⟨hgo, h⟩ := go i U H hlt p
  exact .inr ⟨hgo, Pv (i + 1), fun U' H' p' => ⟨n - (i + 1), by omega, rfl, hlt, p'⟩, h⟩
 ·have e : i = n := by omega
  subst e
  exact .inl (stop U H p)
theorem ZRN {own : Nat} {ks : List Nat} {wi : TI} {g : TG} {tt : TT} {te : TE} (h : wi U H fun J H1 => ∀ l, H1 l = none -> ZQR J g tt te l (ZEL own ks U) H1 Q) : ZHX own ks wi g tt te U H Q := h
def ZTN (K : W.Frag) (x : V) (H : Hp) (R : It -> Hp -> Prop) : Prop := ∃ a, x = .ref a /\ (∃ xs, SqT K H a xs) /\ R (Itt K a) H
def ZTO (K : W.Frag) (x : V) (H : Hp) (R : It -> Hp -> Prop) : Prop := ∃ a, x = .ref a /\ (∃ xs, SqL K H a xs) /\ R (Itl K a) H
theorem ZRO {tl : TE} {R : It -> Hp -> Prop} (h : tl U H fun x H1 => ZTN K x H1 R) : ZMI K tl U H R := h
theorem ZPI {tl : TE} {R : It -> Hp -> Prop} (h : tl U H fun x H1 => ZTO K x H1 R) : ZJv K tl U H R := h
theorem ZTP {p : Addr} {xs : List V} {R : It -> Hp -> Prop} (h1 : SqT K H p xs) (h : R (Itt K p) H) : ZTN K (.ref p) H R := ⟨p, rfl, ⟨xs, h1⟩, h⟩
theorem ZTQ {p : Addr} {xs : List V} {R : It -> Hp -> Prop} (h1 : SqL K H p xs) (h : R (Itl K p) H) : ZTO K (.ref p) H R := ⟨p, rfl, ⟨xs, h1⟩, h⟩
theorem ZRP {R : Bool -> Hp -> Prop} (h : R true H) : ZMS U H R := h
end
theorem ZCW.seqT {K : W.Frag} {H H' : Hp} {a : Addr} {xs : List V} (e : ZCW H H') (h : SqT K H a xs) : SqT K H' a xs := by
 rcases h with (h | ⟨o, h⟩) | h
 ·exact .inl (.inl (e _ _ h))
 ·exact .inl (.inr ⟨o, e _ _ h⟩)
 ·exact .inr h
def Kp (p : Addr) (H H' : Hp) : Prop := ∀ q o, H q = some o -> q ≠ p -> H' q = some o
theorem Kp.trans {p : Addr} {H H1 H2 : Hp} (a : Kp p H H1) (b : Kp p H1 H2) : Kp p H H2 := fun q o h n => b q o (a q o h n) n
theorem Kp.upd {p : Addr} {H : Hp} {o : HO} : Kp p H (upd H p o) := fun q u h n => by rw [ZCe n]; exact h
theorem Kp.same {p : Addr} {H H' : Hp} (a : ZCW H H') : Kp p H H' := fun q o h _ => a q o h
theorem ZCW.new {H : Hp} {l : Addr} {o : HO} (h : H l = none) : ZCW H (upd H l o) := fun b u e => by rw [ZCe (ZDB e h)]; exact e
theorem Kp.then {H H1 H2 : Hp} {p : Addr} (h : Kp p H H1) (s : ZCW H1 H2) : Kp p H H2 := h.trans (Kp.same s)
structure QE (X : Cx) (e : Expr) (t : TE) : Prop where
 h : PE X e t
structure QT (X : Cx) (e : Expr) (t : TT) : Prop where
 h : PT X e t
structure QW (X : Cx) (e : Expr) (t : TT) : Prop where
 h : PW X e t
structure QA (X : Cx) (es : List Expr) (t : TA) : Prop where
 h : PA X es t
structure QS (X : Cx) (st : Stmt) (t : TS) : Prop where
 h : PS X st t
structure QB (X : Cx) (st : List Stmt) (t : TS) : Prop where
 h : PSs X st t
structure QG (X : Cx) (e : Expr) (t : TG) : Prop where
 h : PG X e t
structure QGs (X : Cx) (es : List Expr) (t : TGs) : Prop where
 h : PGs X es t
structure QI (X : Cx) (tg e : Expr) (t : TI) : Prop where
 h : PI X tg e t
structure QF (X : Cx) (es : List Expr) (t : TT) : Prop where
 h : ZIm X es t
def ZJy : Expr -> Bool
 | .Slice _ _ _ _ => true
 | _ => false
theorem ZRQ {b : Expr} (h : ZJy b = false) : ZLl b := by
 intro o i
 cases b <;> first | rfl | cases h
def ZKL : Expr -> Bool
 | .UnaryOp _ _ _ => false
 | .BoolOp _ _ _ => false
 | .IfExp _ _ _ _ => false
 | .Compare _ _ _ _ => false
 | _ => true
theorem ZTR {e : Expr} {env : Env} (h : ZKL e = true) : ∀ whole, isTrue e env whole = (do let v <- whole; standAt e.pos; holding [v] (truthy v)) := by
 intro whole
 cases e <;> first | rfl | cases h
section
variable {X : Cx} {a b c e o : Expr} {es ZDQ : List Expr} {ta tb tc te to ti : TE} {tA tB' : TT} {t tr : TA} {pos p p2 pos' : Pos} {x : Str}
theorem qv (i : Nat) {x : Str} {pos : Pos} (hN : X.N[i]? = some x := by rfl) (hv : Vis X.env.scope x := by first | exact Or.inl rfl | exact Or.inr (Or.inl rfl) | exact Or.inr (Or.inr rfl)) (hd : (x == ("__debug__" : Str)) = false := by decide)
 (hcd : (x == ("__classdict__" : Str)) = false := by decide) : QE X (.Name x pos) (ZOU i) := ⟨ZSL hN hv hd hcd⟩
theorem ZCT {i j pos} : QE X (.Constant (.int i) j pos) (tC (.int i)) := ⟨ZSM⟩
theorem ZMW {b j pos} : QE X (.Constant (.bool b) j pos) (tC (.bl b)) := ⟨ZT4⟩
theorem ZE3 {j pos} : QE X (.Constant .none j pos) (tC .non) := ⟨ZSN⟩
theorem ZFQ {x j pos} : QE X (.Constant (.str x) j pos) (tC (.str x)) := ⟨ZSO⟩
theorem ZFK {v : V} {u : Value} (hg : Gl X x) (hm : X.mg x = some u) (r : ZCb v u) (hd : (x == ("__debug__" : Str)) = false := by decide) : QE X (.Name x pos) (tC v) := ⟨ZQf hg hm r hd⟩
theorem ZIo {v : V} {u : Value} (hg : Gl X x) (hm : X.mg x = none) (hv : bootBuiltins x = some u) (r : ZCb v u) (hn : x ≠ "__name__" := by decide) (hd : (x == ("__debug__" : Str)) = false := by decide) : QE X (.Name x pos) (tC v) := ⟨ZQg hg hm hv r hn hd⟩
theorem ZCa {op : Operator} {r : R2} (ho : OpR X (binaryOp op) r) (ha : QE X a ta) (hb : QE X b tb) : QE X (.BinOp a op b pos) (tOp r ta tb) := ⟨ZT7 ho ha.h hb.h⟩
theorem ZJz {op : UnaryOp} {r : V -> Hp -> VK -> Prop} (ho : UnR X (unaryOp op) r) (ha : QE X a ta) : QE X (.UnaryOp op a pos) (tUn r ta) := ⟨ZT8 ho ha.h⟩
theorem ZTS (ha : QE X a ta) : QE X (.UnaryOp .Not a pos) (ZMD ta) := ⟨ZSV ha.h⟩
theorem ZIY {op} (h : QE X a ta) : QE X (.BoolOp op [a] pos) ta := ⟨ZST h.h⟩
theorem ZGt (ha : QE X a ta) (hb : QE X (.BoolOp .And (b :: ZDQ) pos) tb) : QE X (.BoolOp .And (a :: b :: ZDQ) pos) (ZMC ta tb) := ⟨ZSU ha.h hb.h⟩
theorem ZHz (hc : QT X c tA) (ha : QE X a ta) (hb : QE X b tb) : QE X (.IfExp c a b pos) (tIf tA ta tb) := ⟨ZOX hc.h ha.h hb.h⟩
theorem ZIp {op : CmpOp} {r : R2} (ho : OpR X (compareOp op) r) (ha : QE X a ta) (hb : QE X b tb) (hm : behindInMarks op b = false) : QE X (.Compare a [op] [b] pos) (tOp r ta tb) := ⟨ZQu ho ha.h hb.h hm⟩
theorem ZDD {op : CmpOp} {r : R2} (ho : OpR X (compareOp op) r) (ha : QE X a ta) (hb : QE X b tb) (hm : behindInMarks op b = false) : QT X (.Compare a [op] [b] pos) (ZIN (tOp r ta tb)) := ⟨ZQv ho ha.h hb.h hm⟩
theorem ZKM {op op' : CmpOp} {r r' : R2} (ho : OpR X (compareOp op) r) (ho' : OpR X (compareOp op') r') (ha : QE X a ta) (hb : QE X b tb) (hc : QE X c tc)
 (hm : lastMarks [op, op'] [b, c] = false := by with_unfolding_all rfl) : QE X (.Compare a [op, op'] [b, c] pos) (ZGo r r' ta tb tc) := ⟨ZOp ho ho' ha.h hb.h hc.h hm⟩
theorem ZKN {op op' : CmpOp} {r r' : R2} (ho : OpR X (compareOp op) r) (ho' : OpR X (compareOp op') r') (ha : QE X a ta) (hb : QE X b tb) (hc : QE X c tc)
 (hm : lastMarks [op, op'] [b, c] = false := by with_unfolding_all rfl) : QT X (.Compare a [op, op'] [b, c] pos) (ZIN (ZGo r r' ta tb tc)) := ⟨ZOq ho ho' ha.h hb.h hc.h hm⟩
theorem ZFR (h : QE X e te) (he : ZKL e = true := by rfl) : QT X e (tB te) := ⟨ZSP h.h (ZTR he)⟩
theorem QW.pt (h : QW X e tA) : QT X e tA := ⟨h.h.pt⟩
theorem ZRR (ha : QT X a tA) : QW X (.BoolOp .And [a] pos) tA := ⟨ZQh ha.h⟩
theorem ZKO (ha : QT X a tA) : QW X (.BoolOp .Or [a] pos) tA := ⟨ZSQ ha.h⟩
theorem ZTT (ha : QT X a tA) (hb : QW X (.BoolOp .And (b :: ZDQ) pos) tB') : QW X (.BoolOp .And (a :: b :: ZDQ) pos) (ZOV tA tB') := ⟨ZSR ha.h hb.h⟩
theorem ZMX (ha : QT X a tA) (hb : QW X (.BoolOp .Or (b :: ZDQ) pos) tB') : QW X (.BoolOp .Or (a :: b :: ZDQ) pos) (tOr tA tB') := ⟨ZT5 ha.h hb.h⟩
theorem ZE4 (ha : QT X a tA) : QT X (.UnaryOp .Not a pos) (ZOW tA) := ⟨ZSS ha.h⟩
theorem ZCR : QA X [] ZKB := ⟨ZSk⟩
theorem ZCQ (ha : QE X e te) (hr : QA X es t) (hs : ZEG e = false := by rfl) : QA X (e :: es) (ZJw te t) := ⟨ZUW ha.h hr.h hs⟩
theorem ZDk {x1} (h : QA X es t) : QE X (.Tuple es x1 pos) (ZOw t) := ⟨ZSl h.h⟩
theorem ZDm (h : QA X es t) : QE X (.List es pos) (ZOx t) := ⟨ZSm h.h⟩
theorem ZCp {r : R2} (hr : IxR X r) (ha : QE X a ta) (hb : QE X b tb) (hs : ZJy b = false := by rfl) : QE X (.Subscript a b pos) (tOp r ta tb) := ⟨ZUA hr ha.h hb.h (ZRQ hs)⟩
theorem ZPJ {CX : CXT} {k : Nat} {f : Addr} {fd : FuncData} {ps : List Str} {sp : Sp} {dvs : List V} {ds : List Value} {E : XK} (F : ZCi X.prog X.w X.K X.mg X.base CX k f fd ps sp) (hr : Room k X.A) (hg : Gl X x) (hm : X.mg x = some (.ref f)) (hk : W.keepIn X.K (.ref f) = true) (hb : ZCX X.K fd ps ds) (hd : ZCh dvs ds) (hx : ZD0 CX X E)
 (ha : QA X (e :: es) t) (hns : ZDI (e :: es) = true := by rfl) (hdb : (x == ("__debug__" : Str)) = false := by decide) : QE X (.Call (.Name x p) (e :: es) [] pos) (ZIR sp dvs E t) := ⟨ZPA F hr hg hm hk hb hd hx ha.h hns hdb⟩
theorem ZCy {id : String} {r : List V -> Hp -> VK -> Prop} (hc : ZC8 X (.builtin id) r) (hg : Gl X x) (hm : X.mg x = none) (hv : bootBuiltins x = some (.builtin id)) (ha : QA X (e :: es) t) (hns : ZDI (e :: es) = true := by rfl) (hn : x ≠ "__name__" := by decide) (hdb : (x == ("__debug__" : Str)) = false := by decide) :
 QE X (.Call (.Name x p) (e :: es) [] pos) (tCB r t) := ⟨ZNY hc hg hm hv ha.h hns hn hdb⟩
theorem ZGI {T : String} {r : List V -> Hp -> VK -> Prop} (hc : ZC8 X (.type T) r) (hg : Gl X x) (hm : X.mg x = none) (hv : bootBuiltins x = some (.type T)) (ha : QA X (e :: es) t) (hns : ZDI (e :: es) = true := by rfl) (hn : x ≠ "__name__" := by decide) (hdb : (x == ("__debug__" : Str)) = false := by decide) :
 QE X (.Call (.Name x p) (e :: es) [] pos) (tCB r t) := ⟨ZMT hc hg hm hv ha.h hns hn hdb⟩
theorem ZFS : QF X [] ZMS := ⟨ZO8⟩
theorem ZPK (hc : QT X c tA) : QF X [c] tA := ⟨ZO9 hc.h⟩
theorem ZRS {tg : Expr} (hl : QE X e te) : QI X tg e (ZJv X.K te) := ⟨ZQn hl.h⟩
theorem ZTU {tg : Expr} (hl : QE X e te) : QI X tg e (ZMI X.K te) := ⟨ZSc hl.h⟩
theorem ZEW {tg : Expr} (hg : Gl X "range") (hm : X.mg "range" = none) (ha : QA X [a] t) (hs : ZEG a = false := by rfl) : QI X tg (.Call (.Name "range" p) [a] [] pos) (ZMJ t) := ⟨ZNH hg hm ha.h (ZEU hs)⟩
theorem ZEX {i : Nat} (hN : X.N.Nodup) (hi : X.N[i]? = some x) (hx : Loc X.env.scope x) (hf : X.fn x = true \/ X.env.scope.names.lookup x = some .local := by first | exact .inl rfl | exact .inr rfl | assumption) : QG X (.Name x pos) (ZEc i) := ⟨ZQl hN hi hx hf⟩
theorem ZEY : QGs X [] ZOd := ⟨ZQm⟩
theorem ZNZ {e : Expr} {es : List Expr} {env : Env} (h : ZEG e = false) : (assignEach (e :: es) env).map (·.2) = assign e env :: (assignEach es env).map (·.2) := by
 cases e <;> first | rfl | cases h
theorem ZC0 {g : TG} {u : TGs} (h1 : QG X e g) (h2 : QGs X es u) (hs : ZEG e = false := by rfl) : QGs X (e :: es) (ZMF g u) := ⟨ZOe h1.h h2.h (ZNZ hs)⟩
theorem ZTV {k : Nat} {u : TGs} {n : Nat} (hc : X.calm = true) (h : QGs X es u) (hn : (assignEach es X.env).length = n := by rfl) (hst : (assignEach es X.env).findIdx? (·.1) = none := by rfl) : QG X (.Tuple es k pos) (ZMG X.K n u) := ⟨ZSX hc h.h hn hst⟩
theorem ZKP {s : ZJ7} (ho : QE X o to) (hi : QE X e ti) (hs : ZOc X s)
 (ha : ∀ v, assign (.Subscript o e pos) X.env v = (do
  let ov <- holding [v] (eval o X.env)
  let iv <- holding [v, ov] (eval e X.env)
  standAt pos
  holding [v, ov, iv] (setItem ov iv v)
  release [v, ov, iv] []) := by intro _; rfl) : QG X (.Subscript o e pos) (ZOf to ti s) := ⟨ZSY ho.h hi.h hs ha⟩
theorem ZF7 {N : List Str} {sc : Scope} {own caps : List Str} {ks : List Nat} {elt tg iter : Expr} {ifs : List Expr} {scope : Scope} {wi : TI} {g : TG} {tt : TT}
  (hN : X.N = N) (hsc : X.env.scope = sc) (hc : X.calm = true) (S : ZGr N sc own caps ks scope) (hi : QI X tg iter wi)
  (hg : ∀ cl C s₂ H₂ fp, QG (ZCk X (own ++ caps) scope cl C s₂ H₂ fp) tg g)
  (ht : ∀ cl C s₂ H₂ fp, QF (ZCk X (own ++ caps) scope cl C s₂ H₂ fp) ifs tt)
  (he : ∀ cl C s₂ H₂ fp, QE (ZCk X (own ++ caps) scope cl C s₂ H₂ fp) elt te)
  (hs : ∀ x, foldedSetIterable iter X.env x = pure x := by intro _; rfl) :
  QE X (.ListComp elt [⟨tg, iter, ifs, 0⟩] scope pos) (ZHX own.length ks wi g tt te) :=
 ⟨ZQ5 hN hsc hc S hi.h (fun cl C s₂ H₂ fp => (hg cl C s₂ H₂ fp).h) (fun cl C s₂ H₂ fp => (ht cl C s₂ H₂ fp).h) (fun cl C s₂ H₂ fp => (he cl C s₂ H₂ fp).h) hs⟩
theorem ZJ0 {T : String} {name : Str} {id : String} {r : V -> List V -> Hp -> VK -> Prop} {apos cpos : Pos} (pa : PlainAttrs T) (slot : Slot T name id) (hty : typeOf (.builtin id) = pure (.type "method_descriptor")) (hm : MtR X id r) (ho : QE X o to) (ha : QA X (e :: es) t)
  (hst : ZDI (e :: es) = true := by rfl) (hbase : attributeBase o name X.env (eval o X.env) = eval o X.env := by rfl)
  (hfew : ((backTo cpos (starEach (e :: es) X.env)).all (fun x => !x.1) && (backToKw cpos (keywordEach [] X.env)).all (fun x => x.1.isSome)
   && decide ((e :: es).length + ([] : List Keyword).length + (if ([] : List Keyword).isEmpty then 0 else 1) < 30)) = true := by rfl)
  (hline : (apos.endLine == cpos.line) = true := by rfl) : QE X (.Call (.Attribute o name apos) (e :: es) [] cpos) (tBM X.K T r to t) :=
 ⟨ZUB pa slot hty hm ho.h ha.h hbase hfew hline (ZEr hst) (ZEP (ZEV hst))⟩
end
section
variable {X : Cx} {st : Stmt} {ZDQ sa sb : List Stmt} {t u : TS} {e c : Expr} {te : TE} {tA : TT} {pos pos' : Pos} {x : Str}
theorem ZDJ : QB X [] ZME := ⟨ZQi⟩
theorem ZCS (h1 : QS X st t) (h2 : QB X ZDQ u) : QB X (st :: ZDQ) (ZOY t u) := ⟨ZOZ h1.h h2.h⟩
theorem ZCV (h1 : QS X st t) : QB X [st] t := ⟨ZQj h1.h⟩
theorem ZC4 (he : QE X e te) (hs : ZEB e = false := by rfl) : QS X (.Expr e pos) (ZJu te) := ⟨ZPB he.h hs⟩
theorem ZCj (he : QE X e te) : QS X (.Return (some e) pos) (ZOa te) := ⟨ZSW he.h⟩
theorem ZDi (hc : QT X c tA) (ha : QB X sa t) (hb : QB X sb u) : QS X (.If c sa sb pos) (ZJ6 tA t u) := ⟨ZT6 hc.h ha.h hb.h⟩
theorem ZGJ : QS X st ZNG := ⟨ZOb⟩
theorem ZRT {i : Nat} (hN : X.N.Nodup) (hi : X.N[i]? = some x) (hx : Loc X.env.scope x) (he : QE X e te) (hs : ZEB e = false := by rfl) (hf : X.fn x = true \/ X.env.scope.names.lookup x = some .local := by first | exact .inl rfl | exact .inr rfl | assumption) :
 QS X (.Assign [.Name x pos'] e pos) (ZGG te (ZEc i)) := ⟨ZQ7 hN hi hx he.h hs hf⟩
theorem ZE5 {tg : Expr} {g : TG} (he : QE X e te) (hg : QG X tg g) (hs : ZEB e = false := by rfl) (hw : swappedStores [tg] e X.env = pure none := by rfl)
 (h1 : (assignEach [tg] X.env).map (·.2) = [assign tg X.env] := by rfl) : QS X (.Assign [tg] e pos) (ZGG te g) := ⟨ZSZ he.h hg.h (ZFP hs) hw h1⟩
theorem ZDs {tg iter : Expr} {wi : TI} {g : TG} (hp : PassesOwn (model X.prog X.w) X.A X.env X.xe) (hc : X.calm = true) (hi : QI X tg iter wi) (hg : QG X tg g) (hb : QB X sa t)
 (hs : ∀ x, foldedSetIterable iter X.env x = pure x := by intro _; rfl) : QS X (.For tg iter sa [] pos) (ZOj wi g t) := ⟨ZSd hp hc hi.h hg.h hb.h hs⟩
theorem ZKQ (hp : PassesOwn (model X.prog X.w) X.A X.env X.xe) (hc : QT X c tA) (hb : QB X sa t) : QS X (.While c sa [] pos) (ZJ8 tA t) := ⟨ZOh hp hc.h hb.h⟩
end
section
variable {X : Cx} {e : Expr} {es : List Expr} {te : TE} {pos : Pos} (K : W.Frag) (h : X.K = K)
include h
theorem ZF8 : ZC8 X (.builtin "len") (ZMU K) := h ▸ ZSz
theorem ZTW (hc : X.calm = true) : ZC8 X (.builtin "all") (ZPC K) := h ▸ ZS3 hc
theorem ZH0 : ZC8 X (.type "tuple") (ZKH K) := h ▸ ZPD
theorem ZKR : ZC8 X (.builtin "isinstance") (ZO6 K) := h ▸ ZO7
theorem ZDU : IxR X (ZMP K) := h ▸ ZQ3
theorem ZDE : IxR X (ZO0 K) := h ▸ ZSn
theorem ZHZ {tg : Expr} (hl : QE X e te) : QI X tg e (ZJv K te) := h ▸ ZRS hl
theorem ZKS {tg : Expr} (hl : QE X e te) : QI X tg e (ZMI K te) := h ▸ ZTU hl
theorem ZE6 {k : Nat} {u : TGs} {n : Nat} (hc : X.calm = true) (hg : QGs X es u) (hn : (assignEach es X.env).length = n := by rfl) (hst : (assignEach es X.env).findIdx? (·.1) = none := by rfl) : QG X (.Tuple es k pos) (ZMG K n u) := h ▸ ZTV hc hg hn hst
end
mutual
inductive Dat (K : W.Frag) (H : Hp) : V -> PyData -> Prop
 | non : Dat K H .non .none
 | bl (b : Bool) : Dat K H (.bl b) (.bool b)
 | int (i : Int) : Dat K H (.int i) (.int i)
 | str (x : Str) : Dat K H (.str x) (.str x)
 | tup {a : Addr} {xs : List V} {ds : List PyData} (h : SqT K H a xs) (r : ZEF K H xs ds) : Dat K H (.ref a) (.tuple ds)
 | lst {a : Addr} {xs : List V} {ds : List PyData} (h : SqL K H a xs) (r : ZEF K H xs ds) : Dat K H (.ref a) (.list ds)
inductive ZEF (K : W.Frag) (H : Hp) : List V -> List PyData -> Prop
 | nil : ZEF K H [] []
 | cons {x : V} {d : PyData} {xs : List V} {ds : List PyData} (h : Dat K H x d) (r : ZEF K H xs ds) : ZEF K H (x :: xs) (d :: ds)
end
section
variable {X : Cx} {pins : List (Addr × Obj)} {U : St} {H : Hp} {s : Shared}
mutual
theorem Dat.reads (I : Inv X pins U H s) : ∀ {x : V} {d : PyData} {u : Value}, Dat X.K H x d -> ZCb x u -> ∃ as, Reads s.heap u d as
 | _, _, u, .non, r => by cases (show u = Value.none from r); exact ⟨_, .none⟩
 | _, _, u, .bl b, r => by cases (show u = Value.bool b from r); exact ⟨_, .bool b⟩
 | _, _, u, .int i, r => by obtain ⟨t, rfl⟩ := (show ∃ t, u = Value.int i t from r); exact ⟨_, .int i t⟩
 | _, _, u, .str x, r => by obtain ⟨t, rfl⟩ := (show ∃ t, u = Value.str x t from r); exact ⟨_, .str x t⟩
 | _, _, u, @Dat.tup _ _ a xs ds h rs, r => by
  cases (show u = Value.ref a from r)
  obtain ⟨its, rv, ⟨o, ho, hc, n, hd⟩, _⟩ := I.tuple h
  obtain ⟨as, ra⟩ := ZEF.reads I rs rv
  exact ⟨_, .tuple ho hc hd (by simpa using ra)⟩
 | _, _, u, @Dat.lst _ _ a xs ds h rs, r => by
  cases (show u = Value.ref a from r)
  obtain ⟨its, rv, ⟨o, n, ho, hc, _, hd⟩, _⟩ := I.list h
  obtain ⟨as, ra⟩ := ZEF.reads I rs rv
  exact ⟨_, .list ho hc hd (by simpa using ra)⟩
theorem ZEF.reads (I : Inv X pins U H s) : ∀ {xs : List V} {ds : List PyData} {us : List Value}, ZEF X.K H xs ds -> ZCh xs us -> ∃ as, ReadsAll s.heap us ds as
 | _, _, _, .nil, .nil => ⟨_, .nil⟩
 | _, _, _, .cons h r, .cons r1 r2 => by
  obtain ⟨as, ra⟩ := Dat.reads I h r1
  obtain ⟨bs, rb⟩ := ZEF.reads I r r2
  exact ⟨_, .cons ra rb⟩
end
end
section
variable {X : Cx}
theorem ZUI {K : W.Frag} {T : String} {r : V -> List V -> Hp -> VK -> Prop} {to : TE} {t : TA} {U : St} {H : Hp} {Q : VK} (h : to U H fun x H1 => tyV K T x H1 /\ t U H1 fun xs H2 => r x xs H2 Q) : tBM K T r to t U H Q := h
theorem tyL {K : W.Frag} {H : Hp} {p : Addr} {xs : List V} (h : H p = some (.lst xs)) : tyV K "list" (.ref p) H := .inl ⟨rfl, xs, SqL.of h⟩
theorem ZFj {H : Hp} {Q : VK} {p : Addr} {xs : List V} {y : V} (h1 : H p = some (.lst xs)) (hz : xs.length < sizeLine) (h : ∀ H2, H2 p = some (.lst (xs ++ [y])) -> Kp p H H2 -> Q .non H2) : ZLm (.ref p) [y] H Q :=
 ⟨p, xs, y, rfl, rfl, h1, hz, h _ ZCZ Kp.upd⟩
end
def ZCY (H : Hp) (vs : List V) (l : PL) : Prop := Paired (fun v (p : Int × Int) => ∃ a, v = V.ref a /\ H a = some (.tup [.int p.1, .int p.2])) vs l
theorem ZCY.same {H H' : Hp} {vs : List V} {l : PL} (h : ZCY H vs l) (s : ZCW H H') : ZCY H' vs l := Paired.mapP h fun _ _ ⟨a, e, z⟩ => ⟨a, e, s _ _ z⟩
section
variable {κ : Type} [DecidableEq κ]
def ZC1 (kvs : List (κ × V)) (k : κ) : Option V := (kvs.find? fun kv => decide (kv.1 = k)).map (·.2)
def ZDf (kvs : List (κ × V)) (k : κ) (v : V) : List (κ × V) :=
 if (kvs.any fun kv => decide (kv.1 = k)) = true then kvs.map (fun kv => if kv.1 = k then (kv.1, v) else kv) else kvs ++ [(k, v)]
def ZFk (kvs : List (κ × V)) (k : κ) : List (κ × V) := kvs.filter fun kv => decide (kv.1 ≠ k)
theorem ZDX {p : κ × V} {r : List (κ × V)} {k : κ} (e : p.1 = k) : ZC1 (p :: r) k = some p.2 := by simp [ZC1, Uz, e]
theorem ZDY {p : κ × V} {r : List (κ × V)} {k : κ} (e : ¬ p.1 = k) : ZC1 (p :: r) k = ZC1 r k := by simp [ZC1, Uz, e]
theorem ZGK (k : κ) : ∀ kvs : List (κ × V), (kvs.any fun kv => decide (kv.1 = k)) = (ZC1 kvs k).isSome
 | [] => rfl
 | p :: r => by
  rw [List.any_cons]
  by_cases e : p.1 = k
  ·simp only [ZDX e, decide_eq_true e, Bool.true_or, Option.isSome_some]
  ·rw [ZDY e, decide_eq_false e, Bool.false_or]; exact ZGK k r
theorem ZKT (k j : κ) (y : V) : ∀ kvs : List (κ × V), ZC1 (kvs.map fun kv => if kv.1 = k then (kv.1, y) else kv) j = (ZC1 kvs j).map fun x => if j = k then y else x
 | [] => rfl
 | p :: r => by
  have ih := ZKT k j y r
  rw [UF]
  by_cases h : p.1 = k
  ·rw [if_pos h]
   by_cases e : p.1 = j
   ·rw [ZDX (p := (p.1, y)) e, ZDX e, Ve, if_pos (e.symm.trans h)]
   ·rw [ZDY (p := (p.1, y)) e, ZDY e, ih]
  ·rw [if_neg h]
   by_cases e : p.1 = j
   ·rw [ZDX (p := p) e, ZDX e, Ve, if_neg (fun z => h (e.trans z))]
   ·rw [ZDY (p := p) e, ZDY e, ih]
theorem ZJH (k j : κ) (y : V) : ∀ kvs : List (κ × V), ZC1 kvs k = none -> ZC1 (kvs ++ [(k, y)]) j = if j = k then some y else ZC1 kvs j
 | [], _ => by
  by_cases e : k = j
  ·rw [if_pos e.symm]; exact ZDX (p := (k, y)) e
  ·rw [if_neg (fun z => e z.symm)]; exact ZDY (p := (k, y)) e
 | p :: r, hn => by
  rw [List.cons_append]
  have hk : ¬ p.1 = k := fun z => by rw [ZDX z] at hn; cases hn
  rw [ZDY hk] at hn
  have ih := ZJH k j y r hn
  by_cases e : p.1 = j
  ·rw [ZDX e, ZDX e, if_neg (fun z => hk (e.trans z))]
  ·rw [ZDY e, ZDY e, ih]
theorem ZH1 (kvs : List (κ × V)) (k j : κ) (y : V) : ZC1 (ZDf kvs k y) j = if j = k then some y else ZC1 kvs j := by
 unfold ZDf
 by_cases a : (kvs.any fun kv => decide (kv.1 = k)) = true
 ·rw [if_pos a, ZKT]
  rw [ZGK] at a
  by_cases e : j = k
  ·obtain ⟨x, hx⟩ := Option.isSome_iff_exists.mp a
   rw [if_pos e, e, hx, Ve, if_pos rfl]
  ·rw [if_neg e]
   cases ZC1 kvs j with
   | none => rfl
   | some x => rw [Ve, if_neg e]
 ·rw [if_neg a]
  refine ZJH k j y kvs ?_
  rw [ZGK] at a
  cases q : ZC1 kvs k with
  | none => rfl
  | some x => rw [q] at a; exact (a rfl).elim
theorem ZEH (kvs : List (κ × V)) (k : κ) (v : V) : (ZDf kvs k v).length <= kvs.length + 1 := by
 unfold ZDf
 split
 ·rw [Ui]; omega
 ·rw [UR, UT, List.length_nil]; omega
theorem ZDz.isSome_eq {o : Option V} {u : Option Value} (r : ZDz o u) : o.isSome = u.isSome := by
 cases o with
 | none => cases u with
  | none => rfl
  | some _ => exact (show False from r).elim
 | some _ => cases u with
  | none => exact (show False from r).elim
  | some _ => rfl
theorem ZDz.getD {o : Option V} {u : Option Value} {d : V} {d' : Value} (r : ZDz o u) (rd : ZCb d d') : ZCb (o.getD d) (u.getD d') := by
 cases o with
 | none => cases u with
  | none => exact rd
  | some _ => exact (show False from r).elim
 | some _ => cases u with
  | none => exact (show False from r).elim
  | some _ => exact r
theorem KV.val {kvs : List (κ × V)} {vs : List (κ × Value)} (r : KV kvs vs) (k : κ) : ZDz (ZC1 kvs k) (valueAt vs k) := by
 unfold KV at r
 induction r with
 | nil => exact True.intro
 | @cons p q ps qs h t ih =>
  obtain ⟨h1, h2⟩ := h
  by_cases e : p.1 = k
  ·have e' : q.1 = k := h1.symm.trans e
   have b : valueAt (q :: qs) k = some q.2 := by simp [valueAt, Uz, e']
   rw [ZDX e, b]; exact h2
  ·have e' : ¬ q.1 = k := fun z => e (h1.trans z)
   have b : valueAt (q :: qs) k = valueAt qs k := by simp [valueAt, Uz, e']
   rw [ZDY e, b]; exact ih
theorem KV.any {kvs : List (κ × V)} {vs : List (κ × Value)} (r : KV kvs vs) (k : κ) : (kvs.any fun kv => decide (kv.1 = k)) = vs.any fun kv => decide (kv.1 = k) := by
 unfold KV at r
 induction r with
 | nil => rfl
 | cons h t ih => rw [List.any_cons, List.any_cons, ih, h.1]
theorem KV.repl {kvs : List (κ × V)} {vs : List (κ × Value)} (r : KV kvs vs) (k : κ) {y : V} {u : Value} (ry : ZCb y u) :
  KV (kvs.map fun kv => if kv.1 = k then (kv.1, y) else kv) (vs.map fun kv => if kv.1 = k then (kv.1, u) else kv) := by
 unfold KV at r ⊢
 induction r with
 | nil => exact .nil
 | @cons p q ps qs h t ih =>
  rw [UF, UF]
  refine .cons ?_ ih
  obtain ⟨h1, h2⟩ := h
  by_cases e : p.1 = k
  ·rw [if_pos e, if_pos (h1.symm.trans e)]; exact ⟨h1, ry⟩
  ·rw [if_neg e, if_neg (fun z => e (h1.trans z))]; exact ⟨h1, h2⟩
theorem KV.put {kvs : List (κ × V)} {vs : List (κ × Value)} (r : KV kvs vs) (k : κ) {y : V} {u : Value} (ry : ZCb y u) : KV (ZDf kvs k y) (stored vs k u) := by
 unfold ZDf stored
 rw [r.any k]
 by_cases e : (vs.any fun kv => decide (kv.1 = k)) = true
 ·rw [if_pos e, if_pos e]; exact r.repl k ry
 ·rw [if_neg e, if_neg e]; exact Paired.snoc r ⟨rfl, ry⟩
theorem KV.drop {kvs : List (κ × V)} {vs : List (κ × Value)} (r : KV kvs vs) (k : κ) : KV (ZFk kvs k) (without vs k) := by
 unfold KV at r ⊢
 unfold ZFk without
 induction r with
 | nil => exact .nil
 | @cons p q ps qs h t ih =>
  obtain ⟨h1, h2⟩ := h
  rw [List.filter_cons, List.filter_cons]
  by_cases e : p.1 = k
  ·have a : ¬ decide (p.1 ≠ k) = true := by simp [e]
   have b : ¬ decide (q.1 ≠ k) = true := by simp [h1.symm.trans e]
   rw [if_neg a, if_neg b]; exact ih
  ·have e' : ¬ q.1 = k := fun z => e (h1.trans z)
   have a : decide (p.1 ≠ k) = true := by simp [e]
   have b : decide (q.1 ≠ k) = true := by simp [e']
   rw [if_pos a, if_pos b]; exact .cons ⟨h1, h2⟩ ih
theorem KV.length {kvs : List (κ × V)} {vs : List (κ × Value)} (r : KV kvs vs) : kvs.length = vs.length := Paired.length r
theorem ZPL (kvs : List (κ × V)) (k : κ) : (ZFk kvs k).length <= kvs.length := List.length_filter_le _ _
end
theorem ZGL {P : Program} {w : World} {k : Key} {u : Value} (r : ZCb (kV k) u) : (ZCo P w).is k u = true := by
 cases k with
 | inl i => obtain ⟨t, e⟩ := (show ∃ t, u = Value.int i t from r); subst e; exact ZLL P w i t
 | inr x => obtain ⟨t, e⟩ := (show ∃ t, u = Value.str x t from r); subst e; exact ZLM P w x t
theorem ZJI {P : Program} {w : World} : ∀ {ks : List Key} {us : List Value}, ZCh (ks.map kV) us -> ItemsAre (ZCo P w) ks us
 | [], _, r => by rw [List.map_nil] at r; cases r; exact .nil
 | k :: ks, _, r => by
  rw [UF] at r
  cases r with
  | cons h t => exact .cons (ZGL h) (ZJI t)
abbrev KT (H : Hp) : List (List Key × V) -> List (List Key × Addr × Value) -> Prop := Paired fun p q => p.1 = q.1 /\ H q.2.1 = some (.tup (p.1.map kV)) /\ ZCb p.2 q.2.2
theorem KT.val {H : Hp} {kvs : List (List Key × V)} {xs : List (List Key × Addr × Value)} (r : KT H kvs xs) (k : List Key) : ZDz (ZC1 kvs k) ((atKey xs k).map (·.2)) := by
 induction r with
 | nil => exact True.intro
 | @cons p q ps qs h t ih =>
  obtain ⟨h1, _, h2⟩ := h
  by_cases e : p.1 = k
  ·have e' : q.1 = k := h1.symm.trans e
   have b : atKey (q :: qs) k = some q.2 := by simp [atKey, Uz, e']
   rw [ZDX e, b]; exact h2
  ·have e' : ¬ q.1 = k := fun z => e (h1.trans z)
   have b : atKey (q :: qs) k = atKey qs k := by simp [atKey, Uz, e']
   rw [ZDY e, b]; exact ih
theorem KT.repl {H : Hp} {kvs : List (List Key × V)} {xs : List (List Key × Addr × Value)} (r : KT H kvs xs) (k : List Key) {y : V} {u : Value} (ry : ZCb y u) :
  KT H (kvs.map fun kv => if kv.1 = k then (kv.1, y) else kv) (xs.map (putAt k u)) := by
 induction r with
 | nil => exact .nil
 | @cons p q ps qs h t ih =>
  rw [UF, UF]
  refine .cons ?_ ih
  obtain ⟨h1, h2, h3⟩ := h
  unfold putAt
  by_cases e : p.1 = k
  ·rw [if_pos e, if_pos (h1.symm.trans e)]; exact ⟨h1, h2, ry⟩
  ·rw [if_neg e, if_neg (fun z => e (h1.trans z))]; exact ⟨h1, h2, h3⟩
theorem KT.put {H : Hp} {kvs : List (List Key × V)} {xs : List (List Key × Addr × Value)} (r : KT H kvs xs) (k : List Key) {b : Addr} {y : V} {u : Value} (hb : H b = some (.tup (k.map kV))) (ry : ZCb y u) :
  KT H (ZDf kvs k y) (storedH xs k b u) := by
 have e : (kvs.any fun kv => decide (kv.1 = k)) = (atKey xs k).isSome := by
  rw [ZGK, (r.val k).isSome_eq, Option.isSome_map]
 unfold ZDf storedH
 rw [e]
 by_cases q : (atKey xs k).isSome = true
 ·rw [if_pos q, if_pos q]; exact r.repl k ry
 ·rw [if_neg q, if_neg q]; exact Paired.snoc r ⟨rfl, hb, ry⟩
theorem KT.keeps {H H' : Hp} {kvs : List (List Key × V)} {xs : List (List Key × Addr × Value)} (r : KT H kvs xs) (ht : ∀ b ys, H b = some (.tup ys) -> H' b = some (.tup ys)) : KT H' kvs xs :=
 Paired.mapP r fun _ _ z => ⟨z.1, ht _ _ z.2.1, z.2.2⟩
section
variable {P : Program} {w : World} {H : Hp} {h : Heap} {a : Addr}
theorem ZQS {u : HO} (ok : HOk P w H h) (e : Rd H a u) : ZCu P w H h a u := e.ok ok
theorem ZEw {kvs : List (Key × V)} (ok : HOk P w H h) (e : Rd H a (.dK kvs)) : kvs.length <= sizeLine /\ (a == sysModules) = false /\ ∃ vs, KV kvs vs /\ h.DictOf (ZCo P w) a vs :=
 show ZCu P w H h a (.dK kvs) from ZQS ok e
theorem ZGM {kvs : List (Key × V)} (ok : HOk P w H h) (e : H a = some (.dK kvs)) : kvs.length <= sizeLine /\ (a == sysModules) = false /\ ∃ vs, KV kvs vs /\ h.DictOf (ZCo P w) a vs := ZEw ok (.inl e)
theorem ZGu {ks : List Key} (ok : HOk P w H h) (e : H a = some (.tup (ks.map kV))) : (tupleKind (ZCo P w)).is h ks a := by
 obtain ⟨_, its, r, o, h1, h2, n, h3⟩ := (show ZCu P w H h a (.tup (ks.map kV)) from ok a _ e)
 exact ⟨o, its.toArray, n, h1, h2, h3, by simpa using ZJI r⟩
theorem ZGN {kvs : List (List Key × V)} (ok : HOk P w H h) (e : Rd H a (.dT kvs)) : kvs.length <= sizeLine /\ (a == sysModules) = false /\
  ∃ xs, KT H kvs xs /\ h.DictOfH (tupleKind (ZCo P w)) a xs := by
 obtain ⟨z, y, xs, r, o, es, ep, h1, h2, h3, h4, h5⟩ := (show ZCu P w H h a (.dT kvs) from ZQS ok e)
 refine ⟨z, y, xs, r, o, es, ep, h1, h2, h3, h4, fun x hx => ?_, h5⟩
 have all : ∀ {l : List (List Key × V)} {m : List (List Key × Addr × Value)}, KT H l m -> ∀ x ∈ m, (tupleKind (ZCo P w)).is h x.1 x.2.1 := by
  intro l m q
  induction q with
  | nil => intro x hx; exact nomatch hx
  | @cons p q ps qs hq t ih =>
   intro x hx
   rcases Ul.mp hx with e | hx
   ·subst e
    exact ZGu ok (by rw [<- hq.1]; exact hq.2.1)
   ·exact ih x hx
 exact all r x hx
theorem ZUJ {kvs : List (List Key × V)} (ok : HOk P w H h) (e : H a = some (.dT kvs)) : kvs.length <= sizeLine /\ (a == sysModules) = false /\
 ∃ xs, KT H kvs xs /\ h.DictOfH (tupleKind (ZCo P w)) a xs := ZGN ok (.inl e)
end
def ZDq (H : Hp) (a : Addr) (y : V) (r : Option V) : Prop :=
 (∃ kvs k, Rd H a (.dK kvs) /\ y = kV k /\ r = ZC1 kvs k) \/ ∃ kvs k b, Rd H a (.dT kvs) /\ y = .ref b /\ H b = some (.tup (k.map kV)) /\ r = ZC1 kvs k
def ZFt (H : Hp) (a : Addr) (y v : V) (H' : Hp) : Prop :=
 (∃ kvs k, H a = some (.dK kvs) /\ y = kV k /\ kvs.length < sizeLine /\ H' = upd H a (.dK (ZDf kvs k v))) \/
 ∃ kvs k b, H a = some (.dT kvs) /\ y = .ref b /\ H b = some (.tup (k.map kV)) /\ kvs.length < sizeLine /\ H' = upd H a (.dT (ZDf kvs k v))
theorem ZDq.k {H : Hp} {a : Addr} {kvs : List (Key × V)} {k : Key} (e : H a = some (.dK kvs)) : ZDq H a (kV k) (ZC1 kvs k) := .inl ⟨kvs, k, .inl e, rfl, rfl⟩
theorem ZDq.t {H : Hp} {a b : Addr} {kvs : List (List Key × V)} {k : List Key} (e : H a = some (.dT kvs)) (eb : H b = some (.tup (k.map kV))) : ZDq H a (.ref b) (ZC1 kvs k) := .inr ⟨kvs, k, b, .inl e, rfl, eb, rfl⟩
theorem ZFt.k {H : Hp} {a : Addr} {kvs : List (Key × V)} {k : Key} {v : V} (e : H a = some (.dK kvs)) (hl : kvs.length < sizeLine) : ZFt H a (kV k) v (upd H a (.dK (ZDf kvs k v))) := .inl ⟨kvs, k, e, rfl, hl, rfl⟩
theorem ZFt.t {H : Hp} {a b : Addr} {kvs : List (List Key × V)} {k : List Key} {v : V} (e : H a = some (.dT kvs)) (eb : H b = some (.tup (k.map kV))) (hl : kvs.length < sizeLine) :
 ZFt H a (.ref b) v (upd H a (.dT (ZDf kvs k v))) := .inr ⟨kvs, k, b, e, rfl, eb, hl, rfl⟩
section
variable {X : Cx} {pins : List (Addr × Obj)} {U : St} {H : Hp} {s : Shared} {a : Addr} {y v : V} {u r : Value} {o : Option V} {A : Around} {E : Value -> Shared -> Prop}
theorem Inv.big (I : Inv X pins U H s) : sysModules < s.heap.objs.size := by
 have h : mainGlobals < s.heap.objs.size := (I.mod.glob.keeps I.bk).lt
 exact Nat.lt_trans (by decide) h
theorem ZNa {Q : Value -> Shared -> Prop} (hu : A.units + 1 < cLine) (I : Inv X pins U H s) (g : ZDq H a y (some v)) (ry : ZCb y u) (h : ∀ w' s', Inv X pins U H s' -> ZCb v w' -> Q w' s') :
  wpAny (model X.prog X.w) A (getItem (.ref a) u) Q E s := by
 rcases g with ⟨kvs, k, e, ey, l⟩ | ⟨kvs, k, b, e, ey, eb, l⟩
 ·subst ey
  obtain ⟨z, hd, vs, rel, dd⟩ := ZEw I.hok e
  obtain ⟨w', hw, rw'⟩ := ZDz.some_of (v := v) (o := valueAt vs k) (by rw [l]; exact rel.val k)
  exact wpAny_getItem_of (ZGL ry) dd.mapOf hw (h w' _ (I.tok _) rw')
 ·subst ey
  cases (show u = Value.ref b from ry)
  obtain ⟨z, hd, xs, rel, dd⟩ := ZGN I.hok e
  obtain ⟨w', hw, rw'⟩ := ZDz.some_of (v := v) (o := (atKey xs k).map (·.2)) (by rw [l]; exact rel.val k)
  obtain ⟨p, hp, hp2⟩ := Option.map_eq_some_iff.mp hw
  refine wpAny_getItem_heap (tupleKind_room_in1 hu) (ZGu I.hok eb) dd hp ?_
  rw [hp2]
  exact h w' _ (I.tok _) rw'
theorem ZRU {Q : Value -> Shared -> Prop} (hu : A.units + 1 < cLine) (I : Inv X pins U H s) (g : ZDq H a y o) (ry : ZCb y u) (h : ∀ s', Inv X pins U H s' -> Q (.bool (!o.isSome)) s') :
  wpAny (model X.prog X.w) A (compareOp .NotIn u (.ref a)) Q E s := by
 rcases g with ⟨kvs, k, e, ey, l⟩ | ⟨kvs, k, b, e, ey, eb, l⟩
 ·subst ey
  obtain ⟨z, hd, vs, rel, dd⟩ := ZEw I.hok e
  refine wpAny_notIn_of (ZGL ry) hd dd.mapOf ?_
  rw [<- (rel.val k).isSome_eq, <- l]
  exact h _ (I.tok _)
 ·subst ey
  cases (show u = Value.ref b from ry)
  obtain ⟨z, hd, xs, rel, dd⟩ := ZGN I.hok e
  refine wpAny_notIn_heap (tupleKind_room_in1 hu) (ZGu I.hok eb) hd dd ?_
  have q := (rel.val k).isSome_eq
  rw [Option.isSome_map] at q
  rw [<- q, <- l]
  exact h _ (I.tok _)
theorem ZFL {h' : Heap} {t' : Nat} {ob : HO} (I : Inv X pins U H s) (mu : Mut (H a)) (hs : Heap.SameBut a s.heap h') (he : ∃ q, h'.get? a = some q) (new : ZCu X.prog X.w (upd H a ob) h' a ob) :
  Inv X pins U (upd H a ob) { s with heap := h', toks := t' } :=
 I.write (x := a) (e := a) mu (.inl rfl) (fun b q hb z => (hs.2 b hb).trans z) he new
theorem ZGv {P : Program} {w : World} {H' : Hp} {h' : Heap} {kvs : List (Key × V)} {vs : List (Key × Value)} (z : kvs.length <= sizeLine) (hd : (a == sysModules) = false) (rel : KV kvs vs) (dd : h'.DictOf (ZCo P w) a vs) :
 ZCu P w H' h' a (.dK kvs) := ⟨z, hd, vs, rel, dd⟩
theorem ZNb {H' : Hp} {Q : Unit -> Shared -> Prop} (hu : A.units + 1 < cLine) (I : Inv X pins U H s) (g : ZFt H a y v H') (ry : ZCb y u) (rv : ZCb v r) (h : ∀ s', Inv X pins U H' s' -> Q () s') :
  wpAny (model X.prog X.w) A (setItem (.ref a) u r) Q E s := by
 rcases g with ⟨kvs, k, e, ey, l, eH⟩ | ⟨kvs, k, b, e, ey, eb, l, eH⟩
 ·subst ey eH
  obtain ⟨z, hd, vs, rel, dd⟩ := ZGM I.hok e
  have hz : vs.length <= sizeLine := by rw [<- rel.length]; exact z
  have hl : (ZDf kvs k v).length <= sizeLine := by have := ZEH kvs k v; omega
  refine wpAny_setItem_pairs (hsz := hz) (ZGL ry) dd fun h' dd' hs => h _ ?_
  have he : ∃ q, h'.get? a = some q := let ⟨q, _, _, hq, _⟩ := dd'; ⟨q, hq⟩
  exact ZFL I (by rw [e]; exact True.intro) hs he (ZGv hl hd (rel.put k rv) dd')
 ·subst ey eH
  cases (show u = Value.ref b from ry)
  obtain ⟨z, hd, xs, rel, dd⟩ := ZUJ I.hok e
  have hz : xs.length <= sizeLine := by rw [<- Paired.length rel]; exact z
  have hl : (ZDf kvs k v).length <= sizeLine := by have := ZEH kvs k v; omega
  refine wpAny_setItem_heap (hsz := hz) (tupleKind_room_in1 hu) (ZGu I.hok eb) dd fun h' dd' hs => h _ ?_
  obtain ⟨q, es, ep, hq, h2, h3, h4, _, h5⟩ := dd'
  refine ZFL I (by rw [e]; exact True.intro) hs ⟨q, hq⟩ ⟨hl, hd, _, (rel.put k eb rv).keeps fun c ys ec => ?_, q, es, ep, hq, h2, h3, h4, h5⟩
  rw [ZCe (ZT3 ec e (fun z => nomatch z))]
  exact ec
end
section
variable {X : Cx} {pins : List (Addr × Obj)} {U : St} {H : Hp} {s : Shared} {a : Addr} {kvs : List (Key × V)} {k : Key} {u : Value} {A : Around} {E : Value -> Shared -> Prop}
theorem ZUK {v : V} {more : List Value} {Q : Value -> Shared -> Prop} (I : Inv X pins U H s) (e : H a = some (.dK kvs)) (ry : ZCb (kV k) u) (l : ZC1 kvs k = some v) (hm : more = [] \/ ∃ x, more = [x])
  (h : ∀ w' s', Inv X pins U (upd H a (.dK (ZFk kvs k))) s' -> ZCb v w' -> Q w' s') : wpAny (model X.prog X.w) A (call (.builtin "dict.pop") (.ref a :: u :: more)) Q E s := by
 obtain ⟨z, hd, vs, rel, dd⟩ := ZGM I.hok e
 obtain ⟨w', hw, rw'⟩ := ZDz.some_of (v := v) (o := valueAt vs k) (by rw [<- l]; exact rel.val k)
 have hp : (keyPart u).isSome = true := by
  cases k with
  | inl i => obtain ⟨t, q⟩ := (show ∃ t, u = Value.int i t from ry); subst q; rfl
  | inr x => obtain ⟨t, q⟩ := (show ∃ t, u = Value.str x t from ry); subst q; rfl
 have ha : argsOk "dict.pop" ⟨.ref a :: u :: more, []⟩ := by
  rcases hm with q | ⟨x, q⟩
  ·subst q; exact PySem.F.args_dict_pop_2 _ _
  ·subst q; exact PySem.F.args_dict_pop_3 _ _ _
 refine call_meetsIn PySem.F.slot_dict_pop dd.typeIs PySem.F.entry_dict_pop ha (meets_dict_pop_there (ZCo X.prog X.w) a (ZGL ry) more hm hp)
  ⟨vs, w', dd, by rw [<- rel.length]; exact z, hw, fun h' dd' hs => h w' _ ?_ rw'⟩
 have he : ∃ q, h'.get? a = some q := let ⟨q, _, _, hq, _⟩ := dd'; ⟨q, hq⟩
 exact ZFL I (by rw [e]; exact True.intro) hs he (ZGv (UG (ZPL kvs k) z) hd (rel.drop k) dd')
theorem ZUL {Q : Value -> Shared -> Prop} (I : Inv X pins U H s) (e : Rd H a (.dK kvs)) (h : ∀ t s', Inv X pins U H s' -> Q (.int kvs.length t) s') : wpAny (model X.prog X.w) A (call (.builtin "len") [.ref a]) Q E s := by
 obtain ⟨z, hd, vs, rel, dd⟩ := ZEw I.hok e
 refine call_len_dict hd dd (by rw [<- rel.length]; rw [sizeLine_eq] at z; omega) ?_
 rw [<- rel.length]
 exact h _ _ (I.tok _)
end
def ZPM (i : Expr) : Prop := ∀ ov iv, subscripted i false ov iv = operate [ov, iv] (getItem ov iv)
theorem ZRV {prog : Program} {w : World} {A : Around} {E : Value -> Shared -> Prop} {s : Shared} {env : Env} {value slice : Expr} {pos : Pos} {T id : String} {Q : Value -> Shared -> Prop}
  (hl : typeLookup (.type T) "__getitem__" = pure (some (.builtin id))) (hs : ZPM slice)
  (h : wpAny (model prog w) A (eval value env) (fun o s₁ => wpAny (model prog w) A (eval slice env) (fun i s₂ => s₂.TypeIs o T /\ wpAny (model prog w) A (getItem o i) Q E s₂) E s₁) E s) :
  wpAny (model prog w) A (eval (.Subscript value slice pos) env) Q E s := by
 refine Subscript_ (UB h (fun o s₁ h₁ => UB h₁ (fun i s₂ h₂ => ?_) fun _ _ x => x) fun _ _ x => x)
 obtain ⟨hT, h₂⟩ := h₂
 unfold subscriptTail
 refine Ua ?_
 rw [getitemInPython_of_ne hT.not_modules]
 refine Ua (wpAny_specialOf hT hl ?_)
 have fin : wpAny (model prog w) A (subscripted slice false o i) (fun r s₃ => wpAny (model prog w) A (letTemporaryGo value o r >>= fun _ => pure r) Q E s₃) E s₂ := by
  rw [hs o i]
  exact wpAny_operating (UB h₂ (fun r s₃ h₃ => Ua (wpAny_letTemporaryGo (Ug h₃))) fun _ _ x => x)
 first
  | exact Ug (Ua fin)
  | exact Ua (Ug (Ua fin))
  | exact Ua fin
theorem ZLO {X : Cx} {pins : List (Addr × Obj)} {U : St} {H : Hp} {s : Shared} {a : Addr} {y : V} {o : Option V} (I : Inv X pins U H s) (g : ZDq H a y o) : s.TypeIs (.ref a) "dict" := by
 rcases g with ⟨kvs, k, e, _, _⟩ | ⟨kvs, k, b, e, _, _, _⟩
 ·obtain ⟨_, _, vs, _, dd⟩ := ZEw I.hok e
  exact dd.typeIs
 ·obtain ⟨_, _, xs, _, dd⟩ := ZGN I.hok e
  exact dd.typeIs
theorem ZHk {X : Cx} {pins : List (Addr × Obj)} {U : St} {H : Hp} {s : Shared} {a : Addr} {y : V} {o : Option V} (I : Inv X pins U H s) (g : ZDq H a y o) :
  ∀ b, Value.ref a = .ref b -> ∃ ob, s.heap.get? b = some ob /\ ob.dict = none := fun b q => by
 cases q
 rcases g with ⟨kvs, k, e, _, _⟩ | ⟨kvs, k, b, e, _, _, _⟩
 ·obtain ⟨_, _, vs, _, ob, _, _, h1, h2, _⟩ := ZEw I.hok e
  exact ⟨ob, h1, h2.2.1⟩
 ·obtain ⟨_, _, xs, _, ob, _, _, h1, h2, _⟩ := ZGN I.hok e
  exact ⟨ob, h1, h2.2.1⟩
def ZMY (td ty : TE) : TE := fun U H Q => td U H fun x H1 => ty U H1 fun y H2 => ∃ a v, x = .ref a /\ ZDq H2 a y (some v) /\ Q v H2
def ZMZ (td ty tv : TE) : TS := fun D U H => tv U H fun v H1 => td U H1 fun x H2 => ty U H2 fun y H3 => ∃ a H4, x = .ref a /\ ZFt H3 a y v H4 /\ D.nx U H4
section
variable {X : Cx} {o i e value : Expr} {pos pos' tpos : Pos} {td ty tv : TE}
theorem ZRW (hu : X.A.units + 1 < cLine) (ho : PE X o td) (hi : PE X i ty) (hs : ZPM i) : PE X (.Subscript o i pos) (ZMY td ty) := by
 intro pins s U H Q I h
 refine ZRV PySem.F.slot_dict_getitem.lookup hs (thn (ho pins s U H _ I h) fun u s1 ⟨x, H1, I1, rx, q1⟩ => thn (hi pins s1 U H1 _ I1 q1) fun iv s2 ⟨y, H2, I2, ry, a, v, ex, g, q2⟩ => ?_)
 subst ex
 obtain rfl : u = Value.ref a := rx
 exact ⟨ZLO I2 g, ZNa hu I2 g ry fun w' s3 I3 rw' => ⟨v, H2, I3, rw', q2⟩⟩
theorem ZRX (hu : X.A.units + 1 < cLine) (ho : PE X o td) (hi : PE X i ty) (hv : PE X value tv) (hs : swapsWith value (some (.Subscript o i pos')) pos.line X.env = pure false) :
  PS X (.Assign [.Subscript o i pos'] value pos) (ZMZ td ty tv) := by
 intro pins s U H D I h
 refine wpAny_Assign_Subscript (thn (hv pins s U H _ I h) fun r s1 ⟨v, H1, I1, rv, q1⟩ => thn (ho pins s1 U H1 _ I1 q1) fun u s2 ⟨x, H2, I2, rx, q2⟩ => thn (hi pins s2 U H2 _ I2 q2) fun iv s3 ⟨y, H3, I3, ry, a, H4, ex, g, q3⟩ => ?_) hs
 subst ex
 obtain rfl : u = Value.ref a := rx
 exact ZNb hu I3 g ry rv fun s4 I4 => ⟨U, H4, I4, q3⟩
end
theorem ZPN {P : Program} {w : World} {H : Hp} (h : Heap) (hb : sysModules < h.objs.size) : ZCu P w H (h.push { cls := .type "dict", data := .dict #[] }) h.objs.size (.dK []) :=
 ⟨UE _, beq_eq_false_iff_ne.mpr (Ne.symm (Uo hb)), [], .nil, Heap.DictOf.new h⟩
theorem ZPO {P : Program} {w : World} {H : Hp} (h : Heap) (hb : sysModules < h.objs.size) : ZCu P w H (h.push { cls := .type "dict", data := .dict #[] }) h.objs.size (.dT []) :=
 ⟨UE _, beq_eq_false_iff_ne.mpr (Ne.symm (Uo hb)), [], .nil, _, #[], 0, Uf _ rfl, ⟨rfl, rfl, rfl⟩, rfl, rfl, Vn⟩
def ZKU : TE := fun _ H Q => ∀ p, H p = none -> Q (.ref p) (upd H p (.dK []))
def ZKV : TE := fun _ H Q => ∀ p, H p = none -> Q (.ref p) (upd H p (.dT []))
section
variable {X : Cx} {pos : Pos}
theorem ZPP : PE X (.Dict [] [] pos) ZKU := fun pins s U H Q I h =>
 wpAny_Dict_empty ⟨.ref s.heap.objs.size, _, I.laid (a := s.heap.objs.size) (o := .dK []) (t' := s.toks) (fun _ _ q => Ub _ q) (Ue _) (ZPN s.heap I.big), rfl, h _ (I.hok.fresh (Ue _))⟩
theorem ZPQ : PE X (.Dict [] [] pos) ZKV := fun pins s U H Q I h =>
 wpAny_Dict_empty ⟨.ref s.heap.objs.size, _, I.laid (a := s.heap.objs.size) (o := .dT []) (t' := s.toks) (fun _ _ q => Ub _ q) (Ue _) (ZPO s.heap I.big), rfl, h _ (I.hok.fresh (Ue _))⟩
end
structure M1 (X : Cx) (o : Expr) (m : Str) (apos : Pos) (e : Expr) (cpos : Pos) : Prop where
 base : attributeBase o m X.env (eval o X.env) = eval o X.env
 few : ((backTo cpos (starEach [e] X.env)).all (fun x => !x.1) && (backToKw cpos (keywordEach [] X.env)).all (fun x => x.1.isSome)
  && decide (([e] : List Expr).length + ([] : List Keyword).length + (if ([] : List Keyword).isEmpty then 0 else 1) < 30)) = true
 line : (apos.endLine == cpos.line) = true
 trees : backTo cpos (starEach [e] X.env) = [(false, eval e X.env)]
structure M2 (X : Cx) (o : Expr) (m : Str) (apos : Pos) (e f : Expr) (cpos : Pos) : Prop where
 base : attributeBase o m X.env (eval o X.env) = eval o X.env
 few : ((backTo cpos (starEach [e, f] X.env)).all (fun x => !x.1) && (backToKw cpos (keywordEach [] X.env)).all (fun x => x.1.isSome)
  && decide (([e, f] : List Expr).length + ([] : List Keyword).length + (if ([] : List Keyword).isEmpty then 0 else 1) < 30)) = true
 line : (apos.endLine == cpos.line) = true
 trees : backTo cpos (starEach [e, f] X.env) = [(false, eval e X.env), (false, eval f X.env)]
def IsD (H : Hp) (a : Addr) : Prop := (∃ kvs, Rd H a (.dK kvs)) \/ ∃ kvs, Rd H a (.dT kvs)
theorem ZKW {X : Cx} {pins : List (Addr × Obj)} {U : St} {H : Hp} {s : Shared} {a : Addr} (I : Inv X pins U H s) (d : IsD H a) :
  s.TypeIs (.ref a) "dict" /\ (∀ b, Value.ref a = .ref b -> ∃ ob, s.heap.get? b = some ob /\ ob.dict = none) /\ (a == sysModules) = false := by
 rcases d with ⟨kvs, e⟩ | ⟨kvs, e⟩
 ·obtain ⟨_, hd, vs, _, dd⟩ := ZEw I.hok e
  refine ⟨dd.typeIs, fun b q => ?_, hd⟩
  cases q
  obtain ⟨ob, _, _, h1, h2, _⟩ := dd
  exact ⟨ob, h1, h2.2.1⟩
 ·obtain ⟨_, hd, xs, _, dd⟩ := ZGN I.hok e
  refine ⟨dd.typeIs, fun b q => ?_, hd⟩
  cases q
  obtain ⟨ob, _, _, h1, h2, _⟩ := dd
  exact ⟨ob, h1, h2.2.1⟩
section
variable {X : Cx} {pins : List (Addr × Obj)} {U : St} {H : Hp} {s : Shared} {a : Addr} {y d : V} {u r : Value} {o : Option V} {A : Around} {E : Value -> Shared -> Prop}
theorem ZTX {Q : Value -> Shared -> Prop} (hu : A.units + 1 < cLine) (I : Inv X pins U H s) (g : ZDq H a y o) (ry : ZCb y u) (h : ∀ w' s', Inv X pins U H s' -> ZCb (o.getD .non) w' -> Q w' s') :
  wpAny (model X.prog X.w) A (call (.builtin "dict.get") [.ref a, u]) Q E s := by
 rcases g with ⟨kvs, k, e, ey, l⟩ | ⟨kvs, k, b, e, ey, eb, l⟩
 ·subst ey
  obtain ⟨z, hd, vs, rel, dd⟩ := ZEw I.hok e
  refine call_meetsIn PySem.F.slot_dict_get dd.typeIs PySem.F.entry_dict_get (PySem.F.args_dict_get_2 _ _) (meets_dict_get (ZCo X.prog X.w) a (ZGL ry) hd) ⟨_, dd.mapOf, h _ _ (I.tok _) ?_⟩
  rw [l]
  exact (rel.val k).getD rfl
 ·subst ey
  cases (show u = Value.ref b from ry)
  obtain ⟨z, hd, xs, rel, dd⟩ := ZGN I.hok e
  refine call_meetsIn PySem.F.slot_dict_get dd.typeIs PySem.F.entry_dict_get (PySem.F.args_dict_get_2 _ _) (meetsH_dict_get (tupleKind (ZCo X.prog X.w)) a b hd) ⟨tupleKind_room_in1 hu, k, xs, ZGu I.hok eb, dd, h _ _ (I.tok _) ?_⟩
  rw [l]
  exact (rel.val k).getD rfl
end
def ZKX (td ty : TE) : TE := fun U H Q => td U H fun x H1 => ∃ a, x = .ref a /\ IsD H1 a /\ ty U H1 fun y H2 => ∃ o, ZDq H2 a y o /\ Q (o.getD .non) H2
def ZKY (td ty : TE) : TE := fun U H Q => td U H fun x H1 => ∃ a, x = .ref a /\ IsD H1 a /\ ty U H1 fun y H2 => ∃ kvs k v, H2 a = some (.dK kvs) /\ y = kV k /\ ZC1 kvs k = some v /\ Q v (upd H2 a (.dK (ZFk kvs k)))
section
variable {X : Cx} {o e f : Expr} {apos cpos : Pos} {td ty tx : TE}
theorem ZPR (hu : X.A.units + 1 < cLine) (ho : PE X o td) (he : PE X e ty) (m : M1 X o "get" apos e cpos) : PE X (.Call (.Attribute o "get" apos) [e] [] cpos) (ZKX td ty) := by
 intro pins s U H Q I h
 refine wpAny_Call_method m.base m.few m.line PySem.F.plainAttrs_dict PySem.F.slot_dict_get PySem.F.type_dict_get (thn (ho pins s U H _ I h) fun u s1 ⟨x, H1, I1, rx, a, ex, d, q1⟩ => ?_)
 subst ex
 obtain rfl : u = Value.ref a := rx
 obtain ⟨t1, t2, _⟩ := ZKW I1 d
 refine ⟨t1, t2, ?_⟩
 rw [m.trees]
 refine Calls.callWith_builtin rfl (Calls.evalArgs_plain (Calls.spliced_cons (thn (he pins s1 U H1 _ I1 q1) fun iv s2 ⟨y, H2, I2, ry, ov, g, q2⟩ => Calls.spliced_nil ?_)))
 exact ZTX hu I2 g ry fun w' s3 I3 rw' => ⟨_, H2, I3, rw', q2⟩
theorem ZPS (ho : PE X o td) (he : PE X e ty) (m : M1 X o "pop" apos e cpos) : PE X (.Call (.Attribute o "pop" apos) [e] [] cpos) (ZKY td ty) := by
 intro pins s U H Q I h
 refine wpAny_Call_method m.base m.few m.line PySem.F.plainAttrs_dict PySem.F.slot_dict_pop PySem.F.type_dict_pop (thn (ho pins s U H _ I h) fun u s1 ⟨x, H1, I1, rx, a, ex, d, q1⟩ => ?_)
 subst ex
 obtain rfl : u = Value.ref a := rx
 obtain ⟨t1, t2, _⟩ := ZKW I1 d
 refine ⟨t1, t2, ?_⟩
 rw [m.trees]
 refine Calls.callWith_builtin rfl (Calls.evalArgs_plain (Calls.spliced_cons (thn (he pins s1 U H1 _ I1 q1) fun iv s2 ⟨y, H2, I2, ry, kvs, k, v, ea, ey, l, q2⟩ => Calls.spliced_nil ?_)))
 subst ey
 exact ZUK I2 ea ry l (.inl rfl) fun w' s3 I3 rw' => ⟨v, _, I3, rw', q2⟩
end
def ZUa (H : Hp) (vs : List V) (prs : List (Key × V)) : Prop := Paired (fun v (p : Key × V) => ∃ a, v = V.ref a /\ H a = some (.tup [kV p.1, p.2])) vs prs
section
variable {prog : Program} {w : World} {A : Around} {E : Value -> Shared -> Prop} {s : Shared} {κ : Type} [DecidableEq κ] {knd : KeyKind prog w κ}
theorem ZGw {d : Addr} {kvs : List (κ × Value)} {ep : Nat} {Q : List Value -> Shared -> Prop} (hh : A.handled = none) (hd : (d == sysModules) = false) (hm : s.heap.DictAt knd d kvs ep) (hn : kvs.length <= sizeLine)
  (hQ : ∀ s' acc, (∀ b o, s.heap.get? b = some o -> s'.heap.get? b = some o) -> s'.gens = s.gens -> s'.drawn = s.drawn -> s'.os = s.os -> s.heap.objs.size < s'.heap.objs.size -> ItemsOf (fun i v => ∃ k x, kvs[i]? = some (k, x) /\ knd.is k v = true) acc kvs.length -> Q acc.toList s') :
  wpAny (model prog w) A (collect (.ref d)) Q E s := by
 have hdl : d < s.heap.objs.size := let ⟨_, _, ho, _⟩ := hm; Uh ho
 unfold collect
 refine Ua (wpAny_runValue (UX F.entry_proto_collect ?_))
 rw [Around.under_plainId F.plain_proto_collect _]
 show wpAny _ A.in1 (newList [] >>= fun l => again (.builtin "list.__iadd__" ⟨[l, .ref d], []⟩)) _ _ s
 refine Ua (wpAny_newObj_type ?_)
 refine Ug ⟨plainId_quiet F.plain_list_iadd _, UX F.entry_list_iadd ?_⟩
 rw [Around.under_plainId F.plain_list_iadd _]
 generalize hH : s.heap.push { cls := .type "list", data := .seq ([] : List Value).toArray } = H
 have hHs : H.objs.size = s.heap.objs.size + 1 := by rw [<- hH, UW]
 have hm1 : H.DictAt knd d kvs ep := hm.at' fun o e => hH ▸ Ub _ e
 have hT1 : (⟨H, s.gens, s.drawn, s.toks, s.os⟩ : Shared).TypeIs (.ref d) "dict" := hm1.dictOf.typeIs
 show wpAny _ A.in1 (Builtin.List.listExtendWith (.ref s.heap.objs.size) (.ref d) (.ref s.heap.objs.size)) _ _ (⟨H, s.gens, s.drawn, s.toks, s.os⟩ : Shared)
 unfold Builtin.List.listExtendWith
 refine Ua (wpAny_typeOf hT1 ?_)
 have h1 : Builtin.List.listSameRef (.ref s.heap.objs.size) (.ref d) = false := by
  simp only [Builtin.List.listSameRef]
  exact beq_eq_false_iff_ne.mpr (Nat.ne_of_gt hdl)
 have h2 : (Value.type "dict" == Value.type "list") = false := by decide
 have h3 : (Value.type "dict" == Value.type "tuple") = false := by decide
 simp only [h1, h2, h3, Bool.or_false, Uv, if_false]
 refine Ua (wpAny_pyIter_dict hd hm1 ?_)
 generalize hO : ({ cls := .type "dict_keyiterator", data := .fields #[.ref d, .int 0 0, .int kvs.length 0, .int ep 0] } : Obj) = O
 have hm2 : (H.push O).DictAt knd d kvs ep := hm1.at' fun o e => Ub _ e
 have hT2 : (⟨H.push O, s.gens, s.drawn, s.toks, s.os⟩ : Shared).TypeIs (.ref d) "dict" := hm2.dictOf.typeIs
 refine Ua (UJ ?_)
 unfold Builtin.List.listLengthHint
 refine Ua (wpAny_specialOf hT2 PySem.F.slot_dict_len.lookup ?_)
 wp_delta
 refine Ua (wpAny_isInstance (b := true) hT2 (by rw [isSubtype_type]; kernel_rfl) ?_)
 show wpAny _ A.in1 (typeOf (Value.ref d) >>= _) _ _ _
 refine Ua (wpAny_typeOf hT2 ?_)
 refine Ug ?_
 show wpAny _ A.in1 (rule "list.extend.makes-room" >>= fun _ => Builtin.List.listTouch (.ref s.heap.objs.size) >>= fun _ =>
  again (.builtin "list.extend.loop" ⟨[.ref s.heap.objs.size, .ref H.objs.size, .ref s.heap.objs.size], []⟩)) _ _ _
 refine Ua (wpAny_rule ?_)
 have hS₁ : (H.push O).get? s.heap.objs.size = some { cls := .type "list", data := .seq ([] : List Value).toArray } := Ub _ (hH ▸ Uf _ rfl)
 refine Ua ?_
 show wpAny _ A.in1 (updateSeq s.heap.objs.size (·.push .none) >>= fun _ => updateSeq s.heap.objs.size (·.pop)) _ _ _
 refine Ua (wpAny_updateSeq hS₁ rfl ?_)
 have hS₂ := Heap.get?_update_self (Obj.mapSeq (·.push Value.none)) hS₁ rfl
 refine wpAny_updateSeq hS₂ rfl ?_
 have hS₃ := Heap.get?_update_self (Obj.mapSeq (·.pop)) hS₂ rfl
 have oth : ∀ b o, b ≠ s.heap.objs.size -> (H.push O).get? b = some o -> (((H.push O).update s.heap.objs.size (Obj.mapSeq (·.push Value.none))).update s.heap.objs.size (Obj.mapSeq (·.pop))).get? b = some o :=
  fun b o hb e => (Uw _ _ (Ne.symm hb)).trans ((Uw _ _ (Ne.symm hb)).trans e)
 have hdH : d < H.objs.size := by rw [hHs]; exact Vj hdl
 have hHne : H.objs.size ≠ s.heap.objs.size := by rw [hHs]; exact Nat.succ_ne_self _
 have hSf : s.heap.objs.size ∉ [H.objs.size, d] := fun z => by
  simp only [Ul, UK, or_false] at z
  rcases z with z | z
  ·exact hHne z.symm
  ·exact Nat.ne_of_gt hdl z
 have W := (Walks.dictKeys (knd := knd) (A := A.in1) hh H.objs.size d (Uo hdH) kvs ep).toS
 refine Ug ⟨plainId_quiet F.plain_extend_loop _, codeAny_extend_loopS (A := A) W hn _ hSf _ kvs.length 0 _ _ _ rfl (UE _) ⟨?_, ?_⟩ hS₃ (ItemsOf.nil _) fun s' acc' c' hmv hS' hacc => ?_⟩
 ·exact ⟨_, oth _ _ hHne (Uf _ (by rw [<- hO]; rfl)), by rw [<- hO], by rw [<- hO]; rfl⟩
 ·exact hm2.at' fun o e => oth _ _ (Uo hdl) e
 ·show wpAny _ A (load s.heap.objs.size >>= _) _ _ s'
  refine Ua (wpAny_load hS' ?_)
  refine Ug (hQ s' acc' (fun b ob e => hmv.heap b ob (fun hb => ?_) (oth _ _ (Uo (Uh e)) (Ub _ (hH ▸ Ub _ e)))) hmv.gens hmv.drawn hmv.os (Uh hS') hacc)
  have hlt := Uh e
  simp only [Ul, UK, or_false] at hb
  rcases hb with h | h
  ·exact Uo hlt h
  ·rw [h, hHs] at hlt; exact absurd hlt (Nat.not_lt.mpr (Nat.le_succ _))
theorem ZLP {d : Addr} {kvs : List (κ × Value)} {ep : Nat} {Q : Value -> Shared -> Prop} (hh : A.handled = none) (hd : (d == sysModules) = false) (hm : s.heap.DictAt knd d kvs ep) (h64 : kvs.length < 64)
  (hI : ∀ acc : Array Value, ItemsOf (fun i v => ∃ k x, kvs[i]? = some (k, x) /\ knd.is k v = true) acc kvs.length -> ∃ ns, IntsAre acc.toList ns /\ ∀ (s' : Shared) (l : Addr) (out : Array Value) (ns' : List Int) (e : Nat), s.heap.objs.size <= l -> (∀ b o, s.heap.get? b = some o -> s'.heap.get? b = some o) -> s'.gens = s.gens -> s'.drawn = s.drawn -> s'.os = s.os ->
   s'.heap.get? l = some (seqObj "list" out e) -> out.size = kvs.length -> IntsAre out.toList ns' -> ns'.Perm ns -> ns'.Pairwise (· <= ·) -> Q (.ref l) s') :
  wpAny (model prog w) A (call (.builtin "sorted") [.ref d]) Q E s := by
 refine Calls.call_function_entry kind_sorted plain_sorted entry_sorted (args_sorted1 _) ?_
 unfold Builtin.«sorted»
 refine Ua (m := checkCount "sorted" 1 1 _) (Ug ?_)
 refine Ua (ZGw (knd := knd) hh hd hm (by rw [sizeLine_eq]; omega) fun s1 acc hk e1 e2 e3 hlt hacc => ?_)
 obtain ⟨ns, hns, hQ⟩ := hI acc hacc
 refine Ua (wpAny_newList (hsz := by rw [UA, hacc.1, sizeLine_eq]; omega) ?_)
 have hoL : (s1.heap.push (seqObj "list" acc.toList.toArray 0)).get? s1.heap.objs.size = some (seqObj "list" acc.toList.toArray 0) := Uf _ rfl
 show wpAny _ _ _ _ _ { s1 with heap := s1.heap.push (seqObj "list" acc.toList.toArray 0) }
 refine Ua (UJ (wpAny_call_entry slot_list_sort ⟨_, hoL, rfl⟩ entry_list_sort (list_sort_tree hoL hns (by rw [UA, hacc.1]; exact h64) fun out ns' a1 a2 a3 => ⟨_, rfl, ?_⟩) (args_list_sort _)))
 refine Ug ⟨_, rfl, ?_⟩
 obtain ⟨e, he⟩ := sortedHeap_at (out := out) hoL
 have hle : s.heap.objs.size <= s1.heap.objs.size := Nat.le_of_lt hlt
 refine hQ _ _ out ns' e hle (fun b o eb => ?_) e1 e2 e3 he ?_ a1 a2 a3
 ·have hb := Uh (hk _ _ eb)
  exact (sortedHeap_old (Uo hb) (by rw [UW]; exact Vj hb)).trans (Ub _ (hk _ _ eb))
 ·have l1 := IntsAre.length a1
  have l2 := IntsAre.length hns
  have l3 := a2.length_eq
  have l4 := hacc.1
  simp only [UA] at l1 l2
  omega
end
theorem ZJJ : ∀ (vs : List (Key × Value)) (ns : List Int) (l : List Value), vs.map (·.1) = ns.map Sum.inl -> l.length = vs.length -> (∀ (j : Nat) (v : Value), l[j]? = some v -> ∃ k x, vs[j]? = some (k, x) /\ ZFi k v = true) -> IntsAre l ns
 | [], [], [], _, _, _ => .nil
 | [], [], _ :: _, _, h, _ => by simp at h
 | [], _ :: _, _, h, _, _ => by simp at h
 | _ :: _, [], _, h, _, _ => by simp at h
 | _ :: _, _ :: _, [], _, h, _ => by simp at h
 | (k, x) :: vs, n :: ns, v :: l, h1, h2, h3 => by
  simp only [UF, List.cons.injEq] at h1
  obtain ⟨rfl, h1⟩ := h1
  obtain ⟨k', x', e, hk⟩ := h3 0 v rfl
  simp only [List.getElem?_cons_zero, Option.some.injEq, Prod.mk.injEq] at e
  obtain ⟨rfl, rfl⟩ := e
  rcases ZC9 hk with ⟨i, t, e1, e2⟩ | ⟨y, t, e1, e2⟩
  ·cases e1; cases e2
   refine .cons _ _ (ZJJ vs ns l h1 (by simpa using h2) fun j v e => ?_)
   have := h3 (j + 1) v (by simpa using e)
   simpa using this
  ·cases e1
theorem KV.keysEq {κ : Type} : ∀ {kvs : List (κ × V)} {us : List (κ × Value)}, KV kvs us -> us.map (·.1) = kvs.map (·.1)
 | _, _, .nil => rfl
 | _, _, .cons h t => by rw [UF, UF, h.1, KV.keysEq t]
theorem IntsAre.vals : ∀ {vs : List Value} {ns : List Int}, IntsAre vs ns -> ZCh (ns.map V.int) vs
 | _, _, .nil => .nil
 | _, _, .cons _ t h => .cons ⟨t, rfl⟩ (IntsAre.vals h)
def ZKZ : List V -> Hp -> VK -> Prop := fun xs H Q => ∃ (p : Addr) (kvs : List (Key × V)) (ns : List Int), xs = [.ref p] /\ Rd H p (.dK kvs) /\ kvs.map (·.1) = ns.map Sum.inl /\ kvs.length < 64 /\ ∀ (l : Addr) (ns' : List Int), H l = none -> ns'.Perm ns -> ns'.Pairwise (· <= ·) -> Q (.ref l) (upd H l (.lst (ns'.map V.int)))
theorem ZMa {X : Cx} (hc : X.calm = true) : ZC8 X (.builtin "sorted") ZKZ := by
 intro pins s U H xs us Q I r h
 obtain ⟨p, kvs, ns, rfl, hd, hns, h64, q⟩ := h
 obtain ⟨u, rfl, ru⟩ := r.one
 cases ru
 obtain ⟨z, hd, vs, rel, dd⟩ := ZEw I.hok hd
 obtain ⟨ep, dd⟩ := dd.dictAt
 have hlen : vs.length = kvs.length := rel.length.symm
 refine ZLP (I.ok.hd hc) hd dd (by rw [hlen]; exact h64) fun acc hacc => ⟨ns, ?_, fun s' l out ns' e hl hk e1 e2 e3 he ho a1 a2 a3 => ?_⟩
 ·exact ZJJ vs ns acc.toList (by rw [KV.keysEq rel]; exact hns) (by rw [UA]; exact hacc.1) fun j v e => hacc.2 j v (by simpa using e)
 ·obtain ⟨h', g', d', tk, os'⟩ := s'
  simp only at e1 e2 e3
  subst e1 e2 e3
  refine ⟨.ref l, upd H l (.lst (ns'.map V.int)), I.laid (t' := tk) hk hl ?_, rfl, q l ns' (I.hok.fresh hl) a2 a3⟩
  refine ⟨?_, out.toList, e, IntsAre.vals a1, he⟩
  have l1 := a2.length_eq
  have l2 := congrArg List.length hns
  simp only [Ui] at l2 ⊢
  rw [sizeLine_eq]
  omega
theorem ZGx : ∀ {ns : List Int} {vs : List Value}, ZCh (ns.map V.int) vs -> IntsAre vs ns
 | [], _, .nil => .nil
 | _ :: _, _, .cons ⟨t, e⟩ h => by subst e; exact .cons _ t (ZGx h)
section
variable {X : Cx} {o i value : Expr} {pos pos' : Pos} {td ty tv : TE}
theorem ZUb {b : Expr} (h : ZJy b = false) : ZPM b := by
 intro ov iv
 cases b <;> first | rfl | cases h
theorem ZEC (hu : X.A.units + 1 < cLine) (ho : QE X o td) (hi : QE X i ty) (hs : ZJy i = false := by rfl) : QE X (.Subscript o i pos) (ZMY td ty) := ⟨ZRW hu ho.h hi.h (ZUb hs)⟩
theorem ZEs (hu : X.A.units + 1 < cLine) (hv : QE X value tv) (ho : QE X o td) (hi : QE X i ty) (hs : ZEB value = false := by rfl) : QS X (.Assign [.Subscript o i pos'] value pos) (ZMZ td ty tv) := ⟨ZRX hu ho.h hi.h hv.h (ZFP hs)⟩
theorem ZFT : QE X (.Dict [] [] pos) ZKU := ⟨ZPP⟩
end
section
variable {U : St} {H : Hp} {Q : VK} {D : ZDT}
def ZIZ (x y : V) (H : Hp) (Q : VK) : Prop := ∃ a v, x = .ref a /\ ZDq H a y (some v) /\ Q v H
theorem ZPT {td ty : TE} (h : td U H fun x H1 => ty U H1 fun y H2 => ZIZ x y H2 Q) : ZMY td ty U H Q := h
def ZJ1 (v x y : V) (H : Hp) (R : Hp -> Prop) : Prop := ∃ a H4, x = .ref a /\ ZFt H a y v H4 /\ R H4
theorem ZPU {td ty tv : TE} (h : tv U H fun v H1 => td U H1 fun x H2 => ty U H2 fun y H3 => ZJ1 v x y H3 (D.nx U)) : ZMZ td ty tv D U H := h
def ZJ2 (H : Hp) (Q : VK) : Prop := ∀ p, H p = none -> Q (.ref p) (upd H p (.dK []))
theorem ZPV (h : ZJ2 H Q) : ZKU U H Q := h
theorem ZLu (h : ∀ p H2, H p = none -> H2 p = some (.dK []) -> ZCW H H2 -> Q (.ref p) H2) : ZJ2 H Q := fun p hp => h p _ hp ZCZ (ZCW.new hp)
end
def ZCx (m : PL) (t : Int) : Option Int := (m.find? fun kv => decide (kv.1 = t)).map (·.2)
def ZCn (m : PL) (t h : Int) : PL := if (m.any fun kv => decide (kv.1 = t)) = true then m.map fun kv => if kv.1 = t then (kv.1, h) else kv else m ++ [(t, h)]
def dkE (p : Int × Int) : Key × V := (.inl p.1, .int p.2)
def ZCl (m : PL) : List (Key × V) := m.map dkE
theorem ZKa {a b : Int} : ((Sum.inl a : Key) = Sum.inl b) ↔ a = b := ⟨fun h => Sum.inl.inj h, fun h => h ▸ rfl⟩
theorem ZTY (m : PL) (t : Int) : ((ZCl m).any fun kv => decide (kv.1 = Sum.inl t)) = m.any fun kv => decide (kv.1 = t) := by
 unfold ZCl
 rw [List.any_map]
 congr 1
 funext p
 simp only [Function.comp, dkE, ZKa]
theorem ZNc (m : PL) (t h : Int) : ZDf (ZCl m) (.inl t) (.int h) = ZCl (ZCn m t h) := by
 unfold ZDf ZCn
 rw [ZTY]
 by_cases c : (m.any fun kv => decide (kv.1 = t)) = true
 ·rw [if_pos c, if_pos c]
  unfold ZCl
  rw [UU, UU]
  refine UL fun p _ => ?_
  simp only [Function.comp, dkE, ZKa]
  split <;> simp
 ·rw [if_neg c, if_neg c]
  simp [ZCl, dkE]
theorem ZFU (t : Int) : ∀ m : PL, ZC1 (ZCl m) (.inl t) = (ZCx m t).map V.int
 | [] => rfl
 | p :: m => by
  have ih := ZFU t m
  by_cases e : p.1 = t
  ·have : ZC1 (ZCl (p :: m)) (.inl t) = some (.int p.2) := ZDX (p := dkE p) (by simp [dkE, e])
   rw [this]
   simp [ZCx, Uz, e]
  ·have : ZC1 (ZCl (p :: m)) (.inl t) = ZC1 (ZCl m) (.inl t) := ZDY (p := dkE p) (by simp [dkE, e])
   rw [this, ih]
   simp [ZCx, Uz, e]
theorem ZKb {H : Hp} {Q : VK} {p : Addr} {m : PL} {t v : Int} (h1 : H p = some (.dK (ZCl m))) (h2 : ZCx m t = some v) (h : Q (.int v) H) : ZIZ (.ref p) (.int t) H Q :=
 ⟨p, .int v, rfl, by
  have := ZDq.k (k := Sum.inl t) h1
  rw [ZFU, h2] at this
  exact this, h⟩
theorem ZGO {H : Hp} {R : Hp -> Prop} {p : Addr} {m : PL} {t v : Int} (h1 : H p = some (.dK (ZCl m))) (hz : m.length < sizeLine) (h : ∀ H2, H2 p = some (.dK (ZCl (ZCn m t v))) -> Kp p H H2 -> R H2) : ZJ1 (.int v) (.ref p) (.int t) H R :=
 ⟨p, _, rfl, ZFt.k (k := Sum.inl t) h1 (by simpa [ZCl] using hz), by
  rw [ZNc]
  exact h _ ZCZ Kp.upd⟩
theorem ZH2 {H : Hp} {Q : VK} (h : ∀ p H2, H p = none -> H2 p = some (.dK (ZCl [])) -> ZCW H H2 -> Q (.ref p) H2) : ZJ2 H Q := ZLu h
theorem ZH3 (m : PL) (t h j : Int) : ZCx (ZCn m t h) j = if j = t then some h else ZCx m j := by
 have e1 := ZFU j (ZCn m t h)
 rw [<- ZNc, ZH1] at e1
 have e2 := ZFU j m
 rw [e2] at e1
 simp only [ZKa] at e1
 by_cases e : j = t
 ·rw [if_pos e] at e1 ⊢
  cases hg : ZCx (ZCn m t h) j with
  | none => rw [hg] at e1; cases e1
  | some x => rw [hg] at e1; simp at e1; rw [e1]
 ·rw [if_neg e] at e1 ⊢
  cases hg : ZCx (ZCn m t h) j <;> cases hm : ZCx m j <;> rw [hg, hm] at e1 <;> simp_all
theorem ZGP (m : PL) (t h : Int) : (ZCn m t h).length <= m.length + 1 := by
 unfold ZCn
 split <;> simp
theorem ZEZ {t : Int} : ∀ {m : PL}, ZCx m t = none ↔ t ∉ m.map (·.1)
 | [] => by simp [ZCx]
 | p :: m => by
  have ih := ZEZ (t := t) (m := m)
  by_cases e : p.1 = t
  ·simp [ZCx, Uz, e]
  ·have e' : ¬ t = p.1 := fun z => e z.symm
   have : ZCx (p :: m) t = ZCx m t := by simp [ZCx, Uz, e]
   rw [this, ih]
   simp [e']
theorem ZNd (m : PL) (t h : Int) : (ZCn m t h).map (·.1) = if t ∈ m.map (·.1) then m.map (·.1) else m.map (·.1) ++ [t] := by
 have ha : (m.any fun kv => decide (kv.1 = t)) = true ↔ t ∈ m.map (·.1) := by simp
 unfold ZCn
 by_cases c : (m.any fun kv => decide (kv.1 = t)) = true
 ·rw [if_pos c, if_pos (ha.mp c), UU]
  refine UL fun p _ => ?_
  simp only [Function.comp]
  split <;> rfl
 ·rw [if_neg c, if_neg (fun z => c (ha.mpr z))]
  simp
theorem ZED {m : PL} {t h : Int} (n : (m.map (·.1)).Nodup) : ((ZCn m t h).map (·.1)).Nodup := by
 rw [ZNd]
 split
 ·exact n
 ·rename_i c
  rw [Vk]
  exact ⟨n, by simp, fun a ha b hb e => c (by simp at hb; subst hb; subst e; exact ha)⟩
theorem ZDl {t h : Int} : ∀ {m : PL}, (m.map (·.1)).Nodup -> (ZCx m t = some h ↔ (t, h) ∈ m)
 | [], _ => by simp [ZCx]
 | p :: m, n => by
  simp only [UF, Vf] at n
  have ih := ZDl (t := t) (h := h) n.2
  by_cases e : p.1 = t
  ·have : ZCx (p :: m) t = some p.2 := by simp [ZCx, Uz, e]
   rw [this]
   constructor
   ·intro z; cases z; rw [<- e]; exact Ux
   ·intro z
    rcases Ul.mp z with z | z
    ·rw [<- z]
    ·exact absurd (Uy.mpr ⟨_, z, rfl⟩) (by rw [<- e] at *; exact n.1)
  ·have : ZCx (p :: m) t = ZCx m t := by simp [ZCx, Uz, e]
   rw [this, ih]
   constructor
   ·exact fun z => Us _ z
   ·intro z
    rcases Ul.mp z with z | z
    ·exact absurd (by rw [<- z]) e
    ·exact z
def ZD4 (prs : PL) : PL := prs.foldl (fun m p => ZCn m p.1 p.2) []
theorem ZHl : ∀ (prs acc : PL), (acc.map (·.1)).Nodup -> ((prs.foldl (fun m p => ZCn m p.1 p.2) acc).map (·.1)).Nodup
 | [], _, h => h
 | p :: prs, acc, h => ZHl prs _ (ZED h)
theorem ZIa (prs : PL) : ((ZD4 prs).map (·.1)).Nodup := ZHl prs [] Vn
theorem ZJK : ∀ (prs acc : PL), (prs.foldl (fun m p => ZCn m p.1 p.2) acc).length <= acc.length + prs.length
 | [], acc => Ue _
 | p :: prs, acc => by
  have h1 := ZJK prs (ZCn acc p.1 p.2)
  have h2 := ZGP acc p.1 p.2
  show (prs.foldl (fun m p => ZCn m p.1 p.2) (ZCn acc p.1 p.2)).length <= acc.length + (prs.length + 1)
  omega
theorem ZKc (prs : PL) : (ZD4 prs).length <= prs.length := by
 have := ZJK prs []
 simpa [ZD4] using this
theorem ZCY.prs {H : Hp} : ∀ {vs : List V} {l : PL}, ZCY H vs l -> ZUa H vs (l.map dkE)
 | _, _, .nil => .nil
 | _, _, .cons ⟨a, e, z⟩ t => .cons ⟨a, e, z⟩ (ZCY.prs t)
theorem ZCY.length {H : Hp} {vs : List V} {l : PL} (h : ZCY H vs l) : vs.length = l.length := Paired.length h
theorem ZCY.snoc {H : Hp} : ∀ {vs : List V} {l : PL}, ZCY H vs l -> ∀ {a : Addr} {p : Int × Int}, H a = some (.tup [.int p.1, .int p.2]) -> ZCY H (vs ++ [.ref a]) (l ++ [p])
 | _, _, .nil, a, p, z => .cons ⟨a, rfl, z⟩ .nil
 | _, _, .cons h t, a, p, z => .cons h (ZCY.snoc t z)
theorem ZCY.at {H : Hp} : ∀ {vs : List V} {l : PL}, ZCY H vs l -> ∀ {i : Nat} {v : V}, vs[i]? = some v -> ∃ a p, v = .ref a /\ l[i]? = some p /\ H a = some (.tup [.int p.1, .int p.2])
 | _, _, .nil, i, v, e => by simp at e
 | _, _, @Paired.cons _ _ _ _ p _ _ ⟨a, e1, z⟩ t, 0, v, e => by
  simp at e; subst e
  exact ⟨a, p, e1, rfl, z⟩
 | _, _, .cons _ t, i + 1, v, e => by
  obtain ⟨a, p, h1, h2, h3⟩ := ZCY.at t (by simpa using e)
  exact ⟨a, p, h1, by simpa using h2, h3⟩
theorem ZCY.kp {p : Addr} {H H' : Hp} (k : Kp p H H') {n : Nat} {xs : List V} (hp : H p = some (.lst xs)) : ∀ {vs : List V} {l : PL}, ZCY H vs l -> ZCY H' vs l
 | _, _, .nil => .nil
 | _, _, .cons ⟨a, e, z⟩ t => .cons ⟨a, e, k _ _ z (fun c => by subst c; rw [hp] at z; cases z)⟩ (ZCY.kp k (n := n) hp t)
theorem ZMb {H : Hp} {Q : VK} {p : Addr} {m : PL} (h1 : H p = some (.dK (ZCl m))) (hz : m.length < 64) (h : ∀ l H2 (ns : List Int), H l = none -> H2 l = some (.lst (ns.map V.int)) -> ns.Perm (m.map (·.1)) -> ns.Pairwise (· <= ·) -> ZCW H H2 -> Q (.ref l) H2) : ZKZ [.ref p] H Q :=
 ⟨p, _, m.map (·.1), rfl, .inl h1, by simp [ZCl, dkE], by simpa [ZCl] using hz, fun l ns hl hp hs => h l _ ns hl ZCZ hp hs (ZCW.new hl)⟩
def Asc (cv : PL) : Prop := cv.Pairwise fun a b => a.1 < b.1
def ZIq (m cv : PL) : Prop := Asc cv /\ ∀ t h, (t, h) ∈ cv ↔ ZCx m t = some h
def ZDt (m : PL) (ns : List Int) : PL := ns.map fun t => (t, (ZCx m t).getD 0)
theorem ZIb {m : PL} {ns : List Int} (nd : (m.map (·.1)).Nodup) (hp : ns.Perm (m.map (·.1))) (hs : ns.Pairwise (· <= ·)) : ZIq m (ZDt m ns) := by
 have hn : ns.Nodup := hp.nodup_iff.mpr nd
 refine ⟨?_, fun t h => ?_⟩
 ·unfold Asc ZDt
  rw [List.pairwise_map]
  exact (hs.and hn).imp fun ⟨a, b⟩ => by
   show _ < _
   omega
 ·unfold ZDt
  rw [Uy]
  constructor
  ·rintro ⟨u, hu, e⟩
   have hu' := hp.mem_iff.mp hu
   cases hg : ZCx m u with
   | none => exact absurd hu' (ZEZ.mp hg)
   | some x =>
    rw [hg] at e
    cases e
    exact hg
  ·intro hg
   refine ⟨t, hp.mem_iff.mpr ?_, by rw [hg]; rfl⟩
   by_cases c : t ∈ m.map (·.1)
   ·exact c
   ·rw [ZEZ.mpr c] at hg; cases hg
theorem ZTZ : bootBuiltins "sum" = some (.builtin "sum") := by decide +kernel
section
variable {X : Cx} {pos pos' : Pos} {e : Expr} {te : TE}
theorem ZUc {op : Operator} {r : R2} (ho : OpR X (inplaceOp op) r) : PIp X op r := ho
theorem ZKd {i : Nat} {x : Str} {op : Operator} {r : R2} (hN : X.N.Nodup) (hi : X.N[i]? = some x) (hx : Loc X.env.scope x) (ho : OpR X (inplaceOp op) r) (he : QE X e te) (hf : X.fn x = true \/ X.env.scope.names.lookup x = some .local := by first | exact .inl rfl | exact .inr rfl | assumption) :
 QS X (.AugAssign (.Name x pos') op e pos) (ZOg i te r) := ⟨ZSb hN hi hx he.h (ZUc ho) hf⟩
theorem ZTa {i : Nat} {r : R2} {D : ZDT} {U : St} {H : Hp} {x : V} (e1 : U[i]? = some (some x)) (h : te U H fun y H1 => r x y H1 fun z H2 => D.nx (U.set i (some z)) H2) : ZOg i te r D U H := ⟨x, e1, h⟩
end
def ZQT (Pv : St -> Hp -> Prop) (μ : St -> Hp -> Nat) (tb : TS) (D : ZDT) (n : Nat) (U : St) (H : Hp) : Prop :=
 ∃ N : St -> Hp -> Prop, (∀ U' H', N U' H' -> ∃ m', m' < n /\ m' = μ U' H' /\ Pv U' H') /\ tb { D with nx := N, ct := N, bk := D.nx } U H
theorem ZKe {c : TT} {tb : TS} {D : ZDT} {U : St} {H : Hp} (Pv : St -> Hp -> Prop) (μ : St -> Hp -> Nat) (h0 : Pv U H)
  (hs : ∀ U H, Pv U H -> c U H fun b H1 => if b = true then ZQT Pv μ tb D (μ U H) U H1 else D.nx U H1) : ZJ8 c tb D U H := by
 refine ⟨fun m U H => m = μ U H /\ Pv U H, ⟨_, rfl, h0⟩, ?_⟩
 rintro m U H ⟨rfl, p⟩
 exact hs U H p
theorem ZLv {Pv : St -> Hp -> Prop} {μ : St -> Hp -> Nat} {tb : TS} {D : ZDT} {n : Nat} {U : St} {H : Hp} (h : tb { D with nx := fun U' H' => Pv U' H' /\ μ U' H' < n, ct := fun U' H' => Pv U' H' /\ μ U' H' < n, bk := D.nx } U H) : ZQT Pv μ tb D n U H :=
 ⟨_, fun U' H' ⟨p, l⟩ => ⟨_, l, rfl, p⟩, h⟩
theorem ZCW.kpN {H H1 H2 : Hp} {l : Addr} (s : ZCW H H1) (hl : H l = none) (k : Kp l H1 H2) : ZCW H H2 := fun q o e => k q o (s q o e) (ZDB e hl)
theorem ZCY.kpL {p : Addr} {H H' : Hp} (k : Kp p H H') {xs : List V} (hp : H p = some (.lst xs)) {vs : List V} {l : PL} (h : ZCY H vs l) : ZCY H' vs l := ZCY.kp k (n := 0) hp h
theorem ZCY.app {H : Hp} : ∀ {vs : List V} {l : PL}, ZCY H vs l -> ∀ {ws : List V} {m : PL}, ZCY H ws m -> ZCY H (vs ++ ws) (l ++ m)
 | _, _, .nil, _, _, h => h
 | _, _, .cons h t, _, _, g => .cons h (ZCY.app t g)
section
variable {K : W.Frag} {H H' : Hp} {Q : VK} {a b : Addr} {xs ys : List V} {cv l m : PL}
def PrT (H : Hp) (a : Addr) (cv : PL) : Prop := ∃ vs, H a = some (.tup vs) /\ ZCY H vs cv
def PrL (H : Hp) (a : Addr) (cv : PL) : Prop := ∃ vs, H a = some (.lst vs) /\ ZCY H vs cv
theorem PrT.same (h : PrT H a cv) (s : ZCW H H') : PrT H' a cv := by
 obtain ⟨vs, h1, h2⟩ := h
 exact ⟨vs, s _ _ h1, h2.same s⟩
end
section
variable {X : Cx}
theorem ZNe {N : List Str} {sc : Scope} {own caps : List Str} {ks : List Nat} {elt tg iter : Expr} {ifs : List Expr} {scope : Scope} {pos cpos : Pos} {wi : TI} {g : TG} {tt : TT} {te : TE}
  (hN : X.N = N) (hsc : X.env.scope = sc) (hc : X.calm = true) (S : ZGr N sc own caps ks scope) (hi : PI X tg iter wi)
  (hg : ∀ cl C s₂ H₂ fp, PG (ZCk X (own ++ caps) scope cl C s₂ H₂ fp) tg g)
  (ht : ∀ cl C s₂ H₂ fp, ZIm (ZCk X (own ++ caps) scope cl C s₂ H₂ fp) ifs tt)
  (he : ∀ cl C s₂ H₂ fp, PE (ZCk X (own ++ caps) scope cl C s₂ H₂ fp) elt te)
  (hs : ∀ x, foldedSetIterable iter X.env x = pure x) {use : Option (Value -> Sem Unit)} {QQ : Value -> Shared -> Prop} {pins : List (Addr × Obj)} {s : Shared} {U : St} {H : Hp} {Q : VK} (I : Inv X pins U H s)
  (fin : ∀ (C l : Addr) (H' : Hp) (s' : Shared), (∃ m, s'.heap.Ns C m) -> Inv X pins U H' s' -> ZDo X pins H' C -> Q (.ref l) H' -> compPost (model X.prog X.w) X.A X.xe use QQ (.ref l) C (.ok .next) s')
  (h : ZHX own.length ks wi g tt te U H Q) :
  wpAny (model X.prog X.w) X.A (comprehension (.ListComp elt [⟨tg, iter, ifs, 0⟩] scope pos) scope X.env cpos (newList []) false (eval iter X.env) use) QQ X.xe s := by
 subst hN hsc
 obtain ⟨cl, hclos, hcl, hclf⟩ := ZIX (scope := scope) (env := X.env) fun y hy hf => I.ok.has y.1 (.inl (S.free y hy hf))
 refine wpAny_comprehension_free (use := use) rfl hs hclos S.kind S.names (UB (hi pins s U H _ I h) (fun xv s₁ h₁ => UB h₁ (fun it s₂ h₂ => ?_) fun _ _ e => e) fun _ _ e => e)
 obtain ⟨it, fp, tn, J, H2, e, I2, T, st2, f2, q⟩ := h₂
 subst e
 refine wpAny_newObj_type (wpAny_newFunctionEnv S.nocell (by intro y hy; simp at hy) (fun h₁ hns₁ hsb₁ => ?_) S.kind)
 dsimp only at hns₁ hsb₁ ⊢
 generalize hH2 : s₂.heap.push { cls := .type "list", dict := none, data := .seq ([] : List Value).toArray } = HP at hns₁ hsb₁ ⊢
 have hC : HP.objs.size = s₂.heap.objs.size + 1 := by rw [<- hH2, UW]
 have hDC : s₂.heap.objs.size ≠ HP.objs.size := by rw [hC]; exact Uo (UM _)
 have hCle : s₂.heap.objs.size <= HP.objs.size := by rw [hC]; exact Nat.le_succ _
 have old : ∀ b o, s₂.heap.get? b = some o -> h₁.get? b = some o := fun b o e => by
  have hb : b < s₂.heap.objs.size := Uh e
  exact hsb₁.extBut b o (by rw [hC]; exact Uo (Vj hb)) (Ub _ (hH2 ▸ Ub _ e))
 have hacc : h₁.get? s₂.heap.objs.size = some { cls := .type "list", dict := none, data := .seq ([] : List Value).toArray } := hsb₁.extBut _ _ hDC (Ub _ (hH2 ▸ Uf _ rfl))
 have fpl : ∀ b ∈ fp, b < s₂.heap.objs.size := fun b hb => by
  obtain ⟨o, e, _⟩ := T.obj _ _ st2 b hb
  exact Uh e
 have hfD : H2 s₂.heap.objs.size = none := I2.hok.fresh (Ue _)
 obtain ⟨W, ⟨m0, w0⟩, turn⟩ := q s₂.heap.objs.size hfD
 have hkr : ∀ x, (compEnvC scope cl HP.objs.size X.env).kindOf x = (scope.names.lookup x).map fun k => if (k == NameKind.free && X.env.scope.kind == .function && X.env.kindOf x == some .cell) then NameKind.cell else k := fun x => ZEq (env := X.env) scope.names x
 have cellOfN : ∀ x, scope.names.lookup x = some .free -> X.env.kindOf x = some .cell := fun x e => S.free (x, .free) (PySem.mem_of_lookup e) rfl
 -- the context within
 have ok : (ZCk X (own ++ caps) scope cl HP.objs.size s₂ H2 fp).Ok := by
  refine ⟨I2.ok.mod, S.kind, I2.ok.glob, I2.ok.blt, hCle, fun x y c e1 e2 => I2.ok.inj x y c (hcl x c e1) (hcl y c e2), fun x hx => ?_, fun x c z => (by cases z), I2.ok.hd, I2.ok.frames, .inl rfl, fun b hb => ⟨?_, fun x c e => (f2 b hb).2.2.2.2.1 x c (hcl x c e)⟩,
   I2.bs, UG I2.ok.bsz I2.sz, fun b o e hb => ?_, fun b hb z => ?_, I2.stack, I2.stkFree⟩
  ·have hx' : (scope.names.lookup x).map (fun k => if (k == NameKind.free && X.env.scope.kind == .function && X.env.kindOf x == some .cell) then NameKind.cell else k) = some .cell \/
     (scope.names.lookup x).map (fun k => if (k == NameKind.free && X.env.scope.kind == .function && X.env.kindOf x == some .cell) then NameKind.cell else k) = some .free := by rw [<- hkr x]; exact hx
   cases e : scope.names.lookup x with
   | none => rw [e] at hx'; rcases hx' with z | z <;> cases z
   | some k =>
    have hm := PySem.mem_of_lookup e
    have hk : k = .free := by
     by_cases hkf : k = .free
     ·exact hkf
     ·have hb : (k == NameKind.free) = false := by simpa using hkf
      rw [e] at hx'
      simp only [Ve, hb, Bool.false_and, Uv, if_false, Option.some.injEq] at hx'
      rcases hx' with z | z
      ·exact absurd z (S.nocell _ hm)
      ·exact z
    exact hclf _ hm hk
  ·exact Uo (Uk (fpl b hb) hCle)
  ·rcases (f2 b hb).2.2.2.1 with z | z
   ·exact I2.ok.noex b o e z
   ·exact absurd (Uk (Uh e) (UG I2.ok.bsz z)) (Vi _)
  ·rcases Ul.mp (I2.stkSub b z) with r | r
   ·exact (f2 b hb).2.1 r
   ·exact (f2 b hb).2.2.1 r
 have hlen : (ZEL own.length ks U).length = (own ++ caps).length := by
  have := congrArg List.length S.cap
  simp only [Ui] at this
  simp [ZEL, this]
 have I4 : Inv (ZCk X (own ++ caps) scope cl HP.objs.size s₂ H2 fp) [] (ZEL own.length ks U) (upd H2 s₂.heap.objs.size (.lst [])) { s₂ with heap := h₁, toks := s₂.toks + ([] : List (Str × Value)).length } := by
  obtain ⟨mX, hnX, hlX⟩ := I2.loc
  refine ⟨ok, rfl, I2.bare, Un.laid old (Ue _) hfD, ⟨_, hns₁, fun i x v e1 e2 e3 => ?_⟩, fun x c e => ?_, ?_, fun x c e => ?_, fun p hp => (by cases hp), I2.hok.laid old (Ue _) ⟨UE _, [], 0, .nil, hacc⟩, hlen⟩
  ·have e1 : (own ++ caps)[i]? = some x := e1
   by_cases hio : i < own.length
   ·unfold ZEL at e2
    rw [List.getElem?_append_left (by simpa using hio), List.getElem?_replicate] at e2
    rw [if_pos hio] at e2
    cases e2
   ·unfold ZEL at e2
    rw [Vl (by simpa using hio), List.length_replicate, Ut] at e2
    rw [Vl (by simpa using hio)] at e1
    cases ek : ks[i - own.length]? with
    | none => rw [ek] at e2; cases e2
    | some k =>
     rw [ek] at e2
     have e2' := ZJG (Option.some.inj e2)
     have hcap := congrArg (fun l => l[i - own.length]?) S.cap
     simp only [Ut, ek, e1, Ve] at hcap
     have hNk : X.N[k]? = some x := Option.some.inj hcap
     have hfx := S.fr x (UC e1)
     have hkX := cellOfN x hfx
     obtain ⟨u, ru, lk⟩ := hlX k x v hNk e2' (.inr (.inl hkX))
     refine ⟨u, ru, .inr ⟨.inl ?_, ?_⟩⟩
     ·show (compEnvC scope cl HP.objs.size X.env).kindOf x = some .cell
      rw [hkr x, hfx]
      simp [I2.ok.kind, hkX]
     ·rcases lk with ⟨z, _⟩ | ⟨_, c, ec, o, ho, hd⟩
      ·rw [hkX] at z; cases z
      ·obtain ⟨c', ec'⟩ := hclf (x, .free) (PySem.mem_of_lookup hfx) rfl
       have := hcl _ _ ec'
       rw [ec] at this
       cases this
       exact ⟨c, ec', o, old _ _ ho, hd⟩
  ·obtain ⟨v, o, ho, hd⟩ := I2.cell x c (hcl x c e)
   exact ⟨v, o, old _ _ ho, hd⟩
  ·show upd H2 s₂.heap.objs.size (.lst []) HP.objs.size = none
   rw [ZCe (Ne.symm hDC)]
   exact I2.hok.fresh hCle
  ·obtain ⟨v, o, ho, hd⟩ := I2.cell x c (hcl x c e)
   show upd H2 s₂.heap.objs.size (.lst []) c = none
   rw [ZCe (Uo (Uh ho))]
   exact I2.freeC x c (hcl x c e)
 -- the way out
 have out : ∀ {U' : St} {H' : Hp} {s' : Shared}, Inv (ZCk X (own ++ caps) scope cl HP.objs.size s₂ H2 fp) [] U' H' s' -> Q (.ref s₂.heap.objs.size) H' ->
   compPost (model X.prog X.w) X.A X.xe use QQ (.ref s₂.heap.objs.size) HP.objs.size (.ok .next) s' := fun {U' H' s'} I' q' => by
  obtain ⟨m, hn, _⟩ := I'.loc
  refine fin HP.objs.size s₂.heap.objs.size H' s' ⟨m, hn⟩ ?_ (I2.fpOk hCle I'.free) q'
  have hs' : Heap.SameBut HP.objs.size s'.heap s'.heap := Heap.SameBut.refl ..
  have hfree : H' HP.objs.size = none := I'.free
  have neC : ∀ {b : Addr} {o : Obj}, s₂.heap.get? b = some o -> b ≠ HP.objs.size := fun e => Uo (Uk (Uh e) hCle)
  refine I2.call' (ch := fp) (s' := s') I'.os ⟨fun b o e n hb hx => ?_, fun b o e n hb hx => ?_, I'.base.free, fun b o e hx => ?_, I'.base.tups, I'.base.frzs, I'.base.tbls⟩ (fun b ob e => ?_) I'.bare fun b hb => ⟨(f2 b hb).2.2.2.1, (f2 b hb).2.1, (f2 b hb).2.2.2.2.1, (f2 b hb).2.2.2.2.2⟩
  ·exact (I'.base.keep b o e n hb hx)
  ·obtain ⟨sl, e1⟩ := I'.base.slot b o e n hb hx
   exact ⟨sl, e1⟩
  ·obtain ⟨o', e1⟩ := I'.base.there b o e hx
   exact ⟨o', e1⟩
  ·exact I'.hok b ob e
 have stat : ∀ {H' : Hp}, (∀ b ∈ fp, H' b = none) -> ∀ b ∈ fp, ZDo (ZCk X (own ++ caps) scope cl HP.objs.size s₂ H2 fp) [] H' b := fun hn b hb =>
  ⟨hn b hb, Uo (Uk (fpl b hb) hCle), ok.exfs b hb, .inl hb, (ok.exf b hb).2, fun p hp => by cases hp⟩
 have fr4 : ∀ b ∈ fp, upd H2 s₂.heap.objs.size (.lst []) b = none := fun b hb => by
  rw [ZCe (Uo (fpl b hb))]
  exact (f2 b hb).1
 have tn4 : tn 0 h₁ := T.keep _ _ _ st2 fun b _ o e => old b o e
 have loop : ∀ s4 : Shared, s4 = { s₂ with heap := h₁, toks := s₂.toks + ([] : List (Str × Value)).length } ->
   codeAny (model X.prog X.w) X.A (.compLoop (.ListComp elt [⟨tg, iter, ifs, 0⟩] scope pos) 0 (.ref it) (.ref s₂.heap.objs.size) (compEnvC scope cl HP.objs.size X.env))
    (compPost (model X.prog X.w) X.A X.xe use QQ (.ref s₂.heap.objs.size) HP.objs.size) s4 := by
  rintro s4 rfl
  refine ZEf (fun n s' => ∃ i U' H', Inv (ZCk X (own ++ caps) scope cl HP.objs.size s₂ H2 fp) [] U' H' s' /\ tn i s'.heap /\ (∀ b ∈ fp, H' b = none) /\ W i n U' H') ?_ m0 ⟨0, _, _, I4, tn4, fr4, w0⟩
  rintro n s3 ⟨i, U3, H3, I3, st3, fr3, w3⟩
  rcases turn i n U3 H3 w3 with ⟨stop, qn⟩ | ⟨go, N, hN, step⟩
  ·refine UB (T.done (ZCk X (own ++ caps) scope cl HP.objs.size s₂ H2 fp) rfl rfl rfl hc i [] s3 U3 H3 (fun _ _ => False) I3 (stat fr3) st3 stop) (fun r s4 ⟨hr, I4'⟩ => ?_) fun _ _ z => False.elim z
   subst hr
   exact out I4' qn
  ·refine UB (T.item (ZCk X (own ++ caps) scope cl HP.objs.size s₂ H2 fp) rfl rfl rfl hc i [] s3 U3 H3 (fun _ _ => False) I3 (stat fr3) st3 go) (fun r s4 ⟨u, hr, h4⟩ => ?_) fun _ _ z => False.elim z
   subst hr
   refine UB h4 (fun _ s5 ⟨x, H5, I5, r5, y5, st5, fr5⟩ => ?_) fun _ _ z => False.elim z
   have I5' := I5.pinned (stat fr5) (T.obj _ _ st5)
   have back : ∀ {s7 : Shared} {U7 : St} {H7 : Hp}, Inv (ZCk X (own ++ caps) scope cl HP.objs.size s₂ H2 fp) ([] ++ ZF3 fp s5.heap) U7 H7 s7 -> N U7 H7 ->
     ∃ m, m < n /\ ∃ i U' H', Inv (ZCk X (own ++ caps) scope cl HP.objs.size s₂ H2 fp) [] U' H' s7 /\ tn i s7.heap /\ (∀ b ∈ fp, H' b = none) /\ W i m U' H' := fun {s7 U7 H7} I7 n7 => by
    obtain ⟨m', hm, w7⟩ := hN U7 H7 n7
    refine ⟨m', hm, i + 1, U7, H7, I7.unpinned, T.keep _ _ _ st5 fun b hb o e => (I7.pin (b, o) (Ur _ (Ur _ (ZEA hb e)))).1, fun b hb => ?_, w7⟩
    obtain ⟨o, e, d⟩ := T.obj _ _ st5 b hb
    exact (I7.pin (b, o) (Ur _ (Ur _ (ZEA hb e)))).2.1
   refine UB (hg _ _ _ _ _ _ s5 U3 H5 x u _ I5' r5 (step x H5 y5)) (fun _ s6 ⟨U6, H6, I6, q6⟩ => ?_) fun _ _ z => False.elim z
   refine UB (ht _ _ _ _ _ _ s6 U6 H6 _ I6 q6) (fun b s7 ⟨H7, I7, q7⟩ => ?_) fun _ _ z => False.elim z
   cases b with
   | false =>
    rw [if_neg UH]
    rw [if_neg UH] at q7
    exact back I7 q7
   | true =>
    rw [if_pos rfl]
    rw [if_pos rfl] at q7
    refine UB (he _ _ _ _ _ _ s7 U6 H7 _ I7 q7) (fun y s8 ⟨v, H8, I8, r8, xs, hx8, hz8, n8⟩ => ?_) fun _ _ z => False.elim z
    refine UB (ZE0 (X := ZCk X (own ++ caps) scope cl HP.objs.size s₂ H2 fp) _ s8 U6 H8 (.ref s₂.heap.objs.size) [v] (.ref s₂.heap.objs.size) [y] (fun _ H' => N U6 H') I8 rfl (.cons r8 .nil) ⟨_, xs, v, rfl, rfl, hx8, hz8, n8⟩) (fun _ s9 ⟨_, H9, I9, _, n9⟩ => ?_) fun _ _ z => False.elim z
    exact back I9 n9
 exact codeAny_compStart_list (loop _ rfl) (T.self _ 0 _ _ _ tn4 (loop _ rfl))
theorem ZRY {N : List Str} {sc : Scope} {own caps : List Str} {ks : List Nat} {elt tg iter : Expr} {ifs : List Expr} {scope : Scope} {pos spos pos' : Pos} {wi : TI} {g : TG} {tt : TT} {te : TE} {i : Nat} {x : Str}
  (hN : X.N = N) (hsc : X.env.scope = sc) (hc : X.calm = true) (S : ZGr N sc own caps ks scope) (hi : PI X tg iter wi)
  (hg : ∀ cl C s₂ H₂ fp, PG (ZCk X (own ++ caps) scope cl C s₂ H₂ fp) tg g)
  (ht : ∀ cl C s₂ H₂ fp, ZIm (ZCk X (own ++ caps) scope cl C s₂ H₂ fp) ifs tt)
  (he : ∀ cl C s₂ H₂ fp, PE (ZCk X (own ++ caps) scope cl C s₂ H₂ fp) elt te)
  (hNd : X.N.Nodup) (hix : X.N[i]? = some x) (hx : Loc X.env.scope x)
  (hsw : swapsWith (.ListComp elt [⟨tg, iter, ifs, 0⟩] scope pos) (some (.Name x pos')) spos.line X.env = pure true)
  (hs : ∀ x, foldedSetIterable iter X.env x = pure x := by intro _; rfl)
  (hf : X.fn x = true \/ X.env.scope.names.lookup x = some .local := by first | exact .inl rfl | exact .inr rfl | assumption) :
  PS X (.Assign [.Name x pos'] (.ListComp elt [⟨tg, iter, ifs, 0⟩] scope pos) spos) (ZGG (ZHX own.length ks wi g tt te) (ZEc i)) := by
 intro pins s U H D I h
 rw [exec_Assign_Name_used _ _ _ _ hsw]
 refine Ua (wpAny_standAt (Ua ?_))
 show wpAny _ X.A (do let _ <- comprehension (.ListComp elt [⟨tg, iter, ifs, 0⟩] scope pos) scope X.env _ (newList []) false (eval iter X.env) (some (assign (.Name x pos') X.env))) _ _ s
 refine Ua (UB (ZNe (QQ := fun _ s' => SP X pins D .next s') hN hsc hc S hi hg ht he hs I ?_ h) (fun _ s' hq => Ug (Ug hq)) fun _ _ e => e)
 rintro C l H' s' ⟨m, hn⟩ I' hF q
 show wpAny (model X.prog X.w) X.A (assign (.Name x pos') X.env (.ref l)) (fun _ s'' => ∃ m, s''.heap.Ns C m /\ ∀ h', Heap.SameBut C s''.heap h' -> SP X pins D .next { s'' with heap := h' }) X.xe s'
 obtain ⟨f0, f1, f2, f3, f4, f5⟩ := hF
 refine wpAny_assign_Name (ZI9 (v := .ref l) I' hNd hix hx rfl (fun s'' I'' ⟨b, hsb, hb⟩ => ?_) hf)
 have hCb : C ≠ b := by
  rcases hb with rfl | hb
  ·exact f1
  ·exact fun z => f4 x b hb z.symm
 refine ⟨m, hn.sameBut hsb hCb, fun h' hs' => ⟨_, H', I''.turned (t' := s''.toks) (fun c o hc e => hs'.extBut c o hc e) f0 f1 f3 f4 f5, q⟩⟩
theorem ZRZ {N : List Str} {sc : Scope} {own caps : List Str} {ks : List Nat} {elt tg iter : Expr} {ifs : List Expr} {scope : Scope} {pos spos pos' : Pos} {wi : TI} {g : TG} {tt : TT} {te : TE} {i : Nat} {x : Str}
  (hN : X.N = N) (hsc : X.env.scope = sc) (hc : X.calm = true) (S : ZGr N sc own caps ks scope) (hNd : X.N.Nodup) (hix : X.N[i]? = some x) (hx : Loc X.env.scope x)
  (hi : QI X tg iter wi)
  (hg : ∀ cl C s₂ H₂ fp, QG (ZCk X (own ++ caps) scope cl C s₂ H₂ fp) tg g)
  (ht : ∀ cl C s₂ H₂ fp, QF (ZCk X (own ++ caps) scope cl C s₂ H₂ fp) ifs tt)
  (he : ∀ cl C s₂ H₂ fp, QE (ZCk X (own ++ caps) scope cl C s₂ H₂ fp) elt te)
  (hsw : swapsWith (.ListComp elt [⟨tg, iter, ifs, 0⟩] scope pos) (some (.Name x pos')) spos.line X.env = pure true := by rfl)
  (hs : ∀ x, foldedSetIterable iter X.env x = pure x := by intro _; rfl)
  (hf : X.fn x = true \/ X.env.scope.names.lookup x = some .local := by first | exact .inl rfl | exact .inr rfl | assumption) :
  QS X (.Assign [.Name x pos'] (.ListComp elt [⟨tg, iter, ifs, 0⟩] scope pos) spos) (ZGG (ZHX own.length ks wi g tt te) (ZEc i)) :=
 ⟨ZRY hN hsc hc S hi.h (fun cl C s₂ H₂ fp => (hg cl C s₂ H₂ fp).h) (fun cl C s₂ H₂ fp => (ht cl C s₂ H₂ fp).h) (fun cl C s₂ H₂ fp => (he cl C s₂ H₂ fp).h) hNd hix hx hsw hs hf⟩
end
section
variable {K : W.Frag} {H H' : Hp} {a p l : Addr} {cv : PL} {xs : List V}
theorem PrT.kpL (h : PrT H a cv) (k : Kp l H H') (hl : H l = some (.lst xs)) : PrT H' a cv := by
 obtain ⟨vs, h1, h2⟩ := h
 exact ⟨vs, k _ _ h1 (fun e => by subst e; rw [h1] at hl; cases hl), h2.kpL k hl⟩
end
def ZPW (K : W.Frag) (x : V) (H : Hp) (R : It -> Hp -> Prop) : Prop := (∃ a, x = .ref a /\ (∃ xs, SqL K H a xs) /\ R (Itl K a) H) \/ (∃ a, x = .ref a /\ (∃ xs, SqT K H a xs) /\ R (Itt K a) H)
def ZTb (K : W.Frag) (tl : TE) : TI := fun U H R => tl U H fun x H1 => ZPW K x H1 R
theorem ZTc {X : Cx} {tg e : Expr} {te : TE} (K : W.Frag) (hK : X.K = K) (hl : QE X e te) : QI X tg e (ZTb K te) := by
 subst hK
 refine ⟨?_⟩
 intro pins s U H R I h
 refine thn (hl.h pins s U H _ I h) fun v s1 ⟨x, H1, I1, r1, q1⟩ => ?_
 rcases q1 with ⟨a, e, ⟨xs, hq⟩, q⟩ | ⟨a, e, ⟨xs, hq⟩, q⟩
 ·subst e
  cases r1
  obtain ⟨its, rv, p, hz⟩ := I1.list hq
  refine wpAny_pyIter_list p.isList ?_
  refine ⟨s1.heap.objs.size, [s1.heap.objs.size], _, _, H1, rfl, I1.kept (t' := s1.toks) fun b o e => Ub _ e, ZJA a _, ⟨_, Uf _ rfl, rfl, rfl⟩, fun b hb => ?_, q⟩
  have e : b = s1.heap.objs.size := by simpa using hb
  subst e
  exact I1.fpOk (Ue _) (I1.hok.fresh (Ue _))
 ·subst e
  cases r1
  obtain ⟨its, rv, p, hz⟩ := I1.tuple hq
  refine wpAny_pyIter_tuple (show s1.heap.IsTuple a its.toArray from p) ?_
  refine ⟨s1.heap.objs.size, [s1.heap.objs.size], _, _, H1, rfl, I1.kept (t' := s1.toks) fun b o e => Ub _ e, ZIJ a _, ⟨_, Uf _ rfl, rfl, rfl⟩, fun b hb => ?_, q⟩
  have e : b = s1.heap.objs.size := by simpa using hb
  subst e
  exact I1.fpOk (Ue _) (I1.hok.fresh (Ue _))
def SQ (b : Bool) (H : Hp) (a : Addr) (vs : List V) : Prop := H a = some (if b then .lst vs else .tup vs)
section
variable {K : W.Frag} {U : St} {H : Hp} {D : ZDT}
theorem ZRa {tl : TE} {R : It -> Hp -> Prop} (h : tl U H fun x H1 => ZPW K x H1 R) : ZTb K tl U H R := h
theorem ZRb {b : Bool} {a : Addr} {xs : List V} {g : TG} {tb : TS} (Pv : Nat -> St -> Hp -> Prop) (hq : SQ b H a xs) (h0 : Pv 0 U H) (hl : ∀ i U H, i <= xs.length -> Pv i U H -> SQ b H a xs)
  (hs : ∀ i x U H, xs[i]? = some x -> Pv i U H -> g x U H fun U2 H2 => tb { D with nx := Pv (i + 1), ct := Pv (i + 1), bk := D.nx } U2 H2) (hd : ∀ U H, Pv xs.length U H -> D.nx U H) :
  ZPW K (.ref a) H (fun J H1 => rFor J g tb D U H1) := by
 cases b with
 | true => exact .inl ⟨a, rfl, ⟨xs, SqL.of hq⟩, ZLt Pv h0 (fun i U H hi p => SqL.of (hl i U H hi p)) hs hd⟩
 | false => exact .inr ⟨a, rfl, ⟨xs, SqT.of hq⟩, ZHY Pv h0 (fun i U H hi p => SqT.of (hl i U H hi p)) hs hd⟩
end
theorem SQ.same {b : Bool} {H H' : Hp} {a : Addr} {vs : List V} (h : SQ b H a vs) (s : ZCW H H') : SQ b H' a vs := s _ _ h
def ZDN (n : Nat) {α : Type} : KasT α -> (α -> Prop) -> Prop
 | .ret a, R => R a
 | .ask i j k, R => i < n /\ j < n /\ ∀ b, ZDN n (k b) R
theorem ZDN.bind {n : Nat} {α β : Type} {f : α -> KasT β} {R : α -> Prop} {R' : β -> Prop} (h : ∀ a, R a -> ZDN n (f a) R') : ∀ t : KasT α, ZDN n t R -> ZDN n (t.bind f) R'
 | .ret a, g => h a g
 | .ask i j k, g => ⟨g.1, g.2.1, fun b => ZDN.bind h (k b) (g.2.2 b)⟩
theorem ZNf {n : Nat} {cmp : Nat -> Nat -> (Bool -> Shared -> Prop) -> Shared -> Prop} {c : Nat -> Nat -> Bool} {s : Shared} (hc : ∀ i j C, i < n -> j < n -> C (c i j) s -> cmp i j C s) {α : Type} {Q : α -> Shared -> Prop} {R : α -> Prop} : ∀ t : KasT α, ZDN n t R -> Q (evT c t) s -> t.kasWp cmp Q s
 | .ret _, _, h => h
 | .ask i j k, g, h => hc i j _ g.1 g.2.1 (ZNf hc (k (c i j)) (g.2.2 _) h)
section
variable {n : Nat}
def Inn (n : Nat) (p : Array Nat) : Prop := 0 < n /\ ∀ v ∈ p.toList, v < n
theorem Inn.at {p : Array Nat} (h : Inn n p) (i : Nat) : p.getD i 0 < n := by
 by_cases hi : i < p.size
 ·have := ZET (p := p) hi
  exact h.2 _ (Vh.mpr (Array.mem_of_getElem? this))
 ·have : p.getD i 0 = 0 := by simp [Array.getD, hi]
  rw [this]
  exact h.1
theorem Inn.perm {p q : Array Nat} (h : Inn n p) (e : q.toList.Perm p.toList) : Inn n q := ⟨h.1, fun v hv => h.2 v (e.mem_iff.mp hv)⟩
theorem Inn.rev {p : Array Nat} (h : Inn n p) (i j : Nat) : Inn n (kas_rev p i j) := h.perm (ZKG p i j)
theorem ZH4 {p : Array Nat} (h : Inn n p) : ∀ f a, ZDN n (kas_asc p f a) (fun _ => True)
 | 0, _ => trivial
 | f + 1, a => ⟨h.at _, h.at _, fun b => by
  cases b with
  | true => exact trivial
  | false => exact ZH4 h f (a + 1)⟩
theorem ZFl : ∀ (f : Nat) {p : Array Nat} (a q : Nat), Inn n p -> ZDN n (kas_desc f p a q) (fun r => Inn n r.1)
 | 0, _, _, _, h => h
 | f + 1, p, a, q, h => ⟨h.at _, h.at _, fun b => by
  cases b with
  | true =>
   show ZDN n (if q > 0 then kas_desc f (kas_rev p (a - (q + 1)) a) (a + 1) 0 else kas_desc f p (a + 1) 0) _
   split
   ·exact ZFl f _ _ (h.rev _ _)
   ·exact ZFl f _ _ h
  | false =>
   refine ⟨h.at _, h.at _, fun d => ?_⟩
   cases d with
   | true => exact h
   | false => exact ZFl f _ _ h⟩
theorem ZJL {p : Array Nat} (h : Inn n p) (m k : Nat) : ZDN n (kas_tail3 m k p) (fun r => Inn n r.2) := by
 unfold kas_tail3
 refine ZDN.bind (R := fun _ => True) (fun a _ => ?_) _ (ZH4 (h.rev _ _) _ _)
 exact h.rev _ _
theorem ZIc {p : Array Nat} (h : Inn n p) (m k : Nat) : ZDN n (kas_descPart m k p) (fun r => Inn n r.2) := by
 refine ZDN.bind (R := fun r => Inn n r.1) (fun r hr => ?_) _ (ZFl _ _ _ h)
 show ZDN n (if r.2.2 > 0 then _ else _) _
 split
 ·exact ZJL (hr.rev _ _) _ _
 ·exact ZJL hr _ _
theorem ZMc {p : Array Nat} (h : Inn n p) (k : Nat) : ZDN n (kas_count k p) (fun r => Inn n r.2) := by
 refine ZDN.bind (R := fun _ => True) (fun m _ => ?_) _ (ZH4 h _ _)
 show ZDN n (if (m == k) = true then _ else _) _
 split
 ·exact h
 ·split
  ·refine ⟨h.at _, h.at _, fun b => ?_⟩
   cases b with
   | true => exact h
   | false => exact ZIc (h.rev _ _) _ _
  ·exact ZIc h _ _
theorem ZGQ {p : Array Nat} (h : Inn n p) (k : Nat) : ∀ f l r, ZDN n (kas_place p k f l r) (fun _ => True)
 | 0, _, _ => trivial
 | f + 1, l, r => by
  show ZDN n (if l >= r then _ else _) _
  split
  ·exact trivial
  ·refine ⟨h.at _, h.at _, fun b => ?_⟩
   cases b with
   | true => exact ZGQ h k f _ _
   | false => exact ZGQ h k f _ _
theorem ZKf : ∀ (f : Nat) {p : Array Nat} (k : Nat), Inn n p -> ZDN n (kas_bin f p k) (fun _ => True)
 | 0, _, _, _ => trivial
 | f + 1, p, k, h => ZDN.bind (R := fun _ => True) (fun l _ => ZKf f _ (h.perm (Array.perm_iff_toList_perm.mp (bubble_perm p k _)))) _ (ZGQ h k _ _ _)
theorem ZNg (hn : 0 < n) : ZDN n (kas_sort n) (fun _ => True) := by
 have h : Inn n (List.toArray (UD n)) := ⟨hn, fun v hv => by simpa using hv⟩
 refine ZDN.bind (R := fun r => Inn n r.2) (fun r hr => ?_) _ (ZMc h _)
 show ZDN n (if r.1 < n then _ else _) _
 split
 ·exact ZKf _ _ hr
 ·exact trivial
end
def ltP (p q : Int × Int) : Bool := decide (p.1 < q.1) || (decide (p.1 = q.1) && decide (p.2 < q.2))
theorem ZEt {p q : Int × Int} : ltP p q = true ↔ p.1 < q.1 \/ (p.1 = q.1 /\ p.2 < q.2) := by simp [ltP]
theorem ZGy {p q : Int × Int} : ltP p q = false ↔ ¬ (p.1 < q.1 \/ (p.1 = q.1 /\ p.2 < q.2)) := by
 rw [<- ZEt]; simp
def ZGR (h : Heap) (a : Addr) (v : Value) (p : Int × Int) : Prop := ∃ b t u, v = .ref b /\ b ≠ a /\ IsTup h b #[.int p.1 t, .int p.2 u]
def ZD1 (h : Heap) (a : Addr) (vs : List Value) (l : PL) : Prop := Paired (ZGR h a) vs l
theorem ZD1.get {h : Heap} {a : Addr} : ∀ {vs : List Value} {l : PL}, ZD1 h a vs l -> ∀ {i : Nat}, i < l.length -> ZGR h a (vs.getD i .none) (l.getD i (0, 0))
 | _, _, .nil, i, hi => absurd hi (Nat.not_lt_zero _)
 | _, _, .cons g t, 0, _ => g
 | _, _, .cons g t, i + 1, hi => by
  have := ZD1.get t (i := i) (by simpa using hi)
  simpa using this
theorem ZD1.katT {h : Heap} {a : Addr} : ∀ {vs : List Value} {l : PL}, ZD1 h a vs l -> ∃ fs, KatTups h vs fs /\ fs.length = vs.length /\ ∀ v ∈ fs, ∃ x t, v = .int x t
 | _, _, .nil => ⟨[], .nil, rfl, fun v hv => by cases hv⟩
 | _, _, @Paired.cons _ _ _ v p _ _ ⟨b, t, u, e, _, o, ho, hc, k, hd⟩ r => by
  obtain ⟨fs, h1, h2, h3⟩ := ZD1.katT r
  subst e
  refine ⟨.int p.1 t :: fs, .cons ho hc hd rfl h1, by simp [h2], fun v hv => ?_⟩
  rcases Ul.mp hv with rfl | hv
  ·exact ⟨_, _, rfl⟩
  ·exact h3 v hv
section
variable {prog : Program} {w : World} {A : Around} {E : Value -> Shared -> Prop} {s : Shared}
theorem ZLQ {a : Addr} {v v' : Value} {p q : Int × Int} {C : Bool -> Shared -> Prop} (hp : ZGR s.heap a v p) (hq : ZGR s.heap a v' q) (h : C (ltP p q) s) : wpAny (model prog w) A (keyLt' (tuples' true) v v') C E s := by
 obtain ⟨b, t, u, rfl, _, o, ho, hc, k, hd⟩ := hp
 obtain ⟨b', t', u', rfl, _, o', ho', hc', k', hd'⟩ := hq
 refine kat_lt ho hd ho' hd' ?_
 refine kat_cons (wpAny_eqBool_int ?_)
 by_cases e1 : p.1 = q.1
 ·rw [show (p.1 == q.1) = true by simp [e1]]
  refine kat_yes (kat_cons (wpAny_eqBool_int ?_))
  by_cases e2 : p.2 = q.2
  ·rw [show (p.2 == q.2) = true by simp [e2]]
   refine kat_yes (kat_nil ?_)
   have : ltP p q = false := by rw [ZGy]; omega
   rw [this] at h
   exact h
  ·rw [show (p.2 == q.2) = false by simp [e2]]
   refine kat_no (kat_one _ _ (lt_int ?_))
   have : ltP p q = decide (p.2 < q.2) := by simp [ltP, e1]
   rw [this] at h
   exact h
 ·rw [show (p.1 == q.1) = false by simp [e1]]
  refine kat_no (oneLt_int ?_)
  have : ltP p q = decide (p.1 < q.1) := by simp [ltP, e1]
  rw [this] at h
  exact h
theorem ZId {a : Addr} {vs : List Value} {l : PL} {n : Nat} {P : Fin -> Shared -> Prop} (ho : s.heap.get? a = some (seqObj "list" vs.toArray n))
  (hT : ZD1 s.heap a vs l) (hd : l.Nodup) (h64 : vs.length < 64)
  (h : ∀ (ix : List Nat), ix.Perm (UD vs.length) -> (ix.map fun i => l.getD i (0, 0)).Pairwise (fun p q => ltP p q = true) -> P (.done (.ret .none)) { s with heap := sortedHeap s.heap a vs (ix.map fun i => vs.getD i Value.none).toArray }) :
  wpAny (model prog w) A (Builtin.«list.sort» ⟨[.ref a], []⟩) P E s := by
 have hlen : vs.length = l.length := Paired.length hT
 have ha : a < s.heap.objs.size := Uh ho
 rw [list_sort_plain]
 refine Ua (listItems_at ho rfl ?_)
 refine Ua (listUpdate_at ho rfl ?_ (by rw [Uq, sizeLine_eq]; omega) (UE _))
 obtain ⟨e1, ho1⟩ : ∃ e1, (s.heap.update a (Obj.mapSeq fun _ => (#[] : Array Value))).get? a = some (seqObj "list" #[] e1) := ⟨_, get?_update_seq ho fun _ => #[]⟩
 refine Ua (seqEpoch_at ho1 rfl ?_)
 refine Ua (wpAny_newTuple ?_ (by show vs.length <= _; rw [sizeLine_eq]; omega))
 refine Ua (wpAny_newList ?_ (UE _))
 refine UJ ?_
 generalize hh : (((s.heap.update a (Obj.mapSeq fun _ => (#[] : Array Value))).push (seqObj "tuple" vs.toArray 0)).push (seqObj "list" #[] 0)) = h3
 have ho3 : h3.get? a = some (seqObj "list" #[] e1) := by rw [<- hh]; exact Ub _ (Ub _ ho1)
 have keep : ∀ b o, b ≠ a -> s.heap.get? b = some o -> h3.get? b = some o := fun b o hb e => by
  rw [<- hh]
  exact Ub _ (Ub _ ((Uw _ _ (Ne.symm hb)).trans e))
 have hT3 : ZD1 h3 a vs l := Paired.mapP hT fun v p ⟨b, t, u, e, hb, o, hx, r⟩ => ⟨b, t, u, e, hb, o, keep b o hb hx, r⟩
 have done : ∀ (ix : List Nat), ix.Perm (UD vs.length) -> (ix.map fun i => l.getD i (0, 0)).Pairwise (fun p q => ltP p q = true) ->
   P (.done (.ret .none)) { s with heap := h3.update a (Obj.mapSeq fun _ => (ix.map fun i => vs.getD i Value.none).toArray) } := fun ix hp hs => by
  have := h ix hp hs
  unfold sortedHeap at this
  rw [hh] at this
  exact this
 show wpAny (model prog w) A _ P E { s with heap := h3 }
 dsimp only
 by_cases h2 : vs.toArray.size < 2
 ·rw [if_pos h2, if_pos h2]
  refine Ua (Ug ?_)
  have hsmall : (UD vs.length).map (fun i => vs.getD i Value.none) = vs := by
   rw [Uq] at h2
   match vs, h2 with
   | [], _ => rfl
   | [v], _ => rfl
  have hpw : ((UD vs.length).map fun i => l.getD i (0, 0)).Pairwise (fun p q => ltP p q = true) := by
   rw [Uq] at h2
   match vs, h2 with
   | [], _ => exact List.Pairwise.nil
   | [v], _ => exact List.pairwise_singleton _ _
  have D := done (UD vs.length) (List.Perm.refl _) hpw
  rw [hsmall] at D
  show wpAny (model prog w) A ((pure () : StateT SortSt Sem Unit).run (SortSt.mk' general' (vs.toArray.zip vs.toArray) #[] 7 none) >>= _) P E { s with heap := h3 }
  rw [StateT.run_pure]
  refine Ua (Ug ?_)
  dsimp only
  have hout : ((arrOf (SortSt.mk' general' (vs.toArray.zip vs.toArray) #[] 7 none)).map (·.2)) = vs.toArray := by
   show ((vs.toArray.zip vs.toArray).map (·.2)) = vs.toArray
   apply Array.toList_inj.mp
   rw [Array.toList_map, Array.toList_zip]
   exact List.map_snd_zip (Ue _)
  rw [hout]
  refine Ua (seqEpoch_at (s := { s with heap := h3 }) ho3 rfl ?_)
  refine Ua (listUpdate_at (s := { s with heap := h3 }) ho3 rfl ?_ (UE _) (by rw [Uq, sizeLine_eq]; omega))
  simp only [bne_self_eq_false, Uv, if_false]
  exact Ug D
 ·rw [if_neg h2, if_neg h2]
  have h2' : 2 <= vs.length := by rw [Uq] at h2; omega
  obtain ⟨fs, k1, k2, k3⟩ := hT3.katT
  refine Ua (kat_kind (T := .type "int") (s := { s with heap := h3 }) k1 (by omega) (fun v hv => ?_) (by decide) ?_)
  ·obtain ⟨x, t, rfl⟩ := k3 v hv
   exact Looks.of_pure rfl
  have hkk : tuples' (Value.type "int" != Value.type "tuple") = tuples' true := by
   have : (Value.type "int" != Value.type "tuple") = true := by decide
   rw [this]
  rw [hkk]
  let c : Nat -> Nat -> Bool := fun i j => ltP (l.getD i (0, 0)) (l.getD j (0, 0))
  have O : Ord c vs.length := by
   refine ⟨fun i j k h1 h2 => ?_, fun i j h1 => ?_, fun i j hi hj hne h1 => ?_⟩
   ·have h1 := ZEt.mp h1
    have h2 := ZEt.mp h2
    exact ZEt.mpr (by omega)
   ·have h1 := ZEt.mp h1
    exact ZGy.mpr (by omega)
   ·have h1 := ZGy.mp h1
    refine ZEt.mpr ?_
    have hne2 : l.getD i (0, 0) ≠ l.getD j (0, 0) := by
     intro e
     have hi' : i < l.length := by omega
     have hj' : j < l.length := by omega
     have hpw := UZ.mp (UP.mp hd)
     have e1 : l.getD i (0, 0) = l[i] := by simp [hi']
     have e2 : l.getD j (0, 0) = l[j] := by simp [hj']
     rw [e1, e2] at e
     rcases Vp i j with z | z | z
     ·exact hpw i j hi' hj' z e
     ·exact hne z
     ·exact hpw j i hj' hi' z e.symm
    have hne3 : ¬ ((l.getD i (0, 0)).1 = (l.getD j (0, 0)).1 /\ (l.getD i (0, 0)).2 = (l.getD j (0, 0)).2) := fun z => hne2 (Prod.ext z.1 z.2)
    omega
  obtain ⟨S1, S2⟩ := ZQ4 O (by omega)
  refine Ua (UB (kat_run (E := E) (vs := vs) (ks := vs) (Q := fun st' s' => s' = { s with heap := h3 } /\ arrOf st' = (evT c (kas_sort vs.length)).map (kas_item (vs.toArray.zip vs.toArray)) /\ failedOf st' = none)
   (G := fun p s' => s' = { s with heap := h3 } /\ p = evT c (kas_sort vs.length)) rfl h2' h64 (fun p st' s' a1 a2 a3 a4 => ⟨a4.1, by rw [a2, a4.2], a3⟩)
   (ZNf (c := c) (n := vs.length) (fun i j C hi hj hC => ?_) _ (ZNg (by omega)) ⟨rfl, rfl⟩)) ?_ fun _ _ e => e)
  ·exact ZLQ (hT3.get (by omega)) (hT3.get (by omega)) hC
  ·rintro ⟨⟨⟩, st'⟩ s' ⟨rfl, har, hf⟩
   dsimp only
   rw [kat_snds rfl har]
   have hperm : (evT c (kas_sort vs.length)).toList.Perm (UD vs.length) := S1
   have hsz : (evT c (kas_sort vs.length)).size = vs.length := by have := S1.length_eq; simpa using this
   have hpw : ((evT c (kas_sort vs.length)).toList.map fun i => l.getD i (0, 0)).Pairwise (fun p q => ltP p q = true) := by
    rw [List.pairwise_map, UZ]
    intro i j hi hj hij
    have := S2 i j hij (by simp at hj; omega)
    have e1 : gt0 (evT c (kas_sort vs.length)) i = (evT c (kas_sort vs.length)).toList[i] := ZIU (by rw [<- Vb, Uc hi])
    have e2 : gt0 (evT c (kas_sort vs.length)) j = (evT c (kas_sort vs.length)).toList[j] := ZIU (by rw [<- Vb, Uc hj])
    rw [e1, e2] at this
    exact this
   refine Ua (seqEpoch_at (s := { s with heap := h3 }) ho3 rfl ?_)
   refine Ua (listUpdate_at (s := { s with heap := h3 }) ho3 rfl ?_ (UE _) ?_)
   ·rw [hf]
    simp only [bne_self_eq_false, Uv, if_false]
    exact Ug (done _ hperm hpw)
   ·show (((evT c (kas_sort vs.length)).toList.map fun i => vs.getD i Value.none).toArray).size <= _
    rw [Uq, Ui, UA, hsz, sizeLine_eq]
    omega
end
section
variable {X : Cx} {pins : List (Addr × Obj)} {U : St} {H H' : Hp} {s : Shared} {h' : Heap}
theorem Inv.old (I : Inv X pins U H s) {b : Addr} {o : HO} (e : H b = some o) : b < s.heap.objs.size := by
 by_cases h : b < s.heap.objs.size
 ·exact h
 ·rw [I.hok.fresh (Nat.le_of_not_lt h)] at e
  cases e
theorem Inv.many {t' : Nat} (I : Inv X pins U H s) (k : ∀ b u, s.heap.get? b = some u -> h'.get? b = some u) (hs : ∀ b, b < s.heap.objs.size -> H' b = H b) (new : ∀ b o, s.heap.objs.size <= b -> H' b = some o -> ZCu X.prog X.w H' h' b o) :
  Inv X pins U H' { s with heap := h', toks := t' } := by
 have old : ∀ b o, H b = some o -> H' b = some o := fun b o e => (hs b (I.old e)).trans e
 refine I.un ⟨fun b u q _ _ _ => k b u q, fun b u q _ _ _ => ⟨u.slots, k b u q⟩, fun b u q n _ => (hs b (Uh q)).trans n, fun b u q _ => ⟨u, k b u q⟩, fun b xs q => old _ _ q, fun b u xs q => old _ _ q, fun b ps q => ⟨#[], by rw [old _ _ q]; simp⟩⟩ fun b u e => ?_
 by_cases hb : b < s.heap.objs.size
 ·rw [hs b hb] at e
  exact (I.hok b u e).stay (fun c v _ q => k c v q) (fun c q => old _ _ q) fun c xs q => old _ _ q
 ·exact new b u (Nat.le_of_not_lt hb) e
end
section
variable {X : Cx} {o : Expr} {to : TE} {apos cpos : Pos}
def ZKg (to : TE) : (U : St) -> Hp -> (Addr -> PL -> Hp -> Prop) -> Prop := fun U H R => to U H fun x H1 => ∃ a m, x = .ref a /\ H1 a = some (.dK (ZCl m)) /\ R a m H1
theorem ZMd {pins : List (Addr × Obj)} {s : Shared} {U : St} {H : Hp} {R : Addr -> PL -> Hp -> Prop} (ho : PE X o to) (I : Inv X pins U H s) (h : ZKg to U H R)
  (hbase : attributeBase o "items" X.env (eval o X.env) = eval o X.env) (hline : (apos.endLine == cpos.line) = true) :
  wpAny (model X.prog X.w) X.A (eval (.Call (.Attribute o "items" apos) [] [] cpos) X.env) (fun u s1 => ∃ r a m H1, u = .ref r /\ s1.heap.objs.size = r + 1 /\ s1.heap.IsItemsView r a /\ H1 a = some (.dK (ZCl m)) /\ Inv X pins U H1 s1 /\ R a m H1) X.xe s := by
 refine wpAny_Call_method0_late hbase hline (thn (ho pins s U H _ I h) fun v s1 ⟨x, H1, I1, r1, a, m, ex, hd, q1⟩ => ?_)
 subst ex
 cases r1
 obtain ⟨z, hsm, vs, rel, dd⟩ := ZGM I1.hok hd
 refine ⟨"dict", "dict.items", PySem.F.plainAttrs_dict, PySem.F.slot_dict_items, PySem.F.type_dict_items, dd.typeIs, ZHk I1 (ZDq.k (k := Sum.inl 0) hd), ?_⟩
 refine Calls.callWith_builtin rfl (PySem.evalArgs_none ?_)
 refine call_meetsIn PySem.F.slot_dict_items dd.typeIs PySem.F.entry_dict_items (PySem.F.args_dict_items_1 _) (meets_dict_items (ZCo X.prog X.w) a hsm) ⟨⟨vs, dd⟩, ?_⟩
 exact ⟨_, a, m, H1, rfl, by rw [UW], ⟨_, Uf _ rfl, rfl, rfl⟩, hd, I1.kept (t' := s1.toks) fun b o e => Ub _ e, q1⟩
end
theorem ZNh {m : PL} {vs : List (Key × Value)} (rel : KV (ZCl m) vs) : vs.length = m.length /\ ∀ (j : Nat) (k : Key) (x : Value), vs[j]? = some (k, x) -> ∃ (p : Int × Int) (t : Tok), m[j]? = some p /\ k = Sum.inl p.1 /\ x = Value.int p.2 t := by
 have hl : vs.length = m.length := by
  have := rel.length
  simp [ZCl] at this
  omega
 refine ⟨hl, ?_⟩
 induction m generalizing vs with
 | nil => intro j k x e; cases rel; simp at e
 | cons p m ih =>
  cases rel with
  | cons h t =>
   rename_i q vs'
   intro j k x e
   cases j with
   | zero =>
    simp at e
    obtain ⟨h1, h2⟩ := h
    rw [e] at h1 h2
    obtain ⟨t', rfl⟩ := h2
    exact ⟨p, t', rfl, h1.symm, rfl⟩
   | succ j =>
    obtain ⟨p', t', g1, g2, g3⟩ := ih t (by simpa using hl) j k x (by simpa using e)
    exact ⟨p', t', by simpa using g1, g2, g3⟩
theorem ZGS {α β : Type} {F : α -> β -> Prop} : ∀ {l₁ : List α} {l₂ : List β}, l₁.length = l₂.length -> (∀ (i : Nat) a b, l₁[i]? = some a -> l₂[i]? = some b -> F a b) -> Paired F l₁ l₂
 | [], [], _, _ => .nil
 | [], _ :: _, h, _ => by simp at h
 | _ :: _, [], h, _ => by simp at h
 | a :: l₁, b :: l₂, h, f => .cons (f 0 a b rfl rfl) (ZGS (by simpa using h) fun i x y e1 e2 => f (i + 1) x y (by simpa using e1) (by simpa using e2))
theorem ZRc {P : Program} {w : World} {m : PL} {vs : List (Key × Value)} {lo : Addr} {h : Heap} {as : List Addr} (rel : KV (ZCl m) vs) (hl : as.length = vs.length) (g : KdxG (ZCo P w) vs lo h as) (a : Addr) (hna : ∀ b ∈ as, b ≠ a) :
  ZD1 h a (as.map Value.ref) m := by
 obtain ⟨hvl, hv⟩ := ZNh rel
 refine ZGS (by rw [Ui]; omega) fun i v p e1 e2 => ?_
 rw [Ut] at e1
 cases hb : as[i]? with
 | none => rw [hb] at e1; cases e1
 | some b =>
  rw [hb] at e1
  cases e1
  obtain ⟨key, k, x, g1, g2, g3⟩ := g.pairs i b hb
  obtain ⟨p', t', e3, e4, e5⟩ := hv i k x g1
  rw [e2] at e3
  cases e3
  subst e4 e5
  rcases ZC9 (k := Sum.inl p.1) (v := key) g2 with ⟨y, t, z1, z2⟩ | ⟨y, t, z1, z2⟩
  ·cases z1
   subst z2
   exact ⟨b, t, t', rfl, hna b (UC hb), _, g3, rfl, _, rfl⟩
  ·cases z1
theorem ZJM {P : Program} {w : World} {h : Heap} {a b : Addr} {p : Int × Int} {Hn : Hp} (e : ZGR h a (.ref b) p) : ZCu P w Hn h b (.tup [.int p.1, .int p.2]) := by
 obtain ⟨b', t, u, e1, _, ht⟩ := e
 cases e1
 exact ⟨⟨by show 2 <= sizeLine; decide, fun z => absurd rfl (z p.1)⟩, [.int p.1 t, .int p.2 u], .cons ⟨t, rfl⟩ (.cons ⟨u, rfl⟩ .nil), ht⟩
def ZGz (H : Hp) (as : List Addr) (ps : PL) (l : Addr) (vs : List V) (n : Nat) : Hp := fun b => if b < n then H b else if b = l then some (.lst vs) else ((as.zip ps).lookup b).map fun p => .tup [.int p.1, .int p.2]
theorem ZMe {as : List Addr} {ps : PL} (hn : as.Nodup) : ∀ {i : Nat} {b : Addr} {p : Int × Int}, as[i]? = some b -> ps[i]? = some p -> (as.zip ps).lookup b = some p := by
 induction as generalizing ps with
 | nil => intro i b p e; simp at e
 | cons a as ih =>
  intro i b p e1 e2
  rw [Vf] at hn
  cases ps with
  | nil => simp at e2
  | cons q ps =>
   cases i with
   | zero => simp at e1 e2; subst e1 e2; simp [Vg]
   | succ i =>
    have e1 : as[i]? = some b := by simpa using e1
    have hb : b ≠ a := fun z => hn.1 (z ▸ UC e1)
    have hb' : (b == a) = false := by simpa using hb
    have := ih hn.2 (ps := ps) e1 (by simpa using e2)
    simpa [Vg, hb'] using this
theorem ZIr {as : List Addr} {ps : PL} : ∀ {b : Addr} {p : Int × Int}, (as.zip ps).lookup b = some p -> ∃ i : Nat, as[i]? = some b /\ ps[i]? = some p := by
 induction as generalizing ps with
 | nil => intro b p e; simp [Vg] at e
 | cons a as ih =>
  intro b p e
  cases ps with
  | nil => simp [Vg] at e
  | cons q ps =>
   by_cases hb : b = a
   ·subst hb
    simp [Vg] at e
    subst e
    exact ⟨0, rfl, rfl⟩
   ·have hb' : (b == a) = false := by simpa using hb
    have e : (as.zip ps).lookup b = some p := by simpa [Vg, hb'] using e
    obtain ⟨i, h1, h2⟩ := ih e
    exact ⟨i + 1, by simpa using h1, by simpa using h2⟩
theorem ZNi {α : Type} {l : List α} {d : α} {ix : List Nat} (h : ix.Perm (UD l.length)) : (ix.map fun i => l.getD i d).Perm l := by
 have e : (UD l.length).map (fun i => l.getD i d) = l := by
  apply List.ext_getElem
  ·simp
  ·intro i h1 h2
   simp at h1 ⊢
   rw [Uc h1]
   rfl
 have := h.map fun i => l.getD i d
 rw [e] at this
 exact this
def ZG0 : Addr -> PL -> Hp -> VK -> Prop := fun a m H Q => m.Nodup /\ m.length < 64 /\
 ∀ (l : Addr) (vs : List V) (cv : PL) (H' : Hp), H l = none -> H' l = some (.lst vs) -> ZCY H' vs cv -> cv.Perm m -> cv.Pairwise (fun p q => ltP p q = true) -> ZCW H H' -> Q (.ref l) H'
section
variable {X : Cx} {o : Expr} {to : TE} {apos cpos pos p : Pos}
theorem ZKh {pins : List (Addr × Obj)} {s : Shared} {U : St} {H : Hp} {Q : VK} {a r : Addr} {m : PL} (hc : X.calm = true) (I : Inv X pins U H s) (hd : H a = some (.dK (ZCl m))) (hr : s.heap.objs.size = r + 1) (hv : s.heap.IsItemsView r a) (h : ZG0 a m H Q) :
  wpAny (model X.prog X.w) X.A (call (.builtin "sorted") [.ref r]) (EP X pins U Q) X.xe s := by
 obtain ⟨hnd, h64, q⟩ := h
 obtain ⟨z, hsm, kvs, rel, dd⟩ := ZGM I.hok hd
 obtain ⟨ep, dd⟩ := dd.dictAt
 obtain ⟨hkl, _⟩ := ZNh rel
 refine Calls.call_function_entry kind_sorted plain_sorted entry_sorted (args_sorted1 _) ?_
 unfold Builtin.«sorted»
 refine Ua (m := checkCount "sorted" 1 1 _) (Ug ?_)
 refine Ua (kdx_collect (A := X.A.in1) (knd := ZCo X.prog X.w) (I.ok.hd hc) hv dd (by rw [sizeLine_eq]; omega) fun h1 tk as hk hl hG => ?_)
 refine Ua (wpAny_newList ?_ (by rw [Ui, sizeLine_eq]; omega))
 have hoL : (h1.push (seqObj "list" (as.map Value.ref).toArray 0)).get? h1.objs.size = some (seqObj "list" (as.map Value.ref).toArray 0) := Uf _ rfl
 have hT : ZD1 (h1.push (seqObj "list" (as.map Value.ref).toArray 0)) h1.objs.size (as.map Value.ref) m := by
  have := ZRc rel hl hG h1.objs.size fun b hb => Uo (hG.there hb)
  exact Paired.mapP this fun v p ⟨b, t, u, e, hb, ot, ho, rr⟩ => ⟨b, t, u, e, hb, ot, Ub _ ho, rr⟩
 show wpAny _ _ _ _ _ { s with heap := h1.push (seqObj "list" (as.map Value.ref).toArray 0), toks := tk }
 refine Ua (UJ (wpAny_call_entry slot_list_sort ⟨_, hoL, rfl⟩ entry_list_sort (ZId (s := { s with heap := h1.push (seqObj "list" (as.map Value.ref).toArray 0), toks := tk }) hoL hT hnd (by rw [Ui]; omega) fun ix hp hs => ⟨_, rfl, ?_⟩) (args_list_sort _)))
 refine Ug ⟨_, rfl, ?_⟩
 generalize hout : (ix.map fun i => (as.map Value.ref).getD i Value.none).toArray = out
 obtain ⟨e, he⟩ := sortedHeap_at (out := out) hoL
 generalize hh2 : sortedHeap (h1.push (seqObj "list" (as.map Value.ref).toArray 0)) h1.objs.size (as.map Value.ref) out = h2 at he
 have hsz1 : s.heap.objs.size <= h1.objs.size := by
  obtain ⟨ov, hov, _⟩ := id hv
  rw [hr]
  exact Uh (hk r ov hov)
 have hkeep : ∀ b u, s.heap.get? b = some u -> h2.get? b = some u := fun b u e => by
  rw [<- hh2]
  have hb := Uh (hk _ _ e)
  exact (sortedHeap_old (Uo hb) (by rw [UW]; exact Vj hb)).trans (Ub _ (hk _ _ e))
 have hasn : as.Nodup := UP.mpr (hG.rise.imp fun hab e => Uo hab e)
 have hlm : as.length = m.length := by omega
 have hout2 : out.toList = (ix.map fun i => as.getD i 0).map Value.ref := by
  rw [<- hout, UU]
  refine UL fun i hi => ?_
  have hi : i < as.length := by
   have := Vd.mp (hp.mem_iff.mp hi)
   simpa using this
  show (as.map Value.ref).getD i Value.none = Value.ref (as.getD i 0)
  simp [hi]
 have hTm : ∀ (i : Nat) b p, as[i]? = some b -> m[i]? = some p -> ZGR h2 0 (.ref b) p \/ ZGR h2 h1.objs.size (.ref b) p := fun i b p e1 e2 => by
  have hi : i < m.length := (Uj.mp e2).1
  have g := hT.get (i := i) hi
  have e3 : (as.map Value.ref).getD i Value.none = .ref b := by simp [e1]
  have e4 : m.getD i (0, 0) = p := by simp [e2]
  rw [e3, e4] at g
  obtain ⟨b', t, u, ee, hb, ot, ho, rr⟩ := g
  refine .inr ⟨b', t, u, ee, hb, ot, ?_, rr⟩
  rw [<- hh2]
  exact (sortedHeap_old hb (Uh ho)).trans ho
 have hat : ∀ (i : Nat) b p, as[i]? = some b -> m[i]? = some p -> ZGz H as m h1.objs.size ((ix.map fun i => as.getD i 0).map V.ref) s.heap.objs.size b = some (.tup [.int p.1, .int p.2]) := fun i b p e1 e2 => by
  have hbl := hG.above b (UC e1)
  have hbt := hG.there (UC e1)
  unfold ZGz
  rw [if_neg (Nat.not_lt.mpr (Nat.le_of_lt hbl)), if_neg (Uo hbt), ZMe hasn e1 e2]
  rfl
 have hil : ZGz H as m h1.objs.size ((ix.map fun i => as.getD i 0).map V.ref) s.heap.objs.size h1.objs.size = some (.lst ((ix.map fun i => as.getD i 0).map V.ref)) := by
  unfold ZGz
  rw [if_neg (Nat.not_lt.mpr hsz1), if_pos rfl]
 have hixl : ix.length = as.length := by have := hp.length_eq; simpa using this
 have hSame : ZCW H (ZGz H as m h1.objs.size ((ix.map fun i => as.getD i 0).map V.ref) s.heap.objs.size) := fun b u e => by
  unfold ZGz
  rw [if_pos (I.old e)]
  exact e
 refine ⟨.ref h1.objs.size, _, I.many (t' := tk) (h' := h2) hkeep (fun b hb => by unfold ZGz; rw [if_pos hb]) (fun b ob hb e => ?_), rfl, q h1.objs.size _ (ix.map fun i => m.getD i (0, 0)) _ (I.hok.fresh hsz1) hil ?_ (ZNi (by rw [<- hlm]; simpa using hp)) hs hSame⟩
 ·by_cases hbl : b = h1.objs.size
  ·subst hbl
   rw [hil] at e
   cases e
   refine ⟨by rw [Ui, Ui, hixl, sizeLine_eq]; omega, out.toList, _, ?_, he⟩
   rw [hout2]
   clear hout2 hil hat hSame
   generalize (ix.map fun i => as.getD i 0) = bs
   induction bs with
   | nil => exact .nil
   | cons b bs ih => exact .cons rfl ih
  ·unfold ZGz at e
   rw [if_neg (Nat.not_lt.mpr hb), if_neg hbl] at e
   cases hlk : (as.zip m).lookup b with
   | none => rw [hlk] at e; cases e
   | some p =>
    rw [hlk] at e
    cases e
    obtain ⟨i, e1, e2⟩ := ZIr hlk
    rcases hTm i b p e1 e2 with g | g
    ·exact ZJM g
    ·exact ZJM g
 ·refine ZGS (by simp) fun i v p e1 e2 => ?_
  rw [Ut, Ut] at e1
  rw [Ut] at e2
  cases hi : ix[i]? with
  | none => rw [hi] at e1; cases e1
  | some j =>
   rw [hi] at e1 e2
   cases e1
   cases e2
   have hj : j < as.length := by
    have := Vd.mp (hp.mem_iff.mp (UC hi))
    simpa using this
   have hj2 : j < m.length := by omega
   refine ⟨as.getD j 0, rfl, hat j _ _ ?_ ?_⟩
   ·simp [hj]
   ·simp [hj2]
def ZJN (to : TE) : TE := fun U H Q => ZKg to U H fun a m H1 => ZG0 a m H1 Q
theorem ZLR (hc : X.calm = true) (hg : Gl X "sorted") (hm : X.mg "sorted" = none) (ho : QE X o to)
  (hbase : attributeBase o "items" X.env (eval o X.env) = eval o X.env := by rfl) (hline : (apos.endLine == cpos.line) = true := by rfl) :
  QE X (.Call (.Name "sorted" p) [.Call (.Attribute o "items" apos) [] [] cpos] [] pos) (ZJN to) := by
 refine ⟨?_⟩
 intro pins s U H Q I h
 refine wpAny_Call_Name_kw (ZEb I hg hm ZGs ?_ (by decide) (by decide))
 refine PyProof.Rows.callWith_builtin1 ?_ rfl rfl
 show wpAny _ _ (spliced ((false, eval (.Call (.Attribute o "items" apos) [] [] cpos) X.env) :: backTo pos (starEach [] X.env))) _ _ s
 refine Calls.spliced_cons (thn (ZMd ho.h I h hbase hline) fun u s1 ⟨r, a, m, H1, eu, hsz, hv, hd, I1, q⟩ => ?_)
 subst eu
 refine Calls.spliced_nil ?_
 exact ZKh hc I1 hd hsz hv q
end
section
variable {U : St} {H : Hp} {Q : VK} {to : TE}
def ZNj (x : V) (H : Hp) (Q : VK) : Prop := ∃ a m, x = .ref a /\ H a = some (.dK (ZCl m)) /\ ZG0 a m H Q
theorem ZG1 (h : to U H fun x H1 => ZNj x H1 Q) : ZJN to U H Q := h
theorem ZRd {cv : PL} (h : cv.Pairwise fun p q => ltP p q = true) (hn : (cv.map (·.1)).Nodup) : Asc cv := by
 rw [UP, List.pairwise_map] at hn
 exact (h.and hn).imp fun ⟨a, b⟩ => by
  have := ZEt.mp a
  omega
theorem ZJi {m : PL} (h : (m.map (·.1)).Nodup) : m.Nodup := by
 rw [UP, List.pairwise_map] at h
 exact UP.mpr (h.imp fun hab e => hab (by rw [e]))
theorem ZLS {p : Addr} {m : PL} (h1 : H p = some (.dK (ZCl m))) (hn : (m.map (·.1)).Nodup) (hz : m.length < 64)
  (h : ∀ l H2 cv, H l = none -> PrL H2 l cv -> ZIq m cv -> cv.length = m.length -> ZCW H H2 -> Q (.ref l) H2) : ZNj (.ref p) H Q := by
 refine ⟨p, m, rfl, h1, ZJi hn, hz, fun l vs cv H2 n2 f2 hP hperm hpw S2 => h l H2 cv n2 ⟨vs, f2, hP⟩ ⟨?_, fun t x => ?_⟩ hperm.length_eq S2⟩
 ·exact ZRd hpw ((hperm.map (·.1)).nodup_iff.mpr hn)
 ·rw [hperm.mem_iff, ZDl hn]
end
section
variable {X : Cx}
def ZKi : V -> List V -> Hp -> VK -> Prop := fun x vs H Q => ∃ l b xs zs, x = .ref l /\ vs = [.ref b] /\ H l = some (.lst xs) /\ H b = some (.tup zs) /\ (∀ i : Int, zs.head? ≠ some (.int i)) /\ xs.length + zs.length <= sizeLine /\ Q .non (upd H l (.lst (xs ++ zs)))
theorem ZMf : MtM X "list.extend" ZKi := by
 intro pins s U H x vs v us Q I rx rv h
 obtain ⟨l, b, xs, zs, rfl, rfl, hH, hB, hh, hz, q⟩ := h
 cases rx
 obtain ⟨u, rfl, ru⟩ := rv.one
 cases ru
 obtain ⟨z, its, n, r, hl, e⟩ := I.lstM hH
 obtain ⟨⟨_, hpd⟩, its2, r2, ht⟩ := (show ZCu X.prog X.w H s.heap b (.tup zs) from I.hok b _ hB)
 obtain ⟨od, hod, hd, hsl⟩ := hpd hh
 obtain ⟨ob, hob, hc, n2, hdat⟩ := ht
 rw [hod] at hob
 cases hob
 have hl2 := r2.length
 have e2 : s.heap.get? b = some { cls := .type "tuple", dict := none, data := .seq its2.toArray n2, slots := #[] } := by
  rw [hod]
  obtain ⟨c, d, dt, sl⟩ := od
  simp only at hc hd hdat hsl
  subst hc hd hdat hsl
  rfl
 have hsz : its.toArray.size + its2.toArray.size <= sizeLine := by rw [Uq, Uq]; omega
 have hlong : ¬ (!its.toArray.isEmpty && Builtin.List.listTooLong (its.toArray.size + its2.toArray.size)) = true := by
  rw [ZO1 hsz, Bool.and_false]
  exact UH
 refine call_meets F.slot_list_extend ⟨_, e, rfl⟩ F.entry_list_extend (F.args_list_extend_2 _ _)
  (AutoSeq1.list_extend_list_tuple_0 l its.toArray n b its2.toArray n2 hlong (by rw [Uq]; omega) (by omega)) ⟨e, e2, ?_⟩
 refine ⟨.non, _, I.lset (its' := its ++ its2) hH e (by simp) (r.append r2) ?_, rfl, q⟩
 rw [UR]
 omega
theorem ZMg {H : Hp} {Q : VK} {l b : Addr} {xs zs : List V} (h1 : H l = some (.lst xs)) (h2 : H b = some (.tup zs)) (h3 : ∀ i : Int, zs.head? ≠ some (.int i)) (hz : xs.length + zs.length <= sizeLine) (h : ∀ H2, H2 l = some (.lst (xs ++ zs)) -> Kp l H H2 -> Q .non H2) : ZKi (.ref l) [.ref b] H Q :=
 ⟨l, b, xs, zs, rfl, rfl, h1, h2, h3, hz, h _ ZCZ Kp.upd⟩
end
inductive ZC3 (H : Hp) : V -> Option (PL) -> Prop where
 | non : ZC3 H .non Option.none
 | pr {c : Addr} {qs : PL} (h : PrT H c qs) (hl : qs.length = 4) : ZC3 H (.ref c) (Option.some qs)
theorem ZC3.same {H H' : Hp} {v : V} {o : Option (PL)} (h : ZC3 H v o) (s : ZCW H H') : ZC3 H' v o := by
 cases h with
 | non => exact .non
 | pr e hl => exact .pr (e.same s) hl
theorem ZC3.kpL {H H' : Hp} {l : Addr} {xs : List V} {v : V} {o : Option (PL)} (h : ZC3 H v o) (k : Kp l H H') (hl : H l = Option.some (.lst xs)) : ZC3 H' v o := by
 cases h with
 | non => exact .non
 | pr e hn => exact .pr (e.kpL k hl) hn
inductive ZDO (H : Hp) : List V -> List (Option (PL)) -> Prop where
 | nil : ZDO H [] []
 | cons {v : V} {o : Option (PL)} {vs : List V} {os : List (Option (PL))} (h : ZC3 H v o) (t : ZDO H vs os) : ZDO H (v :: vs) (o :: os)
theorem ZDO.mapP {H H' : Hp} (f : ∀ v o, ZC3 H v o -> ZC3 H' v o) : ∀ {vs : List V} {os : List (Option (PL))}, ZDO H vs os -> ZDO H' vs os
 | _, _, .nil => .nil
 | _, _, .cons h t => .cons (f _ _ h) (ZDO.mapP f t)
theorem ZDO.same {H H' : Hp} {vs : List V} {os : List (Option (PL))} (h : ZDO H vs os) (s : ZCW H H') : ZDO H' vs os := h.mapP fun _ _ d => d.same s
theorem ZDO.len {H : Hp} : ∀ {vs : List V} {os : List (Option (PL))}, ZDO H vs os -> vs.length = os.length
 | _, _, .nil => rfl
 | _, _, .cons _ t => by simp [ZDO.len t]
theorem ZDO.snoc {H : Hp} : ∀ {vs : List V} {os : List (Option (PL))}, ZDO H vs os -> ∀ {v : V} {o : Option (PL)}, ZC3 H v o -> ZDO H (vs ++ [v]) (os ++ [o])
 | _, _, .nil, _, _, d => .cons d .nil
 | _, _, .cons h t, _, _, d => .cons h (ZDO.snoc t d)
theorem ZDO.at {H : Hp} : ∀ {vs : List V} {os : List (Option (PL))}, ZDO H vs os -> ∀ {i : Nat} {v : V}, vs[i]? = Option.some v -> ∃ o, os[i]? = Option.some o /\ ZC3 H v o
 | _, _, .nil, i, v, e => by simp at e
 | _, _, .cons h t, 0, v, e => by simp at e; subst e; exact ⟨_, rfl, h⟩
 | _, _, .cons _ t, i + 1, v, e => by
  obtain ⟨o, h1, h2⟩ := ZDO.at t (by simpa using e)
  exact ⟨o, by simpa using h1, h2⟩
section
variable {X : Cx}
mutual
theorem Dat.same {K : W.Frag} {H H' : Hp} (s : ZCW H H') : ∀ {x : V} {d : PyData}, Dat K H x d -> Dat K H' x d
 | _, _, .non => .non
 | _, _, .bl b => .bl b
 | _, _, .int i => .int i
 | _, _, .str x => .str x
 | _, _, .tup h r => .tup (s.seqT h) (ZEF.same s r)
 | _, _, .lst h r => .lst (s.seq h) (ZEF.same s r)
theorem ZEF.same {K : W.Frag} {H H' : Hp} (s : ZCW H H') : ∀ {x : List V} {d : List PyData}, ZEF K H x d -> ZEF K H' x d
 | _, _, .nil => .nil
 | _, _, .cons h r => .cons (Dat.same s h) (ZEF.same s r)
end
end
section
variable {X : Cx} {pins : List (Addr × Obj)} {U : St} {H : Hp} {s : Shared}
theorem ZJO {h' : Heap} {a : Addr} (I : Inv X pins U H s) (k : ∀ b o, s.heap.get? b = some o -> h'.get? b = some o) (ha : s.heap.objs.size <= a) :
  ∀ {us : List V} {m : PL} {its : List Value}, ZCY H us m -> ZCh us its -> ZD1 h' a its m
 | _, _, _, .nil, .nil => .nil
 | _, _, _, .cons (b := p) ⟨b, e, z⟩ t, .cons r q => by
  subst e
  cases r
  obtain ⟨its, rv, hp, _⟩ := I.tuple (SqT.of z)
  obtain ⟨o, ho, hc, n, hd⟩ := hp
  have hb : b < s.heap.objs.size := Uh ho
  obtain ⟨u1, u2, e2, r1, r2⟩ := rv.two
  obtain ⟨t1, rfl⟩ := r1
  obtain ⟨t2, rfl⟩ := r2
  subst e2
  exact .cons ⟨b, t1, t2, rfl, fun z => Vi _ (Uk (z ▸ hb) ha), o, k _ _ ho, hc, n, hd⟩ (ZJO I k ha t q)
end
section
variable {X : Cx} {k : Nat} {f : Addr} {fd : FuncData} {ps : List Str} {sp : Sp}
theorem ZHa {pins : List (Addr × Obj)} {U : St} {H : Hp} {s : Shared} {Q : VK} {us : List Value} {vs : List V} {E1 : Value -> Shared -> Prop} (F : ZCi X.prog X.w X.K X.mg X.base CX0 k f fd ps sp) (hr : Room k X.A.in1) (hb : ZCX X.K fd ps [])
  (I : Inv X pins U H s) (r : ZCh vs us) (h : sp vs H Q E0) : wpAny (model X.prog X.w) X.A.in1 (call (.ref f) us) (EP X pins U Q) E1 s := by
 have hl : (us ++ []).length = ps.length := by rw [List.append_nil, <- r.length]; exact F.len _ _ _ _ h
 refine wpAny_call (codeAny_mono (F.run X.A.in1 X.stack s H ⟨us, []⟩ (us ++ []) vs Q E0 hr I.env0.in1 (hb s us I.kIn hl) (by rw [List.append_nil]; exact r) h) fun r s' hq => ?_)
 cases r with
 | error e => exact False.elim hq
 | ok fl =>
  cases fl with
  | ret u => exact I.after hq
  | next => exact False.elim hq
  | brk => exact False.elim hq
  | cont => exact False.elim hq
theorem Inv.pin2 {pins : List (Addr × Obj)} {U : St} {H : Hp} {s : Shared} {a b : Addr} {oa ob : Obj} (I : Inv X pins U H s) (fa : ZDo X pins H a) (fb : ZDo X pins H b) (ha : s.heap.get? a = some oa) (hb : s.heap.get? b = some ob) (ca : ∀ v, oa.data ≠ .cell v) (cb : ∀ v, ob.data ≠ .cell v) :
  Inv X ((a, oa) :: (b, ob) :: pins) U H s := I.pins_of fun p hp => by
 rcases Ul.mp hp with rfl | hp
 ·exact ⟨ha, fa.1, fa.2.1, fa.2.2.1, ca⟩
 ·rcases Ul.mp hp with rfl | hp
  ·exact ⟨hb, fb.1, fb.2.1, fb.2.2.1, cb⟩
  ·exact I.pin p (Ur _ hp)
theorem Inv.unpin2 {pins : List (Addr × Obj)} {U : St} {H : Hp} {s : Shared} {a b : Addr} {oa ob : Obj} (I : Inv X ((a, oa) :: (b, ob) :: pins) U H s) : s.heap.get? a = some oa /\ s.heap.get? b = some ob /\ Inv X pins U H s :=
 ⟨(I.pin (a, oa) (Ur _ (.head _))).1, (I.pin (b, ob) (Ur _ (.tail _ (.head _)))).1, I.pins_of fun p hp => I.pin p (Ur _ (.tail _ (.tail _ hp)))⟩
theorem Inv.turnedAt {pins : List (Addr × Obj)} {U : St} {H : Hp} {s : Shared} {h' : Heap} {t' : Nat} {it : Addr} (I : Inv X pins U H s) (fa : ZDo X pins H it) (k : ∀ b o, b ≠ it -> s.heap.get? b = some o -> h'.get? b = some o) : Inv X pins U H { s with heap := h', toks := t' } := by
 obtain ⟨f0, f1, f2, f3, f4, f5⟩ := fa
 exact I.turned k f0 f1 f3 f4 f5
theorem ZJj {pins : List (Addr × Obj)} {U : St} {H : Hp} (hc : X.calm = true) (F : ZCi X.prog X.w X.K X.mg X.base CX0 k f fd ps sp) (hr : Room k X.A.in1) (hb : ZCX X.K fd ps []) {l I S : Addr} {us : List V} (kf : Nat -> Int) (hSI : S ≠ I) (hS : SqT X.K H l us)
  (fI : ZDo X pins H I) (fS : ZDo X pins H S) (turn : ∀ i v, us[i]? = some v -> ∀ Q : VK, Q (.int (kf i)) H -> sp [v] H Q E0) {R : Result -> Shared -> Prop}
  (hR : ∀ i v u s', us[i]? = some v -> ZCb v u -> (∀ j, j < us.length -> kf i <= kf j /\ (j < i -> kf i < kf j)) -> Inv X pins U H s' -> R (.ok (.ret u)) s') :
  ∀ (r j i : Nat) (s : Shared) (v : V) (vb : Value) (tb : Tok) (c : Nat), us.length - (j + 1) = r -> j + 1 <= us.length -> Inv X pins U H s -> s.heap.get? S = some (seqObj "list" #[vb, .int (kf i) tb] c) -> s.heap.IsTupleIter I l (j + 1) ->
   us[i]? = some v -> ZCb v vb -> i <= j -> (∀ j', j' <= j -> kf i <= kf j' /\ (j' < i -> kf i < kf j')) ->
   codeAny (model X.prog X.w) X.A (.builtin "min.loop" ⟨[.ref I, .ref f, .ref S], []⟩) R s := by
 have hname : (toString "min" ++ toString ".loop" : String) = "min.loop" := by decide
 intro r
 induction r with
 | zero =>
  intro j i s v vb tb c hr' hj J nS hit hv rv hij hbest
  have hin : j + 1 = us.length := by omega
  obtain ⟨its, rvs, p, hz⟩ := J.tuple hS
  have hl := rvs.length
  refine UX PySem.F.entry_min_loop ?_
  rw [Around.under_plainId PySem.F.plain_min_loop _]
  show wpAny _ X.A.in1 (seqItems? (.ref S) >>= _) _ _ _
  refine Ua (wpAny_seqItems nS rfl ?_)
  show wpAny _ X.A.in1 (tryCatch (pyNext (.ref I)) _ >>= _) _ _ _
  refine Ua (wpAny_tryCatch (wpAny_pyNext_tuple_end (J.ok.hd hc) hit (show s.heap.IsTuple l its.toArray from p) (by simp; omega) fun h' eb => ?_))
  have J1 : Inv X pins U H { s with heap := h' } := J.turnedAt (t' := s.toks) fI fun b o hb e => eb b o hb e
  have hS' : h'.get? S = some (seqObj "list" #[vb, .int (kf i) tb] c) := eb S _ hSI nS
  show wpAny _ X.A.in1 (updateSeq S (fun _ => #[]) >>= _) _ _ _
  refine Ua ?_
  refine wpAny_updateSeq hS' rfl (Ua (wpAny_letGo (Ug ?_)))
  exact hR i v vb _ hv rv (fun j' hj' => hbest j' (by omega)) (J1.turnedAt (t' := s.toks) fS fun b o hb e => (Uw _ _ (Ne.symm hb)).trans e)
 | succ r ih =>
  intro j i s v vb tb c hr' hj J nS hit hv rv hij hbest
  have hlt : j + 1 < us.length := by omega
  obtain ⟨its, rvs, p, hz⟩ := J.tuple hS
  have hx : us[j + 1]? = some us[j + 1] := Uc hlt
  obtain ⟨u, hu, ru⟩ := rvs.get hx
  refine UX PySem.F.entry_min_loop ?_
  rw [Around.under_plainId PySem.F.plain_min_loop _]
  show wpAny _ X.A.in1 (seqItems? (.ref S) >>= _) _ _ _
  refine Ua (wpAny_seqItems nS rfl ?_)
  show wpAny _ X.A.in1 (tryCatch (pyNext (.ref I)) _ >>= _) _ _ _
  refine Ua (wpAny_tryCatch (wpAny_pyNext_tuple_item hit (show s.heap.IsTuple l its.toArray from p) (x := u) (by simpa using hu) fun h' st' sb => ?_))
  have J1 : Inv X pins U H { s with heap := h' } := J.turnedAt (t' := s.toks) fI fun b o hb e => (sb.2 b hb).trans e
  have hS' : h'.get? S = some (seqObj "list" #[vb, .int (kf i) tb] c) := (sb.2 S hSI).trans nS
  obtain ⟨oI, hoI, hoc, hod⟩ := id st'
  have J2 := J1.pin2 (s := { s with heap := h' }) fS fI hS' hoI (fun v z => by cases z) (fun v z => by rw [hod] at z; cases z)
  show wpAny _ X.A.in1 (tryCatch (holding [u] (call (.ref f) [u])) _ >>= _) _ _ _
  refine Ua (wpAny_tryCatch (UJ (UB (ZHa (E1 := fun _ _ => False) F hr hb J2 (.cons ru .nil) (turn (j + 1) _ hx (fun v H' => v = .int (kf (j + 1)) /\ H' = H) ⟨rfl, rfl⟩)) (fun x s'' he => ?_) fun _ _ hF => hF.elim)))
  obtain ⟨v2, H2, J3, r2, e2, e3⟩ := he
  subst e2 e3
  obtain ⟨t2, rfl⟩ := r2
  obtain ⟨nS2, nI2, J4⟩ := J3.unpin2
  have hit2 : s''.heap.IsTupleIter I l (j + 1 + 1) := ⟨oI, nI2, hoc, hod⟩
  show wpAny _ X.A.in1 (tryCatch (holding [u, .int (kf (j + 1)) t2] (richCompare .Lt (.int (kf (j + 1)) t2) (.int (kf i) tb) >>= _)) _ >>= _) _ _ _
  refine Ua (wpAny_tryCatch (UJ (Ua (CmpOf.ints_lt (prog := X.prog) (w := X.w) (A := X.A.in1) (P := fun i v => ∃ t, v = .int (kf i) t) kf (fun i v h => h) (j + 1) i _ _ _ _ _ ⟨t2, rfl⟩ ⟨tb, rfl⟩ ?_))))
  refine Ua (UJ (wpAny_truthy_bool ?_))
  refine Ua (wpAny_letGo (Ug ?_))
  by_cases hb' : kf (j + 1) < kf i
  ·obtain ⟨c2, hc2⟩ : ∃ c2, (s''.heap.update S (Obj.mapSeq fun _ => #[u, .int (kf (j + 1)) t2])).get? S = some (seqObj "list" #[u, .int (kf (j + 1)) t2] c2) := ⟨_, get?_update_seq nS2 fun _ => #[u, .int (kf (j + 1)) t2]⟩
   simp only [hb', decide_true, if_true]
   refine Ua ?_
   refine wpAny_updateSeq nS2 rfl (Ua (wpAny_letGo ?_))
   rw [hname]
   refine Ug ⟨plainId_quiet PySem.F.plain_min_loop _, ih (j + 1) (j + 1) _ _ u t2 c2 (by omega) hlt (J4.turnedAt (t' := s''.toks) fS fun b o hb e => (Uw _ _ (Ne.symm hb)).trans e) hc2 ⟨oI, (Uw _ _ hSI).trans nI2, hoc, hod⟩ hx ru (Ue _) fun j' hj' => ?_⟩
   by_cases e : j' = j + 1
   ·subst e
    exact ⟨by omega, fun _ => by omega⟩
   ·have hb1 := hbest j' (by omega)
    have hb2 := hb1.1
    exact ⟨by omega, fun _ => by omega⟩
  ·simp only [hb', decide_false, Uv, if_false]
   refine Ua (wpAny_letGo ?_)
   rw [hname]
   refine Ug ⟨plainId_quiet PySem.F.plain_min_loop _, ih (j + 1) i _ v vb tb c (by omega) hlt J4 nS2 hit2 hv rv (by omega) fun j' hj' => ?_⟩
   by_cases e : j' = j + 1
   ·subst e
    exact ⟨by omega, fun _ => by omega⟩
   ·exact hbest j' (by omega)
theorem ZJk {pins : List (Addr × Obj)} {U : St} {H : Hp} {s : Shared} {Q : VK} {E1 : Value -> Shared -> Prop} (hc : X.calm = true) (F : ZCi X.prog X.w X.K X.mg X.base CX0 k f fd ps sp) (hr : Room k X.A.in1) (hb : ZCX X.K fd ps []) {l : Addr} {us : List V} (kf : Nat -> Int) (J : Inv X pins U H s) (hS : SqT X.K H l us) (hne : us ≠ [])
  (turn : ∀ i v, us[i]? = some v -> ∀ Q : VK, Q (.int (kf i)) H -> sp [v] H Q E0) (hQ : ∀ i v, us[i]? = some v -> (∀ j, j < us.length -> kf i <= kf j /\ (j < i -> kf i < kf j)) -> Q v H) :
  wpAny (model X.prog X.w) X.A (call (.builtin "min") [.ref l] [(Str.ofString "key", .ref f)]) (EP X pins U Q) E1 s := by
 have hname : (toString "min" ++ toString ".loop" : String) = "min.loop" := by decide
 have hpos : 0 < us.length := Vq.mpr hne
 obtain ⟨its, rvs, p, hz⟩ := J.tuple hS
 have hls : s.heap.IsTuple l its.toArray := p
 refine kmk_tree PySem.F.kind_min PySem.F.plain_min PySem.F.entry_min (kmk_min_key _ _) ?_
 show wpAny _ X.A.in1 (Builtin.Builtins.bindParams "min" ["key", "default"] 0 ⟨[], [(Str.ofString "key", .ref f)]⟩ >>= _) _ _ s
 refine Ua (wpAny_of_eq (show Builtin.Builtins.bindParams "min" ["key", "default"] 0 ⟨[], [(Str.ofString "key", .ref f)]⟩ = pure [some (.ref f), none] from rfl) ?_)
 refine Ua (Ug ?_)
 refine Ua (wpAny_pyIter_tuple hls ?_)
 refine Ua (wpAny_newList ?_ (UE _))
 rw [hname]
 refine Ug ⟨plainId_quiet PySem.F.plain_min_loop _, ?_⟩
 generalize hO : ({ cls := .type "tuple_iterator", data := .fields #[.ref l, .int 0 0] } : Obj) = O
 have hSs : (s.heap.push O).objs.size = s.heap.objs.size + 1 := size_push' ..
 have hSI : (s.heap.push O).objs.size ≠ s.heap.objs.size := by rw [hSs]; exact Nat.ne_of_gt (UM _)
 have gI : ((s.heap.push O).push (seqObj "list" #[] 0)).get? s.heap.objs.size = some O := Ub _ (Uf _ (by rw [<- hO]; rfl))
 have gS : ((s.heap.push O).push (seqObj "list" #[] 0)).get? (s.heap.push O).objs.size = some (seqObj "list" #[] 0) := Uf _ rfl
 have fI : ZDo X pins H s.heap.objs.size := J.fpOk (Ue _) (J.hok.fresh (Ue _))
 have fS : ZDo X pins H (s.heap.push O).objs.size := J.fpOk (by rw [hSs]; exact Nat.le_succ _) (J.hok.fresh (by rw [hSs]; exact Nat.le_succ _))
 have J0 : Inv X pins U H { s with heap := (s.heap.push O).push (seqObj "list" #[] 0) } := J.kept (t' := s.toks) fun b o e => Ub _ (Ub _ e)
 obtain ⟨its0, rvs0, p0, hz0⟩ := J0.tuple hS
 have hx : us[0]? = some us[0] := Uc hpos
 obtain ⟨u, hu, ru⟩ := rvs0.get hx
 refine UX PySem.F.entry_min_loop ?_
 rw [Around.under_plainId PySem.F.plain_min_loop _]
 show wpAny _ X.A.in1 (seqItems? (.ref _) >>= _) _ _ _
 refine Ua (wpAny_seqItems gS rfl ?_)
 show wpAny _ X.A.in1 (tryCatch (pyNext (.ref s.heap.objs.size)) _ >>= _) _ _ _
 refine Ua (wpAny_tryCatch (wpAny_pyNext_tuple_item (s := { s with heap := (s.heap.push O).push (seqObj "list" #[] 0) }) (i := 0) ⟨O, gI, by rw [<- hO], by rw [<- hO]; rfl⟩ (show ((s.heap.push O).push (seqObj "list" #[] 0)).IsTuple l its0.toArray from p0) (x := u) (by simpa using hu) fun h' st' sb => ?_))
 have J1 : Inv X pins U H { s with heap := h' } := J0.turnedAt (t' := s.toks) fI fun b o hb e => (sb.2 b hb).trans e
 have hS' : h'.get? (s.heap.push O).objs.size = some (seqObj "list" #[] 0) := (sb.2 _ hSI).trans gS
 obtain ⟨oI, hoI, hoc, hod⟩ := id st'
 have J2 := J1.pin2 (s := { s with heap := h' }) fS fI hS' hoI (fun v z => by cases z) (fun v z => by rw [hod] at z; cases z)
 show wpAny _ X.A.in1 (tryCatch (holding [u] (call (.ref f) [u])) _ >>= _) _ _ _
 refine Ua (wpAny_tryCatch (UJ (UB (ZHa (E1 := fun _ _ => False) F hr hb J2 (.cons ru .nil) (turn 0 _ hx (fun v H' => v = .int (kf 0) /\ H' = H) ⟨rfl, rfl⟩)) (fun x s'' he => ?_) fun _ _ hF => hF.elim)))
 obtain ⟨v2, H2, J3, r2, e2, e3⟩ := he
 subst e2 e3
 obtain ⟨t2, rfl⟩ := r2
 obtain ⟨nS2, nI2, J4⟩ := J3.unpin2
 obtain ⟨c2, hc2⟩ : ∃ c2, (s''.heap.update (s.heap.push O).objs.size (Obj.mapSeq fun _ => #[u, .int (kf 0) t2])).get? (s.heap.push O).objs.size = some (seqObj "list" #[u, .int (kf 0) t2] c2) := ⟨_, get?_update_seq nS2 fun _ => #[u, .int (kf 0) t2]⟩
 show wpAny _ X.A.in1 (updateSeq (s.heap.push O).objs.size (fun _ => #[u, .int (kf 0) t2]) >>= _) _ _ _
 refine Ua ?_
 refine wpAny_updateSeq nS2 rfl ?_
 rw [hname]
 refine Ug ⟨plainId_quiet PySem.F.plain_min_loop _, ZJj hc F hr hb kf hSI hS fI fS turn (fun i v u s' hv rv hbest J' => ⟨v, _, J', rv, hQ i v hv hbest⟩) _ 0 0 _ _ u t2 c2 rfl hpos (J4.turnedAt (t' := s''.toks) fS fun b o hb e => (Uw _ _ (Ne.symm hb)).trans e) hc2 ⟨oI, (Uw _ _ hSI).trans nI2, hoc, hod⟩ hx ru (Ue _) fun j' hj' => ?_⟩
 have e : j' = 0 := by omega
 subst e
 exact ⟨by omega, fun h => absurd h (Vi _)⟩
def ZH5 (K : W.Frag) (sp : Sp) (vs : List V) (H : Hp) (Q : VK) : Prop := ∃ (l : Addr) (us : List V) (kf : Nat -> Int), vs = [.ref l] /\ SqT K H l us /\ us ≠ [] /\ (∀ i v, us[i]? = some v -> ∀ Q : VK, Q (.int (kf i)) H -> sp [v] H Q E0) /\
 ∀ i v, us[i]? = some v -> (∀ j, j < us.length -> kf i <= kf j /\ (j < i -> kf i < kf j)) -> Q v H
def ZKj (K : W.Frag) (sp : Sp) (t : TA) : TE := fun U H Q => t U H fun vs H1 => ZH5 K sp vs H1 Q
theorem ZMh {x : Str} {e : Expr} {t : TA} {p kp kpos pos : Pos} (K : W.Frag) (hK : X.K = K) (hc : X.calm = true) (F : ZCi X.prog X.w X.K X.mg X.base CX0 k f fd ps sp) (hr : Room (k + 1) X.A) (hgm : Gl X "min") (hmm : X.mg "min" = none) (hg : Gl X x) (hm : X.mg x = some (.ref f)) (hb : ZCX X.K fd ps []) (ha : QA X [e] t)
  (hs : ZEG e = false := by rfl) (hd : (x == ("__debug__" : Str)) = false := by decide) : QE X (.Call (.Name "min" p) [e] [⟨some "key", .Name x kp, kpos⟩] pos) (ZKj K sp t) := by
 subst hK
 refine ⟨?_⟩
 intro pins s U H Q I h
 refine wpAny_Call_Name_kw (ZEb I hgm hmm ZNX ?_ (by decide) (by decide))
 have hse := ZEU (e := e) (es := []) (env := X.env) hs
 refine PyProof.Rows.callWith_kw (thn (ha.h pos pins s U H _ I h) fun us s1 ⟨vs, H1, I1, r1, q1⟩ => PyProof.Rows.kws_cons (ZFI I1 hg hm (PyProof.Rows.kws_nil ?_) hd)) (by rw [hse]; rfl) (by rw [hse]; rfl)
 obtain ⟨l, ws, kf, e1, g1, g2, g3, g4⟩ := q1
 subst e1
 obtain ⟨u, rfl, ru⟩ := r1.one
 cases ru
 exact ZJk hc F hr.in1 hb kf I1 g1 g2 g3 g4
theorem ZMi {K : W.Frag} {H : Hp} {Q : VK} {sp : Sp} {l : Addr} {us : List V} (kf : Nat -> Int) (h1 : SqT K H l us) (h2 : us ≠ []) (h3 : ∀ i v, us[i]? = some v -> ∀ Q : VK, Q (.int (kf i)) H -> sp [v] H Q E0)
 (h : ∀ i v, us[i]? = some v -> (∀ j, j < us.length -> kf i <= kf j /\ (j < i -> kf i < kf j)) -> Q v H) : ZH5 K sp [.ref l] H Q := ⟨l, us, kf, rfl, h1, h2, h3, h⟩
theorem ZLT {K : W.Frag} {sp : Sp} {t : TA} {U : St} {H : Hp} {Q : VK} (h : t U H fun vs H1 => ZH5 K sp vs H1 Q) : ZKj K sp t U H Q := h
theorem ZJl {pins : List (Addr × Obj)} {U : St} {H : Hp} (hc : X.calm = true) (F : ZCi X.prog X.w X.K X.mg X.base CX0 k f fd ps sp) (hr : Room k X.A.in1) (hb : ZCX X.K fd ps []) {l I S : Addr} {us : List V} (kf : Nat -> Int) (hSI : S ≠ I) (hS : SqT X.K H l us)
  (fI : ZDo X pins H I) (fS : ZDo X pins H S) (turn : ∀ i v, us[i]? = some v -> ∀ Q : VK, Q (.int (kf i)) H -> sp [v] H Q E0) {R : Result -> Shared -> Prop}
  (hR : ∀ i v u s', us[i]? = some v -> ZCb v u -> (∀ j, j < us.length -> kf i >= kf j /\ (j < i -> kf i > kf j)) -> Inv X pins U H s' -> R (.ok (.ret u)) s') :
  ∀ (r j i : Nat) (s : Shared) (v : V) (vb : Value) (tb : Tok) (c : Nat), us.length - (j + 1) = r -> j + 1 <= us.length -> Inv X pins U H s -> s.heap.get? S = some (seqObj "list" #[vb, .int (kf i) tb] c) -> s.heap.IsTupleIter I l (j + 1) ->
   us[i]? = some v -> ZCb v vb -> i <= j -> (∀ j', j' <= j -> kf i >= kf j' /\ (j' < i -> kf i > kf j')) ->
   codeAny (model X.prog X.w) X.A (.builtin "max.loop" ⟨[.ref I, .ref f, .ref S], []⟩) R s := by
 have hname : (toString "max" ++ toString ".loop" : String) = "max.loop" := by decide
 intro r
 induction r with
 | zero =>
  intro j i s v vb tb c hr' hj J nS hit hv rv hij hbest
  have hin : j + 1 = us.length := by omega
  obtain ⟨its, rvs, p, hz⟩ := J.tuple hS
  have hl := rvs.length
  refine UX PySem.F.entry_max_loop ?_
  rw [Around.under_plainId PySem.F.plain_max_loop _]
  show wpAny _ X.A.in1 (seqItems? (.ref S) >>= _) _ _ _
  refine Ua (wpAny_seqItems nS rfl ?_)
  show wpAny _ X.A.in1 (tryCatch (pyNext (.ref I)) _ >>= _) _ _ _
  refine Ua (wpAny_tryCatch (wpAny_pyNext_tuple_end (J.ok.hd hc) hit (show s.heap.IsTuple l its.toArray from p) (by simp; omega) fun h' eb => ?_))
  have J1 : Inv X pins U H { s with heap := h' } := J.turnedAt (t' := s.toks) fI fun b o hb e => eb b o hb e
  have hS' : h'.get? S = some (seqObj "list" #[vb, .int (kf i) tb] c) := eb S _ hSI nS
  show wpAny _ X.A.in1 (updateSeq S (fun _ => #[]) >>= _) _ _ _
  refine Ua ?_
  refine wpAny_updateSeq hS' rfl (Ua (wpAny_letGo (Ug ?_)))
  exact hR i v vb _ hv rv (fun j' hj' => hbest j' (by omega)) (J1.turnedAt (t' := s.toks) fS fun b o hb e => (Uw _ _ (Ne.symm hb)).trans e)
 | succ r ih =>
  intro j i s v vb tb c hr' hj J nS hit hv rv hij hbest
  have hlt : j + 1 < us.length := by omega
  obtain ⟨its, rvs, p, hz⟩ := J.tuple hS
  have hx : us[j + 1]? = some us[j + 1] := Uc hlt
  obtain ⟨u, hu, ru⟩ := rvs.get hx
  refine UX PySem.F.entry_max_loop ?_
  rw [Around.under_plainId PySem.F.plain_max_loop _]
  show wpAny _ X.A.in1 (seqItems? (.ref S) >>= _) _ _ _
  refine Ua (wpAny_seqItems nS rfl ?_)
  show wpAny _ X.A.in1 (tryCatch (pyNext (.ref I)) _ >>= _) _ _ _
  refine Ua (wpAny_tryCatch (wpAny_pyNext_tuple_item hit (show s.heap.IsTuple l its.toArray from p) (x := u) (by simpa using hu) fun h' st' sb => ?_))
  have J1 : Inv X pins U H { s with heap := h' } := J.turnedAt (t' := s.toks) fI fun b o hb e => (sb.2 b hb).trans e
  have hS' : h'.get? S = some (seqObj "list" #[vb, .int (kf i) tb] c) := (sb.2 S hSI).trans nS
  obtain ⟨oI, hoI, hoc, hod⟩ := id st'
  have J2 := J1.pin2 (s := { s with heap := h' }) fS fI hS' hoI (fun v z => by cases z) (fun v z => by rw [hod] at z; cases z)
  show wpAny _ X.A.in1 (tryCatch (holding [u] (call (.ref f) [u])) _ >>= _) _ _ _
  refine Ua (wpAny_tryCatch (UJ (UB (ZHa (E1 := fun _ _ => False) F hr hb J2 (.cons ru .nil) (turn (j + 1) _ hx (fun v H' => v = .int (kf (j + 1)) /\ H' = H) ⟨rfl, rfl⟩)) (fun x s'' he => ?_) fun _ _ hF => hF.elim)))
  obtain ⟨v2, H2, J3, r2, e2, e3⟩ := he
  subst e2 e3
  obtain ⟨t2, rfl⟩ := r2
  obtain ⟨nS2, nI2, J4⟩ := J3.unpin2
  have hit2 : s''.heap.IsTupleIter I l (j + 1 + 1) := ⟨oI, nI2, hoc, hod⟩
  show wpAny _ X.A.in1 (tryCatch (holding [u, .int (kf (j + 1)) t2] (richCompare .Gt (.int (kf (j + 1)) t2) (.int (kf i) tb) >>= _)) _ >>= _) _ _ _
  refine Ua (wpAny_tryCatch (UJ (Ua (CmpOf.ints_gt (prog := X.prog) (w := X.w) (A := X.A.in1) (P := fun i v => ∃ t, v = .int (kf i) t) kf (fun i v h => h) (j + 1) i _ _ _ _ _ ⟨t2, rfl⟩ ⟨tb, rfl⟩ ?_))))
  refine Ua (UJ (wpAny_truthy_bool ?_))
  refine Ua (wpAny_letGo (Ug ?_))
  by_cases hb' : kf (j + 1) > kf i
  ·obtain ⟨c2, hc2⟩ : ∃ c2, (s''.heap.update S (Obj.mapSeq fun _ => #[u, .int (kf (j + 1)) t2])).get? S = some (seqObj "list" #[u, .int (kf (j + 1)) t2] c2) := ⟨_, get?_update_seq nS2 fun _ => #[u, .int (kf (j + 1)) t2]⟩
   simp only [hb', decide_true, if_true]
   refine Ua ?_
   refine wpAny_updateSeq nS2 rfl (Ua (wpAny_letGo ?_))
   rw [hname]
   refine Ug ⟨plainId_quiet PySem.F.plain_max_loop _, ih (j + 1) (j + 1) _ _ u t2 c2 (by omega) hlt (J4.turnedAt (t' := s''.toks) fS fun b o hb e => (Uw _ _ (Ne.symm hb)).trans e) hc2 ⟨oI, (Uw _ _ hSI).trans nI2, hoc, hod⟩ hx ru (Ue _) fun j' hj' => ?_⟩
   by_cases e : j' = j + 1
   ·subst e
    exact ⟨by omega, fun _ => by omega⟩
   ·have hb1 := hbest j' (by omega)
    have hb2 := hb1.1
    exact ⟨by omega, fun _ => by omega⟩
  ·simp only [hb', decide_false, Uv, if_false]
   refine Ua (wpAny_letGo ?_)
   rw [hname]
   refine Ug ⟨plainId_quiet PySem.F.plain_max_loop _, ih (j + 1) i _ v vb tb c (by omega) hlt J4 nS2 hit2 hv rv (by omega) fun j' hj' => ?_⟩
   by_cases e : j' = j + 1
   ·subst e
    exact ⟨by omega, fun _ => by omega⟩
   ·exact hbest j' (by omega)
theorem ZJm {pins : List (Addr × Obj)} {U : St} {H : Hp} {s : Shared} {Q : VK} {E1 : Value -> Shared -> Prop} (hc : X.calm = true) (F : ZCi X.prog X.w X.K X.mg X.base CX0 k f fd ps sp) (hr : Room k X.A.in1) (hb : ZCX X.K fd ps []) {l : Addr} {us : List V} (kf : Nat -> Int) (J : Inv X pins U H s) (hS : SqT X.K H l us) (hne : us ≠ [])
  (turn : ∀ i v, us[i]? = some v -> ∀ Q : VK, Q (.int (kf i)) H -> sp [v] H Q E0) (hQ : ∀ i v, us[i]? = some v -> (∀ j, j < us.length -> kf i >= kf j /\ (j < i -> kf i > kf j)) -> Q v H) :
  wpAny (model X.prog X.w) X.A (call (.builtin "max") [.ref l] [(Str.ofString "key", .ref f)]) (EP X pins U Q) E1 s := by
 have hname : (toString "max" ++ toString ".loop" : String) = "max.loop" := by decide
 have hpos : 0 < us.length := Vq.mpr hne
 obtain ⟨its, rvs, p, hz⟩ := J.tuple hS
 have hls : s.heap.IsTuple l its.toArray := p
 refine kmk_tree PySem.F.kind_max PySem.F.plain_max PySem.F.entry_max (kmk_max_key _ _) ?_
 show wpAny _ X.A.in1 (Builtin.Builtins.bindParams "max" ["key", "default"] 0 ⟨[], [(Str.ofString "key", .ref f)]⟩ >>= _) _ _ s
 refine Ua (wpAny_of_eq (show Builtin.Builtins.bindParams "max" ["key", "default"] 0 ⟨[], [(Str.ofString "key", .ref f)]⟩ = pure [some (.ref f), none] from rfl) ?_)
 refine Ua (Ug ?_)
 refine Ua (wpAny_pyIter_tuple hls ?_)
 refine Ua (wpAny_newList ?_ (UE _))
 rw [hname]
 refine Ug ⟨plainId_quiet PySem.F.plain_max_loop _, ?_⟩
 generalize hO : ({ cls := .type "tuple_iterator", data := .fields #[.ref l, .int 0 0] } : Obj) = O
 have hSs : (s.heap.push O).objs.size = s.heap.objs.size + 1 := size_push' ..
 have hSI : (s.heap.push O).objs.size ≠ s.heap.objs.size := by rw [hSs]; exact Nat.ne_of_gt (UM _)
 have gI : ((s.heap.push O).push (seqObj "list" #[] 0)).get? s.heap.objs.size = some O := Ub _ (Uf _ (by rw [<- hO]; rfl))
 have gS : ((s.heap.push O).push (seqObj "list" #[] 0)).get? (s.heap.push O).objs.size = some (seqObj "list" #[] 0) := Uf _ rfl
 have fI : ZDo X pins H s.heap.objs.size := J.fpOk (Ue _) (J.hok.fresh (Ue _))
 have fS : ZDo X pins H (s.heap.push O).objs.size := J.fpOk (by rw [hSs]; exact Nat.le_succ _) (J.hok.fresh (by rw [hSs]; exact Nat.le_succ _))
 have J0 : Inv X pins U H { s with heap := (s.heap.push O).push (seqObj "list" #[] 0) } := J.kept (t' := s.toks) fun b o e => Ub _ (Ub _ e)
 obtain ⟨its0, rvs0, p0, hz0⟩ := J0.tuple hS
 have hx : us[0]? = some us[0] := Uc hpos
 obtain ⟨u, hu, ru⟩ := rvs0.get hx
 refine UX PySem.F.entry_max_loop ?_
 rw [Around.under_plainId PySem.F.plain_max_loop _]
 show wpAny _ X.A.in1 (seqItems? (.ref _) >>= _) _ _ _
 refine Ua (wpAny_seqItems gS rfl ?_)
 show wpAny _ X.A.in1 (tryCatch (pyNext (.ref s.heap.objs.size)) _ >>= _) _ _ _
 refine Ua (wpAny_tryCatch (wpAny_pyNext_tuple_item (s := { s with heap := (s.heap.push O).push (seqObj "list" #[] 0) }) (i := 0) ⟨O, gI, by rw [<- hO], by rw [<- hO]; rfl⟩ (show ((s.heap.push O).push (seqObj "list" #[] 0)).IsTuple l its0.toArray from p0) (x := u) (by simpa using hu) fun h' st' sb => ?_))
 have J1 : Inv X pins U H { s with heap := h' } := J0.turnedAt (t' := s.toks) fI fun b o hb e => (sb.2 b hb).trans e
 have hS' : h'.get? (s.heap.push O).objs.size = some (seqObj "list" #[] 0) := (sb.2 _ hSI).trans gS
 obtain ⟨oI, hoI, hoc, hod⟩ := id st'
 have J2 := J1.pin2 (s := { s with heap := h' }) fS fI hS' hoI (fun v z => by cases z) (fun v z => by rw [hod] at z; cases z)
 show wpAny _ X.A.in1 (tryCatch (holding [u] (call (.ref f) [u])) _ >>= _) _ _ _
 refine Ua (wpAny_tryCatch (UJ (UB (ZHa (E1 := fun _ _ => False) F hr hb J2 (.cons ru .nil) (turn 0 _ hx (fun v H' => v = .int (kf 0) /\ H' = H) ⟨rfl, rfl⟩)) (fun x s'' he => ?_) fun _ _ hF => hF.elim)))
 obtain ⟨v2, H2, J3, r2, e2, e3⟩ := he
 subst e2 e3
 obtain ⟨t2, rfl⟩ := r2
 obtain ⟨nS2, nI2, J4⟩ := J3.unpin2
 obtain ⟨c2, hc2⟩ : ∃ c2, (s''.heap.update (s.heap.push O).objs.size (Obj.mapSeq fun _ => #[u, .int (kf 0) t2])).get? (s.heap.push O).objs.size = some (seqObj "list" #[u, .int (kf 0) t2] c2) := ⟨_, get?_update_seq nS2 fun _ => #[u, .int (kf 0) t2]⟩
 show wpAny _ X.A.in1 (updateSeq (s.heap.push O).objs.size (fun _ => #[u, .int (kf 0) t2]) >>= _) _ _ _
 refine Ua ?_
 refine wpAny_updateSeq nS2 rfl ?_
 rw [hname]
 refine Ug ⟨plainId_quiet PySem.F.plain_max_loop _, ZJl hc F hr hb kf hSI hS fI fS turn (fun i v u s' hv rv hbest J' => ⟨v, _, J', rv, hQ i v hv hbest⟩) _ 0 0 _ _ u t2 c2 rfl hpos (J4.turnedAt (t' := s''.toks) fS fun b o hb e => (Uw _ _ (Ne.symm hb)).trans e) hc2 ⟨oI, (Uw _ _ hSI).trans nI2, hoc, hod⟩ hx ru (Ue _) fun j' hj' => ?_⟩
 have e : j' = 0 := by omega
 subst e
 exact ⟨by omega, fun h => absurd h (Vi _)⟩
def ZH6 (K : W.Frag) (sp : Sp) (vs : List V) (H : Hp) (Q : VK) : Prop := ∃ (l : Addr) (us : List V) (kf : Nat -> Int), vs = [.ref l] /\ SqT K H l us /\ us ≠ [] /\ (∀ i v, us[i]? = some v -> ∀ Q : VK, Q (.int (kf i)) H -> sp [v] H Q E0) /\
 ∀ i v, us[i]? = some v -> (∀ j, j < us.length -> kf i >= kf j /\ (j < i -> kf i > kf j)) -> Q v H
def ZKk (K : W.Frag) (sp : Sp) (t : TA) : TE := fun U H Q => t U H fun vs H1 => ZH6 K sp vs H1 Q
theorem ZMj {x : Str} {e : Expr} {t : TA} {p kp kpos pos : Pos} (K : W.Frag) (hK : X.K = K) (hc : X.calm = true) (F : ZCi X.prog X.w X.K X.mg X.base CX0 k f fd ps sp) (hr : Room (k + 1) X.A) (hgm : Gl X "max") (hmm : X.mg "max" = none) (hg : Gl X x) (hm : X.mg x = some (.ref f)) (hb : ZCX X.K fd ps []) (ha : QA X [e] t)
  (hs : ZEG e = false := by rfl) (hd : (x == ("__debug__" : Str)) = false := by decide) : QE X (.Call (.Name "max" p) [e] [⟨some "key", .Name x kp, kpos⟩] pos) (ZKk K sp t) := by
 subst hK
 refine ⟨?_⟩
 intro pins s U H Q I h
 refine wpAny_Call_Name_kw (ZEb I hgm hmm ZNW ?_ (by decide) (by decide))
 have hse := ZEU (e := e) (es := []) (env := X.env) hs
 refine PyProof.Rows.callWith_kw (thn (ha.h pos pins s U H _ I h) fun us s1 ⟨vs, H1, I1, r1, q1⟩ => PyProof.Rows.kws_cons (ZFI I1 hg hm (PyProof.Rows.kws_nil ?_) hd)) (by rw [hse]; rfl) (by rw [hse]; rfl)
 obtain ⟨l, ws, kf, e1, g1, g2, g3, g4⟩ := q1
 subst e1
 obtain ⟨u, rfl, ru⟩ := r1.one
 cases ru
 exact ZJm hc F hr.in1 hb kf I1 g1 g2 g3 g4
theorem ZMk {K : W.Frag} {H : Hp} {Q : VK} {sp : Sp} {l : Addr} {us : List V} (kf : Nat -> Int) (h1 : SqT K H l us) (h2 : us ≠ []) (h3 : ∀ i v, us[i]? = some v -> ∀ Q : VK, Q (.int (kf i)) H -> sp [v] H Q E0)
 (h : ∀ i v, us[i]? = some v -> (∀ j, j < us.length -> kf i >= kf j /\ (j < i -> kf i > kf j)) -> Q v H) : ZH6 K sp [.ref l] H Q := ⟨l, us, kf, rfl, h1, h2, h3, h⟩
theorem ZLU {K : W.Frag} {sp : Sp} {t : TA} {U : St} {H : Hp} {Q : VK} (h : t U H fun vs H1 => ZH6 K sp vs H1 Q) : ZKk K sp t U H Q := h
end
section
variable {X : Cx} {o e value : Expr} {f m : Str} {pos pos' tpos apos : Pos} {ta tv : TE} {t : TA}
def ZTd (K : W.Frag) (f : Str) (x : V) (H : Hp) (Q : VK) : Prop := ∃ a C dx fs v, x = .ref a /\ H a = some (.ins C dx fs) /\ Cls K C /\ ZDM K C f /\ fs.lookup f = some v /\ Q v H
def ZQU (K : W.Frag) (f : Str) (y x : V) (H : Hp) (R : Hp -> Prop) : Prop := ∃ a C dx fs, x = .ref a /\ H a = some (.ins C dx fs) /\ Cls K C /\ ZDM K C f /\ fs.length < 1000 /\ R (upd H a (.ins C dx (ZCw f y fs)))
theorem ZDW (K : W.Frag) (hK : X.K = K) (he : QE X e ta) (hb : attributeBase e f X.env (eval e X.env) = eval e X.env := by rfl) : QE X (.Attribute e f pos) (ZOu K ta f) := by
 subst hK
 exact ⟨ZSh he.h hb⟩
theorem ZE7 (K : W.Frag) (hK : X.K = K) (ho : QE X o ta) (hv : QE X value tv) (hs : ZEB value = false := by rfl) : QS X (.Assign [.Attribute o f pos'] value pos) (ZOv K ta tv f) := by
 subst hK
 exact ⟨ZSi ho.h hv.h (ZFP hs)⟩
theorem ZNk (K : W.Frag) (hK : X.K = K) (ho : QE X o ta) (hv : QE X value tv) : QS X (.AugAssign (.Attribute o f tpos) .Add value pos) (ZIl K ta tv ZKA f) := by
 subst hK
 exact ⟨ZNO ho.h hv.h ZSj⟩
section
variable {CX : CXT} {k : Nat} {fa C : Addr} {fd : FuncData} {ps : List Str} {sp : Sp} {dvs : List V} {ds : List Value} {E : XK} {es : List Expr} {x : Str} {p : Pos}
theorem ZDZ {pl : Sem Bool} (he : QE X o ta) (c : Cls X.K C) (hm : ZDb X.K C m fa) (F : ZCi X.prog X.w X.K X.mg X.base CX k fa fd ps sp) (hr : Room k X.A) (hb : ZCX X.K fd ps ds) (hd : ZCh dvs ds) (hx : ZD0 CX X E) (ha : QA X (e :: es) t) (hns : ZDI (e :: es) = true := by rfl)
 (ht : eval (.Call (.Attribute o m apos) (e :: es) [] pos) X.env = (do
  let ov <- eval o X.env
  standAt apos.atName
  let (f, first) <- holding [ov] (getMethod ov m pl)
  callWith pos f first (backTo pos (starEach (e :: es) X.env)) (backToKw pos (keywordEach [] X.env))) := by rfl) :
 QE X (.Call (.Attribute o m apos) (e :: es) [] pos) (ZMO C m sp dvs E ta t) := ⟨ZQ1 he.h c hm F hr hb hd hx ha.h (ZEr hns) (ZEP (ZEV hns)) ht⟩
theorem ZRe (M : Mk X.K C fa) (F : ZCi X.prog X.w X.K X.mg X.base CX k fa fd ps sp) (hr : Room (k + 1) X.A) (hg : Gl X x) (hm : X.mg x = some (.ref C)) (hb : ZCX X.K fd ps ds) (hd : ZCh dvs ds) (hx : ZD0 CX X E) (ha : QA X (e :: es) t)
 (hns : ZDI (e :: es) = true := by rfl) (hdb : (x == ("__debug__" : Str)) = false := by decide) : QE X (.Call (.Name x p) (e :: es) [] pos) (ZIS C sp dvs E t) := ⟨ZQ2 M F hr hg hm hb hd hx ha.h hdb (ZEr hns) (ZEP (ZEV hns))⟩
theorem ZKl (M : Mk X.K C fa) (F : ZCi X.prog X.w X.K X.mg X.base CX k fa fd ps sp) (hr : Room (k + 1) X.A) (hg : Gl X x) (hm : X.mg x = some (.ref C)) (hb : ZCX X.K fd ps ds) (hd : ZCh dvs ds) (hx : ZD0 CX X E)
 (hdb : (x == ("__debug__" : Str)) = false := by decide) : QE X (.Call (.Name x p) [] [] pos) (ZIS C sp dvs E ZKB) := ⟨ZOy M F hr hg hm hb hd hx hdb⟩
end
end
section
variable {K : W.Frag} {U : St} {H : Hp} {Q : VK} {D : ZDT} {f m : Str} {ta tv : TE} {t : TA} {C : Addr} {sp : Sp} {dvs : List V} {E : XK}
theorem ZRf (h : ta U H fun x H1 => ZTd K f x H1 Q) : ZOu K ta f U H Q := h
theorem ZDg {a dx : Addr} {fs : List (Str × V)} {v : V} (h1 : H a = some (.ins C dx fs)) (c : Cls K C) (n : ZDM K C f) (l : fs.lookup f = some v) (q : Q v H) : ZTd K f (.ref a) H Q := ⟨a, C, dx, fs, v, rfl, h1, c, n, l, q⟩
theorem ZPX (h : tv U H fun y H1 => ta U H1 fun x H2 => ZQU K f y x H2 (D.nx U)) : ZOv K ta tv f D U H := h
theorem ZEa {a dx : Addr} {fs : List (Str × V)} {y : V} {R : Hp -> Prop} (h1 : H a = some (.ins C dx fs)) (c : Cls K C) (n : ZDM K C f) (l : fs.length < 1000) (q : ∀ H2, H2 a = some (.ins C dx (ZCw f y fs)) -> Kp a H H2 -> R H2) : ZQU K f y (.ref a) H R := ⟨a, C, dx, fs, rfl, h1, c, n, l, q _ ZCZ Kp.upd⟩
def ZLw (K : W.Frag) (f : Str) (tv : TE) (U : St) (R : Hp -> Prop) (x : V) (H : Hp) : Prop := ∃ a C dx fs v, x = .ref a /\ H a = some (.ins C dx fs) /\ Cls K C /\ ZDM K C f /\ fs.lookup f = some v /\
 tv U H fun y H2 => ZKA v y H2 fun z H3 => ∃ dx' fs', H3 a = some (.ins C dx' fs') /\ fs'.length < 1000 /\ R (upd H3 a (.ins C dx' (ZCw f z fs')))
theorem ZMl (h : ta U H fun x H1 => ZLw K f tv U (D.nx U) x H1) : ZIl K ta tv ZKA f D U H := h
def ZNl (C : Addr) (m : Str) (x : V) (H : Hp) (R : Prop) : Prop := ∃ a dx fs, x = .ref a /\ H a = some (.ins C dx fs) /\ fs.lookup m = none /\ R
theorem ZPY (h : ta U H fun x H1 => ZNl C m x H1 (t U H1 fun vs H2 => sp (x :: (vs ++ dvs)) H2 Q E)) : ZMO C m sp dvs E ta t U H Q := h
theorem ZDR {a dx : Addr} {fs : List (Str × V)} {R : Prop} (h1 : H a = some (.ins C dx fs)) (l : fs.lookup m = none) (q : R) : ZNl C m (.ref a) H R := ⟨a, dx, fs, rfl, h1, l, q⟩
def ZQV (C : Addr) (sp : Sp) (dvs : List V) (E : XK) (vs : List V) (H : Hp) (Q : VK) : Prop := ∀ x dx, H x = none -> H dx = none -> dx ≠ x -> sp (.ref x :: (vs ++ dvs)) (upd (upd H dx (.own x)) x (.ins C dx [])) (fun v H2 => v = .non /\ Q (.ref x) H2) E
theorem ZPZ (h : t U H fun vs H1 => ZQV C sp dvs E vs H1 Q) : ZIS C sp dvs E t U H Q := h
theorem ZIs {vs : List V} (h : ∀ x dx H2, H x = none -> H2 x = some (.ins C dx []) -> ZCW H H2 -> sp (.ref x :: (vs ++ dvs)) H2 (fun v H3 => v = .non /\ Q (.ref x) H3) E) : ZQV C sp dvs E vs H Q := fun x dx hx hdx hne =>
 h x dx _ hx ZCZ fun b o e => by rw [ZCe (ZDB e hx), ZCe (ZDB e hdx)]; exact e
end
structure ZKm (K : W.Frag) (x qual : Str) (st : Stmt) (f : Addr) (fd : FuncData) : Prop where
 ex : ∃ (oc : Value) (od : Option Addr) (dV kV doc pm : Value) (an : Option Addr) (cdv ct : Value) (osl : Array (Option Value)),
  fd = W.fnOf x qual (ZDS st) (ZDH st) (ZCU st) dV kV doc pm an cdv ct /\ K.lookup f = some ⟨oc, od, .func fd, osl⟩ /\ W.codeIn K cdv qual = true
 kp : W.keepIn K (.ref f) = true
theorem ZKm.ok {P : Program} {w : World} {K : W.Frag} {mg : Str -> Option Value} {base : Heap} {x qual : Str} {st : Stmt} {f : Addr} {fd : FuncData} {N ps : List Str} {k : Nat} {sp : Sp} (F : ZKm K x qual st f fd) (S : ZCd N ps (ZCU st)) (len : ∀ vs H Q E, sp vs H Q E -> vs.length = ps.length)
  (hbody : ∀ (cdv : Value) (A : Around) (outer : List Env) (s : Shared) (H : Hp) (vs : List V) (Q : VK) (E : XK), Room k (A.deeper (envOfC qual (ZCU st) s.heap.objs.size f cdv)) -> sp vs H Q E ->
   ∃ t, PSs (ZHu CX0 P w K mg base N qual (ZCU st) f cdv A outer s H E).nox (ZDH st) t /\ t { nx := fun _ H' => Q .non H', rt := Q } (start N vs) H) : ZCi P w K mg base CX0 (k + 1) f fd ps sp := by
 obtain ⟨oc, od, dV, kV, doc, pm, an, cdv, ct, osl, rfl, lk, hcd⟩ := F.ex
 refine ZQO lk hcd S len fun A outer s H vs Q E hr hsp => ?_
 obtain ⟨t, h, q⟩ := hbody cdv A outer s H vs Q E hr hsp
 exact ⟨t, h.nox, q⟩
section
variable {K : W.Frag} {U : St} {H : Hp} {Q : VK} {f : Str} {tv td ty : TE} {C : Addr}
theorem ZMm {a dx : Addr} {fs : List (Str × V)} {v : V} {R : Hp -> Prop} (h1 : H a = some (.ins C dx fs)) (c : Cls K C) (n : ZDM K C f) (l : fs.lookup f = some v)
 (q : tv U H fun y H2 => ZKA v y H2 fun z H3 => ∃ dx' fs', H3 a = some (.ins C dx' fs') /\ fs'.length < 1000 /\ R (upd H3 a (.ins C dx' (ZCw f z fs')))) : ZLw K f tv U R (.ref a) H := ⟨a, C, dx, fs, v, rfl, h1, c, n, l, q⟩
def ZG2 (a : Addr) (y : V) (H : Hp) (Q : VK) : Prop := ∃ o, ZDq H a y o /\ Q (o.getD .non) H
def ZKn (ty : TE) (U : St) (Q : VK) (x : V) (H : Hp) : Prop := ∃ a, x = .ref a /\ IsD H a /\ ty U H fun y H2 => ZG2 a y H2 Q
theorem ZNm (h : td U H fun x H1 => ZKn ty U Q x H1) : ZKX td ty U H Q := h
theorem ZG3 {a : Addr} {kvs : List (List Key × V)} (h1 : H a = some (.dT kvs)) (q : ty U H fun y H2 => ZG2 a y H2 Q) : ZKn ty U Q (.ref a) H := ⟨a, rfl, .inr ⟨kvs, .inl h1⟩, q⟩
theorem ZH7 {a b : Addr} {kvs : List (List Key × V)} {k : List Key} (h1 : H a = some (.dT kvs)) (hb : H b = some (.tup (k.map kV))) (q : Q ((ZC1 kvs k).getD .non) H) : ZG2 a (.ref b) H Q := ⟨_, ZDq.t h1 hb, q⟩
theorem ZNn {a : Addr} {kvs : List (Key × V)} (h1 : H a = some (.dK kvs)) (q : ty U H fun y H2 => ZG2 a y H2 Q) : ZKn ty U Q (.ref a) H := ⟨a, rfl, .inl ⟨kvs, .inl h1⟩, q⟩
theorem ZPa {a : Addr} {m : PL} {i : Int} (h1 : H a = some (.dK (ZCl m))) (q : Q (((ZCx m i).map V.int).getD .non) H) : ZG2 a (.int i) H Q := ⟨_, ZDq.k (k := Sum.inl i) h1, by rw [ZFU]; exact q⟩
theorem ZKo {a b : Addr} {kvs : List (List Key × V)} {k : List Key} {v : V} {R : Hp -> Prop} (h1 : H a = some (.dT kvs)) (hb : H b = some (.tup (k.map kV))) (hz : kvs.length < sizeLine) (h : ∀ H2, H2 a = some (.dT (ZDf kvs k v)) -> Kp a H H2 -> R H2) : ZJ1 v (.ref a) (.ref b) H R :=
 ⟨a, _, rfl, ZFt.t h1 hb hz, h _ ZCZ Kp.upd⟩
end
section
variable {X : Cx} {o e : Expr} {apos cpos pos p : Pos} {td ty to : TE}
theorem ZGT (hu : X.A.units + 1 < cLine) (ho : QE X o td) (he : QE X e ty) (m : M1 X o "get" apos e cpos := by exact ⟨rfl, rfl, rfl, rfl⟩) : QE X (.Call (.Attribute o "get" apos) [e] [] cpos) (ZKX td ty) := ⟨ZPR hu ho.h he.h m⟩
theorem ZPb : QE X (.Dict [] [] pos) ZKV := ⟨ZPQ⟩
def ZNo (H : Hp) (Q : VK) : Prop := ∀ p, H p = none -> Q (.ref p) (upd H p (.dT []))
theorem ZNp {U : St} {H : Hp} {Q : VK} (h : ZNo H Q) : ZKV U H Q := h
theorem ZPc {H : Hp} {Q : VK} (h : ∀ p H2, H p = none -> H2 p = some (.dT []) -> ZCW H H2 -> Q (.ref p) H2) : ZNo H Q := fun p hp => h p _ hp ZCZ (ZCW.new hp)
end
theorem ZLx {K : W.Frag} {x qual : Str} {st : Stmt} {f : Addr} {oc : Value} {od an : Option Addr} {osl : Array (Option Value)} {dV kV doc pm cdv ct : Value} (l : K.lookup f = some ⟨oc, od, .func (W.fnOf x qual (ZDS st) (ZDH st) (ZCU st) dV kV doc pm an cdv ct), osl⟩)
 (c : W.codeIn K cdv qual = true) (k : W.keepIn K (.ref f) = true) : ZKm K x qual st f (W.fnOf x qual (ZDS st) (ZDH st) (ZCU st) dV kV doc pm an cdv ct) := ⟨⟨oc, od, dV, kV, doc, pm, an, cdv, ct, osl, rfl, l, c⟩, k⟩
def ZLy (K : W.Frag) (fd : FuncData) (ps : List Str) (x : Str) : Prop := ∀ (s : Shared) (u v : Value), K.In s.heap -> BindsTo s fd ⟨[u], [(x, v)]⟩ (ps.zip [u, v])
def Cov (B : Heap) (H' : Hp) (h0 h' : Heap) (fs : List Addr) : Prop := ∀ b o, h'.get? b = some o -> b ∉ fs -> ((∃ u, H' b = some u) \/ ∃ o0, h0.get? b = some o0) -> B.get? b = some o
def ZMn (K : W.Frag) (C : Addr) : Prop := excIn K C [.type "ValueError", .type "Exception", .type "BaseException", .type "object"] "ValueError.__new__" = true
def Fl (X : Cx) (H1 : Hp) (s0 : Shared) (e : Addr) (C : Value) (H' : Hp) (s3 : Shared) : Prop := ∃ (a0 : Value) (B : Heap), s3.os = s0.os /\ AllBare s3.gens /\ Un (frs X.stack) [] H1 H' s0.heap s3.heap /\ HOk X.prog X.w H' s3.heap /\
 s0.heap.get? e = none /\ H' e = none /\ Heap.FlyingW B X.stack e C a0 s3.heap /\ Cov B H' s0.heap s3.heap (frs X.stack)
abbrev TX := St -> Hp -> VK -> XK -> Prop
def XP (X : Cx) (pins : List (Addr × Obj)) (U : St) (E : XK) (ev : Value) (s' : Shared) : Prop := ∃ H1 s1 e C H', Inv X pins U H1 s1 /\ ev = .ref e /\ Fl X H1 s1 e C H' s' /\ E C none H'
abbrev TBX := ZDT -> XK -> St -> Hp -> Prop
abbrev TH := Value -> ZDT -> St -> Hp -> Prop
end L2
namespace L2
open PySem PySem.Spec PyProof.Rows PySem.W PySem.Builtin PySem.Builtin.ObjectAttr PySem.Builtin.Getset_descriptor
structure ZMo (K : W.Frag) (C : Addr) : Prop where
 ga : findIn K (.ref C) "__getattribute__" = some (some (.builtin "BaseException.__getattribute__"))
 gt : findIn K (.ref C) "__getattr__" = some none
 cl : findIn K (.ref C) "__class__" = some (some (.builtin "object.__class__"))
 ob : mroIn K C (.type "object") = some true
 be : mroIn K C (.type "BaseException") = some true
def ZPd (K : W.Frag) : List V -> Hp -> VK -> Prop := fun xs H Q => ∃ (p : Addr) (ns : List Int), xs = [.ref p] /\ SqL K H p (ns.map V.int) /\ Q (.int ns.sum) H
section
variable {X : Cx}
theorem ZPe (hc : X.calm = true) : ZC8 X (.builtin "sum") (ZPd X.K) := by
 intro pins s U H xs us Q I r h
 obtain ⟨p, ns, rfl, hq, q⟩ := h
 cases r with
 | cons r1 r2 =>
 cases r2
 cases r1
 obtain ⟨its, rv, pl, hz⟩ := I.list hq
 have hi := ZGx rv
 have hl : s.heap.IsList p its.toArray := pl.isList
 have hall := hi.allInts
 have hn : numsOf its.toArray.toList = ns := hi.numsOf
 obtain ⟨ys, e⟩ := hall.items
 rw [e] at hl hn
 rw [nums_intItems] at hn
 refine sum_intListG (I.ok.hd hc) hl fun h' tk t' hk => ⟨.int ns.sum, H, I.kept hk, ⟨t', ?_⟩, q⟩
 rw [preSum_eq, List.take_of_length_le (by simp), hn]
theorem ZTe (K : W.Frag) (h : X.K = K) (hc : X.calm = true) : ZC8 X (.builtin "sum") (ZPd K) := h ▸ ZPe hc
theorem ZTf {K : W.Frag} {H : Hp} {Q : VK} {p : Addr} {ns : List Int} (h : SqL K H p (ns.map V.int)) (q : Q (.int ns.sum) H) : ZPd K [.ref p] H Q := ⟨p, ns, rfl, h, q⟩
def ZTg : R2 := fun x y H Q => ∃ (c : Nat) (z : Str), x = .str ⟨#[c]⟩ /\ y = .str z /\ Q (.bl (decide (c ∈ z.cps.toList))) H
theorem ZTh : OpR X (compareOp .In) ZTg := by
 intro pins s U H x y v u Q I rx ry h
 obtain ⟨c, z, rfl, rfl, q⟩ := h
 obtain ⟨t, rfl⟩ := rx
 obtain ⟨t', rfl⟩ := ry
 exact in_str (ZDV I q (StrLaws.found_one z c).symm)
theorem ZTi {H : Hp} {Q : VK} {c : Nat} {z : Str} (q : Q (.bl (decide (c ∈ z.cps.toList))) H) : ZTg (.str ⟨#[c]⟩) (.str z) H Q := ⟨c, z, rfl, rfl, q⟩
def Its (z : Str) : It := ⟨fun i _ => i < z.cps.size, fun i H x H' => H' = H /\ ∃ c, z.cps.toList[i]? = some c /\ x = .str ⟨#[c]⟩, fun i _ => z.cps.size <= i⟩
theorem ZKp {P : Program} {w : World} {K : W.Frag} {tg : Expr} (it : Addr) (z : Str) (t : Tok) (n : String) (hn : ["enumerate", "zip", "dict_itemiterator", "dict_reverseitemiterator", "odict_iterator", "itertools.zip_longest", "itertools.pairwise"].contains n = false)
  (W : ∀ A : Around, A.handled = none -> Walks P w A it [it] [it] z.cps.size (SignAt z) (fun i h => h.IsStrIter it n z t i))
  (dn : ∀ (A : Around) (s : Shared) (i : Nat) (Q : Option Value -> Shared -> Prop) (E : Value -> Shared -> Prop), A.handled = none -> s.heap.IsStrIter it n z t i -> z.cps[i]? = none -> (∀ h', Heap.ExtBut it s.heap h' -> Q none { s with heap := h' }) -> wpAny (model P w) A (pyNext (.ref it)) Q E s)
  (sf : ∀ (A : Around) (i : Nat) (s : Shared) (Q : Value -> Shared -> Prop) (E : Value -> Shared -> Prop), s.heap.IsStrIter it n z t i -> Q (.ref it) s -> wpAny (model P w) A (pyIter (.ref it)) Q E s) :
  ZHs P w K tg (Its z) [it] it (fun i h => h.IsStrIter it n z t i) where
 mem := by simp
 obj := fun i h st b hb => by
  have e : b = it := by simpa using hb
  subst e
  obtain ⟨o, e, c, d⟩ := st
  exact ⟨o, e, fun v z => by rw [d] at z; cases z⟩
 keep := fun i h h' st k => by
  obtain ⟨o, e, c, d⟩ := st
  exact ⟨o, k it (by simp) _ e, c, d⟩
 item := by
  intro X hP hw hK hc i pins s U H E I hf st hg
  subst hP hw hK
  obtain ⟨f0, f1, f2, f3, f4, f5⟩ := hf it (by simp)
  refine (W X.A (I.ok.hd hc)).item i s _ _ hg st fun v h' tk hv st' kk => ?_
  obtain ⟨c, t2, ec, rfl⟩ := hv
  have I1 : Inv X pins U H { s with heap := h', toks := tk } := I.turned (fun b o hb e => kk b o (by simpa using hb) e) f0 f1 f3 f4 f5
  obtain ⟨o, e, c', d⟩ := id st'
  exact ⟨_, rfl, ZHU (s := { s with heap := h', toks := tk }) e c' d hn ⟨.str ⟨#[c]⟩, H, I1, ⟨t2, rfl⟩, ⟨rfl, c, by rw [Vb]; exact ec, rfl⟩, st', fun b hb => (hf b hb).1⟩⟩
 done := by
  intro X hP hw hK hc i pins s U H E I hf st hg
  subst hP hw hK
  obtain ⟨f0, f1, f2, f3, f4, f5⟩ := hf it (by simp)
  exact dn X.A s i _ _ (I.ok.hd hc) st (Array.getElem?_eq_none hg) fun h' eb => ⟨rfl, I.turned (t' := s.toks) (fun b o hb e => eb b o hb e) f0 f1 f3 f4 f5⟩
 self := fun A i s Q E st h => sf A i s Q E st h
def ZKq (x : V) (H : Hp) (R : It -> Hp -> Prop) : Prop := ∃ z, x = .str z /\ R (Its z) H
def ZTj (tl : TE) : TI := fun U H R => tl U H fun x H1 => ZKq x H1 R
theorem ZTk {tg l : Expr} {tl : TE} (hl : QE X l tl) : QI X tg l (ZTj tl) := by
 refine ⟨?_⟩
 intro pins s U H R I h
 refine thn (hl.h pins s U H _ I h) fun v s1 ⟨x, H1, I1, r1, q1⟩ => ?_
 obtain ⟨z, e, q⟩ := q1
 subst e
 obtain ⟨t, rfl⟩ := r1
 have fin : ∀ b, b ∈ [s1.heap.objs.size] -> ZDo X pins H1 b := fun b hb => by
  have e : b = s1.heap.objs.size := by simpa using hb
  subst e
  exact I1.fpOk (Ue _) (I1.hok.fresh (Ue _))
 cases ha : z.cps.all (· < 128)
 ·exact wpAny_pyIter_wide ha ⟨s1.heap.objs.size, [s1.heap.objs.size], _, _, H1, rfl, I1.kept (t' := s1.toks) fun b o e => Ub _ e,
   ZKp _ z t "str_iterator" (by decide) (fun A hA => Walks.strWide hA _ z t) (fun A s i Q E hh st hx hq => wpAny_pyNext_wide_end hh st hx hq) (fun A i s Q E st h => wpAny_pyIter_striter_wide st h), ⟨_, Uf _ rfl, rfl, rfl⟩, fin, q⟩
 ·exact wpAny_pyIter_ascii ha ⟨s1.heap.objs.size, [s1.heap.objs.size], _, _, H1, rfl, I1.kept (t' := s1.toks) fun b o e => Ub _ e,
   ZKp _ z t "str_ascii_iterator" (by decide) (fun A hA => Walks.strAscii hA _ z t) (fun A s i Q E hh st hx hq => wpAny_pyNext_ascii_end hh st hx hq) (fun A i s Q E st h => wpAny_pyIter_striter_ascii st h), ⟨_, Uf _ rfl, rfl, rfl⟩, fin, q⟩
end
section
variable {K : W.Frag} {H : Hp} {Q : VK} {U : St}
theorem ZRg {tl : TE} {R : It -> Hp -> Prop} (h : tl U H fun x H1 => ZKq x H1 R) : ZTj tl U H R := h
theorem ZPf {z : Str} {R : It -> Hp -> Prop} (h : R (Its z) H) : ZKq (.str z) H R := ⟨z, rfl, h⟩
variable {D : ZDT}
end
def fl (low tall : Int) (q : Int × Int) : Int := (q.1 - low * q.2) / (tall * q.2)
def ZC5 (cv : PL) (b e : Int) : PL := cv.filter fun p => decide (b <= p.1) && decide (p.1 < e)
def InT (cv : PL) : Prop := ∀ p ∈ cv, (-(10 ^ 64) < p.1 /\ p.1 < 10 ^ 64) /\ -(10 ^ 64) < p.2 /\ p.2 < 10 ^ 64
section
variable {X : Cx}
def ZQW : List V -> Hp -> VK -> Prop := fun xs H Q => ∃ z, xs = [.str z] /\ z.length <= sizeLine /\ Q (.int z.length) H
theorem ZRh : ZC8 X (.builtin "len") ZQW := ZKF
theorem ZRi {H : Hp} {Q : VK} {z : Str} (h : z.length <= sizeLine) (q : Q (.int z.length) H) : ZQW [.str z] H Q := ⟨z, rfl, h, q⟩
end
theorem ZF9 {cv : PL} (h : Asc cv) {i j : Nat} (hi : i < cv.length) (hj : j < cv.length) (hij : i < j) : cv[i].1 < cv[j].1 := UZ.mp h i j hi hj hij
theorem ZGA {cv : PL} (h : Asc cv) {a b : Int × Int} (ha : a ∈ cv) (hb : b ∈ cv) (e : a.1 = b.1) : a = b := by
 obtain ⟨i, hi, rfl⟩ := UO ha
 obtain ⟨j, hj, rfl⟩ := UO hb
 rcases Vp i j with hij | hij | hij
 ·have := ZF9 h hi hj hij; omega
 ·subst hij; rfl
 ·have := ZF9 h hj hi hij; omega
theorem ZDF {cv : PL} {b e : Int} {p : Int × Int} : p ∈ ZC5 cv b e ↔ p ∈ cv /\ b <= p.1 /\ p.1 < e := by
 unfold ZC5
 rw [List.mem_filter]
 simp
def Is4 (cv : PL) (o : Option (PL)) : Prop :=
 (o = none /\ cv = []) \/ ∃ q0 q1 q2 q3 : Int × Int, o = some [q0, q1, q2, q3] /\ q0 ∈ cv /\ q1 ∈ cv /\ q2 ∈ cv /\ q3 ∈ cv /\
  ∀ p ∈ cv, q0.1 <= p.1 /\ p.1 <= q1.1 /\ (q2.2 < p.2 \/ (q2.2 = p.2 /\ q2.1 <= p.1)) /\ (p.2 < q3.2 \/ (p.2 = q3.2 /\ q3.1 <= p.1))
theorem Is4.unique {cv : PL} {o o' : Option (PL)} (ha : Asc cv) (h : Is4 cv o) (g : Is4 cv o') : o = o' := by
 rcases h with ⟨e, hc⟩ | ⟨q0, q1, q2, q3, e, m0, m1, m2, m3, hb⟩
 ·rcases g with ⟨e', _⟩ | ⟨r0, r1, r2, r3, e', n0, _⟩
  ·rw [e, e']
  ·rw [hc] at n0; cases n0
 ·rcases g with ⟨e', hc⟩ | ⟨r0, r1, r2, r3, e', n0, n1, n2, n3, gb⟩
  ·rw [hc] at m0; cases m0
  ·have a0 := hb r0 n0
   have a1 := hb r1 n1
   have a2 := hb r2 n2
   have a3 := hb r3 n3
   have b0 := gb q0 m0
   have b1 := gb q1 m1
   have b2 := gb q2 m2
   have b3 := gb q3 m3
   have e0 : q0 = r0 := ZGA ha m0 n0 (by omega)
   have e1 : q1 = r1 := ZGA ha m1 n1 (by omega)
   have e2 : q2 = r2 := ZGA ha m2 n2 (by omega)
   have e3 : q3 = r3 := ZGA ha m3 n3 (by omega)
   rw [e, e', e0, e1, e2, e3]
theorem Is4.join {c1 c2 : PL} {a0 a1 a2 a3 b0 b1 b2 b3 : Int × Int} (h : Is4 c1 (some [a0, a1, a2, a3])) (g : Is4 c2 (some [b0, b1, b2, b3])) (hlt : ∀ p ∈ c1, ∀ q ∈ c2, p.1 < q.1) :
  Is4 (c1 ++ c2) (some [a0, b1, if a2.2 <= b2.2 then a2 else b2, if b3.2 <= a3.2 then a3 else b3]) := by
 rcases h with ⟨e, _⟩ | ⟨q0, q1, q2, q3, e, m0, m1, m2, m3, hb⟩
 ·cases e
 rcases g with ⟨e', _⟩ | ⟨r0, r1, r2, r3, e', n0, n1, n2, n3, gb⟩
 ·cases e'
 cases e
 cases e'
 refine .inr ⟨_, _, _, _, rfl, Vo _ m0, Ur _ n1, ?_, ?_, fun p hp => ?_⟩
 ·split
  ·exact Vo _ m2
  ·exact Ur _ n2
 ·split
  ·exact Vo _ m3
  ·exact Ur _ n3
 ·rcases UI.mp hp with hp | hp
  ·have k1 := hb p hp
   have k2 := hlt p hp _ n1
   have k3 := hlt p hp _ n2
   have k4 := hlt p hp _ n3
   refine ⟨k1.1, by omega, ?_, ?_⟩
   ·split <;> omega
   ·split <;> omega
  ·have k1 := gb p hp
   have k2 := hlt _ m0 p hp
   have k3 := hlt _ m2 p hp
   have k4 := hlt _ m3 p hp
   refine ⟨by omega, k1.2.1, ?_, ?_⟩
   ·split <;> omega
   ·split <;> omega
theorem Is4.mem {cv : PL} {qs : PL} (h : Is4 cv (some qs)) : ∀ q ∈ qs, q ∈ cv := by
 rcases h with ⟨e, _⟩ | ⟨q0, q1, q2, q3, e, m0, m1, m2, m3, _⟩
 ·cases e
 ·cases e
  intro q hq
  simp only [Ul, UK, or_false] at hq
  rcases hq with rfl | rfl | rfl | rfl <;> assumption
theorem Is4.nil : Is4 [] none := .inl ⟨rfl, rfl⟩
theorem Is4.of_none {cv : PL} (h : Is4 cv none) : cv = [] := by
 rcases h with ⟨_, e⟩ | ⟨q0, q1, q2, q3, e, _⟩
 ·exact e
 ·cases e
theorem Is4.minmax {cv : PL} {p0 p1 p2 p3 : Int × Int} {i2 i3 : Nat} (ha : Asc cv) (e0 : cv[0]? = some p0) (e1 : cv[cv.length - 1]? = some p1) (e2 : cv[i2]? = some p2) (e3 : cv[i3]? = some p3)
  (h2 : ∀ j, j < cv.length -> (cv.getD i2 (0, 0)).2 <= (cv.getD j (0, 0)).2 /\ (j < i2 -> (cv.getD i2 (0, 0)).2 < (cv.getD j (0, 0)).2))
  (h3 : ∀ j, j < cv.length -> (cv.getD i3 (0, 0)).2 >= (cv.getD j (0, 0)).2 /\ (j < i3 -> (cv.getD i3 (0, 0)).2 > (cv.getD j (0, 0)).2)) : Is4 cv (some [p0, p1, p2, p3]) := by
 obtain ⟨z0, y0⟩ := Uj.mp e0
 obtain ⟨z1, y1⟩ := Uj.mp e1
 obtain ⟨z2, y2⟩ := Uj.mp e2
 obtain ⟨z3, y3⟩ := Uj.mp e3
 have d : ∀ {j : Nat} (hj : j < cv.length), cv.getD j (0, 0) = cv[j] := fun {j} hj => by simp [hj]
 refine .inr ⟨p0, p1, p2, p3, rfl, UC e0, UC e1, UC e2, UC e3, fun p hp => ?_⟩
 obtain ⟨j, hj, rfl⟩ := UO hp
 have k2 := h2 j hj
 have k3 := h3 j hj
 rw [d z2, d hj, y2] at k2
 rw [d z3, d hj, y3] at k3
 refine ⟨?_, ?_, ?_, ?_⟩
 ·by_cases h : j = 0
  ·subst h; rw [y0]; exact Int.le_refl _
  ·have := ZF9 ha z0 hj (by omega)
   rw [y0] at this
   omega
 ·by_cases h : j = cv.length - 1
  ·subst h; rw [y1]; exact Int.le_refl _
  ·have := ZF9 ha hj z1 (by omega)
   rw [y1] at this
   omega
 ·by_cases h : i2 < j
  ·have := ZF9 ha z2 hj h
   rw [y2] at this
   omega
  ·by_cases h' : j = i2
   ·subst h'; rw [y2]; omega
   ·have := k2.2 (by omega)
    omega
 ·by_cases h : i3 < j
  ·have := ZF9 ha z3 hj h
   rw [y3] at this
   omega
  ·by_cases h' : j = i3
   ·subst h'; rw [y3]; omega
   ·have := k3.2 (by omega)
    omega
theorem ZRj {b y t i : Int} (hy : 0 < y) : (b + i * y <= t /\ t < b + i * y + y) ↔ (t - b) / y = i := by
 have h1 := Int.emod_add_mul_ediv (t - b) y
 have h2 := Int.emod_nonneg (t - b) (show y ≠ 0 by omega)
 have h3 := Int.emod_lt_of_pos (t - b) hy
 constructor
 ·rintro ⟨g1, g2⟩
  refine (Int.ediv_emod_unique hy (r := t - b - i * y) (q := i)).mpr ⟨?_, by omega, by omega⟩ |>.1
  rw [Int.mul_comm y i]
  omega
 ·intro e
  rw [e, Int.mul_comm y i] at h1
  constructor <;> omega
theorem ZMp {cv : PL} {j : Nat} {q : Int × Int} {x z : Int} (h : cv[j]? = some q) : ZC5 (cv.take (j + 1)) x z = ZC5 (cv.take j) x z ++ (if (decide (x <= q.1) && decide (q.1 < z)) = true then [q] else []) := by
 rw [Vc, h, ZC5, List.filter_append]
 congr 1
 simp only [Option.toList, List.filter_cons, List.filter_nil]
def ZDc (cv : PL) (b y : Int) (m : Nat) (fs : List (Option (PL))) : Prop := fs.length = m /\ ∀ (k : Nat) o, fs[k]? = some o -> Is4 (ZC5 cv (b + (k : Int) * y) (b + (k : Int) * y + y)) o
theorem ZJP {cv : PL} {b e : Int} (h : Asc cv) : Asc (ZC5 cv b e) := List.Pairwise.filter _ h
theorem ZDc.unique {cv : PL} {b y : Int} {m : Nat} {fs gs : List (Option (PL))} (ha : Asc cv) (h : ZDc cv b y m fs) (g : ZDc cv b y m gs) : fs = gs := by
 refine List.ext_getElem (by rw [h.1, g.1]) fun i h1 h2 => ?_
 exact (h.2 i _ (Uc h1)).unique (ZJP ha) (g.2 i _ (Uc h2))
theorem ZDc.mem {cv : PL} {b y : Int} {m : Nat} {fs : List (Option (PL))} (h : ZDc cv b y m fs) {qs : PL} (hq : some qs ∈ fs) : qs.length <= 4 /\ ∀ q ∈ qs, q ∈ cv := by
 obtain ⟨k, hk, e⟩ := UO hq
 have h1 := h.2 k _ (Uc hk)
 rw [e] at h1
 refine ⟨?_, fun q hq' => (ZDF.mp (h1.mem q hq')).1⟩
 rcases h1 with ⟨z, _⟩ | ⟨q0, q1, q2, q3, z, _⟩
 ·cases z
 ·cases z
  exact Ue _
def Ch (e : Int) : Int -> PL -> Int -> Prop
 | x, [], y => x = y
 | x, p :: r, y => (0 <= p.1 /\ p.1 <= 40) /\ p.2 * 2 ^ p.1.toNat = x /\ x + 2 ^ p.1.toNat <= e /\ (p.1 < 40 -> x % (2 * 2 ^ p.1.toNat) = 0 -> x + 2 * 2 ^ p.1.toNat <= e -> False) /\ Ch e (x + 2 ^ p.1.toNat) r y
theorem ZDu (k : Nat) : (0 : Int) < 2 ^ k := Int.pow_pos (by decide)
theorem Ch.le {e : Int} : ∀ {r : PL} {x y : Int}, Ch e x r y -> x <= y
 | [], _, _, h => by cases h; exact Int.le_refl _
 | p :: r, x, y, h => by
  have := Ch.le h.2.2.2.2
  have := ZDu p.1.toNat
  omega
theorem Ch.snoc {e : Int} {p : Int × Int} : ∀ {r : PL} {x y : Int}, Ch e x r y -> (0 <= p.1 /\ p.1 <= 40) -> p.2 * 2 ^ p.1.toNat = y -> y + 2 ^ p.1.toNat <= e -> (p.1 < 40 -> y % (2 * 2 ^ p.1.toNat) = 0 -> y + 2 * 2 ^ p.1.toNat <= e -> False) -> Ch e x (r ++ [p]) (y + 2 ^ p.1.toNat)
 | [], _, _, h, h1, h2, h3, h4 => by cases h; exact ⟨h1, h2, h3, h4, rfl⟩
 | _ :: _, _, _, h, h1, h2, h3, h4 => ⟨h.1, h.2.1, h.2.2.1, h.2.2.2.1, Ch.snoc h.2.2.2.2 h1 h2 h3 h4⟩
theorem ZGU {a b : Nat} (h : a <= b) : (2 : Int) ^ a <= 2 ^ b := by
 obtain ⟨c, rfl⟩ := Nat.exists_eq_add_of_le h
 rw [Int.pow_add]
 have h1 := ZDu a
 have h2 := ZDu c
 have h3 : (2 : Int) ^ a * 1 <= 2 ^ a * 2 ^ c := Int.mul_le_mul_of_nonneg_left (by omega) (by omega)
 omega
theorem ZFu {a b : Nat} (h : a <= b) : (2 : Int) ^ a ∣ 2 ^ b := by
 obtain ⟨c, rfl⟩ := Nat.exists_eq_add_of_le h
 rw [Int.pow_add]
 exact Int.dvd_mul_right _ _
theorem ZGV (k : Nat) : (2 : Int) * 2 ^ k = 2 ^ (k + 1) := by rw [Int.pow_succ]; omega
def Few (e : Int) (n : Nat) (x : Int) : Prop := ((2 : Int) ^ n ∣ x /\ n <= 40 /\ -(2 ^ 40) + (n : Int) <= x) \/ ∃ m : Nat, (2 : Int) ^ m ∣ x /\ e - x < 2 ^ m /\ n + m <= 80
theorem Few.len {e x : Int} {n : Nat} (h : Few e n x) : n <= 80 := by
 rcases h with h | ⟨m, h⟩ <;> omega
theorem ZNq {a : Nat} {x : Int} (h : (2 : Int) ^ a ∣ x) (h1 : -(2 ^ a) < x) (h2 : x < 2 ^ a) : x = 0 := by
 obtain ⟨c, rfl⟩ := h
 have hp := ZDu a
 have hc : c = 0 := by
  by_cases h0 : c <= -1
  ·have : (2 : Int) ^ a * c <= 2 ^ a * (-1) := Int.mul_le_mul_of_nonneg_left h0 (by omega)
   omega
  ·by_cases h0' : 1 <= c
   ·have : (2 : Int) ^ a * 1 <= 2 ^ a * c := Int.mul_le_mul_of_nonneg_left h0' (by omega)
    omega
   ·omega
 rw [hc, Int.mul_zero]
theorem ZKr {e x : Int} {L : Nat} (he : e <= 2 ^ 40) (hx : -(2 ^ 40) <= x) (h1 : (2 : Int) ^ L ∣ x) (h2 : x + 2 ^ L <= e) : L <= 40 := by
 have hc : L <= 40 \/ L = 41 \/ 42 <= L := by omega
 rcases hc with h | rfl | h
 ·exact h
 ·exfalso
  obtain ⟨c, hc⟩ := h1
  have e1 : (2 : Int) ^ 41 = 2199023255552 := by decide
  have e2 : (2 : Int) ^ 40 = 1099511627776 := by decide
  rw [e1] at h2 hc
  rw [e2] at he hx
  omega
 ·exfalso
  have h3 := ZGU h
  have e1 : (2 : Int) ^ 42 = 4398046511104 := by decide
  have e2 : (2 : Int) ^ 40 = 1099511627776 := by decide
  rw [e1] at h3
  rw [e2] at he hx
  omega
theorem Few.step {e x : Int} {n L : Nat} (he : e <= 2 ^ 40) (hx : -(2 ^ 40) <= x) (h : Few e n x) (h1 : (2 : Int) ^ L ∣ x) (h2 : x + 2 ^ L <= e) (h3 : (2 : Int) ^ (L + 1) ∣ x -> x + 2 ^ (L + 1) <= e -> False) : Few e (n + 1) (x + 2 ^ L) := by
 have hL := ZKr he hx h1 h2
 have hp := ZDu L
 have es : (2 : Int) ^ (L + 1) = 2 * 2 ^ L := (ZGV L).symm
 rcases h with ⟨hd, hn, hb⟩ | ⟨m, hd, hm, hnm⟩
 ·by_cases ha : (2 : Int) ^ (L + 1) ∣ x
  ·-- limited by the end
   have h4 : ¬ x + 2 ^ (L + 1) <= e := fun z => h3 ha z
   by_cases h40 : L = 40
   ·subst h40
    have e2 : (2 : Int) ^ 40 = 1099511627776 := by decide
    have e3 : (2 : Int) ^ (40 + 1) = 2199023255552 := by decide
    have hx0 : x = 0 := ZNq ha (by rw [e3]; rw [e2] at hx; omega) (by rw [e3]; rw [e2] at h2 he; omega)
    subst hx0
    right
    refine ⟨0, Int.one_dvd _, ?_, by omega⟩
    rw [e2] at he h2 ⊢
    show e - (0 + 1099511627776) < 1
    omega
   ·right
    exact ⟨L, Int.dvd_add h1 (Int.dvd_refl _), by omega, by omega⟩
  ·-- limited by where it begins
   have hLn : n <= L := by
    by_cases hlt : n <= L
    ·exact hlt
    ·exact absurd (Int.dvd_trans (ZFu (by omega)) hd) ha
   have hd' : (2 : Int) ^ (L + 1) ∣ x + 2 ^ L := by
    obtain ⟨c, hc⟩ := h1
    have hodd : c % 2 = 1 := by
     by_cases h0 : c % 2 = 0
     ·exfalso
      apply ha
      refine ⟨c / 2, ?_⟩
      have : c = 2 * (c / 2) := by omega
      rw [hc, es]
      rw [Int.mul_comm 2 ((2 : Int) ^ L), Int.mul_assoc, <- this]
     ·omega
    refine ⟨(c + 1) / 2, ?_⟩
    have : c + 1 = 2 * ((c + 1) / 2) := by omega
    have h5 : x + 2 ^ L = 2 ^ L * (c + 1) := by rw [hc, Int.mul_add, Int.mul_one]
    rw [h5, es, Int.mul_comm 2 ((2 : Int) ^ L), Int.mul_assoc, <- this]
   left
   refine ⟨Int.dvd_trans (ZFu (by omega)) hd', ?_, by omega⟩
   by_cases h40 : L = 40
   ·subst h40
    have e2 : (2 : Int) ^ 40 = 1099511627776 := by decide
    obtain ⟨c, hc⟩ := h1
    rw [e2] at hc he h2 hx hb
    have : c ≠ 0 := by
     rintro rfl
     apply ha
     rw [hc]
     exact ⟨0, by omega⟩
    omega
   ·omega
 ·have hlt : L < m := by
   by_cases hlt : L < m
   ·exact hlt
   ·have := ZGU (show m <= L by omega)
    omega
  have ha : (2 : Int) ^ (L + 1) ∣ x := Int.dvd_trans (ZFu (by omega)) hd
  have h4 : ¬ x + 2 ^ (L + 1) <= e := fun z => h3 ha z
  right
  exact ⟨L, Int.dvd_add h1 (Int.dvd_refl _), by omega, by omega⟩
theorem Few.start {e b : Int} (hb : -(2 ^ 40) <= b) : Few e 0 b := .inl ⟨Int.one_dvd _, by omega, by simpa using hb⟩
theorem Is4.congr {a b : PL} {o : Option (PL)} (h : Is4 a o) (e : ∀ p, p ∈ a ↔ p ∈ b) : Is4 b o := by
 rcases h with ⟨h1, h2⟩ | ⟨q0, q1, q2, q3, h1, m0, m1, m2, m3, hb⟩
 ·refine .inl ⟨h1, ?_⟩
  cases b with
  | nil => rfl
  | cons p ps =>
   have := (e p).mpr Ux
   rw [h2] at this
   cases this
 ·exact .inr ⟨q0, q1, q2, q3, h1, (e _).mp m0, (e _).mp m1, (e _).mp m2, (e _).mp m3, fun p hp => hb p ((e p).mpr hp)⟩
def inS (sm : PL) (l : Nat) (s : Int) : PL := ZC5 sm (s * 2 ^ l) (s * 2 ^ l + 2 ^ l)
theorem ZEE {sm : PL} {l : Nat} {s : Int} {p : Int × Int} : p ∈ inS sm l s ↔ p ∈ sm /\ p.1 / 2 ^ l = s := by
 unfold inS
 rw [ZDF]
 have := ZRj (b := 0) (t := p.1) (i := s) (ZDu l)
 rw [Int.sub_zero, Int.zero_add] at this
 rw [this]
theorem ZKs (x : Int) (l : Nat) : x / 2 ^ (l + 1) = x / 2 ^ l / 2 := by
 rw [Int.pow_succ, <- Int.ediv_ediv_of_nonneg (Int.le_of_lt (ZDu l))]
theorem ZPg {sm : PL} {l : Nat} {s : Int} {p : Int × Int} : p ∈ inS sm l (2 * s) ++ inS sm l (2 * s + 1) ↔ p ∈ inS sm (l + 1) s := by
 rw [UI, ZEE, ZEE, ZEE, ZKs]
 constructor
 ·rintro (⟨h1, h2⟩ | ⟨h1, h2⟩)
  ·exact ⟨h1, by omega⟩
  ·exact ⟨h1, by omega⟩
 ·rintro ⟨h1, h2⟩
  have : p.1 / 2 ^ l = 2 * s \/ p.1 / 2 ^ l = 2 * s + 1 := by omega
  rcases this with h | h
  ·exact .inl ⟨h1, h⟩
  ·exact .inr ⟨h1, h⟩
theorem ZTl {sm : PL} {l : Nat} {a b : Int} (hab : a < b) : ∀ p ∈ inS sm l a, ∀ q ∈ inS sm l b, p.1 < q.1 := by
 intro p hp q hq
 have h1 := (ZEE.mp hp).2
 have h2 := (ZEE.mp hq).2
 by_cases h : p.1 < q.1
 ·exact h
 ·have := Int.ediv_le_ediv (ZDu l) (show q.1 <= p.1 by omega)
  omega
theorem ZMq {sm : PL} {b x e : Int} (h1 : b <= x) (h2 : x <= e) (p : Int × Int) : p ∈ ZC5 sm b x ++ ZC5 sm x e ↔ p ∈ ZC5 sm b e := by
 rw [UI, ZDF, ZDF, ZDF]
 constructor
 ·rintro (⟨g1, g2, g3⟩ | ⟨g1, g2, g3⟩)
  ·exact ⟨g1, g2, by omega⟩
  ·exact ⟨g1, by omega, g3⟩
 ·rintro ⟨g1, g2, g3⟩
  by_cases h : p.1 < x
  ·exact .inl ⟨g1, g2, h⟩
  ·exact .inr ⟨g1, by omega, g3⟩
theorem ZPh {sm : PL} {b x e : Int} : ∀ p ∈ ZC5 sm b x, ∀ q ∈ ZC5 sm x e, p.1 < q.1 := by
 intro p hp q hq
 have h1 := (ZDF.mp hp).2
 have h2 := (ZDF.mp hq).2
 omega
theorem ZGW {m : PL} (hn : (m.map (·.1)).Nodup) {t h : Int} {q : Int × Int} : q ∈ ZCn m t h ↔ (q.1 ≠ t /\ q ∈ m) \/ q = (t, h) := by
 obtain ⟨a, b⟩ := q
 rw [<- ZDl (ZED hn), ZH3, <- ZDl hn]
 by_cases e : a = t
 ·subst e
  simp only [if_true, Option.some.injEq, ne_eq, not_true_eq_false, false_and, false_or, Prod.mk.injEq, true_and]
  exact eq_comm
 ·simp [e]
def kOf (l : Nat) (s : Int) : List Key := [Sum.inl (l : Int), Sum.inl s]
theorem ZRk {l l' : Nat} {s s' : Int} (h : kOf l s = kOf l' s') : l = l' /\ s = s' := by
 unfold kOf at h
 simp only [List.cons.injEq, Sum.inl.injEq, and_true] at h
 exact ⟨by omega, h.2⟩
def ZDd (H : Hp) (kvs : List (List Key × V)) (sm : PL) (G : Nat -> Int -> Prop) : Prop := ∀ (l : Nat) (s : Int), l <= 40 -> G l s -> ∃ o, ZC3 H ((ZC1 kvs (kOf l s)).getD .non) o /\ Is4 (inS sm l s) o
theorem ZDd.same {H H' : Hp} {kvs : List (List Key × V)} {sm : PL} {G : Nat -> Int -> Prop} (h : ZDd H kvs sm G) (s : ZCW H H') : ZDd H' kvs sm G := fun l s' hl g => by
 obtain ⟨o, h1, h2⟩ := h l s' hl g
 exact ⟨o, h1.same s, h2⟩
theorem PrT.kpX {H H' : Hp} {a d : Addr} {cv : PL} {ob : HO} (h : PrT H a cv) (k : Kp d H H') (hd : H d = some ob) (hn : ∀ xs, ob ≠ .tup xs) : PrT H' a cv := by
 obtain ⟨us, g, p⟩ := h
 have ne : ∀ {b : Addr} {xs : List V}, H b = some (.tup xs) -> H' b = some (.tup xs) := fun {b xs} e => k _ _ e fun z => by
  subst z
  rw [hd] at e
  exact hn _ (Option.some.inj e)
 exact ⟨us, ne g, Paired.mapP p fun _ _ ⟨a, e, z⟩ => ⟨a, e, ne z⟩⟩
theorem ZC3.kpX {H H' : Hp} {d : Addr} {v : V} {o : Option (PL)} {ob : HO} (h : ZC3 H v o) (k : Kp d H H') (hd : H d = some ob) (hn : ∀ xs, ob ≠ .tup xs) : ZC3 H' v o := by
 cases h with
 | non => exact .non
 | pr e hl => exact .pr (e.kpX k hd hn) hl
theorem ZDd.kpX {H H' : Hp} {kvs : List (List Key × V)} {sm : PL} {G : Nat -> Int -> Prop} {d : Addr} {ob : HO} (h : ZDd H kvs sm G) (k : Kp d H H') (hd : H d = some ob) (hn : ∀ xs, ob ≠ .tup xs) : ZDd H' kvs sm G := fun l s' hl g => by
 obtain ⟨o, h1, h2⟩ := h l s' hl g
 exact ⟨o, h1.kpX k hd hn, h2⟩
theorem ZDd.other {H : Hp} {kvs : List (List Key × V)} {sm sm' : PL} {t : Int} (h : ZDd H kvs sm fun _ _ => True) (e : ∀ q : Int × Int, q.1 ≠ t -> (q ∈ sm ↔ q ∈ sm')) : ZDd H kvs sm' fun l s => s ≠ t / 2 ^ l := fun l s hl g => by
 obtain ⟨o, h1, h2⟩ := h l s hl trivial
 refine ⟨o, h1, h2.congr fun p => ?_⟩
 rw [ZEE, ZEE]
 constructor
 ·rintro ⟨g1, g2⟩
  exact ⟨(e p fun z => g (by rw [<- g2, z])).mp g1, g2⟩
 ·rintro ⟨g1, g2⟩
  exact ⟨(e p fun z => g (by rw [<- g2, z])).mpr g1, g2⟩
theorem ZDd.put {H' : Hp} {kvs : List (List Key × V)} {sm : PL} {G : Nat -> Int -> Prop} {t : Int} {i : Nat} {v : V} {o : Option (PL)} (h : ZDd H' kvs sm G) (hv : ZC3 H' v o) (ho : Is4 (inS sm i (t / 2 ^ i)) o) :
  ZDd H' (ZDf kvs (kOf i (t / 2 ^ i)) v) sm fun l s => G l s \/ (l = i /\ s = t / 2 ^ l) := fun l s hl g => by
 by_cases e : kOf l s = kOf i (t / 2 ^ i)
 ·obtain ⟨rfl, rfl⟩ := ZRk e
  refine ⟨o, ?_, ho⟩
  rw [ZH1, if_pos rfl]
  exact hv
 ·rcases g with g | ⟨rfl, rfl⟩
  ·obtain ⟨o', h1, h2⟩ := h l s hl g
   refine ⟨o', ?_, h2⟩
   rw [ZH1, if_neg e]
   exact h1
  ·exact absurd rfl e
theorem ZDd.mono {H : Hp} {kvs : List (List Key × V)} {sm : PL} {G G' : Nat -> Int -> Prop} (h : ZDd H kvs sm G) (g : ∀ l s, l <= 40 -> G' l s -> G l s) : ZDd H kvs sm G' := fun l s hl hg => h l s hl (g l s hl hg)
theorem ZDd.tups {H H' : Hp} {kvs : List (List Key × V)} {sm : PL} {G : Nat -> Int -> Prop} (h : ZDd H kvs sm G) (t : ∀ b xs, H b = some (.tup xs) -> H' b = some (.tup xs)) : ZDd H' kvs sm G := fun l s hl g => by
 obtain ⟨o, h1, h2⟩ := h l s hl g
 refine ⟨o, ?_, h2⟩
 generalize (ZC1 kvs (kOf l s)).getD .non = v at h1
 cases h1 with
 | non => exact .non
 | pr e hl =>
  obtain ⟨us, g, p⟩ := e
  exact .pr ⟨us, t _ _ g, Paired.mapP p fun _ _ ⟨a, e, z⟩ => ⟨a, e, t _ _ z⟩⟩ hl
def ZEM (m : PL) (t : Int) : PL := m.filter fun p => decide (p.1 ≠ t)
theorem ZRl (m : PL) (t : Int) : ZFk (ZCl m) (.inl t) = ZCl (ZEM m t) := by
 unfold ZFk ZCl ZEM
 rw [List.filter_map]
 congr 1
 apply List.filter_congr
 intro p _
 simp [dkE, Function.comp]
theorem ZJQ {m : PL} {t : Int} {q : Int × Int} : q ∈ ZEM m t ↔ q.1 ≠ t /\ q ∈ m := by
 unfold ZEM
 rw [List.mem_filter, decide_eq_true_iff, and_comm]
theorem ZLV {m : PL} {t : Int} (n : (m.map (·.1)).Nodup) : ((ZEM m t).map (·.1)).Nodup := n.sublist ((List.filter_sublist).map _)
def Eqv (m m' : PL) : Prop := ∀ q : Int × Int, q ∈ m ↔ q ∈ m'
section
variable {X : Cx} {o e : Expr} {apos cpos pos p : Pos} {td ty to : TE}
theorem ZPi (ho : QE X o td) (he : QE X e ty) (m : M1 X o "pop" apos e cpos := by exact ⟨rfl, rfl, rfl, rfl⟩) : QE X (.Call (.Attribute o "pop" apos) [e] [] cpos) (ZKY td ty) := ⟨ZPS ho.h he.h m⟩
def ZKt : R2 := fun y x H Q => ∃ a o, x = .ref a /\ ZDq H a y o /\ Q (.bl (!o.isSome)) H
theorem ZMr (hu : X.A.units + 1 < cLine) : OpR X (compareOp .NotIn) ZKt := by
 intro pins s U H x y v u Q I rx ry h
 obtain ⟨a, ov, rfl, g, q⟩ := h
 obtain rfl : u = Value.ref a := ry
 exact ZRU hu I g rx fun s3 I3 => ⟨.bl (!ov.isSome), H, I3, rfl, q⟩
end
section
variable {K : W.Frag} {U : St} {H : Hp} {Q : VK} {td ty : TE} {a b : Addr} {m m' : PL} {i v : Int}
def ZKu (a : Addr) (y : V) (H : Hp) (Q : VK) : Prop := ∃ kvs k v, H a = some (.dK kvs) /\ y = kV k /\ ZC1 kvs k = some v /\ Q v (upd H a (.dK (ZFk kvs k)))
def ZNr (ty : TE) (U : St) (Q : VK) (x : V) (H : Hp) : Prop := ∃ a, x = .ref a /\ IsD H a /\ ty U H fun y H2 => ZKu a y H2 Q
theorem ZPj (h : td U H fun x H1 => ZNr ty U Q x H1) : ZKY td ty U H Q := h
theorem ZPk {kvs : List (Key × V)} (h1 : H a = some (.dK kvs)) (q : ty U H fun y H2 => ZKu a y H2 Q) : ZNr ty U Q (.ref a) H := ⟨a, rfl, .inl ⟨kvs, .inl h1⟩, q⟩
theorem ZPl (h1 : H a = some (.dK (ZCl m))) (l : ZCx m i = some v) (q : ∀ H2, H2 a = some (.dK (ZCl (ZEM m i))) -> Kp a H H2 -> Q (.int v) H2) : ZKu a (.int i) H Q :=
 ⟨ZCl m, .inl i, .int v, h1, rfl, by rw [ZFU, l]; rfl, by rw [ZRl]; exact q _ ZCZ Kp.upd⟩
end
def ZNs (K : W.Frag) : R2 := fun x y H Q => ∃ p q xs, x = .ref p /\ y = .ref q /\ SqL K H p xs /\ SqL K H q [] /\ Q (.bl (!xs.isEmpty)) H
section
variable {X : Cx}
theorem ZKv (K : W.Frag) (hK : X.K = K) (hu : X.A.units + 1 < cLine) : OpR X (compareOp .NotEq) (ZNs K) := by
 subst hK
 intro pins s U H x y v u Q I rx ry h
 obtain ⟨p, q, xs, rfl, rfl, h1, h2, k⟩ := h
 obtain rfl : v = Value.ref p := rx
 obtain rfl : u = Value.ref q := ry
 obtain ⟨its, rv, pl, hz⟩ := I.list h1
 obtain ⟨its2, rv2, pl2, hz2⟩ := I.list h2
 cases rv2
 have hlen := rv.length
 cases xs with
 | nil =>
  cases rv
  exact SeqAt.RcNeAt.lists (e := fun _ => true) pl.isList pl2.isList rfl (by omega) (fun j h1 _ => absurd h1 (by simp)) X.prog X.w _ _ ⟨.bl false, H, I, rfl, k⟩
 | cons x xs =>
  refine SeqAt.RcNeAt.lists_lengths pl.isList pl2.isList ?_ (by omega) X.prog X.w _ _ ⟨.bl true, H, I, rfl, k⟩
  simp only [UT] at hlen
  simp only [Uq, List.length_nil, bne_iff_ne, ne_eq]
  omega
end
section
variable {K : W.Frag} {H : Hp} {Q : VK} {p q : Addr} {xs : List V}
theorem ZKw (h1 : SqL K H p xs) (h2 : SqL K H q []) (k : Q (.bl (!xs.isEmpty)) H) : ZNs K (.ref p) (.ref q) H Q := ⟨p, q, xs, rfl, rfl, h1, h2, k⟩
end
end L2
namespace L2
theorem ZPm {m : PL} {t h : Int} (e : ZCx m t = none) : ZCn m t h = m ++ [(t, h)] := by
 unfold ZCn
 rw [if_neg]
 intro z
 obtain ⟨q, hq, e2⟩ := UQ.mp z
 rw [decide_eq_true_iff] at e2
 rw [ZEZ] at e
 exact e (Uy.mpr ⟨q, hq, e2⟩)
end L2
namespace L2
open PySem PySem.Spec PyProof.Rows PySem.W
def FrL (l : List Addr) (H H' : Hp) : Prop := ∀ b o, H b = some o -> b ∉ l -> H' b = some o
theorem FrL.same {l : List Addr} {H H' : Hp} (h : ZCW H H') : FrL l H H' := fun b o e _ => h b o e
theorem FrL.kp {l : List Addr} {H H' : Hp} {q : Addr} (h : Kp q H H') (m : q ∈ l) : FrL l H H' := fun b o e n => h b o e fun z => n (z ▸ m)
theorem FrL.fresh {l : List Addr} {H0 H H' : Hp} (f : FrL l H H') (s : ZCW H0 H) (n : ∀ b ∈ l, H0 b = none) : ZCW H0 H' := fun b o e => f _ _ (s _ _ e) fun z => by rw [n b z] at e; cases e
theorem ZGB {H0 H : Hp} {b : Addr} (s : ZCW H0 H) (e : H b = none) : H0 b = none := by
 cases e2 : H0 b with
 | none => rfl
 | some o => rw [s _ _ e2] at e; cases e
end L2
namespace L2
theorem ZNt {c : TT} {t u : TS} {D : ZDT} {U : St} {H : Hp} (h : ZJ6 c t u D U H) : ZJ6 c t u D U H := h
theorem ZRm {t : TS} {D : ZDT} {U : St} {H : Hp} (P : St -> Hp -> Prop) (h1 : ∀ U' H', P U' H' -> D.nx U' H') (h2 : ∀ D' : ZDT, D'.rt = D.rt -> (∀ U' H', P U' H' -> D'.nx U' H') -> t D' U H) : t D U H := h2 D rfl h1
end L2
namespace L2
open PySem PySem.Spec PyProof.Rows PySem.W
theorem ZNu {m m' : PL} (h : Eqv m m') (b e : Int) : ∀ p, p ∈ ZC5 m b e ↔ p ∈ ZC5 m' b e := fun p => by rw [ZDF, ZDF, h p]
def Itk (d : Addr) (o : Obj) (kvs : List (Key × V)) : It := ⟨fun i H => H d = some (.frz o (.dK kvs)) /\ i < kvs.length, fun i H x H' => H' = H /\ ∃ p, kvs[i]? = some p /\ x = kV p.1, fun i H => H d = some (.frz o (.dK kvs)) /\ kvs.length <= i⟩
theorem ZNv {P : Program} {w : World} {k : Key} {u : Value} (h : (ZCo P w).is k u = true) : ZCb (kV k) u := by
 rcases ZC9 h with ⟨i, t, rfl, rfl⟩ | ⟨x, t, rfl, rfl⟩
 ·exact ⟨t, rfl⟩
 ·exact ⟨t, rfl⟩
theorem ZUM {kvs : List (Key × V)} {vs : List (Key × Value)} (h : KV kvs vs) : ∀ {i : Nat} {p : Key × V}, kvs[i]? = some p -> ∃ q, vs[i]? = some q /\ q.1 = p.1 := by
 unfold KV at h
 induction h with
 | nil => intro i p e; simp at e
 | @cons a b as bs h t ih =>
  intro i p e
  cases i with
  | zero =>
   simp at e
   subst e
   exact ⟨b, rfl, h.1.symm⟩
  | succ i =>
   obtain ⟨q, h1, h2⟩ := ih (i := i) (p := p) (by simpa using e)
   exact ⟨q, by simpa using h1, h2⟩
theorem ZNw {P : Program} {w : World} {K : W.Frag} {tg : Expr} (d it : Addr) (o : Obj) (kvs : List (Key × V)) (es : Array DictEntry) (ep : Nat) (ho : o.data = .dict es ep) : ZHs P w K tg (Itk d o kvs) [it] it (fun i h => h.IsKeyIter it d i kvs.length ep) where
 mem := by simp
 obj := fun i h st b hb => by
  have e : b = it := by simpa using hb
  subst e
  obtain ⟨o, e, c, d⟩ := st
  exact ⟨o, e, fun v z => by rw [d] at z; cases z⟩
 keep := fun i h h' st k => st.at fun o e => k it (by simp) o e
 item := by
  intro X hP hw hK hc i pins s U H E I hf st hg
  subst hP hw hK
  obtain ⟨hd, hi⟩ := hg
  obtain ⟨f0, f1, f2, f3, f4, f5⟩ := hf it (by simp)
  obtain ⟨hob, z, hsm, vs, rel, dd⟩ := (show ZCu X.prog X.w H s.heap d (.frz o (.dK kvs)) from I.hok d _ hd)
  obtain ⟨ep', dd⟩ := dd.dictAt
  obtain ⟨o2, es2, g1, g2, g3, g4⟩ := id dd
  rw [hob] at g1
  cases g1
  rw [ho] at g3
  cases g3
  have hlen : kvs.length = vs.length := rel.length
  obtain ⟨q, hq, eq⟩ := ZUM rel (Uc hi)
  rw [hlen] at st
  refine wpAny_pyNext_dict_item (knd := ZCo X.prog X.w) (k := q.1) (v := q.2) st dd hq fun key h' hkey hit' hs' => ?_
  have I1 : Inv X pins U H { s with heap := h' } := I.turned (t' := s.toks) (fun b o hb e => (hs'.2 b hb).trans e) f0 f1 f3 f4 f5
  obtain ⟨o3, e3, c3, d3⟩ := id hit'
  refine ⟨key, rfl, ZHU (s := { s with heap := h' }) e3 c3 d3 (by decide) ⟨kV kvs[i].1, H, I1, ?_, ⟨rfl, _, Uc hi, rfl⟩, ?_, fun b hb => (hf b hb).1⟩⟩
  ·rw [<- eq]; exact ZNv hkey
  ·rw [hlen]; exact hit'
 done := by
  intro X hP hw hK hc i pins s U H E I hf st hg
  subst hP hw hK
  obtain ⟨hd, hi⟩ := hg
  obtain ⟨f0, f1, f2, f3, f4, f5⟩ := hf it (by simp)
  obtain ⟨hob, z, hsm, vs, rel, dd⟩ := (show ZCu X.prog X.w H s.heap d (.frz o (.dK kvs)) from I.hok d _ hd)
  obtain ⟨ep', dd⟩ := dd.dictAt
  obtain ⟨o2, es2, g1, g2, g3, g4⟩ := id dd
  rw [hob] at g1
  cases g1
  rw [ho] at g3
  cases g3
  have hlen : kvs.length = vs.length := rel.length
  rw [hlen] at st
  exact wpAny_pyNext_dict_end (knd := ZCo X.prog X.w) (I.ok.hd hc) st dd (List.getElem?_eq_none (by omega)) fun h' eb => ⟨rfl, I.turned (t' := s.toks) (fun b o hb e => eb b o hb e) f0 f1 f3 f4 f5⟩
 self := fun _ _ _ _ _ st h => wpAny_pyIter_keyiter st h
def ZEN (X : Cx) (d : Addr) : Prop := ∀ o u, X.H₀ d ≠ some (.frz o u)
def ZIe (X : Cx) (R : It -> Hp -> Prop) (v : V) (H : Hp) : Prop := ∃ d kvs, v = .ref d /\ H d = some (.dK kvs) /\ ∀ o, ZEN X d -> R (Itk d o kvs) (upd H d (.frz o (.dK kvs)))
def ZQX (X : Cx) (te : TE) : TI := fun U H R => te U H fun v H1 => ZIe X R v H1
section
variable {X : Cx} {tg e : Expr} {te t : TE}
theorem ZIt (he : QE X e te) : QI X tg e (ZQX X te) := by
 refine ⟨?_⟩
 intro pins s U H R I h
 refine thn (he.h pins s U H _ I h) fun u s1 ⟨x, H1, I1, rx, d, kvs, ex, hd, q⟩ => ?_
 subst ex
 obtain rfl : u = Value.ref d := rx
 obtain ⟨z, hsm, vs, rel, dd⟩ := ZGM I1.hok hd
 obtain ⟨ep, dda⟩ := dd.dictAt
 obtain ⟨o, es, ho, hx, hdat, hk, hpr, hn⟩ := id dda
 have hnf : ZEN X d := fun o u e => by
  have := I1.base.frzs d o u e
  rw [hd] at this
  cases this
 have hlen : kvs.length = vs.length := rel.length
 -- frozen
 have I2 : Inv X pins U (upd H1 d (.frz o (.dK kvs))) s1 := by
  have := ZFL (h' := s1.heap) (t' := s1.toks) (ob := .frz o (.dK kvs)) I1 (by rw [hd]; exact True.intro) (Heap.SameBut.refl _ _) ⟨o, ho⟩ ⟨ho, ZGv z hsm rel dd⟩
  exact this
 refine wpAny_pyIter_dict (knd := ZCo X.prog X.w) hsm dda ?_
 refine ⟨s1.heap.objs.size, [s1.heap.objs.size], _, _, _, rfl, I2.kept (t' := s1.toks) fun b o e => Ub _ e, ZNw d _ o kvs es ep hdat, ?_, fun b hb => ?_, q o hnf⟩
 ·rw [hlen]
  exact ⟨_, Uf _ rfl, rfl, rfl⟩
 ·have e : b = s1.heap.objs.size := by simpa using hb
  subst e
  exact I2.fpOk (Ue _) (I2.hok.fresh (Ue _))
theorem Inv.thaw {pins : List (Addr × Obj)} {U : St} {H : Hp} {s : Shared} {d : Addr} {o : Obj} {u : HO} (I : Inv X pins U H s) (hd : H d = some (.frz o u)) (nf : ZEN X d) (hu : Mut (some u)) : Inv X pins U (upd H d u) s := by
 have hne : ∀ b ob, H b = some ob -> (∀ o u, ob ≠ .frz o u) -> b ≠ d := fun b ob e n z => by rw [z, hd] at e; cases e; exact n _ _ rfl
 have hnn : ∀ b, H b = none -> b ≠ d := fun b e z => by rw [z, hd] at e; cases e
 obtain ⟨ho, hou⟩ := (show ZCu X.prog X.w H s.heap d (.frz o u) from I.hok d _ hd)
 have base := I.base
 refine ⟨I.ok, I.os, I.bare, ⟨base.keep, base.slot, fun b ob e n hx => ?_, base.there, fun b xs e => ?_, fun b ob v e => ?_, fun b ps e => ?_⟩, I.loc, I.cell, ?_, fun x c e => ?_, fun p hp => ?_, fun b ob e => ?_, I.len⟩
 ·have := base.free b ob e n hx
  rw [ZCe (hnn b this)]; exact this
 ·have := base.tups b xs e
  rw [ZCe (hne b _ this fun _ _ z => by cases z)]; exact this
 ·have h1 := base.frzs b ob v e
  have : b ≠ d := fun z => by subst z; exact nf _ _ e
  rw [ZCe this]; exact h1
 ·obtain ⟨more, h1⟩ := base.tbls b ps e
  exact ⟨more, by rw [ZCe (hne b _ h1 fun _ _ z => by cases z)]; exact h1⟩
 ·rw [ZCe (hnn _ I.free)]; exact I.free
 ·rw [ZCe (hnn _ (I.freeC x c e))]; exact I.freeC x c e
 ·obtain ⟨h1, h2, h3⟩ := I.pin p hp
  exact ⟨h1, by rw [ZCe (hnn _ h2)]; exact h2, h3⟩
 ·by_cases hb : b = d
  ·subst hb
   rw [ZCZ] at e
   cases e
   exact hou.stay (fun c v _ r => r) (fun c r => by rw [ZCe (hne c _ r fun _ _ z => by cases z)]; exact r) fun c xs r => by rw [ZCe (hne c _ r fun _ _ z => by cases z)]; exact r
  ·rw [ZCe hb] at e
   exact (I.hok b _ e).stay (fun c v _ r => r) (fun c r => by rw [ZCe (hne c _ r fun _ _ z => by cases z)]; exact r) fun c xs r => by rw [ZCe (hne c _ r fun _ _ z => by cases z)]; exact r
def ZMs (X : Cx) (v : V) (H : Hp) (Q : VK) : Prop := ∃ d o u, ZEN X d /\ H d = some (.frz o u) /\ Mut (some u) /\ Q v (upd H d u)
def ZQY (X : Cx) (t : TE) : TE := fun U H Q => t U H fun v H' => ZMs X v H' Q
theorem ZRn (h : QE X e t) : QE X e (ZQY X t) := by
 refine ⟨?_⟩
 intro pins s U H Q I hq
 refine thn (h.h pins s U H _ I hq) fun u s1 ⟨x, H1, I1, rx, d, o, v, nf, hd, hm, q⟩ => ?_
 exact ⟨x, _, I1.thaw hd nf hm, rx, q⟩
end
section
variable {X : Cx} {U : St} {H : Hp} {Q : VK} {R : It -> Hp -> Prop} {te t : TE} {d : Addr} {m : PL}
theorem ZFV (h : te U H fun v H1 => ZIe X R v H1) : ZQX X te U H R := h
theorem ZTm (h1 : H d = some (.dK (ZCl m))) (h : ∀ o H2, ZEN X d -> H2 d = some (.frz o (.dK (ZCl m))) -> Kp d H H2 -> R (Itk d o (ZCl m)) H2) : ZIe X R (.ref d) H := ⟨d, _, rfl, h1, fun o nf => h o _ nf ZCZ Kp.upd⟩
theorem ZKx (h : t U H fun v H' => ZMs X v H' Q) : ZQY X t U H Q := h
theorem ZPn {o : Obj} {t v : Int} (h1 : H d = some (.frz o (.dK (ZCl m)))) (h2 : ZCx m t = some v) (h : Q (.int v) H) : ZIZ (.ref d) (.int t) H Q :=
 ⟨d, _, rfl, .inl ⟨ZCl m, .inl t, .inr ⟨o, h1⟩, rfl, by rw [ZFU, h2]; rfl⟩, h⟩
theorem ZUN {i : Nat} (hi : i < m.length) : (ZCl m)[i]? = some (dkE m[i]) := by
 unfold ZCl
 rw [Ut, Uc hi]
 rfl
end
structure ZMt (K : Frag) (x : Str) (C : Addr) : Prop where
 a : nsIn K mainGlobals x = some (some (.ref C))
 ex : excIn K C [.type "ValueError", .type "Exception", .type "BaseException", .type "object"] "ValueError.__new__" = true
 ga : findIn K (.ref C) "__getattribute__" = some (some (.builtin "BaseException.__getattribute__"))
 gt : findIn K (.ref C) "__getattr__" = some none
 cl : findIn K (.ref C) "__class__" = some (some (.builtin "object.__class__"))
 ob : mroIn K C (.type "object") = some true
 be : mroIn K C (.type "BaseException") = some true
structure ZPo (K : Frag) (x : Str) (C : Addr) : Prop where
 a : nsIn K mainGlobals x = some (some (.ref C))
 pg : plainGet K C Str.empty = true
 hd : hasDictIn K C = true
 po : plainOver K C = true
 sa : findIn K (.ref C) "__setattr__" = some (some (.builtin "object.__setattr__"))
 mi : makesIn K C = true
 kc : keepIn K (.ref C) = true
section
variable {K : Frag} {x qual : Str} {st : Stmt} {f : Addr} {fd : FuncData}
theorem Fun.b1 {p : Str} (F : Fun K x qual st f fd) (h : ∀ (kV doc pm : Value) (an : Option Addr) (cdv ct u : Value), bindArgs (fnOf x qual (ZDS st) (ZDH st) (ZCU st) .none kV doc pm an cdv ct) ⟨[u], []⟩ = pure ([p].zip [u])) : ZCX K fd [p] [] := F.binds fun _ _ _ _ _ _ us hl => match us, hl with | [_], _ => h _ _ _ _ _ _ _
theorem Fun.b2 {p q : Str} (F : Fun K x qual st f fd) (h : ∀ (kV doc pm : Value) (an : Option Addr) (cdv ct u v : Value), bindArgs (fnOf x qual (ZDS st) (ZDH st) (ZCU st) .none kV doc pm an cdv ct) ⟨[u, v], []⟩ = pure ([p, q].zip [u, v])) : ZCX K fd [p, q] [] := F.binds fun _ _ _ _ _ _ us hl => match us, hl with | [_, _], _ => h _ _ _ _ _ _ _ _
theorem Fun.b3 {p q r : Str} (F : Fun K x qual st f fd) (h : ∀ (kV doc pm : Value) (an : Option Addr) (cdv ct u v y : Value), bindArgs (fnOf x qual (ZDS st) (ZDH st) (ZCU st) .none kV doc pm an cdv ct) ⟨[u, v, y], []⟩ = pure ([p, q, r].zip [u, v, y])) : ZCX K fd [p, q, r] [] := F.binds fun _ _ _ _ _ _ us hl => match us, hl with | [_, _, _], _ => h _ _ _ _ _ _ _ _ _
end
section
variable {X : Cx} {o i e f value : Expr} {tpos pos apos cpos : Pos} {to ti te td ty tx : TE}
def ZUO : List V -> Hp -> VK -> Prop := fun xs H Q => ∃ a kvs, xs = [.ref a] /\ H a = some (.dK kvs) /\ Q (.int kvs.length) H
theorem ZRo : ZC8 X (.builtin "len") ZUO := by
 intro pins s U H xs us Q I r h
 obtain ⟨a, kvs, rfl, e, q⟩ := h
 obtain ⟨u, rfl, rx⟩ := ZIO r
 cases rx
 exact ZUL I (.inl e) fun t s' I' => ⟨.int kvs.length, H, I', ⟨t, rfl⟩, q⟩
end
def ZPp (d : Addr) (o : Obj) (kvs : List (Key × V)) : It := ⟨fun i H => H d = some (.frz o (.dK kvs)) /\ i < kvs.length, fun i H x H' => H' = H /\ ∃ p, kvs[i]? = some p /\ x = p.2, fun i H => H d = some (.frz o (.dK kvs)) /\ kvs.length <= i⟩
theorem ZTn {kvs : List (Key × V)} {vs : List (Key × Value)} (h : KV kvs vs) : ∀ {i : Nat} {p : Key × V}, kvs[i]? = some p -> ∃ q, vs[i]? = some q /\ ZCb p.2 q.2 := by
 unfold KV at h
 induction h with
 | nil => intro i p e; simp at e
 | @cons a b as bs h t ih =>
  intro i p e
  cases i with
  | zero =>
   simp at e
   subst e
   exact ⟨b, rfl, h.2⟩
  | succ i =>
   obtain ⟨q, h1, h2⟩ := ih (i := i) (p := p) (by simpa using e)
   exact ⟨q, by simpa using h1, h2⟩
theorem ZMu {P : Program} {w : World} {K : W.Frag} {tg : Expr} (d it : Addr) (o : Obj) (kvs : List (Key × V)) (es : Array DictEntry) (ep : Nat) (ho : o.data = .dict es ep) : ZHs P w K tg (ZPp d o kvs) [it] it (fun i h => h.IsValIter it d i kvs.length ep) where
 mem := by simp
 obj := fun i h st b hb => by
  have e : b = it := by simpa using hb
  subst e
  obtain ⟨o, e, c, d⟩ := st
  exact ⟨o, e, fun v z => by rw [d] at z; cases z⟩
 keep := fun i h h' st k => st.at fun o e => k it (by simp) o e
 item := by
  intro X hP hw hK hc i pins s U H E I hf st hg
  subst hP hw hK
  obtain ⟨hd, hi⟩ := hg
  obtain ⟨f0, f1, f2, f3, f4, f5⟩ := hf it (by simp)
  obtain ⟨hob, z, hsm, vs, rel, dd⟩ := (show ZCu X.prog X.w H s.heap d (.frz o (.dK kvs)) from I.hok d _ hd)
  obtain ⟨ep', dd⟩ := dd.dictAt
  obtain ⟨o2, es2, g1, g2, g3, g4⟩ := id dd
  rw [hob] at g1
  cases g1
  rw [ho] at g3
  cases g3
  have hlen : kvs.length = vs.length := rel.length
  obtain ⟨q, hq, eq⟩ := ZTn rel (Uc hi)
  rw [hlen] at st
  refine wpAny_pyNext_values_item (knd := ZCo X.prog X.w) (k := q.1) (v := q.2) st dd hq fun h' hit' hs' => ?_
  have I1 : Inv X pins U H { s with heap := h' } := I.turned (t' := s.toks) (fun b o hb e => (hs'.2 b hb).trans e) f0 f1 f3 f4 f5
  obtain ⟨o3, e3, c3, d3⟩ := id hit'
  refine ⟨q.2, rfl, ZHU (s := { s with heap := h' }) e3 c3 d3 (by decide) ⟨kvs[i].2, H, I1, eq, ⟨rfl, _, Uc hi, rfl⟩, ?_, fun b hb => (hf b hb).1⟩⟩
  rw [hlen]; exact hit'
 done := by
  intro X hP hw hK hc i pins s U H E I hf st hg
  subst hP hw hK
  obtain ⟨hd, hi⟩ := hg
  obtain ⟨f0, f1, f2, f3, f4, f5⟩ := hf it (by simp)
  obtain ⟨hob, z, hsm, vs, rel, dd⟩ := (show ZCu X.prog X.w H s.heap d (.frz o (.dK kvs)) from I.hok d _ hd)
  obtain ⟨ep', dd⟩ := dd.dictAt
  obtain ⟨o2, es2, g1, g2, g3, g4⟩ := id dd
  rw [hob] at g1
  cases g1
  rw [ho] at g3
  cases g3
  have hlen : kvs.length = vs.length := rel.length
  rw [hlen] at st
  exact wpAny_pyNext_values_end (knd := ZCo X.prog X.w) (I.ok.hd hc) st dd (List.getElem?_eq_none (by omega)) fun h' eb => ⟨rfl, I.turned (t' := s.toks) (fun b o hb e => eb b o hb e) f0 f1 f3 f4 f5⟩
 self := fun _ _ _ _ _ st h => wpAny_pyIter_valiter st h
def ZKy (X : Cx) (R : It -> Hp -> Prop) (v : V) (H : Hp) : Prop := ∃ d kvs, v = .ref d /\ H d = some (.dK kvs) /\ ∀ o, ZEN X d -> R (ZPp d o kvs) (upd H d (.frz o (.dK kvs)))
def ZNx (X : Cx) (te : TE) : TI := fun U H R => te U H fun v H1 => ZKy X R v H1
section
variable {X : Cx} {tg e : Expr} {te t : TE} {apos cpos : Pos}
theorem ZPq (he : QE X e te) (hbase : attributeBase e "values" X.env (eval e X.env) = eval e X.env := by rfl) (hline : (apos.endLine == cpos.line) = true := by rfl) : QI X tg (.Call (.Attribute e "values" apos) [] [] cpos) (ZNx X te) := by
 refine ⟨?_⟩
 intro pins s U H R I h
 refine wpAny_Call_method0_late hbase hline (thn (he.h pins s U H _ I h) fun u s1 ⟨x, H1, I1, rx, d, kvs, ex, hd, q⟩ => ?_)
 subst ex
 obtain rfl : u = Value.ref d := rx
 obtain ⟨z, hsm, vs, rel, dd⟩ := ZGM I1.hok hd
 refine ⟨"dict", "dict.values", PySem.F.plainAttrs_dict, PySem.F.slot_dict_values, PySem.F.type_dict_values, dd.typeIs, ZHk I1 (ZDq.k (k := Sum.inl 0) hd), ?_⟩
 refine Calls.callWith_builtin rfl (PySem.evalArgs_none ?_)
 refine call_meetsIn PySem.F.slot_dict_values dd.typeIs PySem.F.entry_dict_values (PySem.F.args_dict_values_1 _) (meets_dict_values (ZCo X.prog X.w) d hsm) ⟨⟨vs, dd⟩, ?_⟩
 obtain ⟨ep, dda⟩ := dd.dictAt
 obtain ⟨o, es, ho, hx, hdat, hk, hpr, hn⟩ := id dda
 have hnf : ZEN X d := fun o u e => by
  have := I1.base.frzs d o u e
  rw [hd] at this
  cases this
 have hlen : kvs.length = vs.length := rel.length
 have I2 : Inv X pins U (upd H1 d (.frz o (.dK kvs))) s1 := by
  have := ZFL (h' := s1.heap) (t' := s1.toks) (ob := .frz o (.dK kvs)) I1 (by rw [hd]; exact True.intro) (Heap.SameBut.refl _ _) ⟨o, ho⟩ ⟨ho, ZGv z hsm rel dd⟩
  exact this
 have I3 : Inv X pins U (upd H1 d (.frz o (.dK kvs))) { s1 with heap := s1.heap.push { cls := .type "dict_values", data := .fields #[.ref d] } } := I2.kept (t' := s1.toks) fun b o e => Ub _ e
 have dd3 := dda.at' (h' := s1.heap.push { cls := .type "dict_values", data := .fields #[.ref d] }) fun o e => Ub _ e
 show wpAny (model X.prog X.w) X.A (pyIter (.ref s1.heap.objs.size)) (PIE X pins U tg R) X.xe { s1 with heap := s1.heap.push { cls := .type "dict_values", data := .fields #[.ref d] } }
 refine wpAny_pyIter_values (knd := ZCo X.prog X.w) (s := { s1 with heap := s1.heap.push { cls := .type "dict_values", data := .fields #[.ref d] } }) ⟨_, Uf _ rfl, rfl, rfl⟩ dd3 ?_
 refine ⟨_, [_], _, _, _, rfl, I3.kept (t' := s1.toks) fun b o e => Ub _ e, ZMu d _ o kvs es ep hdat, ?_, fun b hb => ?_, q o hnf⟩
 ·rw [hlen]
  exact ⟨_, Uf _ rfl, rfl, rfl⟩
 ·have e := Ud.mp hb
  subst e
  exact I3.fpOk (Ue _) (I3.hok.fresh (Ue _))
end
theorem Paired.snocP {α β : Type} {F : α -> β -> Prop} : ∀ {l₁ : List α} {l₂ : List β}, Paired F l₁ l₂ -> ∀ {x : α} {y : β}, F x y -> Paired F (l₁ ++ [x]) (l₂ ++ [y])
 | _, _, .nil, _, _, h => .cons h .nil
 | _, _, .cons g t, _, _, h => .cons g (Paired.snocP t h)
def leS (a b : Str) : Prop := ¬ b.cps.toList < a.cps.toList
theorem ZNy {a b c : Str} (h1 : leS a b) (h2 : leS b c) : leS a c := List.not_lt.mpr (List.le_trans (List.not_lt.mp h1) (List.not_lt.mp h2))
theorem ZJR : ∀ (l : List Str) (p : Str), risingS p l = true -> (p :: l).Pairwise leS
 | [], p, _ => List.pairwise_singleton _ _
 | x :: r, p, h => by
  simp only [risingS, Bool.and_eq_true, Bool.not_eq_true', ltCps_eq, decide_eq_false_iff_not] at h
  have ih := ZJR r x h.2
  rw [List.pairwise_cons]
  refine ⟨fun y hy => ?_, ih⟩
  rcases Ul.mp hy with rfl | hy
  ·exact h.1
  ·exact ZNy h.1 ((List.pairwise_cons.mp ih).1 y hy)
theorem ZMv {l : List Str} (h : sortedS l = true) : l.Pairwise leS := by
 cases l with
 | nil => exact .nil
 | cons p l => exact ZJR l p h
section
variable {prog : Program} {w : World} {A : Around} {E : Value -> Shared -> Prop} {s : Shared} {κ : Type} [DecidableEq κ] {knd : KeyKind prog w κ}
theorem ZKz {d : Addr} {kvs : List (κ × Value)} {ep : Nat} {Q : Value -> Shared -> Prop} (hh : A.handled = none) (hd : (d == sysModules) = false) (hm : s.heap.DictAt knd d kvs ep) (h64 : kvs.length < 64)
  (hI : ∀ acc : Array Value, ItemsOf (fun i v => ∃ k x, kvs[i]? = some (k, x) /\ knd.is k v = true) acc kvs.length -> ∃ ss, StrsAre acc.toList ss /\ ∀ (s' : Shared) (l : Addr) (out : Array Value) (ss' : List Str) (e : Nat), s.heap.objs.size <= l -> (∀ b o, s.heap.get? b = some o -> s'.heap.get? b = some o) -> s'.gens = s.gens -> s'.drawn = s.drawn -> s'.os = s.os ->
   s'.heap.get? l = some (seqObj "list" out e) -> StrsAre out.toList ss' -> ss'.Perm ss -> sortedS ss' = true -> Q (.ref l) s') :
  wpAny (model prog w) A (call (.builtin "sorted") [.ref d]) Q E s := by
 refine Calls.call_function_entry kind_sorted plain_sorted entry_sorted (args_sorted1 _) ?_
 unfold Builtin.«sorted»
 refine Ua (m := checkCount "sorted" 1 1 _) (Ug ?_)
 refine Ua (ZGw (knd := knd) hh hd hm (by rw [sizeLine_eq]; omega) fun s1 acc hk e1 e2 e3 hlt hacc => ?_)
 obtain ⟨ss, hns, hQ⟩ := hI acc hacc
 refine Ua (wpAny_newList (hsz := by rw [UA, hacc.1, sizeLine_eq]; omega) ?_)
 have hoL : (s1.heap.push (seqObj "list" acc.toList.toArray 0)).get? s1.heap.objs.size = some (seqObj "list" acc.toList.toArray 0) := Uf _ rfl
 show wpAny _ _ _ _ _ { s1 with heap := s1.heap.push (seqObj "list" acc.toList.toArray 0) }
 refine Ua (UJ (wpAny_call_entry slot_list_sort ⟨_, hoL, rfl⟩ entry_list_sort (list_sort_treeK strKind_oneLt hoL hns.keysOf (fun v₁ v₂ ZDQ e => keyKind_strs (by rw [<- e]; exact hns)) (by rw [UA, hacc.1]; exact h64) fun st' hp hs => ⟨_, rfl, ?_⟩) (args_list_sort _)))
 obtain ⟨ss', a1, a2, a3⟩ := sorted_out_str hns hp hs
 refine Ug ⟨_, rfl, ?_⟩
 obtain ⟨e, he⟩ := sortedHeap_at (out := (arrOf st').map (·.2)) hoL
 have hle : s.heap.objs.size <= s1.heap.objs.size := Nat.le_of_lt hlt
 refine hQ _ _ _ ss' e hle (fun b o eb => ?_) e1 e2 e3 he a1 a2 a3
 have hb := Uh (hk _ _ eb)
 exact (sortedHeap_old (Uo hb) (by rw [UW]; exact Vj hb)).trans (Ub _ (hk _ _ eb))
end
theorem ZJS : ∀ (vs : List (Key × Value)) (ns : List Str) (l : List Value), vs.map (·.1) = ns.map Sum.inr -> l.length = vs.length -> (∀ (j : Nat) (v : Value), l[j]? = some v -> ∃ k x, vs[j]? = some (k, x) /\ ZFi k v = true) -> StrsAre l ns
 | [], [], [], _, _, _ => .nil
 | [], [], _ :: _, _, h, _ => by simp at h
 | [], _ :: _, _, h, _, _ => by simp at h
 | _ :: _, [], _, h, _, _ => by simp at h
 | _ :: _, _ :: _, [], _, h, _ => by simp at h
 | (k, x) :: vs, n :: ns, v :: l, h1, h2, h3 => by
  simp only [UF, List.cons.injEq] at h1
  obtain ⟨rfl, h1⟩ := h1
  obtain ⟨k', x', e, hk⟩ := h3 0 v rfl
  simp only [List.getElem?_cons_zero, Option.some.injEq, Prod.mk.injEq] at e
  obtain ⟨rfl, rfl⟩ := e
  rcases ZC9 hk with ⟨i, t, e1, e2⟩ | ⟨y, t, e1, e2⟩
  ·cases e1
  ·cases e1; cases e2
   refine .cons _ _ (ZJS vs ns l h1 (by simpa using h2) fun j v e => ?_)
   have := h3 (j + 1) v (by simpa using e)
   simpa using this
theorem ZG4 : ∀ {vs : List Value} {ss : List Str}, StrsAre vs ss -> ZCh (ss.map V.str) vs
 | _, _, .nil => .nil
 | _, _, .cons _ t h => .cons ⟨t, rfl⟩ (ZG4 h)
def ZJT : List V -> Hp -> VK -> Prop := fun xs H Q => ∃ (p : Addr) (kvs : List (Key × V)) (ss : List Str), xs = [.ref p] /\ Rd H p (.dK kvs) /\ kvs.map (·.1) = ss.map Sum.inr /\ kvs.length < 64 /\ ∀ (l : Addr) (ss' : List Str), H l = none -> ss'.Perm ss -> ss'.Pairwise leS -> Q (.ref l) (upd H l (.lst (ss'.map V.str)))
theorem ZLW {X : Cx} (hc : X.calm = true) : ZC8 X (.builtin "sorted") ZJT := by
 intro pins s U H xs us Q I r h
 obtain ⟨p, kvs, ss, rfl, hd, hns, h64, q⟩ := h
 obtain ⟨u, rfl, ru⟩ := r.one
 cases ru
 obtain ⟨z, hd, vs, rel, dd⟩ := ZEw I.hok hd
 obtain ⟨ep, dd⟩ := dd.dictAt
 have hlen : vs.length = kvs.length := rel.length.symm
 refine ZKz (I.ok.hd hc) hd dd (by rw [hlen]; exact h64) fun acc hacc => ⟨ss, ?_, fun s' l out ss' e hl hk e1 e2 e3 he a1 a2 a3 => ?_⟩
 ·exact ZJS vs ss acc.toList (by rw [KV.keysEq rel]; exact hns) (by rw [UA]; exact hacc.1) fun j v e => hacc.2 j v (by simpa using e)
 ·obtain ⟨h', g', d', tk, os'⟩ := s'
  simp only at e1 e2 e3
  subst e1 e2 e3
  refine ⟨.ref l, upd H l (.lst (ss'.map V.str)), I.laid (t' := tk) hk hl ?_, rfl, q l ss' (I.hok.fresh hl) a2 (ZMv a3)⟩
  refine ⟨?_, out.toList, e, ZG4 a1, he⟩
  have l1 := a2.length_eq
  have l2 := congrArg List.length hns
  simp only [Ui] at l2 ⊢
  rw [sizeLine_eq]
  omega
section
variable {α : Type}
def ZCf (m : List (Str × α)) (k : Str) : Option α := (m.find? fun p => decide (p.1 = k)).map (·.2)
def ZCv (m : List (Str × α)) (k : Str) (v : α) : List (Str × α) := if (m.any fun p => decide (p.1 = k)) = true then m.map fun p => if p.1 = k then (p.1, v) else p else m ++ [(k, v)]
def dkS (m : List (Str × V)) : List (Key × V) := m.map fun p => (.inr p.1, p.2)
theorem ZNz {a b : Str} : ((Sum.inr a : Key) = Sum.inr b) ↔ a = b := ⟨fun h => Sum.inr.inj h, fun h => h ▸ rfl⟩
theorem ZFM (k : Str) : ∀ m : List (Str × V), ZC1 (dkS m) (.inr k) = ZCf m k
 | [] => rfl
 | p :: m => by
  have ih := ZFM k m
  by_cases e : p.1 = k
  ·have : ZC1 (dkS (p :: m)) (.inr k) = some p.2 := ZDX (p := (Sum.inr p.1, p.2)) (by simp [e])
   rw [this]
   simp [ZCf, Uz, e]
  ·have : ZC1 (dkS (p :: m)) (.inr k) = ZC1 (dkS m) (.inr k) := ZDY (p := (Sum.inr p.1, p.2)) (by simp [e])
   rw [this, ih]
   simp [ZCf, Uz, e]
theorem ZLz (m : List (Str × V)) (k : Str) (v : V) : ZDf (dkS m) (.inr k) v = dkS (ZCv m k v) := by
 have ha : ((dkS m).any fun kv => decide (kv.1 = Sum.inr k)) = m.any fun p => decide (p.1 = k) := by
  unfold dkS
  rw [List.any_map]
  congr 1
  funext p
  simp only [Function.comp, ZNz]
 unfold ZDf ZCv
 rw [ha]
 by_cases c : (m.any fun p => decide (p.1 = k)) = true
 ·rw [if_pos c, if_pos c]
  unfold dkS
  rw [UU, UU]
  refine UL fun p _ => ?_
  simp only [Function.comp, ZNz]
  split <;> simp
 ·rw [if_neg c, if_neg c]
  simp [dkS]
theorem ZDy {k : Str} : ∀ {m : List (Str × α)}, ZCf m k = none ↔ k ∉ m.map (·.1)
 | [] => by simp [ZCf]
 | p :: m => by
  have ih := ZDy (k := k) (m := m)
  by_cases e : p.1 = k
  ·simp [ZCf, Uz, e]
  ·have e' : ¬ k = p.1 := fun z => e z.symm
   have : ZCf (p :: m) k = ZCf m k := by simp [ZCf, Uz, e]
   rw [this, ih]
   simp [e']
theorem ZK0 {m : List (Str × α)} {k : Str} {v : α} (e : ZCf m k = none) : ZCv m k v = m ++ [(k, v)] := by
 unfold ZCv
 rw [if_neg]
 intro z
 obtain ⟨q, hq, e2⟩ := UQ.mp z
 rw [decide_eq_true_iff] at e2
 rw [ZDy] at e
 exact e (Uy.mpr ⟨q, hq, e2⟩)
theorem ZK1 {β : Type} (f : α -> β) (m : List (Str × α)) (k : Str) : ZCf (m.map fun p => (p.1, f p.2)) k = (ZCf m k).map f := by
 induction m with
 | nil => rfl
 | cons p m ih =>
  by_cases e : p.1 = k
  ·simp [ZCf, Uz, e]
  ·have h1 : ZCf (p :: m) k = ZCf m k := by simp [ZCf, Uz, e]
   have h2 : ZCf ((p :: m).map fun p => (p.1, f p.2)) k = ZCf (m.map fun p => (p.1, f p.2)) k := by simp [ZCf, Uz, e]
   rw [h1, h2, ih]
theorem ZDG {k : Str} {v : α} : ∀ {m : List (Str × α)}, ZCf m k = some v -> (k, v) ∈ m
 | [], h => by simp [ZCf] at h
 | p :: m, h => by
  by_cases e : p.1 = k
  ·have : ZCf (p :: m) k = some p.2 := by simp [ZCf, Uz, e]
   rw [this] at h
   cases h
   rw [<- e]
   exact Ux
  ·have : ZCf (p :: m) k = ZCf m k := by simp [ZCf, Uz, e]
   rw [this] at h
   exact Us _ (ZDG h)
theorem ZDj {k : Str} {v : α} : ∀ {m : List (Str × α)}, (m.map (·.1)).Nodup -> (k, v) ∈ m -> ZCf m k = some v
 | [], _, h => by cases h
 | p :: m, n, h => by
  simp only [UF, Vf] at n
  by_cases e : p.1 = k
  ·have : ZCf (p :: m) k = some p.2 := by simp [ZCf, Uz, e]
   rw [this]
   rcases Ul.mp h with h | h
   ·rw [<- h]
   ·exact absurd (Uy.mpr ⟨_, h, rfl⟩) (by rw [<- e] at *; exact n.1)
  ·have : ZCf (p :: m) k = ZCf m k := by simp [ZCf, Uz, e]
   rw [this]
   rcases Ul.mp h with h | h
   ·exact absurd (by rw [<- h]) e
   ·exact ZDj n.2 h
end
section
variable {X : Cx} {U : St} {H : Hp} {Q : VK} {R : Hp -> Prop} {RI : It -> Hp -> Prop} {p d : Addr} {m : List (Str × V)} {k : Str} {v : V} {te : TE}
theorem ZGX (h1 : H p = some (.dK (dkS m))) (h2 : ZCf m k = some v) (h : Q v H) : ZIZ (.ref p) (.str k) H Q :=
 ⟨p, v, rfl, by
  have := ZDq.k (k := Sum.inr k) h1
  rw [ZFM, h2] at this
  exact this, h⟩
theorem ZG5 {o : Obj} (h1 : H d = some (.frz o (.dK (dkS m)))) (h2 : ZCf m k = some v) (h : Q v H) : ZIZ (.ref d) (.str k) H Q :=
 ⟨d, _, rfl, .inl ⟨dkS m, .inr k, .inr ⟨o, h1⟩, rfl, by rw [ZFM, h2]⟩, h⟩
theorem ZPr (h1 : H p = some (.dK (dkS m))) (hz : m.length < sizeLine) (h : ∀ H2, H2 p = some (.dK (dkS (ZCv m k v))) -> Kp p H H2 -> R H2) : ZJ1 v (.ref p) (.str k) H R :=
 ⟨p, _, rfl, ZFt.k (k := Sum.inr k) h1 (by simpa [dkS] using hz), by
  rw [ZLz]
  exact h _ ZCZ Kp.upd⟩
theorem ZK2 (h : ∀ p H2, H p = none -> H2 p = some (.dK (dkS [])) -> ZCW H H2 -> Q (.ref p) H2) : ZJ2 H Q := ZLu h
theorem ZMw (h1 : H p = some (.dK (dkS m))) (q : Q (.bl (!(ZCf m k).isSome)) H) : ZKt (.str k) (.ref p) H Q := ⟨p, _, rfl, ZDq.k (k := Sum.inr k) h1, by rw [ZFM]; exact q⟩
theorem ZMx (h1 : H p = some (.dK (dkS m))) (hz : m.length < 64) (h : ∀ l H2 (ss : List Str), H l = none -> H2 l = some (.lst (ss.map V.str)) -> ss.Perm (m.map (·.1)) -> ss.Pairwise leS -> ZCW H H2 -> Q (.ref l) H2) : ZJT [.ref p] H Q :=
 ⟨p, _, m.map (·.1), rfl, .inl h1, by simp [dkS], by simpa [dkS] using hz, fun l ss hl hp hs => h l _ ss hl ZCZ hp hs (ZCW.new hl)⟩
theorem ZJU (h : te U H fun v H1 => ZKy X RI v H1) : ZNx X te U H RI := h
theorem ZTo (h1 : H d = some (.dK (dkS m))) (h : ∀ o H2, ZEN X d -> H2 d = some (.frz o (.dK (dkS m))) -> Kp d H H2 -> RI (ZPp d o (dkS m)) H2) : ZKy X RI (.ref d) H := ⟨d, _, rfl, h1, fun o nf => h o _ nf ZCZ Kp.upd⟩
theorem ZL0 (h1 : H d = some (.dK (dkS m))) (h : ∀ o H2, ZEN X d -> H2 d = some (.frz o (.dK (dkS m))) -> Kp d H H2 -> RI (Itk d o (dkS m)) H2) : ZIe X RI (.ref d) H := ⟨d, _, rfl, h1, fun o nf => h o _ nf ZCZ Kp.upd⟩
theorem ZPs {v : V} {o : Obj} (nf : ZEN X d) (hd : H d = some (.frz o (.dK (dkS m)))) (q : ∀ H2, H2 d = some (.dK (dkS m)) -> Kp d H H2 -> Q v H2) : ZMs X v H Q := ⟨d, o, _, nf, hd, True.intro, q _ ZCZ Kp.upd⟩
end
section
variable {X : Cx} {pins : List (Addr × Obj)} {U : St} {H : Hp} {s : Shared} {a : Addr} {kvs : List (Key × V)} {k : Key} {A : Around} {E : Value -> Shared -> Prop}
theorem ZTp {z : V} {u r : Value} {Q : Value -> Shared -> Prop} (I : Inv X pins U H s) (e : H a = some (.dK kvs)) (ry : ZCb (kV k) u) (rz : ZCb z r) (hl : kvs.length < sizeLine)
  (h1 : ∀ v, ZC1 kvs k = some v -> ∀ w' s', Inv X pins U H s' -> ZCb v w' -> Q w' s') (h2 : ZC1 kvs k = none -> ∀ s', Inv X pins U (upd H a (.dK (ZDf kvs k z))) s' -> Q r s') :
  wpAny (model X.prog X.w) A (call (.builtin "dict.setdefault") [.ref a, u, r]) Q E s := by
 obtain ⟨hz, hd, vs, rel, dd⟩ := ZGM I.hok e
 refine call_meetsIn PySem.F.slot_dict_setdefault dd.typeIs PySem.F.entry_dict_setdefault (PySem.F.args_dict_setdefault_3 _ _ _) (kt_meets_setdefault (ZCo X.prog X.w) a (ZGL ry) hd r) ⟨vs, dd, by rw [<- rel.length]; exact hz, fun w' hw => ?_, fun hn h' dd' hs => ?_⟩
 ·have hv := rel.val k
  rw [hw] at hv
  cases hk : ZC1 kvs k with
  | none => rw [hk] at hv; exact hv.elim
  | some v =>
   rw [hk] at hv
   exact h1 v hk w' _ (I.tok _) hv
 ·have hv := rel.val k
  rw [hn] at hv
  cases hk : ZC1 kvs k with
  | some v => rw [hk] at hv; exact hv.elim
  | none =>
   have he : ∃ q, h'.get? a = some q := let ⟨q, _, _, hq, _⟩ := dd'; ⟨q, hq⟩
   have hl' : (ZDf kvs k z).length <= sizeLine := by have := ZEH kvs k z; omega
   exact h2 hk _ (ZFL I (by rw [e]; exact True.intro) hs he (ZGv hl' hd (rel.put k rz) dd'))
end
def ZJ3 (a : Addr) (y z : V) (H : Hp) (Q : VK) : Prop := ∃ kvs k, H a = some (.dK kvs) /\ y = kV k /\ kvs.length < sizeLine /\ (∀ v, ZC1 kvs k = some v -> Q v H) /\ (ZC1 kvs k = none -> Q z (upd H a (.dK (ZDf kvs k z))))
def ZK3 (ty tx : TE) (U : St) (Q : VK) (x : V) (H : Hp) : Prop := ∃ a, x = .ref a /\ IsD H a /\ ty U H fun y H2 => tx U H2 fun z H3 => ZJ3 a y z H3 Q
def ZQZ (td ty tx : TE) : TE := fun U H Q => td U H fun x H1 => ZK3 ty tx U Q x H1
section
variable {X : Cx} {o e f : Expr} {apos cpos pos p : Pos} {td ty tx : TE}
theorem ZRp (ho : QE X o td) (he : QE X e ty) (hf : QE X f tx) (m : M2 X o "setdefault" apos e f cpos := by exact ⟨rfl, rfl, rfl, rfl⟩) : QE X (.Call (.Attribute o "setdefault" apos) [e, f] [] cpos) (ZQZ td ty tx) := by
 refine ⟨?_⟩
 intro pins s U H Q I h
 refine wpAny_Call_method m.base m.few m.line PySem.F.plainAttrs_dict PySem.F.slot_dict_setdefault PySem.F.type_dict_setdefault (thn (ho.h pins s U H _ I h) fun u s1 ⟨x, H1, I1, rx, a, ex, d, q1⟩ => ?_)
 subst ex
 obtain rfl : u = Value.ref a := rx
 obtain ⟨t1, t2, _⟩ := ZKW I1 d
 refine ⟨t1, t2, ?_⟩
 rw [m.trees]
 refine Calls.callWith_builtin rfl (Calls.evalArgs_plain (Calls.spliced_cons (thn (he.h pins s1 U H1 _ I1 q1) fun iv s2 ⟨y, H2, I2, ry, q2⟩ =>
  Calls.spliced_cons (thn (hf.h pins s2 U H2 _ I2 q2) fun fv s3 ⟨z, H3, I3, rz, kvs, k, ea, ey, hl, q3, q4⟩ => Calls.spliced_nil ?_))))
 subst ey
 exact ZTp I3 ea ry rz hl (fun v l w' s4 I4 rw' => ⟨v, _, I4, rw', q3 v l⟩) fun l s4 I4 => ⟨z, _, I4, rz, q4 l⟩
variable {U : St} {H : Hp} {Q : VK} {a : Addr} {m : List (Str × V)} {k : Str} {z : V}
theorem ZFW (h : td U H fun x H1 => ZK3 ty tx U Q x H1) : ZQZ td ty tx U H Q := h
theorem ZPt (h1 : H a = some (.dK (dkS m))) (q : ty U H fun y H2 => tx U H2 fun z H3 => ZJ3 a y z H3 Q) : ZK3 ty tx U Q (.ref a) H := ⟨a, rfl, .inl ⟨_, .inl h1⟩, q⟩
theorem ZRq (h1 : H a = some (.dK (dkS m))) (hl : m.length < sizeLine) (q1 : ∀ v, ZCf m k = some v -> Q v H) (q2 : ZCf m k = none -> ∀ H2, H2 a = some (.dK (dkS (m ++ [(k, z)]))) -> Kp a H H2 -> Q z H2) : ZJ3 a (.str k) z H Q :=
 ⟨dkS m, .inr k, h1, rfl, by simpa [dkS] using hl, fun v e => q1 v (by rw [<- ZFM]; exact e), fun e => by
  have e' : ZCf m k = none := by rw [<- ZFM]; exact e
  rw [ZLz, ZK0 e']
  exact q2 e' _ ZCZ Kp.upd⟩
def ZG6 (m : List (Str × V)) (k : Str) (z : V) : List (Str × V) := match ZCf m k with
 | some _ => m
 | none => m ++ [(k, z)]
theorem ZPu (h1 : H a = some (.dK (dkS m))) (hl : m.length < sizeLine) (q : ∀ H2, H2 a = some (.dK (dkS (ZG6 m k z))) -> Kp a H H2 -> Q ((ZCf m k).getD z) H2) : ZJ3 a (.str k) z H Q := by
 refine ZRq h1 hl (fun v e => ?_) fun e H2 f2 K2 => ?_
 ·have := q H (by unfold ZG6; rw [e]; exact h1) fun _ _ e _ => e
  rw [e] at this
  exact this
 ·have := q H2 (by unfold ZG6; rw [e]; exact f2) K2
  rw [e] at this
  exact this
end
section
variable {X : Cx} {U : St} {H : Hp} {D : ZDT} {d : Addr} {o : Obj} {kvs : List (Key × V)}
theorem ZIu {g : TG} {tb : TS} (Pv : Nat -> St -> Hp -> Prop) (h0 : Pv 0 U H) (hf : ∀ i U H, i <= kvs.length -> Pv i U H -> H d = some (.frz o (.dK kvs)))
  (hs : ∀ i p U H, kvs[i]? = some p -> Pv i U H -> g (kV p.1) U H fun U2 H2 => tb { D with nx := Pv (i + 1), ct := Pv (i + 1), bk := D.nx } U2 H2) (hd : ∀ U H, Pv kvs.length U H -> D.nx U H) :
  rFor (Itk d o kvs) g tb D U H := by
 refine ⟨fun i m U H => m = kvs.length - i /\ i <= kvs.length /\ Pv i U H, ⟨_, rfl, UE _, h0⟩, ?_⟩
 rintro i m U H ⟨rfl, hi, p⟩
 by_cases hlt : i < kvs.length
 ·refine .inr ⟨⟨hf i U H hi p, hlt⟩, Pv (i + 1), fun U' H' p' => ⟨kvs.length - (i + 1), by omega, rfl, hlt, p'⟩, ?_⟩
  rintro x H' ⟨rfl, q, hq, rfl⟩
  exact hs i q U H' hq p
 ·have e : i = kvs.length := by omega
  subst e
  exact .inl ⟨⟨hf _ U H hi p, Ue _⟩, hd U H p⟩
def ZK4 (X : Cx) (D : ZDT) (U : St) (H : Hp) : Prop := ∃ d o u, ZEN X d /\ H d = some (.frz o u) /\ Mut (some u) /\ D.nx U (upd H d u)
def ZQa (X : Cx) (t : TS) : TS := fun D U H => t { D with nx := fun U' H' => ZK4 X D U' H' } U H
theorem ZIv {st : Stmt} {t : TS} (h : QS X st t) : QS X st (ZQa X t) := by
 refine ⟨?_⟩
 intro pins s U H D I hq
 refine thn (h.h pins s U H _ I hq) fun fl s1 hs => ?_
 cases fl with
 | next =>
  obtain ⟨U', H', I1, d, o, u, nf, hd, hm, q⟩ := hs
  exact ⟨U', _, I1.thaw hd nf hm, q⟩
 | ret u => exact hs
 | brk => exact hs
 | cont => exact hs
theorem ZFX {t : TS} (h : t { D with nx := fun U' H' => ZK4 X D U' H' } U H) : ZQa X t D U H := h
theorem ZG7 {u : HO} (nf : ZEN X d) (hd : H d = some (.frz o u)) (hm : Mut (some u)) (q : ∀ H2, H2 d = some u -> Kp d H H2 -> D.nx U H2) : ZK4 X D U H := ⟨d, o, u, nf, hd, hm, q _ ZCZ Kp.upd⟩
end
abbrev Cmp := Keyed -> Keyed -> Bool
abbrev G (xs : Array Keyed) (i : Nat) : Keyed := xs.getD i (.none, .none)
end L2
namespace L2
open PySem PySem.SetTable
def ZE9 (m : Nat) (p : Probe) : Probe :=
 if p.more > 0 then { p with j := p.j + 1, more := p.more - 1 } else
 { p with j := (leap m p.i p.perturb).1, more := runEnd m (leap m p.i p.perturb).1 - (leap m p.i p.perturb).1, i := (leap m p.i p.perturb).1, perturb := (leap m p.i p.perturb).2 }
theorem ZN0 (t : SetTable) (p : Probe) : t.advance p = ZE9 t.mask p := by
 unfold SetTable.advance ZE9
 split <;> rfl
def ZIw (m i pt : Nat) : Probe := { j := i, more := runEnd m i - i, i, perturb := pt, dummy := none }
def pth (m : Nat) (h : Int) : Nat -> Probe
 | 0 => ZIw m (bits h % (m + 1)) (bits h)
 | k + 1 => ZE9 m (pth m h k)
theorem ZJV (m : Nat) (h : Int) : ∀ k, (pth m h k).dummy = none
 | 0 => rfl
 | k + 1 => by
  have := ZJV m h k
  show (ZE9 m (pth m h k)).dummy = none
  unfold ZE9
  split <;> exact this
def tn (m : Nat) (h : Int) : Nat -> Nat × Nat
 | 0 => (bits h % (m + 1), bits h)
 | τ + 1 => leap m (tn m h τ).1 (tn m h τ).2
theorem ZIx (m i pt : Nat) : ∀ (r j : Nat), ∀ (f : Nat -> Probe), (∀ k, f (k + 1) = ZE9 m (f k)) -> f 0 = { j, more := r, i, perturb := pt, dummy := none } -> f (r + 1) = ZIw m (leap m i pt).1 (leap m i pt).2
 | 0, j, f, hf, h0 => by rw [hf 0, h0]; rfl
 | r + 1, j, f, hf, h0 => by
  have := ZIx m i pt r (j + 1) (fun k => f (k + 1)) (fun k => hf (k + 1)) (by rw [hf 0, h0]; rfl)
  exact this
theorem ZN1 (m i : Nat) : runEnd m i - i <= 9 := by
 unfold runEnd
 split <;> omega
theorem ZK5 (m : Nat) (h : Int) : ∀ τ, ∃ k, k <= 10 * τ /\ pth m h k = ZIw m (tn m h τ).1 (tn m h τ).2
 | 0 => ⟨0, Ue _, rfl⟩
 | τ + 1 => by
  obtain ⟨k, hk, e⟩ := ZK5 m h τ
  have hr := ZN1 m (tn m h τ).1
  refine ⟨k + (runEnd m (tn m h τ).1 - (tn m h τ).1 + 1), by omega, ?_⟩
  exact ZIx m (tn m h τ).1 (tn m h τ).2 _ _ (fun x => pth m h (k + x)) (fun x => rfl) (by exact e)
theorem ZL1 (m : Nat) (h : Int) : ∀ τ, (tn m h τ).2 = bits h / 32 ^ τ
 | 0 => by rw [Nat.pow_zero, Nat.div_one]; rfl
 | τ + 1 => by
  show (tn m h τ).2 / 32 = _
  rw [ZL1 m h τ, Nat.div_div_eq_div_mul, Nat.pow_succ]
theorem ZRr (h : Int) : bits h < 2 ^ 64 := by
 unfold bits
 have h1 := Int.emod_nonneg h (show (2 ^ 64 : Int) ≠ 0 by decide)
 have h2 := Int.emod_lt_of_pos h (show (0 : Int) < 2 ^ 64 by decide)
 omega
theorem ZRs (m : Nat) (h : Int) {τ : Nat} (ht : 13 <= τ) : (tn m h τ).2 = 0 := by
 rw [ZL1]
 refine Nat.div_eq_of_lt (Uk (ZRr h) ?_)
 calc 2 ^ 64 <= 32 ^ 13 := by decide
  _ <= 32 ^ τ := Nat.pow_le_pow_right (by decide) ht
def st5 (m x : Nat) : Nat := (x * 5 + 1) % (m + 1)
def it5 (m : Nat) : Nat -> Nat -> Nat
 | 0, x => x
 | d + 1, x => it5 m d (st5 m x)
theorem ZGC (m : Nat) : ∀ a b x, it5 m (a + b) x = it5 m b (it5 m a x)
 | 0, b, x => by rw [Nat.zero_add]; rfl
 | a + 1, b, x => by rw [Nat.add_right_comm]; exact ZGC m a b _
theorem ZQb (m : Nat) (h : Int) : ∀ d, (tn m h (13 + d)).1 = it5 m d (tn m h 13).1 := by
 intro d
 induction d with
 | zero => rfl
 | succ d ih =>
  rw [ZGC, <- ih]
  show (leap m (tn m h (13 + d)).1 (tn m h (13 + d)).2).1 = _
  rw [ZRs m h (by omega)]
  rfl
def okM (m : Nat) : Prop := m = 7 \/ m = 31 \/ m = 127
def orb (m : Nat) : List Nat := (UD (m + 1)).map fun d => it5 m d 0
theorem ZRt {m : Nat} (h : okM m) : (∀ s ∈ UD (m + 1), s ∈ orb m) /\ it5 m (m + 1) 0 = 0 := by
 rcases h with rfl | rfl | rfl <;> decide +kernel
theorem ZN2 {m : Nat} (h : okM m) {i s : Nat} (hi : i <= m) (hs : s <= m) : ∃ d, d <= m /\ it5 m d i = s := by
 obtain ⟨h1, h2⟩ := ZRt h
 obtain ⟨a, ha, ea⟩ := Uy.mp (h1 i (Vd.mpr (by omega)))
 obtain ⟨b, hb, eb⟩ := Uy.mp (h1 s (Vd.mpr (by omega)))
 have ha := Vd.mp ha
 have hb := Vd.mp hb
 by_cases c : a <= b
 ·refine ⟨b - a, by omega, ?_⟩
  rw [<- ea, <- ZGC, show a + (b - a) = b by omega]
  exact eb
 ·refine ⟨m + 1 - a + b, by omega, ?_⟩
  rw [<- ea, <- ZGC, show a + (m + 1 - a + b) = (m + 1) + b by omega, ZGC, h2]
  exact eb
theorem ZMy (m : Nat) (h : Int) : ∀ τ, (tn m h τ).1 <= m
 | 0 => Nat.le_of_lt_succ (Nat.mod_lt _ (Nat.succ_pos _))
 | τ + 1 => Nat.le_of_lt_succ (Nat.mod_lt _ (Nat.succ_pos _))
theorem ZRu {m : Nat} (hm : okM m) (h : Int) {s : Nat} (hs : s <= m) : ∃ k, k < 10 * turns m /\ (pth m h k).j = s := by
 obtain ⟨d, hd, e⟩ := ZN2 hm (ZMy m h 13) hs
 obtain ⟨k, hk, ek⟩ := ZK5 m h (13 + d)
 refine ⟨k, by unfold turns; omega, ?_⟩
 rw [ek]
 show (tn m h (13 + d)).1 = s
 rw [ZQb, e]
def ZH8 (xs : Array Nat) : Prop := ∀ i j, i < j -> j < xs.size -> xs.getD i 0 < xs.getD j 0
theorem ZRv {xs : Array Nat} {i : Nat} (h : i < xs.size) (d : Nat) : xs.getD i d = xs.getD i 0 := by simp [h]
theorem ZH9 {xs : Array Nat} (R : ZH8 xs) (j : Nat) : ∀ (f lo hi : Nat), lo <= hi -> hi <= xs.size -> hi - lo <= f -> (∀ i, i < lo -> xs.getD i 0 < j) -> (∀ i, hi <= i -> i < xs.size -> j <= xs.getD i 0) ->
  (below.go xs j f lo hi <= xs.size /\ (∀ i, i < below.go xs j f lo hi -> xs.getD i 0 < j) /\ ∀ i, below.go xs j f lo hi <= i -> i < xs.size -> j <= xs.getD i 0)
 | 0, lo, hi, h1, h2, h3, h4, h5 => by
  have : lo = hi := by omega
  subst this
  exact ⟨h2, h4, h5⟩
 | f + 1, lo, hi, h1, h2, h3, h4, h5 => by
  unfold below.go
  by_cases c : lo < hi
  ·rw [if_pos c]
   dsimp only
   have hm : (lo + hi) / 2 < xs.size := by omega
   rw [ZRv hm]
   by_cases d : xs.getD ((lo + hi) / 2) 0 < j
   ·rw [if_pos d]
    refine ZH9 R j f _ _ (by omega) h2 (by omega) (fun i hi' => ?_) h5
    by_cases e : i = (lo + hi) / 2
    ·rw [e]; exact d
    ·exact Nat.lt_trans (R i ((lo + hi) / 2) (by omega) hm) d
   ·rw [if_neg d]
    refine ZH9 R j f _ _ (by omega) (by omega) (by omega) h4 fun i h6 h7 => ?_
    by_cases e : i = (lo + hi) / 2
    ·rw [e]; omega
    ·have := R ((lo + hi) / 2) i (by omega) h7
     omega
  ·rw [if_neg c]
   have : lo = hi := by omega
   subst this
   exact ⟨h2, h4, h5⟩
theorem ZGY {xs : Array Nat} (R : ZH8 xs) (j : Nat) : below xs j <= xs.size /\ (∀ i, i < below xs j -> xs.getD i 0 < j) /\ ∀ i, below xs j <= i -> i < xs.size -> j <= xs.getD i 0 :=
 ZH9 R j xs.size 0 xs.size (UE _) (Ue _) (by omega) (fun i h => by omega) fun i h h' => by omega
theorem ZFY {xs : Array Nat} {i j : Nat} (h : xs[i]? = some j) : i < xs.size /\ xs.getD i 0 = j := by
 obtain ⟨hi, e⟩ := Array.getElem?_eq_some_iff.mp h
 exact ⟨hi, by simp [hi, e]⟩
theorem ZK6 {xs : Array Nat} {i : Nat} (h : i < xs.size) : xs[i]? = some (xs.getD i 0) := by simp [h]
theorem ZFZ {xs : Array Nat} (R : ZH8 xs) {i j : Nat} (h : xs[i]? = some j) : below xs j = i := by
 obtain ⟨hi, e⟩ := ZFY h
 obtain ⟨h1, h2, h3⟩ := ZGY R j
 rcases Vp (below xs j) i with z | z | z
 ·have := h3 _ (Ue _) (by omega)
  have := R _ _ z hi
  omega
 ·exact z
 ·have := h2 i z
  omega
def Occ (t : SetTable) (j : Nat) : Prop := ∃ i : Nat, t.place[i]? = some j
theorem ZJW {t : SetTable} (R : ZH8 t.place) {i j : Nat} (h : t.place[i]? = some j) : t.slot j = .live i := by
 unfold SetTable.slot
 dsimp only
 rw [ZFZ R h, h]
 simp
theorem ZMz {t : SetTable} (hd : t.dummies = #[]) {j : Nat} (h : ¬ Occ t j) : t.slot j = .empty := by
 unfold SetTable.slot
 have h1 : (t.place[below t.place j]? == some j) = false := by
  cases e : (t.place[below t.place j]? == some j) with
  | false => rfl
  | true => exact absurd ⟨_, by simpa using e⟩ h
 have h2 : has t.dummies j = false := by rw [hd]; rfl
 dsimp only
 simp only [h1, h2, Uv, if_false]
theorem ZK7 {t : SetTable} (R : ZH8 t.place) (hd : t.dummies = #[]) {hashAt : Nat -> Int} {h : Int} {n : Nat} (hn : ¬ Occ t (pth t.mask h n).j) : ∀ (f k : Nat), k <= n -> n < k + f ->
    (∃ k', k <= k' /\ (∀ x, k <= x -> x < k' -> ∃ i : Nat, t.place[i]? = some (pth t.mask h x).j /\ hashAt i ≠ h) /\
      ((¬ Occ t (pth t.mask h k').j /\ probe.go t hashAt h f (pth t.mask h k) = some (.empty (pth t.mask h k').j none)) \/
       ∃ i : Nat, k' < n /\ t.place[i]? = some (pth t.mask h k').j /\ hashAt i = h /\ probe.go t hashAt h f (pth t.mask h k) = some (.candidate (pth t.mask h k').j i (pth t.mask h (k' + 1)))))
  | 0, k, h1, h2 => by omega
  | f + 1, k, h1, h2 => by
    unfold probe.go
    by_cases c : Occ t (pth t.mask h k).j
    · obtain ⟨i, hi⟩ := id c
      have hne : k ≠ n := fun e => hn (e ▸ c)
      rw [ZJW R hi]
      dsimp only
      by_cases d : hashAt i = h
      · rw [if_pos (by simpa using d)]
        exact ⟨k, Ue _, (fun x x1 x2 => by omega), .inr ⟨i, by omega, hi, d, by rw [ZN0]; rfl⟩⟩
      · rw [if_neg (by simpa using d), ZN0]
        obtain ⟨k', a1, a2, a3⟩ := ZK7 R hd hn f (k + 1) (by omega) (by omega)
        refine ⟨k', by omega, fun x x1 x2 => ?_, a3⟩
        by_cases e : x = k
        · subst e; exact ⟨i, hi, d⟩
        · exact a2 x (by omega) x2
    · rw [ZMz hd c]
      exact ⟨k, Ue _, (fun x x1 x2 => by omega), .inl ⟨c, by rw [ZJV]⟩⟩
theorem ZJX {α : Type} {xs : Array α} {p : Nat} (hp : p <= xs.size) (x : α) (i : Nat) : (insertAt xs p x)[i]? = if i < p then xs[i]? else if i = p then some x else xs[i - 1]? := by
 unfold insertAt
 have hs : (xs.extract 0 p).size = p := by rw [Array.size_extract]; omega
 by_cases c1 : i < p
 ·rw [if_pos c1, Array.getElem?_append_left (by rw [Array.size_push, hs]; omega), Array.getElem?_push_lt (by omega), Array.getElem_extract]
  simp
 ·rw [if_neg c1]
  by_cases c2 : i = p
  ·subst c2
   rw [if_pos rfl, Array.getElem?_append_left (by rw [Array.size_push, hs]; omega)]
   rw [Array.getElem?_push, if_pos hs.symm]
  ·rw [if_neg c2, Array.getElem?_append_right (by rw [Array.size_push, hs]; omega), Array.size_push, hs, Array.getElem?_extract]
   by_cases c3 : i - 1 < xs.size
   ·rw [if_pos (by omega), show p + (i - (p + 1)) = i - 1 by omega]
   ·rw [if_neg (by omega)]
    exact (Array.getElem?_eq_none (by omega)).symm
structure TbOk (t : SetTable) (es : Array (Int × Value)) : Prop where
 rise : ZH8 t.place
 le : ∀ (i j : Nat), t.place[i]? = some j -> j <= t.mask
 nd : t.dummies = #[]
 sz : t.place.size = es.size
 msk : okM t.mask
 few : es.size <= t.mask
 reach : ∀ (i : Nat) (h : Int) (x : Value) (j : Nat), es[i]? = some (h, x) -> t.place[i]? = some j -> ∃ k, (pth t.mask h k).j = j /\ ∀ k', k' < k -> Occ t (pth t.mask h k').j
theorem ZPv {xs : Array Nat} (R : ZH8 xs) {i i' j j' : Nat} (h : xs[i]? = some j) (h' : xs[i']? = some j') (hj : j < j') : i < i' := by
 obtain ⟨hi, e⟩ := ZFY h
 obtain ⟨hi', e'⟩ := ZFY h'
 rcases Vp i i' with z | z | z
 ·exact z
 ·subst z; omega
 ·have := R i' i z hi
  omega
theorem TbOk.free {t : SetTable} {es : Array (Int × Value)} (T : TbOk t es) : ∃ s, s <= t.mask /\ ¬ Occ t s := by
 refine Classical.byContradiction fun hc => ?_
 have all : ∀ s, s <= t.mask -> Occ t s := fun s hs => Classical.byContradiction fun h => hc ⟨s, hs, h⟩
 have idx : ∀ s, s <= t.mask -> ∃ i : Nat, t.place[i]? = some s /\ s <= i := by
  intro s
  induction s with
  | zero => intro h; obtain ⟨i, hi⟩ := all 0 h; exact ⟨i, hi, UE _⟩
  | succ s ih =>
   intro h
   obtain ⟨i, hi, h1⟩ := ih (by omega)
   obtain ⟨i', hi'⟩ := all (s + 1) h
   have := ZPv T.rise hi hi' (UM s)
   exact ⟨i', hi', by omega⟩
 obtain ⟨i, hi, h1⟩ := idx t.mask (Ue _)
 have := (ZFY hi).1
 have := T.sz
 have := T.few
 omega
theorem TbOk.ends {t : SetTable} {es : Array (Int × Value)} (T : TbOk t es) (h : Int) : ∃ n, n < 10 * turns t.mask /\ ¬ Occ t (pth t.mask h n).j := by
 obtain ⟨s, hs, hf⟩ := T.free
 obtain ⟨k, hk, e⟩ := ZRu T.msk h hs
 exact ⟨k, hk, by rw [e]; exact hf⟩
theorem ZTq {m : Nat} (hm : okM m) (h : Int) : ∀ k, (pth m h k).j + (pth m h k).more <= m /\ (pth m h k).i <= m := by
 have run : ∀ i, i <= m -> i + (runEnd m i - i) <= m := fun i hi => by unfold runEnd; split <;> omega
 intro k
 induction k with
 | zero =>
  have : bits h % (m + 1) <= m := Nat.le_of_lt_succ (Nat.mod_lt _ (Nat.succ_pos _))
  exact ⟨run _ this, this⟩
 | succ k ih =>
  show (ZE9 m (pth m h k)).j + (ZE9 m (pth m h k)).more <= m /\ (ZE9 m (pth m h k)).i <= m
  unfold ZE9
  split
  ·exact ⟨by dsimp only; omega, ih.2⟩
  ·have : (leap m (pth m h k).i (pth m h k).perturb).1 <= m := Nat.le_of_lt_succ (Nat.mod_lt _ (Nat.succ_pos _))
   exact ⟨run _ this, this⟩
theorem TbOk.put {t : SetTable} {es : Array (Int × Value)} (T : TbOk t es) {h : Int} {x : Value} {k : Nat} (hf : ¬ Occ t (pth t.mask h k).j) (ho : ∀ k', k' < k -> Occ t (pth t.mask h k').j) (hz : es.size + 1 <= t.mask) :
  TbOk (t.put (pth t.mask h k).j).1 (insertAt es (t.put (pth t.mask h k).j).2 (h, x)) := by
 have hj : (pth t.mask h k).j <= t.mask := by have := (ZTq T.msk h k).1; omega
 generalize hjj : (pth t.mask h k).j = j at hf hj
 obtain ⟨b1, b2, b3⟩ := ZGY T.rise j
 generalize hp : below t.place j = p at b1 b2 b3
 have e1 : (t.put j).2 = p := hp
 have e2 : (t.put j).1.place = insertAt t.place p j := by show insertAt t.place (below t.place j) j = _; rw [hp]
 have e3 : (t.put j).1.mask = t.mask := rfl
 have e4 : (t.put j).1.dummies = #[] := by
  show (if has t.dummies j = true then _ else t.dummies) = #[]
  rw [T.nd]
  rfl
 have g : ∀ i : Nat, (t.put j).1.place[i]? = if i < p then t.place[i]? else if i = p then some j else t.place[i - 1]? := fun i => by rw [e2]; exact ZJX b1 j i
 have occ : ∀ s, Occ (t.put j).1 s ↔ Occ t s \/ s = j := fun s => by
  constructor
  ·rintro ⟨i, hi⟩
   rw [g] at hi
   by_cases c1 : i < p
   ·rw [if_pos c1] at hi; exact .inl ⟨i, hi⟩
   ·rw [if_neg c1] at hi
    by_cases c2 : i = p
    ·rw [if_pos c2] at hi; exact .inr (Option.some.inj hi).symm
    ·rw [if_neg c2] at hi; exact .inl ⟨_, hi⟩
  ·rintro (⟨i, hi⟩ | rfl)
   ·by_cases c1 : i < p
    ·exact ⟨i, by rw [g, if_pos c1]; exact hi⟩
    ·exact ⟨i + 1, by rw [g, if_neg (by omega), if_neg (by omega), Nat.add_sub_cancel]; exact hi⟩
   ·exact ⟨p, by rw [g, if_neg (by omega), if_pos rfl]⟩
 have szp : (insertAt t.place p j).size = t.place.size + 1 := by
  unfold insertAt
  rw [Array.size_append, Array.size_push, Array.size_extract, Array.size_extract]
  omega
 have sze : (insertAt es p (h, x)).size = es.size + 1 := by
  have := T.sz
  unfold insertAt
  rw [Array.size_append, Array.size_push, Array.size_extract, Array.size_extract]
  omega
 rw [e1]
 refine ⟨?_, fun i s hi => ?_, e4, by rw [e2, szp, sze, T.sz], T.msk, by rw [sze]; exact hz, fun i h' x' s he hi => ?_⟩
 ·intro i i' hii hi'
  rw [e2, szp] at hi'
  have at' : ∀ i, i < t.place.size + 1 -> (t.put j).1.place.getD i 0 = if i < p then t.place.getD i 0 else if i = p then j else t.place.getD (i - 1) 0 := fun i hi => by
   have := g i
   rw [UV, this]
   split
   ·rw [UV]
   ·split
    ·rfl
    ·rw [UV]
  rw [at' i (by omega), at' i' hi']
  have ne : ∀ i, i < t.place.size -> t.place.getD i 0 ≠ j := fun i hi z => hf ⟨i, by rw [ZK6 hi, z]⟩
  by_cases c1 : i < p
  ·rw [if_pos c1]
   by_cases c2 : i' < p
   ·rw [if_pos c2]; exact T.rise i i' hii (by omega)
   ·rw [if_neg c2]
    by_cases c3 : i' = p
    ·rw [if_pos c3]; exact b2 i c1
    ·rw [if_neg c3]
     have h1 := b2 i c1
     have h2 := b3 (i' - 1) (by omega) (by omega)
     omega
  ·rw [if_neg c1, if_neg (show ¬ i' < p by omega), if_neg (show ¬ i' = p by omega)]
   by_cases c3 : i = p
   ·rw [if_pos c3]
    have h2 := b3 (i' - 1) (by omega) (by omega)
    have h3 := ne (i' - 1) (by omega)
    omega
   ·rw [if_neg c3]; exact T.rise (i - 1) (i' - 1) (by omega) (by omega)
 ·rcases (occ s).mp ⟨i, hi⟩ with ⟨i', h'⟩ | rfl
  ·exact T.le i' s h'
  ·exact hj
 ·rw [g] at hi
  rw [ZJX (by rw [<- T.sz]; exact b1)] at he
  have old : ∀ i : Nat, es[i]? = some (h', x') -> t.place[i]? = some s -> ∃ k, (pth t.mask h' k).j = s /\ ∀ k', k' < k -> Occ (t.put j).1 (pth t.mask h' k').j := fun i a b => by
   obtain ⟨k, k1, k2⟩ := T.reach i h' x' s a b
   exact ⟨k, k1, fun k' hk' => (occ _).mpr (.inl (k2 k' hk'))⟩
  by_cases c1 : i < p
  ·rw [if_pos c1] at hi he; exact old i he hi
  ·rw [if_neg c1] at hi he
   by_cases c2 : i = p
   ·rw [if_pos c2] at hi he
    cases he
    cases hi
    exact ⟨k, hjj, fun k' hk' => (occ _).mpr (.inl (ho k' hk'))⟩
   ·rw [if_neg c2] at hi he; exact old (i - 1) he hi
theorem ZIf : ∀ (k n : Nat) (f : Nat -> Nat), (∀ i, i < n -> f i < k) -> (∀ i j, i < n -> j < n -> f i = f j -> i = j) -> n <= k
 | 0, n, f, h1, h2 => by
  cases n with
  | zero => exact Ue _
  | succ n => exact absurd (h1 0 (Nat.succ_pos _)) (Nat.not_lt_zero _)
 | k + 1, n, f, h1, h2 => by
  cases n with
  | zero => exact UE _
  | succ n =>
   refine Nat.succ_le_succ (ZIf k n (fun i => if f i = k then f n else f i) (fun i hi => ?_) fun i j hi hj e => ?_)
   ·split
    ·rename_i e
     have := h1 n (UM _)
     have : f n ≠ k := fun z => by have := h2 i n (by omega) (UM _) (e.trans z.symm); omega
     omega
    ·have := h1 i (by omega)
     omega
   ·split at e
    ·rename_i e1
     split at e
     ·rename_i e2
      exact h2 i j (by omega) (by omega) (e1.trans e2.symm)
     ·have := h2 n j (UM _) (by omega) e
      omega
    ·split at e
     ·have := h2 i n (by omega) (UM _) e
      omega
     ·exact h2 i j (by omega) (by omega) e
def ZFa (o : Array (Option Nat)) (s : Nat) : Prop := ∃ k : Nat, o[s]? = some (some k)
theorem ZG8 {o : Array (Option Nat)} {m s : Nat} (hz : o.size = m + 1) (hs : s <= m) : (o.getD s (some 0)).isNone = true ↔ ¬ ZFa o s := by
 have hlt : s < o.size := by omega
 have e : o.getD s (some 0) = o[s] := by simp [hlt]
 rw [e]
 cases h : o[s] with
 | none =>
  refine ⟨fun _ ⟨k, hk⟩ => ?_, fun _ => rfl⟩
  rw [Va hlt, h] at hk
  cases hk
 | some k => exact ⟨(fun z => by cases z), (fun z => absurd ⟨k, by rw [Va hlt, h]⟩ z)⟩
theorem ZHb {m : Nat} {h : Int} {k i pt : Nat} (e : pth m h k = ZIw m i pt) : ∀ r, r <= runEnd m i - i -> pth m h (k + r) = { j := i + r, more := runEnd m i - i - r, i, perturb := pt, dummy := none }
 | 0, _ => e
 | r + 1, hr => by
  have := ZHb e r (by omega)
  show ZE9 m (pth m h (k + r)) = _
  rw [this]
  unfold ZE9
  rw [if_pos (show runEnd m i - i - r > 0 by omega)]
  rfl
theorem ZJY {m : Nat} {o : Array (Option Nat)} (hz : o.size = m + 1) (h : Int) : ∀ (f τ k : Nat), pth m h k = ZIw m (tn m h τ).1 (tn m h τ).2 -> (∀ k', k' < k -> ZFa o (pth m h k').j) ->
  (∃ j, layClean.free m o f (tn m h τ).1 (tn m h τ).2 = some j /\ ¬ ZFa o j /\ j <= m /\ ∃ k2, (pth m h k2).j = j /\ ∀ k', k' < k2 -> ZFa o (pth m h k').j) \/
  (layClean.free m o f (tn m h τ).1 (tn m h τ).2 = none /\ ∀ τ', τ <= τ' -> τ' < τ + f -> ZFa o (tn m h τ').1)
 | 0, τ, k, e, hk => .inr ⟨rfl, fun τ' a b => by omega⟩
 | f + 1, τ, k, e, hk => by
  have hile := ZMy m h τ
  have hre : runEnd m (tn m h τ).1 <= m /\ (tn m h τ).1 <= runEnd m (tn m h τ).1 := by unfold runEnd; split <;> omega
  unfold layClean.free
  cases hf : (UD (runEnd m (tn m h τ).1 + 1 - (tn m h τ).1)).find? fun k => (o.getD ((tn m h τ).1 + k) (some 0)).isNone with
  | some r =>
   dsimp only
   obtain ⟨h1, as, bs, h2, h3⟩ := List.find?_eq_some_iff_append.mp hf
   have hlen : as.length = r /\ r < runEnd m (tn m h τ).1 + 1 - (tn m h τ).1 /\ ∀ x, x < r -> x ∈ as := by
    have hg : (UD (runEnd m (tn m h τ).1 + 1 - (tn m h τ).1))[as.length]? = some r := by rw [h2]; simp
    have hlt : as.length < runEnd m (tn m h τ).1 + 1 - (tn m h τ).1 := by
     have := (Uj.mp hg).1
     simpa using this
    rw [List.getElem?_range hlt] at hg
    have er : as.length = r := Option.some.inj hg
    refine ⟨er, by omega, fun x hx => ?_⟩
    have hgx : (UD (runEnd m (tn m h τ).1 + 1 - (tn m h τ).1))[x]? = some x := List.getElem?_range (by omega)
    rw [h2, List.getElem?_append_left (by omega)] at hgx
    exact UC hgx
   obtain ⟨er, hr, hbefore⟩ := hlen
   refine .inl ⟨_, rfl, (ZG8 hz (by omega)).mp h1, by omega, k + r, ?_, fun k' hk' => ?_⟩
   ·rw [ZHb e r (by omega)]
   ·by_cases c : k' < k
    ·exact hk k' c
    ·have hx := h3 (k' - k) (hbefore _ (by omega))
     have hp := ZHb e (k' - k) (by omega)
     rw [show k + (k' - k) = k' by omega] at hp
     rw [hp]
     refine Classical.byContradiction fun z => ?_
     have := (ZG8 hz (show (tn m h τ).1 + (k' - k) <= m by omega)).mpr z
     rw [this] at hx
     cases hx
  | none =>
   dsimp only
   have hall : ∀ r, r < runEnd m (tn m h τ).1 + 1 - (tn m h τ).1 -> ZFa o ((tn m h τ).1 + r) := fun r hr => by
    refine Classical.byContradiction fun z => ?_
    have := List.find?_eq_none.mp hf r (Vd.mpr hr)
    exact this ((ZG8 hz (by omega)).mpr z)
   have e' : pth m h (k + (runEnd m (tn m h τ).1 - (tn m h τ).1 + 1)) = ZIw m (tn m h (τ + 1)).1 (tn m h (τ + 1)).2 :=
    ZIx m (tn m h τ).1 (tn m h τ).2 _ _ (fun x => pth m h (k + x)) (fun x => rfl) (by exact e)
   rcases ZJY hz h f (τ + 1) _ e' (fun k' hk' => by
    by_cases c : k' < k
    ·exact hk k' c
    ·have hp := ZHb e (k' - k) (by omega)
     rw [show k + (k' - k) = k' by omega] at hp
     rw [hp]
     exact hall (k' - k) (by omega)) with g | ⟨g1, g2⟩
   ·exact .inl g
   ·refine .inr ⟨g1, fun τ' a b => ?_⟩
    by_cases c : τ' = τ
    ·rw [c]; exact hall 0 (by omega)
    ·exact g2 τ' (by omega) (by omega)
structure ZEx (m : Nat) (hs : List Int) (o : Array (Option Nat)) (k : Nat) : Prop where
 size : o.size = m + 1
 ent : ∀ (s idx : Nat), o[s]? = some (some idx) -> idx < k /\ ∃ h, hs[idx]? = some h /\ ∃ kk, (pth m h kk).j = s /\ ∀ k', k' < kk -> ZFa o (pth m h k').j
 all : ∀ idx, idx < k -> ∃ s : Nat, o[s]? = some (some idx)
 inj : ∀ (s s' idx : Nat), o[s]? = some (some idx) -> o[s']? = some (some idx) -> s = s'
theorem ZEx.free {m k : Nat} {hs : List Int} {o : Array (Option Nat)} (L : ZEx m hs o k) (hk : k <= m) : ∃ s, s <= m /\ ¬ ZFa o s := by
 refine Classical.byContradiction fun hc => ?_
 have all : ∀ s, s <= m -> ZFa o s := fun s hs => Classical.byContradiction fun h => hc ⟨s, hs, h⟩
 have := ZIf k (m + 1) (fun s => ((o.getD s none).getD 0)) (fun s hs => ?_) (fun s s' hs hs' e => ?_)
 ·omega
 ·obtain ⟨idx, e⟩ := all s (by omega)
  have : o.getD s none = some idx := by rw [UV, e]; rfl
  rw [this]
  exact (L.ent s idx e).1
 ·obtain ⟨idx, e1⟩ := all s (by omega)
  obtain ⟨idx', e2⟩ := all s' (by omega)
  have h1 : o.getD s none = some idx := by rw [UV, e1]; rfl
  have h2 : o.getD s' none = some idx' := by rw [UV, e2]; rfl
  rw [h1, h2] at e
  have : idx = idx' := e
  subst this
  exact L.inj s s' idx e1 e2
theorem ZEx.step {m k : Nat} {hs : List Int} {o : Array (Option Nat)} (hm : okM m) (L : ZEx m hs o k) (hk : k <= m) {h : Int} (hh : hs[k]? = some h) :
  ∃ j, layClean.free m o (turns m) (bits h % (m + 1)) (bits h) = some j /\ ZEx m hs (o.setIfInBounds j (some k)) (k + 1) := by
 rcases ZJY L.size h (turns m) 0 0 rfl (fun k' hk' => absurd hk' (Nat.not_lt_zero _)) with ⟨j, e, hj, hjm, k2, p1, p2⟩ | ⟨_, g⟩
 ·refine ⟨j, e, ?_⟩
  have hlt : j < o.size := by rw [L.size]; omega
  have gt : ∀ s : Nat, (o.setIfInBounds j (some k))[s]? = if s = j then some (some k) else o[s]? := fun s => by
   rw [Array.getElem?_setIfInBounds]
   by_cases c : j = s
   ·subst c; rw [if_pos rfl, if_pos hlt, if_pos rfl]
   ·rw [if_neg c, if_neg (Ne.symm c)]
  have mono : ∀ s, ZFa o s -> ZFa (o.setIfInBounds j (some k)) s := fun s ⟨x, hx⟩ => by
   by_cases c : s = j
   ·exact ⟨k, by rw [gt, if_pos c]⟩
   ·exact ⟨x, by rw [gt, if_neg c]; exact hx⟩
  refine ⟨by rw [Array.size_setIfInBounds]; exact L.size, fun s idx hs' => ?_, fun idx hi => ?_, fun s s' idx h1 h2 => ?_⟩
  ·rw [gt] at hs'
   by_cases c : s = j
   ·rw [if_pos c] at hs'
    cases hs'
    exact ⟨UM _, h, hh, k2, by rw [c]; exact p1, fun k' hk' => mono _ (p2 k' hk')⟩
   ·rw [if_neg c] at hs'
    obtain ⟨a1, h', a2, kk, a3, a4⟩ := L.ent s idx hs'
    exact ⟨by omega, h', a2, kk, a3, fun k' hk' => mono _ (a4 k' hk')⟩
  ·by_cases c : idx = k
   ·exact ⟨j, by rw [gt, if_pos rfl, c]⟩
   ·obtain ⟨s, hs'⟩ := L.all idx (by omega)
    exact ⟨s, by rw [gt, if_neg (fun z => hj ⟨idx, by rw [<- z]; exact hs'⟩)]; exact hs'⟩
  ·rw [gt] at h1 h2
   by_cases c1 : s = j
   ·by_cases c2 : s' = j
    ·rw [c1, c2]
    ·rw [if_pos c1] at h1
     rw [if_neg c2] at h2
     cases h1
     have := (L.ent s' k h2).1
     omega
   ·rw [if_neg c1] at h1
    by_cases c2 : s' = j
    ·rw [if_pos c2] at h2
     cases h2
     have := (L.ent s k h1).1
     omega
    ·rw [if_neg c2] at h2
     exact L.inj s s' idx h1 h2
 ·exfalso
  obtain ⟨s, hs', hf⟩ := L.free hk
  obtain ⟨d, hd, e⟩ := ZN2 hm (ZMy m h 13) hs'
  have := g (13 + d) (by omega) (by unfold turns; omega)
  rw [ZQb, e] at this
  exact hf this
theorem ZK8 {m : Nat} (hm : okM m) {hs : List Int} (hl : hs.length <= m) : ∀ (ZDQ : List Int) (k : Nat) (o : Array (Option Nat)), hs.drop k = ZDQ -> ZEx m hs o k ->
  ∃ o', ZDQ.foldl (fun (acc : Option (Array (Option Nat) × Nat)) h => do
   let (owner, k) <- acc
   let j <- layClean.free m owner (turns m) (bits h % (m + 1)) (bits h)
   pure (owner.setIfInBounds j (some k), k + 1)) (some (o, k)) = some (o', hs.length) /\ ZEx m hs o' hs.length
 | [], k, o, e, L => by
  have hk : hs.length <= k := List.drop_eq_nil_iff.mp e
  have hk2 : k <= hs.length \/ hs.length < k := by omega
  rcases Nat.lt_or_ge hs.length k with c | c
  ·obtain ⟨s, hs'⟩ := L.all hs.length c
   obtain ⟨_, h, e2, _⟩ := L.ent s _ hs'
   rw [List.getElem?_eq_none (Ue _)] at e2
   cases e2
  ·have : k = hs.length := by omega
   subst this
   exact ⟨o, rfl, L⟩
 | h :: ZDQ, k, o, e, L => by
  have hk : k < hs.length := by
   rcases Nat.lt_or_ge k hs.length with c | c
   ·exact c
   ·rw [List.drop_eq_nil_iff.mpr c] at e; cases e
  have hh : hs[k]? = some h := by
   rw [List.drop_eq_getElem_cons hk] at e
   injection e with e1 e2
   rw [Uc hk, e1]
  have hr : hs.drop (k + 1) = ZDQ := by
   rw [List.drop_eq_getElem_cons hk] at e
   injection e with e1 e2
  obtain ⟨j, hj, L'⟩ := L.step hm (by omega) hh
  obtain ⟨o', h1, h2⟩ := ZK8 hm hl ZDQ (k + 1) _ hr L'
  refine ⟨o', ?_, h2⟩
  rw [List.foldl_cons]
  rw [<- h1]
  congr 1
  simp only [Option.bind_eq_bind, Option.bind_some, hj]
  rfl
theorem ZLX {m : Nat} (hm : okM m) {hs : Array Int} (hl : hs.size <= m) : ∃ o, layClean m hs = some o /\ ZEx m hs.toList o hs.size := by
 have L0 : ZEx m hs.toList (Array.replicate (m + 1) none) 0 := by
  refine ⟨by simp, fun s idx e => ?_, fun idx h => absurd h (Nat.not_lt_zero _), fun s s' idx e => ?_⟩ <;> (rw [Array.getElem?_replicate] at e; split at e <;> cases e)
 obtain ⟨o', h1, h2⟩ := ZK8 hm (hs := hs.toList) (by rw [UA]; exact hl) hs.toList 0 _ (List.drop_zero) L0
 refine ⟨o', ?_, by rw [<- UA]; exact h2⟩
 unfold layClean
 rw [<- Array.foldl_toList, h1]
 rfl
def ZCq (m : Nat) (o : Array (Option Nat)) : List (Nat × Nat) := (UD (m + 1)).filterMap fun j => (o.getD j none).map (j, ·)
theorem ZEQ {m : Nat} {o : Array (Option Nat)} (hz : o.size = m + 1) {s idx : Nat} : (s, idx) ∈ ZCq m o ↔ o[s]? = some (some idx) := by
 unfold ZCq
 rw [List.mem_filterMap]
 constructor
 ·rintro ⟨j, hj, e⟩
  have hj := Vd.mp hj
  have hlt : j < o.size := by omega
  have e0 : o.getD j none = o[j] := by simp [hlt]
  rw [e0] at e
  cases h : o[j] with
  | none => rw [h] at e; cases e
  | some x =>
   rw [h] at e
   cases e
   rw [Va hlt, h]
 ·intro e
  obtain ⟨hlt, h⟩ := Array.getElem?_eq_some_iff.mp e
  refine ⟨s, Vd.mpr (by omega), ?_⟩
  have e0 : o.getD s none = o[s] := by simp [hlt]
  rw [e0, h]
  rfl
theorem ZJZ (m : Nat) (o : Array (Option Nat)) : (ZCq m o).Pairwise fun a b => a.1 < b.1 := by
 unfold ZCq
 rw [List.pairwise_filterMap]
 refine List.pairwise_lt_range.imp fun {a b} h x hx y hy => ?_
 cases ha : o.getD a none with
 | none => rw [ha] at hx; cases hx
 | some i =>
  cases hb : o.getD b none with
  | none => rw [hb] at hy; cases hy
  | some j =>
   rw [ha] at hx
   rw [hb] at hy
   cases hx
   cases hy
   exact h
theorem ZPw {m k : Nat} {hs : List Int} {o : Array (Option Nat)} (L : ZEx m hs o k) : (ZCq m o).length = k := by
 have get : ∀ i (hi : i < (ZCq m o).length), o[((ZCq m o)[i]).1]? = some (some ((ZCq m o)[i]).2) := fun i hi => (ZEQ L.size).mp (Vm hi)
 refine Nat.le_antisymm ?_ ?_
 ·refine ZIf k _ (fun i => ((ZCq m o).getD i (0, 0)).2) (fun i hi => ?_) fun i j hi hj e => ?_
  ·have e0 : (ZCq m o).getD i (0, 0) = (ZCq m o)[i] := by simp [hi]
   rw [e0]
   exact (L.ent _ _ (get i hi)).1
  ·have e1 : (ZCq m o).getD i (0, 0) = (ZCq m o)[i] := by simp [hi]
   have e2 : (ZCq m o).getD j (0, 0) = (ZCq m o)[j] := by simp [hj]
   rw [e1, e2] at e
   have g1 := get i hi
   have g2 := get j hj
   rw [<- e] at g2
   have es := L.inj _ _ _ g1 g2
   have pw := UZ.mp (ZJZ m o)
   rcases Vp i j with z | z | z
   ·have := pw i j hi hj z; omega
   ·exact z
   ·have := pw j i hj hi z; omega
 ·have pos : ∀ idx, idx < k -> ∃ i, ∃ hi : i < (ZCq m o).length, ((ZCq m o)[i]).2 = idx := fun idx h => by
   obtain ⟨s, e⟩ := L.all idx h
   obtain ⟨i, hi, ei⟩ := UO ((ZEQ L.size).mpr e)
   exact ⟨i, hi, by rw [ei]⟩
  refine ZIf _ k (fun idx => if h : idx < k then (pos idx h).choose else 0) (fun idx h => ?_) fun i j hi hj e => ?_
  ·rw [dif_pos h]
   exact (pos idx h).choose_spec.choose
  ·rw [dif_pos hi, dif_pos hj] at e
   have h1 := (pos i hi).choose_spec.choose_spec
   have h2 := (pos j hj).choose_spec.choose_spec
   rw [<- h1, <- h2]
   congr 2
theorem ZGi {α β : Type} {f : α -> Option β} {g : α -> β} : ∀ (l : List α), (∀ x ∈ l, f x = some (g x)) -> l.filterMap f = l.map g
 | [], _ => rfl
 | x :: l, h => by rw [List.filterMap_cons, h x Ux, UF, ZGi l fun y hy => h y (Us _ hy)]
theorem TbOk.relaid {t : SetTable} {es : Array (Int × Value)} {wanted : Nat} (hm : okM (sizeAbove wanted - 1)) (hz : es.size <= sizeAbove wanted - 1) :
  ∃ t' order, t.relaid (es.map (·.1)) wanted = some (t', order) /\ TbOk t' (order.filterMap (es[·]?)) /\ (order.filterMap (es[·]?)).size = es.size /\ (∀ e, e ∈ (order.filterMap (es[·]?)).toList ↔ e ∈ es.toList) /\ t'.mask = sizeAbove wanted - 1 /\ t'.led = t.led /\ t'.plain = t.plain := by
 obtain ⟨o, ho, L⟩ := ZLX hm (hs := es.map (·.1)) (by rw [Array.size_map]; exact hz)
 rw [Array.size_map] at L
 generalize hmm : sizeAbove wanted - 1 = m at *
 have hlen := ZPw L
 refine ⟨_, ((ZCq m o).map (·.2)).toArray, by unfold SetTable.relaid SetTable.laid; rw [hmm, ho]; rfl, ?_⟩
 have hidx : ∀ p ∈ ZCq m o, p.2 < es.size := fun p hp => (L.ent p.1 p.2 ((ZEQ L.size).mp hp)).1
 have hes : (((ZCq m o).map (·.2)).toArray.filterMap (es[·]?)).toList = (ZCq m o).map fun p => es.getD p.2 (0, .none) := by
  rw [Array.toList_filterMap]
  show ((ZCq m o).map (·.2)).filterMap (es[·]?) = _
  rw [List.filterMap_map]
  refine ZGi _ fun p hp => ?_
  have := hidx p hp
  simp [this]
 have hsz : (((ZCq m o).map (·.2)).toArray.filterMap (es[·]?)).size = es.size := by
  rw [<- UA, hes, Ui, hlen]
 refine ⟨⟨?_, fun i j e => ?_, rfl, by rw [hsz]; show ((ZCq m o).map (·.1)).toArray.size = _; rw [Uq, Ui, hlen], hm, by rw [hsz]; exact hz, fun i h x j e1 e2 => ?_⟩, hsz, fun e => ?_, rfl, rfl, rfl⟩
 ·intro i j hij hj
  have hj' : j < (ZCq m o).length := by
   have : j < ((ZCq m o).map (·.1)).toArray.size := hj
   simpa using this
  have := UZ.mp (ZJZ m o) i j (by omega) hj' hij
  show ((ZCq m o).map (·.1)).toArray.getD i 0 < ((ZCq m o).map (·.1)).toArray.getD j 0
  simp only [Array.getD, Uq, Ui, show i < (ZCq m o).length by omega, hj', dif_pos]
  simpa using this
 ·have e : ((ZCq m o).map (·.1)).toArray[i]? = some j := e
  rw [List.getElem?_toArray, Ut] at e
  obtain ⟨p, hp, rfl⟩ := Option.map_eq_some_iff.mp e
  have := (ZEQ L.size).mp (UC hp)
  have := (Array.getElem?_eq_some_iff.mp this).1
  show p.1 <= m
  rw [L.size] at this
  omega
 ·have e2 : ((ZCq m o).map (·.1)).toArray[i]? = some j := e2
  rw [List.getElem?_toArray, Ut] at e2
  obtain ⟨p, hp, rfl⟩ := Option.map_eq_some_iff.mp e2
  rw [<- Vb, hes, Ut, hp] at e1
  have hpm := UC hp
  have hi := hidx p hpm
  have e1 : es.getD p.2 (0, .none) = (h, x) := Option.some.inj e1
  obtain ⟨_, h', a2, kk, a3, a4⟩ := L.ent p.1 p.2 ((ZEQ L.size).mp hpm)
  have eh : h' = h := by
   rw [Vb, Array.getElem?_map, Va hi] at a2
   have e0 : es.getD p.2 (0, .none) = es[p.2] := by simp [hi]
   rw [e0] at e1
   rw [e1] at a2
   exact (Option.some.inj a2).symm
  subst eh
  refine ⟨kk, a3, fun k' hk' => ?_⟩
  obtain ⟨idx, hx⟩ := a4 k' hk'
  obtain ⟨i', hi', ei⟩ := UO ((ZEQ L.size).mpr hx)
  refine ⟨i', ?_⟩
  show ((ZCq m o).map (·.1)).toArray[i']? = _
  rw [List.getElem?_toArray, Ut, Uc hi', ei]
  rfl
 ·rw [hes]
  constructor
  ·intro h
   obtain ⟨p, hp, rfl⟩ := Uy.mp h
   have hi := hidx p hp
   have e0 : es.getD p.2 (0, .none) = es[p.2] := by simp [hi]
   rw [e0]
   exact Vh.mpr (Array.getElem_mem hi)
  ·intro h
   obtain ⟨idx, hi, e0⟩ := UO h
   rw [UA] at hi
   obtain ⟨s, hs⟩ := L.all idx hi
   refine Uy.mpr ⟨(s, idx), (ZEQ L.size).mpr hs, ?_⟩
   have e1 : es.getD idx (0, .none) = es[idx] := by simp [hi]
   rw [e1, <- e0]
   simp
end L2
namespace L2
open PySem PySem.Spec PyProof.Rows PySem.SetTable
theorem TbOk.fits {t : SetTable} {es : Array (Int × Value)} (T : TbOk t es) : t.fits es.size = true := by
 unfold SetTable.fits SetTable.fill
 have h1 := T.sz
 have h2 := T.few
 rw [T.nd]
 simp [h1]
 exact h2
theorem TbOk.odd {t : SetTable} {es : Array (Int × Value)} (T : TbOk t es) : t.gaveWay = false := by
 unfold SetTable.gaveWay
 rcases T.msk with h | h | h <;> rw [h] <;> rfl
section
variable {prog : Program} {w : World} {A : Around} {E : Value -> Shared -> Prop} {s : Shared} {a : Addr} {o : Obj} {es : Array (Int × Value)} {ep : Nat} {t : SetTable} {x : Value} {h : Int} {B : Value -> Bool}
theorem ZJa (ho : s.heap.get? a = some o) (hd : o.data = .set es ep t) (T : TbOk t es) (quiet : ∀ (l : List Value) (R : Bool -> Shared -> Prop), (∀ v ∈ l, ∃ e ∈ es.toList, e.2 = v) -> R false s -> wpAny (model prog w) A (searchCouldBeSeen x l) R E s) (refs : ∀ e ∈ es.toList, ∃ b, e.2 = .ref b)
  (eqv : ∀ e ∈ es.toList, e.1 = h -> SeqAt.EqAt A s e.2 x (B e.2)) {Q : SetFound -> Shared -> Prop} (hthere : ∀ e ∈ es.toList, e.1 = h -> B e.2 = true -> Q (.there none) s)
  (hfree : (∀ e ∈ es.toList, e.1 = h -> B e.2 = false) -> ∀ k, ¬ Occ t (pth t.mask h k).j -> (∀ k', k' < k -> Occ t (pth t.mask h k').j) -> Q (.free (pth t.mask h k).j false) s)
  {n : Nat} (hn : n < 10 * turns t.mask) (hno : ¬ Occ t (pth t.mask h n).j) :
  ∀ (f k : Nat) (stand : Option Probe), stand.getD (t.probeStart h) = pth t.mask h k -> k <= n -> n < k + f -> (∀ y, y < k -> Occ t (pth t.mask h y).j /\ ∀ (i : Nat) e, t.place[i]? = some (pth t.mask h y).j -> es[i]? = some e -> e.1 = h -> B e.2 = false) ->
   wpAny (model prog w) A (setSearchFrom a x h true f stand) Q E s
 | 0, k, stand, e, h1, h2, hb => by omega
 | f + 1, k, stand, e, h1, h2, hb => by
  unfold setSearchFrom
  refine Ua (wpAny_setState_of ho hd T.fits ?_)
  dsimp only
  rw [T.odd]
  simp only [Uv, if_false]
  rw [e]
  obtain ⟨k', c1, c2, c3⟩ := ZK7 T.rise T.nd (hashAt := fun i => (es[i]?.map (·.1)).getD 0) hno (10 * turns t.mask) k h1 (by omega)
  have old : ∀ y, y < k' -> Occ t (pth t.mask h y).j /\ ∀ (i : Nat) e, t.place[i]? = some (pth t.mask h y).j -> es[i]? = some e -> e.1 = h -> B e.2 = false := fun y hy => by
   by_cases c : y < k
   ·exact hb y c
   ·obtain ⟨i, hi, hne⟩ := c2 y (by omega) hy
    refine ⟨⟨i, hi⟩, fun i' e' hi' he' hh => ?_⟩
    have : i' = i := by rw [<- ZFZ T.rise hi, <- ZFZ T.rise hi']
    subst this
    rw [he'] at hne
    exact absurd hh hne
  generalize hpr : t.probe _ h _ = met
  rcases c3 with ⟨d1, d2⟩ | ⟨i, d0, d1, d2, d3⟩
  ·obtain rfl : met = some (.empty (pth t.mask h k').j none) := hpr.symm.trans d2
   dsimp only
   refine Ug (hfree (fun e he hh => ?_) k' d1 fun y hy => (old y hy).1)
   obtain ⟨i, hi, ei⟩ := UO he
   have hi' : i < es.size := by simpa using hi
   have hge : es[i]? = some e := by rw [Va hi', <- ei]; simp
   have hpi : t.place[i]? = some (t.place.getD i 0) := ZK6 (by rw [T.sz]; exact hi')
   obtain ⟨kk, r1, r2⟩ := T.reach i e.1 e.2 _ hge hpi
   rw [hh] at r1 r2
   have hlt : kk < k' := by
    rcases Vp kk k' with z | z | z
    ·exact z
    ·subst z; rw [r1] at d1; exact absurd ⟨i, hpi⟩ d1
    ·exact absurd (r2 k' z) d1
   exact (old kk hlt).2 i e (by rw [r1]; exact hpi) hge hh
  ·obtain rfl : met = some (.candidate (pth t.mask h k').j i (pth t.mask h (k' + 1))) := hpr.symm.trans d3
   dsimp only
   have hi' : i < es.size := by rw [<- T.sz]; exact (ZFY d1).1
   have hge : es[i]? = some es[i] := Va hi'
   have hmem : es[i] ∈ es.toList := Vh.mpr (Array.getElem_mem hi')
   have hhash : es[i].1 = h := by have := d2; simp only [hge] at this; exact this
   have fork : t.led = true \/ t.led = false := by cases t.led <;> simp
   rcases fork with hl | hl
   rw [hl]
   simp only [Bool.not_true, Uv, if_false]
   rotate_left
   rw [hl]
   simp only [Bool.not_false, if_true]
   refine Ua (quiet _ _ (fun v hv => ?_) ?_)
   ·obtain ⟨e', he', rfl⟩ := Uy.mp hv
    have he' := Vh.mp he'
    rw [Array.mem_filter] at he'
    exact ⟨e', Vh.mpr he'.1, rfl⟩
   simp only [Uv, if_false]
   all_goals
    rw [hge]
    dsimp only
    refine Ua (UJ (eqv _ hmem hhash prog w _ _ ?_))
    refine Ua (wpAny_setState_of ho hd T.fits ?_)
    dsimp only
    cases hB : B es[i].2 with
    | true =>
     simp only [Bool.and_self, if_true]
     exact Ug (hthere _ hmem hhash hB)
    | false =>
     simp only [Bool.and_false, Uv, if_false]
     rw [show t.sameMemory t.moves t.mask = some true by simp [SetTable.sameMemory]]
     dsimp only
     rw [if_pos rfl, ZJW T.rise d1]
     dsimp only
     rw [hge]
     dsimp only
     obtain ⟨b, hb2⟩ := refs _ hmem
     rw [hb2]
     refine Ua (wpAny_isSame_ref_self ?_)
     refine Ua (Ug ?_)
     simp only [if_true]
     refine ZJa ho hd T quiet refs eqv hthere hfree hn hno f (k' + 1) _ rfl (by omega) (by omega) fun y hy => ?_
     by_cases c : y < k'
     ·exact old y c
     ·have : y = k' := by omega
      subst this
      refine ⟨⟨i, d1⟩, fun i' e' hi' he' hh => ?_⟩
      have : i' = i := by rw [<- ZFZ T.rise d1, <- ZFZ T.rise hi']
      subst this
      rw [hge] at he'
      cases he'
      exact hB
theorem ZN3 (ho : s.heap.get? a = some o) (hd : o.data = .set es ep t) (T : TbOk t es) (quiet : ∀ (l : List Value) (R : Bool -> Shared -> Prop), (∀ v ∈ l, ∃ e ∈ es.toList, e.2 = v) -> R false s -> wpAny (model prog w) A (searchCouldBeSeen x l) R E s) (refs : ∀ e ∈ es.toList, ∃ b, e.2 = .ref b)
  (eqv : ∀ e ∈ es.toList, e.1 = h -> SeqAt.EqAt A s e.2 x (B e.2)) {Q : SetFound -> Shared -> Prop} (hthere : ∀ e ∈ es.toList, e.1 = h -> B e.2 = true -> Q (.there none) s)
  (hfree : (∀ e ∈ es.toList, e.1 = h -> B e.2 = false) -> ∀ k, ¬ Occ t (pth t.mask h k).j -> (∀ k', k' < k -> Occ t (pth t.mask h k').j) -> Q (.free (pth t.mask h k).j false) s) :
  wpAny (model prog w) A (setSearch a x h true) Q E s := by
 obtain ⟨n, hn, hno⟩ := T.ends h
 unfold setSearch
 refine ZJa ho hd T quiet refs eqv hthere hfree hn hno 100000 0 none rfl (UE _) ?_ fun y hy => absurd hy (Nat.not_lt_zero _)
 have : turns t.mask <= 142 := by unfold turns; rcases T.msk with h | h | h <;> omega
 omega
end
section
variable {prog : Program} {w : World} {A : Around} {E : Value -> Shared -> Prop} {s : Shared}
theorem ZRw (n : Nat) {v : Value} (h : ∃ i t, v = .int i t) : hashByValue n v = pure true := by
 obtain ⟨i, t, rfl⟩ := h
 cases n <;> rfl
theorem ZHm {α : Type} {f : α -> (Option Bool × Unit) -> Sem (ForInStep (Option Bool × Unit))} : ∀ (l : List α), (∀ x ∈ l, f x (none, ()) = pure (.yield (none, ()))) -> forIn l (none, ()) f = pure (none, ())
 | [], _ => rfl
 | x :: l, h => by
  rw [List.forIn_cons, h x Ux, pure_bind]
  exact ZHm l fun y hy => h y (Us _ hy)
theorem ZN4 {b : Addr} {xs : Array Value} {n : Nat} {Q : Bool -> Shared -> Prop} (hT : s.heap.IsTuple b xs) (hi : ∀ v ∈ xs.toList, ∃ i t, v = .int i t) (h : Q true s) : wpAny (model prog w) A (hashByValue (n + 1) (.ref b)) Q E s := by
 obtain ⟨o, ho, hc, k, hd⟩ := id hT
 have hty : s.TypeIs (.ref b) "tuple" := ⟨o, ho, hc⟩
 unfold hashByValue
 refine Ua (wpAny_specialOf hty F.slot_tuple_hash.lookup ?_)
 dsimp only
 refine Ua (wpAny_seqItems ho hd ?_)
 show wpAny _ _ (forIn xs (none, ()) _ >>= _) _ _ s
 refine Ua (wpAny_of_eq (a := (none, ())) ?_ ?_)
 ·rw [<- Array.forIn_toList]
  refine ZHm _ fun x hx => ?_
  rw [ZRw n (hi x hx), pure_bind]
  rfl
 ·exact Ug h
theorem ZPx {a : Addr} {o : Obj} {es : Array (Int × Value)} {ep wanted : Nat} {t : SetTable} {Q : Unit -> Shared -> Prop} (ho : s.heap.get? a = some o) (hd : o.data = .set es ep t) (T : TbOk t es) (hm : okM (sizeAbove wanted - 1)) (hz : es.size <= sizeAbove wanted - 1) (hzl : es.size <= sizeLine) (hw : sizeAbove wanted <= sizeLine)
  (h : ∀ t' es', TbOk t' es' -> es'.size = es.size -> (∀ e, e ∈ es'.toList ↔ e ∈ es.toList) -> t'.mask = sizeAbove wanted - 1 -> t'.led = t.led -> Q () { s with heap := s.heap.update a (Obj.putSet es' t') }) :
  wpAny (model prog w) A (setRelay a wanted) Q E s := by
 obtain ⟨t', order, e, T', sz, mem, hmk, hled, hpl⟩ := TbOk.relaid (t := t) (es := es) hm hz
 unfold setRelay
 refine Ua (wpAny_setState_of ho hd T.fits ?_)
 dsimp only
 rw [if_neg (Nat.not_lt.mpr hw)]
 show wpAny _ _ (_ >>= _) _ _ s
 rw [e]
 refine Ua ?_
 show wpAny _ _ (if ((order.filterMap (es[·]?)).size != es.size) = true then _ else _) _ _ s
 rw [if_neg (by rw [sz]; simp)]
 refine Ug ?_
 exact wpAny_storeSet_of ho hd (h t' _ T' sz mem hmk hled) (by rw [sz]; exact hzl)
end
def ZIA (t : SetTable) (n : Nat) : Prop := n * 5 < t.mask * 3
theorem ZN5 {α : Type} {xs : Array α} {p : Nat} (hp : p <= xs.size) (x e : α) : e ∈ (insertAt xs p x).toList ↔ e ∈ xs.toList \/ e = x := by
 have := (SetTable.insertAt_perm xs p x).mem_iff (a := e)
 rw [this]
 simp
section
variable {prog : Program} {w : World} {A : Around} {E : Value -> Shared -> Prop} {s : Shared} {a b : Addr} {o : Obj} {es : Array (Int × Value)} {ep : Nat} {t : SetTable} {h : Int} {B : Value -> Bool} {xs : Array Value}
theorem ZTr (ho : s.heap.get? a = some o) (hd : o.data = .set es ep t) (T : TbOk t es) (quiet : ∀ (l : List Value) (R : Bool -> Shared -> Prop), (∀ v ∈ l, ∃ e ∈ es.toList, e.2 = v) -> R false s -> wpAny (model prog w) A (searchCouldBeSeen (.ref b) l) R E s) (hair : ZIA t es.size) (h28 : es.size < 70) (refs : ∀ e ∈ es.toList, ∃ b, e.2 = .ref b)
  (eqv : ∀ e ∈ es.toList, e.1 = h -> SeqAt.EqAt A s e.2 (.ref b) (B e.2)) (hT : s.heap.IsTuple b xs) (hab : b ≠ a) (hi : ∀ v ∈ xs.toList, ∃ i t, v = .int i t) {Q : Bool -> Shared -> Prop} (hthere : ∀ e ∈ es.toList, e.1 = h -> B e.2 = true -> Q false s)
  (hadd : (∀ e ∈ es.toList, e.1 = h -> B e.2 = false) -> ∀ (es' : Array (Int × Value)) (ep' : Nat) (t' : SetTable) (h' : Heap), TbOk t' es' -> ZIA t' es'.size -> es'.size = es.size + 1 -> (∀ e, e ∈ es'.toList ↔ e ∈ es.toList \/ e = (h, .ref b)) ->
   h'.get? a = some { o with data := .set es' ep' t' } -> (∀ c, c ≠ a -> h'.get? c = s.heap.get? c) -> h'.objs.size = s.heap.objs.size -> Q true { s with heap := h' }) (f : Nat) :
  wpAny (model prog w) A (setAddHashedIn a (.ref b) h (f + 1)) Q E s := by
 unfold setAddHashedIn
 refine Ua (wpAny_setState_of ho hd T.fits ?_)
 dsimp only
 rw [if_neg (show ¬ byScan (.ref b) es = true by simp [byScan, Value.scannable])]
 refine Ua (ZN3 ho hd T quiet refs eqv (fun e h1 h2 h3 => Ug (hthere e h1 h2 h3)) fun hno k hf hocc => ?_)
 dsimp only
 refine Ua (wpAny_setState_of ho hd T.fits ?_)
 dsimp only
 have hroom : es.size + 1 <= t.mask := by
  unfold ZIA at hair
  rcases T.msk with h | h | h <;> rw [h] at hair ⊢ <;> omega
 have T1 := T.put (x := .ref b) hf hocc hroom
 have hp : (t.put (pth t.mask h k).j).2 <= es.size := by rw [<- T.sz]; exact (ZGY T.rise _).1
 have hmem := ZN5 hp (h, Value.ref b)
 have hsz1 : (insertAt es (t.put (pth t.mask h k).j).2 (h, Value.ref b)).size = es.size + 1 := by
  have := (SetTable.insertAt_perm es (t.put (pth t.mask h k).j).2 (h, Value.ref b)).length_eq
  simpa using this
 have hmk : (t.put (pth t.mask h k).j).1.mask = t.mask := rfl
 generalize (t.put (pth t.mask h k).j).1 = t1 at T1 hmk ⊢
 generalize (t.put (pth t.mask h k).j).2 = p at T1 hp hmem hsz1 ⊢
 generalize insertAt es p (h, Value.ref b) = es1 at T1 hmem hsz1 ⊢
 have ZDQ : wpAny (model prog w) A (do
   storeSet a es1 t1
   if (!false && t1.tooFull) = true then do
    setRelay a (grown (es.size + 1))
    pure true
   else pure true) Q E s := by
  refine Ua (wpAny_storeSet_of ho hd ?_ (by rw [hsz1, sizeLine_eq]; omega))
  have ho1 : (s.heap.update a (Obj.putSet es1 t1)).get? a = some { o with data := .set es1 (ep + 1) t1 } := by
   have := Heap.get?_update_self (Obj.putSet es1 t1) ho (by rw [putSet_of es1 t1 hd]; rfl)
   rw [this, putSet_of es1 t1 hd]
  have oth1 : ∀ c, c ≠ a -> (s.heap.update a (Obj.putSet es1 t1)).get? c = s.heap.get? c := fun c hc => Uw _ _ (Ne.symm hc)
  have hfill : t1.fill = es.size + 1 := by
   unfold SetTable.fill
   rw [T1.nd, T1.sz, hsz1]
   rfl
  cases hfull : t1.tooFull with
  | false =>
   simp only [Bool.not_false, Bool.and_false, Uv, if_false]
   refine Ug (hadd hno es1 (ep + 1) t1 _ T1 ?_ hsz1 hmem ho1 oth1 (Heap.size_update ..))
   unfold SetTable.tooFull at hfull
   unfold ZIA
   have := of_decide_eq_false hfull
   omega
  | true =>
   simp only [Bool.not_false, Bool.and_self, if_true]
   have hfl : (es.size + 1) * 5 >= t.mask * 3 := by
    have := of_decide_eq_true (show decide (t1.fill * 5 >= t1.mask * 3) = true from hfull)
    rw [hfill, hmk] at this
    exact this
   have key : okM (sizeAbove (grown (es.size + 1)) - 1) /\ es.size + 1 <= sizeAbove (grown (es.size + 1)) - 1 /\ sizeAbove (grown (es.size + 1)) <= sizeLine /\ (es.size + 1) * 5 < (sizeAbove (grown (es.size + 1)) - 1) * 3 := by
    unfold ZIA at hair
    rcases T.msk with h | h | h
    ·rw [h] at hair hfl
     have : es.size = 4 := by omega
     rw [this]
     exact ⟨.inr (.inl (by decide)), by decide, by decide, by decide⟩
    ·rw [h] at hair hfl
     have : es.size = 18 := by omega
     rw [this]
     exact ⟨.inr (.inr (by decide)), by decide, by decide, by decide⟩
    ·rw [h] at hfl
     omega
   obtain ⟨k1, k2, k3, k4⟩ := key
   refine Ua (ZPx (s := { s with heap := s.heap.update a (Obj.putSet es1 t1) }) ho1 rfl T1 k1 (by rw [hsz1]; exact k2) (by rw [hsz1, sizeLine_eq]; omega) k3 fun t2 es2 T2 sz2 mem2 mk2 ld2 => ?_)
   refine Ug (hadd hno es2 (ep + 1 + 1) t2 _ T2 ?_ (sz2.trans hsz1) (fun e => (mem2 e).trans (hmem e)) ?_ (fun c hc => (Uw _ _ (Ne.symm hc)).trans (oth1 c hc)) ((Heap.size_update ..).trans (Heap.size_update ..)))
   ·unfold ZIA
    rw [sz2, hsz1, mk2]
    exact k4
   ·have := Heap.get?_update_self (Obj.putSet es2 t2) ho1 (by rw [putSet_of es2 t2 rfl]; rfl)
    rw [this, putSet_of es2 t2 rfl]
 cases hpl : t1.plain with
 | true =>
  simp only [if_true]
  refine Ua (ZN4 hT hi ?_)
  simp only [if_true]
  exact ZDQ
 | false =>
  simp only [Uv, if_false]
  refine Ua (Ug ?_)
  simp only [if_true]
  exact ZDQ
end
def ZC2 (h : Heap) (v : Value) (p : Int × Int) : Prop := ∃ b t u, v = .ref b /\ h.IsTuple b #[.int p.1 t, .int p.2 u]
noncomputable def hsh (prog : Program) (w : World) (p : Int × Int) : Int := tupleKeyHash (intKind prog w) [p.1, p.2]
theorem ZC2.inj {h : Heap} {v : Value} {p q : Int × Int} (h1 : ZC2 h v p) (h2 : ZC2 h v q) : p = q := by
 obtain ⟨b, t, u, rfl, o, ho, _, k, hd⟩ := h1
 obtain ⟨b', t', u', e, o', ho', _, k', hd'⟩ := h2
 cases e
 rw [ho] at ho'
 cases ho'
 rw [hd] at hd'
 simp at hd'
 exact Prod.ext hd'.1.1.1 hd'.1.2.1
noncomputable def bEq (h : Heap) (q : Int × Int) (v : Value) : Bool := @decide (∃ p, ZC2 h v p /\ p = q) (Classical.propDecidable _)
theorem ZTs {h : Heap} {q p : Int × Int} {v : Value} (hp : ZC2 h v p) : bEq h q v = decide (p = q) := by
 unfold bEq
 by_cases c : p = q
 ·rw [decide_eq_true c]
  exact @decide_eq_true _ (Classical.propDecidable _) ⟨p, hp, c⟩
 ·rw [decide_eq_false c]
  refine @decide_eq_false _ (Classical.propDecidable _) ?_
  rintro ⟨p', hp', c'⟩
  exact c ((hp.inj hp').trans c')
section
variable {prog : Program} {w : World} {A : Around} {E : Value -> Shared -> Prop} {s : Shared}
theorem ZPy {v x : Value} {p q : Int × Int} (hu : A.units < cLine) (hv : ZC2 s.heap v p) (hx : ZC2 s.heap x q) : SeqAt.EqAt A s v x (decide (p = q)) := by
 obtain ⟨b, t, u, rfl, h1⟩ := id hv
 obtain ⟨b', t', u', rfl, h2⟩ := id hx
 by_cases c : b = b'
 ·subst c
  rw [decide_eq_true (hv.inj hx)]
  exact SeqAt.EqAt.same _
 ·refine SeqAt.EqAt.of_refs c ?_
  have := SeqAt.RcAt.tuples (A := A) (s := s) (e := fun j => if j = 0 then p.1 == q.1 else p.2 == q.2) h1 h2 hu fun j j1 j2 => by
   match j, j1 with
   | 0, _ => exact (SeqAt.EqAt.int_int p.1 t q.1 t' : SeqAt.EqAt A.in1 s _ _ _)
   | 1, _ => exact (SeqAt.EqAt.int_int p.2 u q.2 u' : SeqAt.EqAt A.in1 s _ _ _)
  have e : ((UD (min (#[Value.int p.1 t, Value.int p.2 u]).size (#[Value.int q.1 t', Value.int q.2 u']).size)).all (fun j => if j = 0 then p.1 == q.1 else p.2 == q.2) && (#[Value.int p.1 t, Value.int p.2 u]).size == (#[Value.int q.1 t', Value.int q.2 u']).size) = decide (p = q) := by
   show ((UD 2).all (fun j => if j = 0 then p.1 == q.1 else p.2 == q.2) && true) = _
   rw [Bool.and_true, show UD 2 = [0, 1] from rfl]
   simp only [List.all_cons, List.all_nil, Bool.and_true, if_true, Nat.one_ne_zero, if_false]
   by_cases e1 : p = q
   ·subst e1; simp
   ·rw [decide_eq_false e1]
    cases h1 : (p.1 == q.1) with
    | false => rfl
    | true =>
     cases h2 : (p.2 == q.2) with
     | false => rfl
     | true => exact absurd (Prod.ext (by simpa using h1) (by simpa using h2)) e1
  rw [e] at this
  exact this
theorem ZGZ {α : Type} {f : α -> (Option Bool × Unit) -> Sem (ForInStep (Option Bool × Unit))} {Q : (Option Bool × Unit) -> Shared -> Prop} (q : Q (none, ()) s) : ∀ (l : List α), (∀ x ∈ l, ∀ R : ForInStep (Option Bool × Unit) -> Shared -> Prop, R (.yield (none, ())) s -> wpAny (model prog w) A (f x (none, ())) R E s) -> wpAny (model prog w) A (forIn l (none, ()) f) Q E s
 | [], _ => Ug q
 | x :: l, h => by
  rw [List.forIn_cons]
  exact Ua (h x Ux _ (ZGZ q l fun y hy => h y (Us _ hy)))
theorem ZRx (n : Nat) {v : Value} (h : ∃ i t, v = .int i t) : eqIsQuiet n v = pure true := by
 obtain ⟨i, t, rfl⟩ := h
 cases n <;> rfl
theorem ZRy (n : Nat) {v : Value} (h : ∃ i t, v = .int i t) : ofAClassStatement n v = pure false := by
 obtain ⟨i, t, rfl⟩ := h
 cases n <;> rfl
theorem ZJb {b : Addr} {xs : Array Value} {n : Nat} {Q : Bool -> Shared -> Prop} (hT : s.heap.IsTuple b xs) (hi : ∀ v ∈ xs.toList, ∃ i t, v = .int i t) (h : Q true s) : wpAny (model prog w) A (eqIsQuiet (n + 1) (.ref b)) Q E s := by
 obtain ⟨o, ho, hc, k, hd⟩ := id hT
 have hty : s.TypeIs (.ref b) "tuple" := ⟨o, ho, hc⟩
 unfold eqIsQuiet
 refine Ua (wpAny_specialOf hty F.slot_tuple_eq.lookup ?_)
 dsimp only
 refine Ua (wpAny_isInstance (b := true) hty (by rw [isSubtype_type]; kernel_rfl) ?_)
 simp only [Bool.not_true, Uv, if_false]
 refine Ua (wpAny_seqItems ho hd ?_)
 show wpAny _ _ (forIn xs (none, ()) _ >>= _) _ _ s
 refine Ua ?_
 rw [<- Array.forIn_toList]
 refine ZGZ (Ug h) _ fun x hx R hR => ?_
 rw [ZRx n (hi x hx), pure_bind]
 exact Ug hR
theorem ZJc {b : Addr} {xs : Array Value} {n : Nat} {Q : Bool -> Shared -> Prop} (hT : s.heap.IsTuple b xs) (hi : ∀ v ∈ xs.toList, ∃ i t, v = .int i t) (h : Q false s) : wpAny (model prog w) A (ofAClassStatement (n + 1) (.ref b)) Q E s := by
 obtain ⟨o, ho, hc, k, hd⟩ := id hT
 have hty : s.TypeIs (.ref b) "tuple" := ⟨o, ho, hc⟩
 unfold ofAClassStatement
 refine Ua (wpAny_typeOf hty ?_)
 dsimp only
 rw [if_pos (show ("tuple" == "tuple") = true from rfl)]
 refine Ua (Ug ?_)
 simp only [Bool.not_true, Uv, if_false]
 refine Ua (wpAny_seqItems ho hd ?_)
 dsimp only
 refine Ua ?_
 rw [<- Array.forIn_toList]
 refine ZGZ (Ug h) _ fun x hx R hR => ?_
 rw [ZRy n (hi x hx), pure_bind]
 simp only [Uv, if_false]
 exact Ug hR
theorem ZTt {b : Addr} {q : Int × Int} {l : List Value} {Q : Bool -> Shared -> Prop} (hq : ZC2 s.heap (.ref b) q) (hl : ∀ v ∈ l, ∃ p, ZC2 s.heap v p) (h : Q false s) : wpAny (model prog w) A (searchCouldBeSeen (.ref b) l) Q E s := by
 have two : ∀ {x y : Value}, (∃ i t, x = .int i t) -> (∃ i t, y = .int i t) -> ∀ v ∈ (#[x, y] : Array Value).toList, ∃ i t, v = .int i t := fun hx hy v hv => by
  simp at hv
  rcases hv with rfl | rfl
  ·exact hx
  ·exact hy
 obtain ⟨b0, t, u, e0, hT⟩ := hq
 cases e0
 unfold searchCouldBeSeen
 refine Ua (ZGZ (Ug h) _ fun v hv R hR => ?_)
 obtain ⟨p, c, t', u', rfl, hT'⟩ := hl v hv
 dsimp only
 by_cases e : (b == c || (carriedByValue (.ref b) && carriedByValue (.ref c))) = true
 ·rw [if_pos e]
  exact Ug hR
 ·rw [if_neg e]
  refine Ua (ZJb hT (two ⟨_, _, rfl⟩ ⟨_, _, rfl⟩) ?_)
  simp only [Bool.not_true, Uv, if_false]
  refine Ua (ZJb hT' (two ⟨_, _, rfl⟩ ⟨_, _, rfl⟩) ?_)
  simp only [Bool.not_true, Uv, if_false]
  refine Ua (ZJc hT (two ⟨_, _, rfl⟩ ⟨_, _, rfl⟩) ?_)
  simp only [Uv, if_false]
  refine Ua (ZJc hT' (two ⟨_, _, rfl⟩ ⟨_, _, rfl⟩) ?_)
  simp only [Uv, if_false]
  exact Ug hR
def ZEu (prog : Program) (w : World) (h : Heap) (a : Addr) (ps : PL) : Prop := ∃ (o : Obj) (es : Array (Int × Value)) (ep : Nat) (t : SetTable), h.get? a = some o /\ o.cls = .type "set" /\ (o.dict = none /\ o.slots = #[]) /\ o.data = .set es ep t /\ TbOk t es /\ ZIA t es.size /\ es.size = ps.length /\ ps.Nodup /\
 (∀ e ∈ es.toList, ∃ p ∈ ps, ZC2 h e.2 p /\ e.1 = hsh prog w p) /\ ∀ p ∈ ps, ∃ e ∈ es.toList, ZC2 h e.2 p
theorem ZC2.keep {h h' : Heap} {a : Addr} {o : Obj} {v : Value} {p : Int × Int} (hv : ZC2 h v p) (ho : h.get? a = some o) (hc : o.cls = .type "set") (k : ∀ c, c ≠ a -> h'.get? c = h.get? c) : ZC2 h' v p := by
 obtain ⟨b, t, u, e, o', ho', hc', r⟩ := hv
 refine ⟨b, t, u, e, o', ?_, hc', r⟩
 rw [k b fun z => ?_]
 ·exact ho'
 ·rw [z, ho] at ho'
  cases ho'
  rw [hc] at hc'
  simp at hc'
theorem ZLY {a b : Addr} {ps : PL} {q : Int × Int} {Q : Bool -> Shared -> Prop} (hu : A.units < cLine) (S : ZEu prog w s.heap a ps) (hq : ZC2 s.heap (.ref b) q) (hn : ps.length < 70)
  (h : ∀ r h' tk, s.toks <= tk -> ZEu prog w h' a (if q ∈ ps then ps else ps ++ [q]) -> (∀ c, c ≠ a -> h'.get? c = s.heap.get? c) -> h'.objs.size = s.heap.objs.size -> Q r { s with heap := h', toks := tk }) :
  wpAny (model prog w) A (setAdd a (.ref b)) Q E s := by
 obtain ⟨o, es, ep, t, ho, hc, hdi, hd, T, hair, hsz, hnd, hin, hall⟩ := id S
 obtain ⟨b', t1, u1, eb, hT⟩ := id hq
 cases eb
 obtain ⟨o2, ho2, hc2, k2, hd2⟩ := id hT
 have hab : b ≠ a := fun z => by
  rw [z, ho] at ho2
  cases ho2
  rw [hc] at hc2
  simp at hc2
 unfold setAdd
 refine UJ (Ua (wpAny_pyHash_tuple (knd := intKind prog w) (ks := [q.1, q.2]) hu ⟨o2, _, k2, ho2, hc2, hd2, .cons (by simp [intKind, Value.isInt]) (.cons (by simp [intKind, Value.isInt]) .nil)⟩ ?_))
 unfold setAddHashed
 refine UJ ?_
 have hsame : ∀ e ∈ es.toList, ∀ p ∈ ps, ZC2 s.heap e.2 p -> e.1 = hsh prog w p := fun e he p hp hpr => by
  obtain ⟨p', hp', hpr', hh⟩ := hin e he
  rw [hpr.inj hpr']
  exact hh
 have hB : ∀ e ∈ es.toList, ∀ p, ZC2 s.heap e.2 p -> bEq s.heap q e.2 = decide (p = q) := fun e he p hp => ZTs hp
 refine ZTr (s := { s with toks := s.toks + ([q.1, q.2].length + 1) }) (B := bEq s.heap q) (o := o) (xs := #[.int q.1 t1, .int q.2 u1]) ho hd T (fun l R hl hR => ZTt (s := { s with toks := s.toks + ([q.1, q.2].length + 1) }) hq (fun v hv => ?_) hR) hair (by omega) (fun e he => ?_) (fun e he hh => ?_) hT hab (fun v hv => ?_) (fun e he hh hb => ?_) (fun hno es' ep' t' h' T' hair' hsz' hmem hg hk hos => ?_) _
 ·obtain ⟨e, he, rfl⟩ := hl v hv
  obtain ⟨p, hp, hpr, _⟩ := hin e he
  exact ⟨p, hpr⟩
 ·obtain ⟨p, hp, ⟨b2, _, _, e2, _⟩, _⟩ := hin e he
  exact ⟨b2, e2⟩
 ·obtain ⟨p, hp, hpr, _⟩ := hin e he
  have := ZPy (A := A) (s := { s with toks := s.toks + ([q.1, q.2].length + 1) }) hu hpr hq
  rw [<- hB e he p hpr] at this
  exact this
 ·simp at hv
  rcases hv with rfl | rfl
  ·exact ⟨_, _, rfl⟩
  ·exact ⟨_, _, rfl⟩
 ·obtain ⟨p, hp, hpr, _⟩ := hin e he
  have hb := (hB e he p hpr).symm.trans hb
  have : p = q := of_decide_eq_true hb
  subst this
  exact h false s.heap _ (Nat.le_add_right _ _) (by rw [if_pos hp]; exact S) (fun _ _ => rfl) rfl
 ·have hq0 : q ∉ ps := fun hq0 => by
   obtain ⟨e, he, hpr⟩ := hall q hq0
   have h1 := hno e he (hsame e he q hq0 hpr)
   have h2 := (hB e he q hpr).symm.trans h1
   rw [decide_eq_true rfl] at h2
   cases h2
  refine h true h' _ (Nat.le_add_right _ _) ?_ hk hos
  rw [if_neg hq0]
  refine ⟨_, es', ep', t', hg, hc, hdi, rfl, T', hair', by rw [hsz', UR, hsz]; rfl, ?_, fun e he => ?_, fun p hp => ?_⟩
  ·rw [Vk]
   exact ⟨hnd, Vf.mpr ⟨UK, Vn⟩, fun x hx y hy z => by rw [Ud.mp hy] at z; exact hq0 (z ▸ hx)⟩
  ·rcases (hmem e).mp he with he | rfl
   ·obtain ⟨p, hp, hpr, hh⟩ := hin e he
    exact ⟨p, Vo _ hp, hpr.keep ho hc hk, hh⟩
   ·exact ⟨q, Ur _ (Ud.mpr rfl), hq.keep ho hc hk, rfl⟩
  ·rcases UI.mp hp with hp | hp
   ·obtain ⟨e, he, hpr⟩ := hall p hp
    exact ⟨e, (hmem e).mpr (.inl he), hpr.keep ho hc hk⟩
   ·rw [Ud.mp hp]
    exact ⟨_, (hmem _).mpr (.inr rfl), hq.keep ho hc hk⟩
end
def ddp (l : PL) : PL := l.foldl (fun ps q => if q ∈ ps then ps else ps ++ [q]) []
theorem ZPz (l : PL) (q : Int × Int) : ddp (l ++ [q]) = if q ∈ ddp l then ddp l else ddp l ++ [q] := by
 unfold ddp
 rw [List.foldl_append]
 rfl
theorem ZIy (l : PL) : (ddp l).length <= l.length := by
 have : ∀ (l acc : PL), (l.foldl (fun ps q => if q ∈ ps then ps else ps ++ [q]) acc).length <= acc.length + l.length := by
  intro l
  induction l with
  | nil => intro acc; exact Ue _
  | cons q l ih =>
   intro acc
   rw [List.foldl_cons]
   refine UG (ih _) ?_
   split
   ·simp
   ·simp; omega
 have := this l []
 rw [List.length_nil, Nat.zero_add] at this
 exact this
theorem ZEu.moved {prog : Program} {w : World} {h h' : Heap} {a : Addr} {ps : PL} (S : ZEu prog w h a ps) (k : ∀ b o, h.get? b = some o -> (b = a \/ ∃ p, ZC2 h (.ref b) p) -> h'.get? b = some o) : ZEu prog w h' a ps := by
 obtain ⟨o, es, ep, t, ho, hc, hdi, hd, T, hair, hsz, hnd, hin, hall⟩ := S
 have kp : ∀ {v p}, ZC2 h v p -> ZC2 h' v p := fun {v p} hp => by
  obtain ⟨b, t, u, e, o', ho', r⟩ := id hp
  exact ⟨b, t, u, e, o', k b o' ho' (.inr ⟨p, by rw [<- e]; exact hp⟩), r⟩
 refine ⟨o, es, ep, t, k a o ho (.inl rfl), hc, hdi, hd, T, hair, hsz, hnd, fun e he => ?_, fun p hp => ?_⟩
 ·obtain ⟨p, h1, h2, h3⟩ := hin e he
  exact ⟨p, h1, kp h2, h3⟩
 ·obtain ⟨e, h1, h2⟩ := hall p hp
  exact ⟨e, h1, kp h2⟩
section
variable {prog : Program} {w : World} {A : Around} {R : Result -> Shared -> Prop} {I : Addr} {fp wr : List Addr} {G : Array GenState -> Array GenState -> Prop} {n : Nat} {P : Nat -> Value -> Prop} {St : Nat -> Shared -> Prop}
theorem ZP0 (W : WalksS prog w A.in1 I fp wr G n P St) (hu : A.in1.units < cLine) (S : Addr) (hSf : S ∉ fp) (l : PL) (hl : l.length = n) (h70 : n < 70) (hno : ∀ i s, St i s -> ∀ b ∈ wr, ∀ p, ¬ ZC2 s.heap (.ref b) p) :
  ∀ (k i : Nat) (s : Shared), n - i = k -> i <= n -> St i s -> (∀ j v, P j v -> ZC2 s.heap v (l.getD j (0, 0))) ->
   ZEu prog w s.heap S (ddp (l.take i)) -> (∀ s', Moved (S :: wr) G s s' -> ZEu prog w s'.heap S (ddp l) -> R (.ok (.ret .none)) s') ->
   codeAny (model prog w) A (.builtin "set.update.loop" ⟨[.ref S, .ref I], []⟩) R s := by
 have hSw : S ∉ wr := fun h => hSf (W.sub _ h)
 have hsub : ∀ b ∈ wr, b ∈ S :: wr := fun b hb => Us _ hb
 intro k
 induction k with
 | zero =>
  intro i s hk hi hst hP hS hR
  have hw := hno i s hst
  have hin : i = n := by omega
  subst hin
  refine UX F.entry_set_update_loop ?_
  rw [Around.under_plainId F.plain_set_update_loop _]
  show wpAny _ A.in1 (pyNext (.ref I) >>= _) _ _ s
  refine Ua (W.done s _ _ hst fun s' hm => ?_)
  show wpAny _ A.in1 (ret Value.none) _ _ s'
  refine Ug (hR s' (hm.mono hsub) ?_)
  rw [<- hl, US] at hS
  refine hS.moved fun b o ho hb => hm.heap b o (fun z => ?_) ho
  rcases hb with rfl | ⟨p, hp⟩
  ·exact hSw z
  ·exact hw b z p hp
 | succ k ih =>
  intro i s hk hi hst hP hS hR
  have hw := hno i s hst
  have hlt : i < n := by omega
  refine UX F.entry_set_update_loop ?_
  rw [Around.under_plainId F.plain_set_update_loop _]
  show wpAny _ A.in1 (pyNext (.ref I) >>= _) _ _ s
  refine Ua (W.item i s _ _ hlt hst fun v s' hPi hst' hm => ?_)
  have hv := hP i v hPi
  obtain ⟨b, t, u, rfl, o2, ho2, hc2, r2⟩ := id hv
  have kp : ∀ {v p}, ZC2 s.heap v p -> ZC2 s'.heap v p := fun {v p} hp => by
   obtain ⟨b, t, u, e, o', ho', r⟩ := id hp
   exact ⟨b, t, u, e, o', hm.heap b o' (fun z => hw b z p (by rw [<- e]; exact hp)) ho', r⟩
  have hS' : ZEu prog w s'.heap S (ddp (l.take i)) := hS.moved fun b o ho hb => hm.heap b o (fun z => by
   rcases hb with rfl | ⟨p, hp⟩
   ·exact hSw z
   ·exact hw b z p hp) ho
  have hlen := ZIy (l.take i)
  rw [UY] at hlen
  show wpAny _ A.in1 (holding [Value.ref b] (setAdd S (.ref b)) >>= _) _ _ s'
  refine Ua (UJ (ZLY hu hS' (kp hv) (by omega) fun r h' tk htk hS2 hoth hsz => ?_))
  have e3 : l.take (i + 1) = l.take i ++ [l.getD i (0, 0)] := by
   rw [Vc, Uc (by omega), List.getD_eq_getElem?_getD, Uc (by omega)]
   rfl
  rw [<- ZPz, <- e3] at hS2
  obtain ⟨oS, _, _, _, hoS, hcS, _⟩ := id hS'
  have kp2 : ∀ {v p}, ZC2 s'.heap v p -> ZC2 h' v p := fun hp => hp.keep hoS hcS hoth
  refine Ug ⟨plainId_quiet F.plain_set_update_loop _, ih (i + 1) _ (by omega) hlt (W.frame _ s' _ _ hst' htk fun b hb o e => ?_) (fun j v hj => kp2 (kp (hP j v hj))) hS2 fun s'' hm'' hS'' => ?_⟩
  ·rw [hoth b (fun h => hSf (h ▸ hb))]; exact e
  ·refine hR s'' (Moved.trans W.gtrans ((hm.mono hsub).then_heap htk fun b o hb e => ?_) hm'') hS''
   rw [hoth b (fun h => hb (by rw [h]; exact Ux))]; exact e
end
theorem TbOk.new (f m : Nat) (led : Bool) : TbOk (SetTable.fresh f m led) #[] :=
 ⟨fun i j hij hj => by simp [SetTable.fresh] at hj, fun i j h => by simp [SetTable.fresh] at h, rfl, rfl, .inl rfl, UE _, fun i h x j e => by simp at e⟩
theorem ZEu.new {prog : Program} {w : World} {h : Heap} {a : Addr} {o : Obj} {led : Bool} (ho : h.get? a = some o) (hc : o.cls = .type "set") (hi : o.dict = none /\ o.slots = #[]) (hd : o.data = .set #[] 0 (.fresh 0 0 led)) : ZEu prog w h a [] :=
 ⟨o, #[], 0, .fresh 0 0 led, ho, hc, hi, hd, TbOk.new _ _ _, by show (0 : Nat) * 5 < 7 * 3; decide, rfl, Vn, fun e he => by simp at he, fun p hp => by simp at hp⟩
section
variable {prog : Program} {w : World} {A : Around} {E : Value -> Shared -> Prop} {s : Shared}
theorem ZIz {l : Addr} {items : Array Value} {ps : PL} {Q : Value -> Shared -> Prop}
  (hh : A.handled = none) (hu : A.in1.in1.in1.units < cLine) (hl : s.heap.IsList l items) (hi : ∀ j v, items[j]? = some v -> ZC2 s.heap v (ps.getD j (0, 0))) (hn : ps.length = items.size) (h70 : items.size < 70)
  (h : ∀ (h' : Heap) (tk : Nat), ZEu prog w h' s.heap.objs.size (ddp ps) -> (∀ b o, b < s.heap.objs.size -> s.heap.get? b = some o -> h'.get? b = some o) -> Q (.ref s.heap.objs.size) { s with heap := h', toks := tk }) :
  wpAny (model prog w) A (call (.type "set") [.ref l]) Q E s := by
 obtain ⟨c, tl, hmro⟩ := F.called_set.mro
 have hmade := F.called_set.made
 have hsub := F.called_set.sub
 refine wpAny_call (codeAny_of_tree ?_)
 show wpAny _ _ (callAny (.type "set") _) _ _ _
 refine Ug ⟨Code.quiet_builtin _ (by decide +kernel), UX F.entry_type_call ?_⟩
 rw [Around.under_plain (weight_type_call_type "set" [.ref l] []) rfl]
 have h1 := F.called_set.notType
 have h2 := F.called_set.canCreate
 have hct := F.typeCall_set_1 (.ref l)
 repeat (any_goals (first | assumption | wp_step))
 refine codeAny_mono (code_set_new_1 (.ref l) (E := E) (Q₁ := fun obj s₁ => ∃ led : Bool, obj = .ref s.heap.objs.size /\ s₁ = { s with heap := s.heap.push { cls := .type "set", dict := none, data := .set #[] 0 (.fresh 0 0 led) } }) fun led => ⟨led, rfl, rfl⟩) fun r s₁ hr => ?_
 cases r with
 | error e => exact hr
 | ok fl =>
  cases fl with
  | ret obj =>
   obtain ⟨led, rfl, rfl⟩ := hr
   have hS : (s.heap.push { cls := .type "set", dict := none, data := .set #[] 0 (.fresh 0 0 led) }).get? s.heap.objs.size = some { cls := .type "set", dict := none, data := .set #[] 0 (.fresh 0 0 led) } := Uf _ rfl
   have hT : Shared.TypeIs { s with heap := s.heap.push { cls := .type "set", dict := none, data := .set #[] 0 (.fresh 0 0 led) } } (.ref s.heap.objs.size) "set" := ⟨_, hS, rfl⟩
   have hli := F.called_set.init.lookup
   have hbi := F.called_set.init.bind (.ref s.heap.objs.size)
   repeat (any_goals (first | assumption | wp_step))
   refine codeAny_mono (codeAny_call_builtin (R := wants (fun r s₂ => r = .none /\ ∃ h' tk, s₂ = { s with heap := h', toks := tk } /\ ZEu prog w h' s.heap.objs.size (ddp ps) /\
     (∀ b o, b < s.heap.objs.size -> s.heap.get? b = some o -> h'.get? b = some o)) E) F.called_set.init.plain F.entry_set_init (check_set_init_1 hT ?_)) fun r₂ s₂ hr₂ => ?_
   ·obtain ⟨ol, hol, hcl, nl, hdl⟩ := id hl
    obtain ⟨ocls, odict, odata, oslots⟩ := ol
    simp only at hcl hdl
    subst hcl; subst hdl
    have hol' : (s.heap.push { cls := .type "set", dict := none, data := .set #[] 0 (.fresh 0 0 led) }).get? l = some { cls := .type "list", dict := odict, data := .seq items nl, slots := oslots } := Ub _ hol
    have hsls := F.sub_list_set
    have hslf := F.sub_list_frozenset
    have hne : (Value.type "list" == Value.type "dict") = false := by decide
    have hl1 : (s.heap.push { cls := .type "set", dict := none, data := .set #[] 0 (.fresh 0 0 led) }).IsList l items := ⟨_, hol', rfl, nl, rfl⟩
    unfold Builtin.«set.__init__» noKeywords Builtin.Frozenset.updateFrom
    generalize hPI : pyIter = PI
    wp_walk
    subst hPI
    refine wpAny_pyIter_list hl1 ?_
    refine Ua (wpAny_runValue ?_)
    have hlS : l < s.heap.objs.size := Uh hol
    have hh3 : A.in1.in1.in1.handled = none := by simp [hh]
    have hneI : l ≠ (s.heap.push { cls := .type "set", dict := none, data := .set #[] 0 (.fresh 0 0 led) }).objs.size := by
     rw [UW]; exact Uo (Vj hlS)
    have hSf : s.heap.objs.size ∉ [(s.heap.push { cls := .type "set", dict := none, data := .set #[] 0 (.fresh 0 0 led) }).objs.size, l] := by
     rw [UW]; simp only [Ul, Ud, UK, or_false, not_or]
     exact ⟨Uo (UM _), Nat.ne_of_gt hlS⟩
    refine ZP0 ((Walks.list hh3 _ l hneI items).toS) hu s.heap.objs.size hSf ps hn h70 ?hno (items.size - 0) 0 _ (by omega) (UE _)
     ⟨⟨_, Uf _ rfl, rfl, rfl⟩, (hl1.push _)⟩ ?hP ?hS0 ?hR
    case hno =>
     rintro i s' ⟨⟨o', ho', hc', _⟩, _⟩ b hb p ⟨b', t, u, eb, o2, ho2, hc2, _⟩
     cases eb
     rw [Ud.mp hb, ho'] at ho2
     cases ho2
     rw [hc'] at hc2
     simp at hc2
    case hP =>
     intro j v hv
     obtain ⟨b, t, u, e, o2, ho2, r⟩ := hi j v hv
     exact ⟨b, t, u, e, o2, Ub _ (Ub _ ho2), r⟩
    case hS0 =>
     have hget : ((s.heap.push { cls := .type "set", dict := none, data := .set #[] 0 (.fresh 0 0 led) }).push { cls := .type "list_iterator", data := .fields #[.ref l, .int 0 0] }).get? s.heap.objs.size
       = some { cls := .type "set", dict := none, data := .set #[] 0 (.fresh 0 0 led) } := Ub _ hS
     exact ZEu.new hget rfl ⟨rfl, rfl⟩ rfl
    case hR =>
     intro s' hm hS'
     obtain ⟨h', g', d', tk', os'⟩ := s'
     have eg : g' = s.gens := hm.gens
     have ed : d' = s.drawn := hm.drawn
     have eo : os' = s.os := hm.os
     subst eg; subst ed; subst eo
     show wpAny _ _ _ _ _ _
     refine Ug ?_
     show wpAny _ _ (ret Value.none) _ _ _
     refine Ug ⟨rfl, h', tk', rfl, hS', fun b o hb e => ?_⟩
     have hb1 : b ≠ s.heap.objs.size := Uo hb
     have hb2 : b ≠ (s.heap.push { cls := .type "set", dict := none, data := .set #[] 0 (.fresh 0 0 led) }).objs.size := by
      rw [UW]; exact Uo (Vj hb)
     exact hm.heap b o (by simp only [Ul, Ud, UK, or_false, not_or]; exact ⟨hb1, hb2⟩) (Ub _ (Ub _ e))
   ·cases r₂ with
    | error e => exact hr₂
    | ok fl₂ =>
     cases fl₂ with
     | ret r =>
      obtain ⟨rfl, h', tk, rfl, hS', hk'⟩ := hr₂
      repeat (any_goals (first | assumption | wp_step))
      exact h _ _ hS' hk'
     | _ => exact hr₂.elim
  | _ => exact hr.elim
end
end L2
namespace L2
open PySem PySem.Spec PyProof.Rows PySem.W
def ZI0 (K : W.Frag) (vs : List V) (H : Hp) (Q : VK) : Prop := ∃ (p : Addr) (us : List V) (m : PL), vs = [.ref p] /\ SqL K H p us /\ ZCY H us m /\ m.length < 70 /\ Q (.int ((ddp m).length : Int)) H
def ZL2 (K : W.Frag) (ta : TA) : TE := fun U H Q => ta U H fun vs H1 => ZI0 K vs H1 Q
section
variable {X : Cx} {a : Expr} {ta : TA} {p p2 pos pos2 : Pos}
theorem ZN6 (K : W.Frag) (hK : X.K = K) (hc : X.calm = true) (hu : X.A.units + 64 < cLine) (hgl : Gl X "len") (hml : X.mg "len" = none) (hg : Gl X "set") (hm : X.mg "set" = none) (ha : QA X [a] ta) (hs : ZEG a = false := by rfl) :
  QE X (.Call (.Name "len" p) [.Call (.Name "set" p2) [a] [] pos2] [] pos) (ZL2 K ta) := by
 subst hK
 refine ⟨?_⟩
 intro pins s U H Q I h
 refine wpAny_Call_Name_kw (ZEb I hgl hml ZEg ?_ (by decide) (by decide))
 refine PyProof.Rows.callWith_builtin1 ?_ rfl rfl
 show wpAny _ _ (spliced ((false, eval (.Call (.Name "set" p2) [a] [] pos2) X.env) :: backTo pos (starEach [] X.env))) _ _ s
 refine Calls.spliced_cons ?_
 refine Call_ (ZEb I hg hm boot_set (PyProof.Rows.callWith_type1 (thn (ha.h pos2 pins s U H _ I h) fun us s1 ⟨vs, H1, I1, r1, q1⟩ => ?_) (ZEU hs) rfl))
 obtain ⟨l, xs, m, e, hS, hP, h70, q⟩ := q1
 subst e
 obtain ⟨u, rfl, ru⟩ := r1.one
 cases ru
 obtain ⟨its, rv, pl, hz⟩ := I1.list hS
 have hT := ZJO I1 (h' := s1.heap) (fun _ _ e => e) (Ue _) hP rv
 have hl1 : m.length = its.length := by have h1 := rv.length; have h2 := hP.length; omega
 refine ZIz (I1.ok.hd hc) (by show X.A.units + 3 < cLine; omega) pl.isList (fun j v hv => ?_) (by simpa using hl1) (by simp; omega) fun h' tk hS' hk => Calls.spliced_nil ?_
 ·have hj : j < its.length := by
   have := (Array.getElem?_eq_some_iff.mp hv).1
   simpa using this
  have := ZD1.get hT (i := j) (by omega)
  obtain ⟨b, t, u, e, _, hb⟩ := this
  have e2 : its.getD j .none = v := by
   rw [List.getD_eq_getElem?_getD]
   simp at hv
   rw [hv]
   rfl
  exact ⟨b, t, u, e2 ▸ e, hb⟩
 ·obtain ⟨o, es, ep, t, ho, hc', hdi, hd, T, _, hsz, _⟩ := hS'
  have hd70 := ZIy m
  refine call_len_set (s := { s1 with heap := h', toks := tk }) ho ⟨hc', hdi.1, hdi.2⟩ hd T.fits (by rw [hsz]; omega) ?_
  rw [hsz]
  exact ⟨.int _, H1, I1.kept fun b o e => hk b o (Uh e) e, ⟨_, rfl⟩, q⟩
end
section
variable {K : W.Frag} {U : St} {H : Hp} {Q : VK} {ta : TA} {p : Addr} {us : List V} {m : PL}
theorem ZM0 (h : ta U H fun vs H1 => ZI0 K vs H1 Q) : ZL2 K ta U H Q := h
theorem ZN7 (h1 : SqL K H p us) (h2 : ZCY H us m) (h3 : m.length < 70) (q : Q (.int ((ddp m).length : Int)) H) : ZI0 K [.ref p] H Q := ⟨p, us, m, rfl, h1, h2, h3, q⟩
end
end L2
namespace My
open PySem L2
theorem ZC6 {N P : List Str} {sc : Scope} (a : sc.kind = .function := by rfl) (b : sc.isCoroutine = false := by rfl) (c : sc.isGenerator = false := by rfl) (d : N.Nodup := by decide +kernel) (e : N.take P.length = P := by rfl) (f : ∀ x ∈ P, sc.names.lookup x = some .local \/ sc.names.lookup x = some .cell := by decide +kernel) (g : ∀ y ∈ sc.names, y.2 ≠ .free := by decide +kernel) : ZCd N P sc := ⟨a, b, c, d, e, f, g⟩
theorem qsS {X : Cx} {x : Str} {e : Expr} {te : TE} {pos pos' : Pos} {i : Nat} (hN : X.N.Nodup) (he : QE X e te) (hi : X.N[i]? = some x := by rfl) (hx : Loc X.env.scope x := by first | exact Or.inl rfl | exact Or.inr rfl) (hs : ZEB e = false := by rfl) (hf : X.fn x = true \/ X.env.scope.names.lookup x = some .local := by first | exact .inl rfl | exact .inr rfl | assumption) : QS X (.Assign [.Name x pos'] e pos) (ZGG te (ZEc i)) := ZRT hN hi hx he hs hf
theorem qgN {X : Cx} {x : Str} {pos : Pos} {i : Nat} (hN : X.N.Nodup) (hi : X.N[i]? = some x := by rfl) (hx : Loc X.env.scope x := by first | exact Or.inl rfl | exact Or.inr rfl) (hf : X.fn x = true \/ X.env.scope.names.lookup x = some .local := by first | exact .inl rfl | exact .inr rfl | assumption) : QG X (.Name x pos) (ZEc i) := ZEX hN hi hx hf
theorem qcS {X : Cx} {e : Expr} {es : List Expr} {t : TA} {pos p : Pos} {x : Str} {k : Nat} {f : Addr} {fd : FuncData} {ps : List Str} {sp : Sp} (F : ZCi X.prog X.w X.K X.mg X.base CX0 k f fd ps sp) (hr : Room k X.A) (hm : X.mg x = some (.ref f)) (hk : W.keepIn X.K (.ref f) = true) (hb : ZCX X.K fd ps []) (ha : QA X (e :: es) t) (hg : Gl X x := by rfl) (hns : ZDI (e :: es) = true := by rfl) (hdb : (x == ("__debug__" : Str)) = false := by decide) : QE X (.Call (.Name x p) (e :: es) [] pos) (ZIR sp [] E0 t) := ZPJ F hr hg hm hk hb .nil ZDh ha hns hdb
theorem _root_.L2.Room.m {j k : Nat} {A : Around} (r : Room k A) (h : j <= k := by decide) : Room j A := r.mono h
local macro_rules | `(tactic| walk_at "l") => `(tactic| (intro vs H Q E h; (repeat (obtain ⟨_, h⟩ := h)); all_goals (subst_vars; rfl)))
local macro_rules | `(tactic| walk_at "w") => `(tactic| repeat walk_at "rd")
local macro_rules | `(tactic| walk_at "s") => `(tactic| simp only [L2.start, UT, List.length_nil, UF, List.map_nil, Nat.reduceAdd, Nat.reduceSub, List.replicate_succ, List.replicate_zero, List.cons_append, List.nil_append])
local macro_rules | `(tactic| walk_at "o") => `(tactic| first | exact Or.inl rfl | exact Or.inr rfl)
def top (i : Nat) : Stmt := PySem.Challenge.pw_fourpoints_k83_how_many_are_kept.main.body.getD i (.Pass ⟨0, 0, 0, 0⟩)
abbrev ZL3 : Stmt := top 0
abbrev ZGa : Stmt := top 8
abbrev ZFF : Stmt := top 10
abbrev ZGb : Stmt := top 12
abbrev ZEh : Stmt := top 13
abbrev ZFv : Stmt := top 15
abbrev ZG9 : Stmt := top 16
abbrev ZIB : Stmt := top 17
abbrev ZHA : Stmt := top 18
abbrev ZFw : Stmt := top 22
abbrev ZEi : Stmt := top 23
abbrev ZFb : Stmt := top 24
abbrev ZEv : Stmt := top 25
abbrev ZFx : Stmt := top 26
abbrev ZHB : Stmt := top 27
abbrev ZDC : Stmt := ZCs (top 28) 0
abbrev ZGc : Stmt := ZCs (top 28) 1
abbrev ZFy : Stmt := ZCs (top 28) 2
abbrev ZFc : Stmt := ZCs (top 28) 3
abbrev ZFz : Stmt := ZCs (top 28) 4
abbrev ZEj : Stmt := ZCs (top 28) 5
abbrev ZHn : Stmt := ZCs (top 28) 6
abbrev ZC7 : Stmt := ZCs (top 30) 0
abbrev ZF0 : Stmt := ZCs (top 30) 1
abbrev ZHC : Stmt := ZCs (top 30) 2
abbrev ZGD : Stmt := ZCs (top 30) 3
abbrev ZEk : Stmt := ZCs (top 30) 4
abbrev ZGd : Stmt := ZCs (top 30) 5
abbrev ZFA : Stmt := ZCs (top 30) 6
abbrev ZHD : Stmt := ZCs (top 30) 7
abbrev ZGj : Stmt := ZCs (top 30) 8
abbrev ZHE : Stmt := ZCs (top 30) 9
abbrev ZFB : Stmt := ZCs (top 30) 10
abbrev ZHF : Stmt := ZCs (top 30) 11
abbrev ZGk : Stmt := ZCs (top 30) 12
abbrev ZHG : Stmt := ZCs (top 30) 13
abbrev ZFm : Stmt := top 34
abbrev ZER : Stmt := ZCs (top 35) 0
abbrev ZFC : Stmt := ZCs (top 35) 1
abbrev ZGl : Stmt := ZCs (top 35) 2
abbrev ZFn : Stmt := ZCs (top 35) 3
abbrev ZEl : Stmt := ZCs (top 35) 4
abbrev ZIC : Stmt := top 37
abbrev ZHH : Stmt := top 38
abbrev ZID : Stmt := top 39
abbrev ZGe : Stmt := top 40
abbrev ZGf : Stmt := top 42
abbrev ZHI : Stmt := top 43
abbrev ZHJ : Stmt := top 44
abbrev ZGg : Stmt := top 45
abbrev ZF1 : Stmt := top 46
abbrev ZEO : Stmt := top 47
set_option genInjectivity false in
set_option genSizeOf false in
set_option genSizeOfSpec false in
structure Ad where
 ZAl : Addr
 ZAk : FuncData
 YY : Addr
 YX : FuncData
 Yi : Addr
 Ye : FuncData
 Yh : Addr
 Yk : FuncData
 Zz : Addr
 Zy : FuncData
 YL : Addr
 YJ : FuncData
 Y8 : Addr
 Y0 : FuncData
 Jj : Addr
 Jh : FuncData
 JR : Addr
 Y6 : FuncData
 Z9 : Addr
 YA : FuncData
 Zd : Addr
 ZZ : FuncData
 Zs : Addr
 Z2 : FuncData
 Zf : Addr
 Zj : FuncData
 YH : Addr
 YK : FuncData
 Y3 : Addr
 JN : FuncData
 Zc : Addr
 ZJ : FuncData
 YZ : Addr
 Yb : FuncData
 YB : Addr
 YE : FuncData
 Zv : Addr
 Z1 : FuncData
 YM : Addr
 YQ : FuncData
 Z3 : Addr
 Zw : FuncData
 JT : Addr
 JU : FuncData
 ZV : Addr
 ZI : FuncData
 YN : Addr
 YO : FuncData
 JI : Addr
 JQ : FuncData
 YS : Addr
 YU : FuncData
 Za : Addr
 Ze : FuncData
 Yl : Addr
 Yd : FuncData
 Zn : Addr
 Zq : FuncData
 JA : Addr
 JG : FuncData
 Ys : Addr
 Yo : FuncData
 JD : Addr
 JB : FuncData
 Zm : Addr
 Zo : FuncData
 Y2 : Addr
 Y9 : FuncData
 Yu : Addr
 Yq : FuncData
 JM : Addr
 JJ : FuncData
 JF : Addr
 Yx : FuncData
 ZU : Addr
 ZW : FuncData
 Zl : Addr
 Zp : FuncData
 Yp : Addr
 Yn : FuncData
 Z7 : Addr
 Z8 : FuncData
 Zu : Addr
 Zt : FuncData
 Ja : Addr
 Jf : FuncData
 JP : Addr
 Y1 : FuncData
 Ji : Addr
 Jc : FuncData
 Yf : Addr
 Yg : FuncData
 Yj : Addr
 Ya : FuncData
 Y7 : Addr
 JK : FuncData
 JE : Addr
 JH : FuncData
 Jg : Addr
 Jk : FuncData
 YG : Addr
 YR : FuncData
 ZAu : Addr
 ZAz : FuncData
 ZB : Addr
 ZA : Addr
 ZD : Addr
 ZS : Addr
 ZL : Addr
 ZR : Addr
 Zg : Addr
 ZAc : Tok
 ZAf : Tok
 ZBG : Tok
 Jw : Tok
structure Txt (K : W.Frag) (mg : Str -> Option Value) (a : Ad) : Prop where
 ZCM : Fun K "_wall" "_wall" ZL3 a.ZAl a.ZAk
 ZCL : ZCX K a.ZAk ["k"] []
 ZCN : mg "_wall" = some (.ref a.ZAl)
 Yc : Fun K "is_whole" "is_whole" ZGa a.YY a.YX
 Jm : ZCX K a.YX ["thing"] []
 Jr : mg "is_whole" = some (.ref a.YY)
 Ju : Fun K "curve_of" "curve_of" ZFF a.Yi a.Ye
 ZAq : ZCX K a.Ye ["samples"] []
 ZAx : mg "curve_of" = some (.ref a.Yi)
 Jq : Fun K "times_of" "times_of" ZGb a.Yh a.Yk
 ZA1 : ZCX K a.Yk ["window", "k"] []
 ZAv : mg "times_of" = some (.ref a.Yh)
 Y4 : Fun K "columns_of" "columns_of" ZEh a.Zz a.Zy
 ZAW : ZCX K a.Zy ["window"] []
 ZAQ : mg "columns_of" = some (.ref a.Zz)
 ZT : Fun K "height_of" "height_of" ZFv a.YL a.YJ
 ZN : ZCX K a.YJ ["sample"] []
 ZO : mg "height_of" = some (.ref a.YL)
 J5 : Fun K "four_of" "four_of" ZG9 a.Y8 a.Y0
 ZBC : ZCX K a.Y0 ["curve"] []
 ZBD : mg "four_of" = some (.ref a.Y8)
 Jd : Fun K "joined" "joined" ZIB a.Jj a.Jh
 ZAN : ZCX K a.Jh ["one", "other"] []
 ZAS : mg "joined" = some (.ref a.Jj)
 ZAA : Fun K "kept_of" "kept_of" ZHA a.JR a.Y6
 ZA9 : ZCX K a.Y6 ["fours"] []
 ZBA : mg "kept_of" = some (.ref a.JR)
 Zk : Fun K "is_border" "is_border" ZFw a.Z9 a.YA
 YF : ZCX K a.YA ["thing"] []
 YD : mg "is_border" = some (.ref a.Z9)
 Zb : Fun K "check_borders" "check_borders" ZEi a.Zd a.ZZ
 Z6 : ZCX K a.ZZ ["begin", "end"] []
 Z4 : mg "check_borders" = some (.ref a.Zd)
 Zx : Fun K "check_time" "check_time" ZFb a.Zs a.Z2
 Yy : ZCX K a.Z2 ["t"] []
 Yz : mg "check_time" = some (.ref a.Zs)
 Zh : Fun K "check_window" "check_window" ZEv a.Zf a.Zj
 YW : ZCX K a.Zj ["window"] []
 YV : mg "check_window" = some (.ref a.Zf)
 JV : Fun K "stretches" "stretches" ZFx a.YH a.YK
 ZAe : ZCX K a.YK ["begin", "end"] []
 ZAZ : mg "stretches" = some (.ref a.YH)
 J7 : Fun K "longest" "longest" ZHB a.Y3 a.JN
 ZBK : ZCX K a.JN ["first", "end"] []
 ZBH : mg "longest" = some (.ref a.Y3)
 Jp : ZKm K "__init__" "Tree.__init__" ZDC a.Zc a.ZJ
 Jn : ZCX K a.ZJ ["self", "curve"] []
 ZBV : ZCX K a.ZJ ["self", "curve"] [Value.none]
 ZBQ : ZLy K a.ZJ ["self", "curve"] "curve"
 ZAn : Fun K "put" "Tree.put" ZGc a.YZ a.Yb
 Jt : ZCX K a.Yb ["self", "t", "h"] []
 Jv : ZDb K a.ZB "put" a.YZ
 ZAi : Fun K "take" "Tree.take" ZFy a.YB a.YE
 ZAj : ZCX K a.YE ["self", "t"] []
 ZAd : ZDb K a.ZB "take" a.YB
 ZAX : Fun K "renew" "Tree.renew" ZFc a.Zv a.Z1
 Y5 : ZCX K a.Z1 ["self", "t", "four"] []
 JC : ZDb K a.ZB "renew" a.Zv
 ZAb : Fun K "four" "Tree.four" ZFz a.YM a.YQ
 ZAa : ZCX K a.YQ ["self", "begin", "end"] []
 ZAY : ZDb K a.ZB "four" a.YM
 ZAK : Fun K "fours" "Tree.fours" ZEj a.Z3 a.Zw
 ZAM : ZCX K a.Zw ["self", "window"] []
 ZAP : ZDb K a.ZB "fours" a.Z3
 ZB8 : Fun K "told" "Tree.told" ZHn a.JT a.JU
 ZB9 : ZCX K a.JU ["self"] []
 ZCA : ZDb K a.ZB "told" a.JT
 Jl : ZKm K "__init__" "Store.__init__" ZC7 a.ZV a.ZI
 ZBS : ZCX K a.ZI ["self", "curve"] []
 JS : ZCX K a.ZI ["self", "curve"] [Value.none]
 ZBN : ZLy K a.ZI ["self", "curve"] "curve"
 ZAh : Fun K "put" "Store.put" ZF0 a.YN a.YO
 JY : ZCX K a.YO ["self", "t", "h"] []
 JZ : ZDb K a.ZA "put" a.YN
 ZB5 : Fun K "take" "Store.take" ZHC a.JI a.JQ
 ZBw : ZCX K a.JQ ["self", "t"] []
 ZB4 : ZDb K a.ZA "take" a.JI
 ZBc : Fun K "height" "Store.height" ZGD a.YS a.YU
 ZBe : ZCX K a.YU ["self", "t"] []
 ZBd : ZDb K a.ZA "height" a.YS
 ZA7 : Fun K "check_sample" "Store.check_sample" ZEk a.Za a.Ze
 ZA2 : ZCX K a.Ze ["self", "t"] []
 ZAs : ZDb K a.ZA "check_sample" a.Za
 ZA8 : Fun K "do" "Store.do" ZGd a.Yl a.Yd
 ZA5 : ZCX K a.Yd ["self", "t", "h"] []
 ZAr : ZDb K a.ZA "do" a.Yl
 ZAE : Fun K "bring" "Store.bring" ZFA a.Zn a.Zq
 ZAH : ZCX K a.Zq ["self", "t", "h"] []
 ZAG : ZDb K a.ZA "bring" a.Zn
 ZBr : Fun K "undo" "Store.undo" ZHD a.JA a.JG
 ZBq : ZCX K a.JG ["self"] []
 ZBz : ZDb K a.ZA "undo" a.JA
 ZBn : Fun K "times" "Store.times" ZGj a.Ys a.Yo
 ZBo : ZCX K a.Yo ["self"] []
 ZBm : ZDb K a.ZA "times" a.Ys
 ZBs : Fun K "four" "Store.four" ZHE a.JD a.JB
 ZBy : ZCX K a.JB ["self", "begin", "end"] []
 ZB1 : ZDb K a.ZA "four" a.JD
 ZAC : Fun K "fours" "Store.fours" ZFB a.Zm a.Zo
 ZAD : ZCX K a.Zo ["self", "window"] []
 ZAB : ZDb K a.ZA "fours" a.Zm
 ZBv : Fun K "told" "Store.told" ZHF a.Y2 a.Y9
 ZB0 : ZCX K a.Y9 ["self"] []
 ZBt : ZDb K a.ZA "told" a.Y2
 ZBi : Fun K "watch" "Store.watch" ZGk a.Yu a.Yq
 ZBk : ZCX K a.Yq ["self", "window"] []
 ZBl : ZDb K a.ZA "watch" a.Yu
 ZBu : Fun K "news" "Store.news" ZHG a.JM a.JJ
 ZB3 : ZCX K a.JJ ["self", "number"] []
 ZBp : ZDb K a.ZA "news" a.JM
 Jy : Fun K "is_name" "is_name" ZFm a.JF a.Yx
 ZBM : ZCX K a.Yx ["thing"] []
 ZBI : mg "is_name" = some (.ref a.JF)
 Jb : Fun K "__init__" "Board.__init__" ZER a.ZU a.ZW
 Je : ZCX K a.ZW ["self"] []
 ZAF : Fun K "store" "Board.store" ZFC a.Zl a.Zp
 Yr : ZCX K a.Zp ["self", "name"] []
 Ym : ZDb K a.ZD "store" a.Zl
 ZBg : Fun K "names" "Board.names" ZGl a.Yp a.Yn
 ZBh : ZCX K a.Yn ["self"] []
 ZBj : ZDb K a.ZD "names" a.Yp
 ZBY : Fun K "picture" "Board.picture" ZFn a.Z7 a.Z8
 ZBX : ZCX K a.Z8 ["self", "window", "heights"] []
 ZBZ : ZDb K a.ZD "picture" a.Z7
 ZAT : Fun K "kept" "Board.kept" ZEl a.Zu a.Zt
 ZAR : ZCX K a.Zt ["self", "window"] []
 ZAL : ZDb K a.ZD "kept" a.Zu
 ZAO : Fun K "_law_cell" "_law_cell" ZIC a.Ja a.Jf
 ZBR : ZCX K a.Jf ["_law_script", "_law_k"] []
 ZBO : mg "_law_cell" = some (.ref a.Ja)
 J8 : Fun K "_law_purse" "_law_purse" ZHH a.JP a.Y1
 ZBJ : ZCX K a.Y1 ["_law_cell_here", "_law_k"] []
 ZBE : mg "_law_purse" = some (.ref a.JP)
 ZC : Fun K "_law_draw" "_law_draw" ZID a.Ji a.Jc
 ZE : ZCX K a.Jc ["_law_purse_here", "_law_many"] []
 ZF : mg "_law_draw" = some (.ref a.Ji)
 Js : Fun K "_law_window" "_law_window" ZGe a.Yf a.Yg
 ZAo : ZCX K a.Yg ["_law_purse_here"] []
 ZA4 : mg "_law_window" = some (.ref a.Yf)
 Jo : Fun K "_law_curves" "_law_curves" ZGf a.Yj a.Ya
 ZAm : ZCX K a.Ya ["_law_purse_here", "_law_window_here"] []
 ZAt : mg "_law_curves" = some (.ref a.Yj)
 J9 : Fun K "_law_board" "_law_board" ZHI a.Y7 a.JK
 ZBL : ZCX K a.JK ["_law_curves_here"] []
 ZBF : mg "_law_board" = some (.ref a.Y7)
 JL : Fun K "_law_first" "_law_first" ZHJ a.JE a.JH
 Jz : ZCX K a.JH ["_law_samples", "_law_sign"] []
 J6 : mg "_law_first" = some (.ref a.JE)
 ZAU : Fun K "_law_kept" "_law_kept" ZGg a.Jg a.Jk
 ZBU : ZCX K a.Jk ["_law_curve", "_law_window_here"] []
 ZBW : mg "_law_kept" = some (.ref a.Jg)
 YC : Fun K "_law_is_told" "_law_is_told" ZF1 a.YG a.YR
 JW : ZCX K a.YR ["_law_board_here", "_law_curves_here", "_law_window_here"] []
 JX : mg "_law_is_told" = some (.ref a.YG)
 ZCE : Fun K "law" "law" ZEO a.ZAu a.ZAz
 ZCP : ZCX K a.ZAz ["_law_script"] []
 ZCO : mg "law" = some (.ref a.ZAu)
 ZG : Cls K a.ZB
 ZBx : mg "Tree" = some (.ref a.ZB)
 ZBf : Mk K a.ZB a.Zc
 ZQ : ZDM K a.ZB "looks"
 ZM : ZDM K a.ZB "samples"
 ZK : ZDM K a.ZB "kept_fours"
 ZH : Cls K a.ZA
 ZBa : mg "Store" = some (.ref a.ZA)
 ZBP : Mk K a.ZA a.ZV
 Yw : ZDM K a.ZA "tree"
 Yt : ZDM K a.ZA "deeds"
 JO : ZDM K a.ZA "done"
 Z5 : ZDM K a.ZA "watches"
 Zr : Cls K a.ZD
 ZBb : mg "Board" = some (.ref a.ZD)
 ZBT : Mk K a.ZD a.ZU
 Zi : ZDM K a.ZD "stores"
 ZCG : ZMn K a.ZS
 ZCD : ZMo K a.ZS
 ZCC : mg "NoColumn" = some (.ref a.ZS)
 ZB6 : ZMn K a.ZL
 ZB7 : ZMo K a.ZL
 ZB2 : mg "OutOfTimes" = some (.ref a.ZL)
 ZCB : ZMn K a.ZR
 ZCF : ZMo K a.ZR
 ZCH : mg "NoSample" = some (.ref a.ZR)
 ZCK : ZMn K a.Zg
 ZCJ : ZMo K a.Zg
 ZCI : mg "NoName" = some (.ref a.Zg)
 ZAg : mg "TOP_LEVEL" = some (.int 40 a.ZAc)
 YI : mg "TIMES_END" = some (.int 1099511627776 a.ZAf)
 ZBB : mg "LETTERS" = some (.str "abcdefghijklmnopqrstuvwxyz" a.ZBG)
 Jx : mg "LONGEST_NAME" = some (.int 8 a.Jw)
 Yv : mg "ValueError" = none
 ZA6 : mg "abs" = none
 ZA0 : mg "all" = none
 ZAV : mg "bool" = none
 ZAy : mg "int" = none
 ZP : mg "isinstance" = none
 ZY : mg "len" = none
 ZAI : mg "max" = none
 ZAJ : mg "min" = none
 ZX : mg "range" = none
 ZAw : mg "set" = none
 Z0 : mg "sorted" = none
 ZAp : mg "str" = none
 ZA3 : mg "sum" = none
 YT : mg "tuple" = none
local macro_rules | `(tactic| walk_at "sd") => `(tactic| first
 | (show (0 : Int) < _; omega)
 | decide
 | exact ZUU (by omega) (by omega)
 | exact ZUV (by omega) (by omega)
 | exact ZHW.of (k := 250) (by omega) (by omega) (by decide)
 | exact Or.inr ⟨by omega, by omega⟩
 | exact Or.inl ⟨by omega, by omega⟩
 | exact ZKJ (by omega) (by omega) (by decide))
local macro_rules | `(tactic| walk_at "hp") => `(tactic| first
 | assumption
 | exact ZCZ
 | (rw [ZCe (by assumption)]; assumption)
 | (rw [ZCe (Ne.symm (by assumption))]; assumption)
 | (rw [ZCe (by assumption)]; rw [ZCe (by assumption)]; assumption))
local macro_rules | `(tactic| walk_at "rd") => `(tactic| first
 | with_reducible first | refine ZS4 ?_ | refine ZRg ?_ | refine ZPf ?_ | refine ZPj ?_ | refine ZPT ?_ | refine ZRf ?_ | refine ZPX ?_ | refine ZMl ?_ | refine ZPY ?_ | refine ZPZ ?_ | refine ZNm ?_ | refine ZNp ?_ | refine ZLT ?_ | refine ZLU ?_ | refine ZG1 ?_ | refine ZRa ?_ | refine ZPU ?_ | refine ZPV ?_
 | ((with_reducible refine' ZTa ?e ?_); (case e => rfl))
 | with_reducible first | refine ZS5 ?_ | refine ZQ8 ?_ | refine ZQ9 ?_ | refine ZS6 ?_ | refine ZPE ?_ | refine ZRA ?_ | refine ZPF ?_ | refine ZRB ?_ | refine ZS7 ?_ | refine ZRC ?_ | refine ZUX ?_ | refine ZS8 ?_ | refine ZUC ?_ | refine ZS9 ?_ | refine ZRD ?_ | refine ZRE ?_ | refine ZUD ?_
 | ((with_reducible refine' ZTA ?e ?_); (case e => rfl))
 | with_reducible first | refine ZUY ?_ | refine ZUE ?_ | refine ZUF ?_ | refine ZUG ?_
 | ((with_reducible refine ZTB (C := ZOn) ?c ?_); (case c => exact ZKJ (by decide) (by decide) (by decide)); (simp only [Int.reduceToNat, Int.reducePow]))
 | ((with_reducible refine ZTB ?c ?_); (case c => walk_at "sd"))
 | with_reducible first | refine ZUZ ?_ | refine ZTC ?_ | refine ZUH ?_ | refine ZRF ?_ | refine ZRG ?_ | refine ZTD ?_ | refine ZTE ?_ | refine ZTF ?_ | refine ZPH ?_ | refine ZRP ?_ | refine ZHy ?_ | refine ZTH ?_ | refine ZTI ?_ | refine ZTJ ?_ | refine ZTL ?_ | refine ZRL ?_
 | ((with_reducible refine' ZRJ ?s ?_); (case s => first | assumption | exact SqL.of (by assumption)))
 | ((with_reducible refine' ZRK ?s ?_); (case s => first | assumption | exact SqT.of (by assumption)))
 | with_reducible first | refine ZTG ?_ | refine ZRI ?_ | refine ZRN ?_ | refine ZUI ?_ | refine ZRO ?_ | refine ZPI ?_
 | ((with_reducible refine' ZTP ?s ?_); (case s => first | assumption | exact SqT.of (by assumption)))
 | ((with_reducible refine' ZTQ ?s ?_); (case s => first | assumption | exact SqL.of (by assumption)))
 | ((with_reducible refine' ZE1 ?s ?e ?_); (case s => exact SqL.of (by assumption)); (case e => rfl))
 | ((with_reducible refine' ZKK ?s ?e ?_); (case s => first | assumption | exact SqT.of (by assumption)); (case e => rfl))
 | ((with_reducible refine' ZRM ?s ?e ?_); (case s => first | assumption | exact SqT.of (by assumption)); (case e => rfl)))
local macro_rules | `(tactic| walk_at "ri") => `(tactic| ((fail_if_success with_reducible refine ZNt ?_); walk_at "rd"))
theorem ZN8 (K : W.Frag) : W.kitOne K (.type "int") (.type "int") = some true := by kernel_rfl
theorem ZM1 (K : W.Frag) : W.kitOne K (.type "int") (.type "bool") = some false := by kernel_rfl
def Pur (H : Hp) (p : Addr) : Prop := ∃ x n c : Int, H p = some (.lst [.int x, .int n, .int c]) /\ 0 <= x /\ 0 <= c /\ c < 4294967296
theorem Pur.same {H H' : Hp} {p : Addr} (h : Pur H p) (s : ZCW H H') : Pur H' p := by
 obtain ⟨x, n, c, h, r⟩ := h
 exact ⟨x, n, c, s _ _ h, r⟩
theorem Pur.neN {H : Hp} {p l : Addr} (h : Pur H p) (hl : H l = none) : l ≠ p := by
 obtain ⟨x, n, c, h, r⟩ := h
 exact (ZDB h hl).symm
theorem Pur.ne_tup {H : Hp} {p l : Addr} {xs : List V} (h : Pur H p) (hl : H l = some (.tup xs)) : l ≠ p := by
 obtain ⟨x, n, c, h, r⟩ := h
 intro e; subst e; rw [h] at hl; cases hl
theorem Pur.ne_dk {H : Hp} {p l : Addr} {kvs : List (Key × V)} (h : Pur H p) (hl : H l = some (.dK kvs)) : l ≠ p := by
 obtain ⟨x, n, c, h, r⟩ := h
 intro e; subst e; rw [h] at hl; cases hl
theorem Pur.kp {H H' : Hp} {p l : Addr} (h : Pur H p) (k : Kp l H H') (n : p ≠ l) : Pur H' p := by
 obtain ⟨x, m, c, h, r⟩ := h
 exact ⟨x, m, c, k _ _ h n, r⟩
def ZTu (K : W.Frag) : Sp := fun vs H Q _ => ∃ (s : Addr) (ns : List Int) (k : Int), vs = [.ref s, .int k] /\ SqL K H s (ns.map V.int) /\ 0 <= k /\ Q (.int (ns.getD k.toNat 0)) H
def ZRz : Sp := fun vs H Q _ => ∃ c k : Int, vs = [.int c, .int k] /\ 0 <= k /\ k <= 100 /\ ∀ (p : Addr) (H' : Hp), H p = none -> Pur H' p -> ZCW H H' -> Q (.ref p) H'
def ZTv : Sp := fun vs H Q _ => ∃ (p : Addr) (n : Int), vs = [.ref p, .int n] /\ Pur H p /\ 0 < n /\ n < 2 ^ 250 /\ ∀ (d : Int) (H' : Hp), 0 <= d -> d < n -> Pur H' p -> Kp p H H' -> Q (.int d) H'
section
variable {P : Program} {w : World} {K : W.Frag} {mg : Str -> Option Value} {base : Heap} {a : Ad}
theorem ZN9 : ZCd ["_law_script", "_law_k"] ["_law_script", "_law_k"] (ZCU ZIC) := ZC6
theorem ZOA (T : Txt K mg a) : ZCi P w K mg base CX0 1 a.Ja a.Jf ["_law_script", "_law_k"] (ZTu K) := by
 refine T.ZAO.ok ZN9 (by walk_at "l") (fun cdv A outer s H vs Q E hr h => ?_)
 ·obtain ⟨p, ns, k, rfl, hS, hk, q⟩ := h
  refine ⟨_, QB.h (ZCV (ZCj (ZHz (ZDD (ZIM) (qv 1) (ZCy (ZF8 K rfl) rfl T.ZY ZEg (ZCQ (qv 0) ZCR)) (ZDL _)) (ZCp (ZDU K rfl) (qv 0) (qv 1)) ZCT))), ?_⟩
  walk_at "s"
  walk_at "w"
  rw [Ui]
  refine ZDe (fun h => ?_) (fun h => ?_)
  ·walk_at "w"
   obtain ⟨n, rfl⟩ : ∃ n : Nat, k = (n : Int) := ⟨k.toNat, by omega⟩
   have hk2 : n < ns.length := by omega
   refine ZE1 (v := .int (ns.getD n 0)) hS (ZEo ?_) q
   rw [Ut, Uc hk2]
   simp [List.getD, hk2]
  ·walk_at "w"
   have e : ns.getD k.toNat 0 = 0 := by
    rw [List.getD, List.getElem?_eq_none (by omega)]
    rfl
   rw [e] at q
   exact q
theorem ZM2 : ZCd ["_law_cell_here", "_law_k"] ["_law_cell_here", "_law_k"] (ZCU ZHH) := ZC6
theorem ZM3 (T : Txt K mg a) : ZCi P w K mg base CX0 1 a.JP a.Y1 ["_law_cell_here", "_law_k"] ZRz := by
 refine T.J8.ok ZM2 (by walk_at "l") (fun cdv A outer s H vs Q E hr h => ?_)
 ·obtain ⟨c, n, rfl, hn, hn2, k⟩ := h
  refine ⟨_, QB.h (ZCS (ZDi (ZDD (ZQM) (qv 0) (ZCa ZJ9 ZCT ZCT) (ZDL _)) (ZCV (ZCj (ZDm (ZCQ (qv 0) (ZCQ ZCT (ZCQ (ZCa ZDK (ZCa ZCz ZCT (qv 1)) ZCT) ZCR)))))) ZDJ) (ZCV (ZCj (ZDm (ZCQ ZCT (ZCQ ZCT (ZCQ (ZCa ZFN (ZCa ZDK (ZCa ZDK (ZCa ZDK (ZCa ZCz (ZCa ZFN (ZCy ZS0 rfl T.ZA6 ZSt (ZCQ (qv 0) ZCR)) (ZCa ZJ9 ZCT ZCT)) ZCT) (ZCa ZCz (ZCa ZCz ZCT (qv 1)) (qv 1))) (ZCa ZCz ZCT (qv 1))) ZCT) ZCT) ZCR))))))), ?_⟩
  walk_at "s"
  walk_at "w"
  refine ZDe (fun h => ?_) (fun h => ?_)
  ·walk_at "w"
   refine ZCm (by show 3 <= sizeLine; decide) fun p H2 hp f2 S2 => ?_
   exact k p H2 hp ⟨_, _, _, f2, by omega, by omega, by omega⟩ S2
  ·walk_at "w"
   refine ZCm (by show 3 <= sizeLine; decide) fun p H2 hp f2 S2 => ?_
   refine k p H2 hp ⟨_, _, _, f2, by omega, Int.emod_nonneg _ (by decide), ?_⟩ S2
   exact Int.lt_of_lt_of_le (Int.emod_lt_of_pos _ (by decide)) (by decide)
theorem ZJd : ZCd ["_law_purse_here", "_law_many", "_law_digit"] ["_law_purse_here", "_law_many"] (ZCU ZID) := ZC6
theorem ZDA (T : Txt K mg a) : ZCi P w K mg base CX0 1 a.Ji a.Jc ["_law_purse_here", "_law_many"] ZTv := by
 refine T.ZC.ok ZJd (by walk_at "l") (fun cdv A outer s H vs Q E hr h => ?_)
 ·obtain ⟨p, n, rfl, ⟨x, m, y, hp, hx, hy, hy2⟩, hn, hn2, k⟩ := h
  have hdiv : ∀ i : Int, ZHW i n := fun i => ZHW.of (k := 250) hn hn2 (by decide)
  refine ⟨_, QB.h (ZCS (ZDi (ZDD (ZT9) (ZCp (ZDU K rfl) (qv 0) ZCT) ZCT (ZDL _)) (ZCS (qsS (i := 2) ZJd.nd (ZCa ZFN (ZCp (ZDU K rfl) (qv 0) ZCT) (qv 1))) (ZCS (ZE5 (ZCa ZGH (ZCp (ZDU K rfl) (qv 0) ZCT) (qv 1)) (ZKP (qv 0) ZCT ZHv)) (ZCV (ZCj (qv 2))))) ZDJ) (ZCS (ZE5 (ZCa ZDK (ZCp (ZDU K rfl) (qv 0) ZCT) ZCT) (ZKP (qv 0) ZCT ZHv)) (ZCS (ZE5 (ZCa ZFN (ZCa ZDK (ZCa ZCz (ZCp (ZDU K rfl) (qv 0) ZCT) ZCT) (ZCa ZCz ZCT (ZCp (ZDU K rfl) (qv 0) ZCT))) ZCT) (ZKP (qv 0) ZCT ZHv)) (ZCV (ZCj (ZCa ZFN (ZCa ZGH (ZCa ZFN (ZCa ZCz (ZCp (ZDU K rfl) (qv 0) ZCT) (ZCp (ZDU K rfl) (qv 0) ZCT)) ZCT) ZCT) (qv 1))))))), ?_⟩
  walk_at "s"
  walk_at "w"
  refine ZDe (fun h => ?_) (fun h => ?_)
  ·walk_at "w"
   refine ZRH hp (by rfl) ?_
   walk_at "w"
   exact k _ _ (Int.emod_nonneg _ (by omega)) (Int.emod_lt_of_pos _ hn) ⟨_, _, _, ZCZ, Int.ediv_nonneg hx (by omega), hy, hy2⟩ Kp.upd
  ·walk_at "w"
   refine ZLs hp (by rfl) fun H2 f2 K2 => ?_
   have f2 : H2 p = some (.lst [V.int x, V.int (m + 1), V.int y]) := f2
   walk_at "w"
   refine ZLs f2 (by rfl) fun H3 f3 K3 => ?_
   generalize hz : (y * 39373 + 8191 * (m + 1)) % 2147483587 = z at f3
   have h0 : 0 <= z := by rw [<- hz]; exact Int.emod_nonneg _ (by decide)
   have h1 : z < 2147483587 := by rw [<- hz]; exact Int.emod_lt_of_pos _ (by decide)
   have f3 : H3 p = some (.lst [V.int x, V.int (m + 1), V.int z]) := f3
   walk_at "w"
   refine k _ _ (Int.emod_nonneg _ (by omega)) (Int.emod_lt_of_pos _ hn) ⟨_, _, _, f3, hx, h0, by omega⟩ ?_
   exact fun q o e nq => K3 q o (K2 q o e nq) nq
def ZOB (K : W.Frag) : Sp := fun vs H Q _ => ∃ (b : Bool) (l : Addr) (us : List V) (prs : PL), vs = [.ref l] /\ SQ b H l us /\ ZCY H us prs /\ prs.length < 64 /\
 ∀ (t : Addr) (cv : PL) (H' : Hp), PrT H' t cv -> ZIq (ZD4 prs) cv -> cv.length <= prs.length -> ZCW H H' -> Q (.ref t) H'
theorem ZOC (l : PL) (p : Int × Int) : ZD4 (l ++ [p]) = ZCn (ZD4 l) p.1 p.2 := by
 unfold ZD4
 rw [List.foldl_append]
 rfl
theorem ZEy : ZCd ["samples", "heights", "t", "h"] ["samples"] (ZCU ZFF) := ZC6
theorem ZLZ (T : Txt K mg a) : ZCi P w K mg base CX0 1 a.Yi a.Ye ["samples"] (ZOB K) := by
 refine T.Ju.ok ZEy (by walk_at "l") (fun cdv A outer s H vs Q E hr h => ?_)
 ·obtain ⟨b, l, us, prs, rfl, hL, hP, hlen, k⟩ := h
  have hu := ZEK hr
  have hm := ZKc prs
  refine ⟨_, QB.h (ZCS (qsS (i := 1) ZEy.nd ZFT) (ZCS (ZDs PassesOwn.never rfl (ZTc K rfl (qv 0)) (ZE6 (n := 2) K rfl rfl (ZC0 (qgN (i := 2) ZEy.nd) (ZC0 (qgN (i := 3) ZEy.nd) ZEY))) (ZCV (ZEs hu (qv 3) (qv 1) (qv 2)))) (ZCV (ZCj (ZGI (ZH0 K rfl) rfl T.YT ZHx (ZCQ (ZF7 (N := ["samples", "heights", "t", "h"]) (sc := ZCU ZFF) (own := ["t"]) (caps := ["heights"]) (ks := [1]) rfl rfl rfl ⟨rfl, by decide +kernel, by decide +kernel, by decide +kernel, by decide +kernel, rfl, by decide +kernel⟩ (ZHZ K rfl (ZCy (ZMa rfl) rfl T.Z0 ZGs (ZCQ (qv 1) ZCR))) (fun _ _ _ _ _ => ZEX (i := 0) (show List.Nodup (α := Str) ["t", "heights"] from by decide +kernel) rfl (by walk_at "o") (.inr rfl)) (fun _ _ _ _ _ => ZFS) (fun _ _ _ _ _ => ZDk (ZCQ (qv 0) (ZCQ (ZEC hu (qv 1) (qv 0)) ZCR)))) ZCR)))))), ?_⟩
  walk_at "s"
  walk_at "w"
  refine ZH2 fun d H0 n0 f0 S0 => ?_
  walk_at "w"
  refine ZRb (b := b) (xs := us) (fun i U H' => (∃ v2 v3, U = [some (.ref l), some (.ref d), v2, v3]) /\ ZCW H H' /\ H' d = some (.dK (ZCl (ZD4 (prs.take i))))) (hL.same S0) ?_ (fun i U H' _ h => hL.same h.2.1) ?_ ?_
  ·exact ⟨⟨_, _, rfl⟩, S0, f0⟩
  ·rintro i x U H1 hx ⟨⟨v2, v3, rfl⟩, S1, f1⟩
   obtain ⟨c, p, rfl, hp, hc⟩ := (hP.same S1).at hx
   have e3 : prs.take (i + 1) = prs.take i ++ [p] := by
    rw [Vc, hp]
    rfl
   walk_at "w"
   refine ZGO f1 ?_ fun H2 f2 K2 => ?_
   ·exact Uu (ZKc _) (Uu (by rw [UY]; exact Nat.min_le_right _ _) (Uk hlen (by decide)))
   walk_at "w"
   refine ⟨⟨_, _, rfl⟩, S1.kpN n0 K2, ?_⟩
   rw [e3, ZOC]
   exact f2
  ·rintro U H1 ⟨⟨v2, v3, rfl⟩, S1, f1⟩
   rw [hP.length, US] at f1
   walk_at "w"
   refine ZMb f1 (by omega) fun l2 H2 ns n2 f2 hp hs S2 => ?_
   have hnl : ns.length = (ZD4 prs).length := by have := hp.length_eq; simpa using this
   walk_at "w"
   intro l3 n3
   have S23 : ZCW H2 (upd H2 l3 (.lst [])) := ZCW.new n3
   refine ZFJ ns.length (fun i U' H' => (∃ o, U' = [o, some (.ref d)]) /\ ZCW H2 H' /\ ∃ vs, H' l3 = some (.lst vs) /\ ZCY H' vs ((ZDt (ZD4 prs) ns).take i)) ?_ ?_ ?_
   ·exact ⟨⟨none, rfl⟩, S23, [], ZCZ, .nil⟩
   ·rintro U H' ⟨_, s, vs, f3, hPc⟩
    refine ⟨⟨_, SqL.of (s _ _ f2), by simp⟩, ?_⟩
    walk_at "w"
    refine ZIn (SqL.of f3) fun t H4 n4 f4 S4 => ?_
    have ecv : (ZDt (ZD4 prs) ns).take ns.length = ZDt (ZD4 prs) ns := List.take_of_length_le (by simp [ZDt])
    rw [ecv] at hPc
    exact k t _ H4 ⟨vs, f4, hPc.same S4⟩ (ZIb (ZIa prs) hp hs) (by unfold ZDt; rw [Ui, hnl]; exact hm) (((S1.trans S2).trans s).trans S4)
   ·rintro i U H' hi ⟨⟨o, rfl⟩, s, vs, f3, hPc⟩
    have hi2 : i < (ns.map V.int).length := by simpa using hi
    refine ⟨⟨_, _, SqL.of (s _ _ f2), Uc hi2⟩, ?_⟩
    rintro u H'' ⟨rfl, hu'⟩
    have hu' := hu' _ (SqL.of (s _ _ f2))
    have eu : u = .int ns[i] := by
     rw [Ut, Uc hi] at hu'
     simpa using hu'.symm
    subst eu
    walk_at "w"
    refine ZEe ?_
    walk_at "w"
    have hmem : ns[i] ∈ (ZD4 prs).map (·.1) := hp.mem_iff.mp (Vm hi)
    obtain ⟨x, hx⟩ : ∃ x, ZCx (ZD4 prs) ns[i] = some x := by
     cases hg : ZCx (ZD4 prs) ns[i] with
     | none => exact absurd hmem (ZEZ.mp hg)
     | some x => exact ⟨x, rfl⟩
    refine ZKb (s _ _ (S2 _ _ f1)) hx ?_
    walk_at "w"
    refine ZCm (by show 2 <= sizeLine; decide) fun t H4 n4 f4 S4 => ?_
    have f34 := S4 _ _ f3
    refine ⟨vs, f34, ?_, ⟨_, rfl⟩, ?_, ?_⟩
    ·have e := hPc.length
     rw [e, UY]
     exact Uu (Nat.min_le_left _ _) (Uk hi (by rw [hnl]; exact Nat.le_of_lt (Uu hm (Uk hlen (by decide)))))
    ·exact (s.trans S4).kpN (l := l3) n3 Kp.upd
    ·refine ⟨_, ZCZ, ?_⟩
     have e3 : (ZDt (ZD4 prs) ns).take (i + 1) = (ZDt (ZD4 prs) ns).take i ++ [(ns[i], x)] := by
      rw [Vc]
      congr 1
      simp [ZDt, Uc hi, hx]
     rw [e3]
     exact ZCY.kpL Kp.upd f34 ((hPc.same S4).snoc f4)
def ZK9 : Sp := fun vs H Q _ => ∃ (c : Addr) (x y : Int), vs = [.ref c] /\ H c = some (.tup [.int x, .int y]) /\ Q (.int y) H
theorem ZLA : ZCd ["sample"] ["sample"] (ZCU ZFv) := ZC6
theorem ZDv (T : Txt K mg a) : ZCi P w K mg base CX0 1 a.YL a.YJ ["sample"] ZK9 := by
 refine T.ZT.ok ZLA (by walk_at "l") (fun cdv A outer s H vs Q E hr h => ?_)
 ·obtain ⟨c, x, y, rfl, hc, q⟩ := h
  refine ⟨_, QB.h (ZCV (ZCj (ZCp (ZDE K rfl) (qv 0) ZCT))), ?_⟩
  walk_at "s"
  walk_at "w"
  exact q
def ZP1 (K : W.Frag) : Sp := fun vs H Q _ => ∃ (v1 v2 : V) (o1 o2 : Option (PL)) (c1 c2 : PL), vs = [v1, v2] /\ ZC3 H v1 o1 /\ Is4 c1 o1 /\ ZC3 H v2 o2 /\ Is4 c2 o2 /\ (∀ p ∈ c1, ∀ q ∈ c2, p.1 < q.1) /\
 ∀ (v : V) (o : Option (PL)) (H' : Hp), ZC3 H' v o -> Is4 (c1 ++ c2) o -> ZCW H H' -> Q v H'
theorem ZJe {H : Hp} {v : V} {c : PL} {qs : PL} (h : ZC3 H v (some qs)) (g : Is4 c (some qs)) : ∃ (l : Addr) (q0 q1 q2 q3 : Int × Int) (a0 a1 a2 a3 : Addr), v = .ref l /\ qs = [q0, q1, q2, q3] /\ H l = some (.tup [.ref a0, .ref a1, .ref a2, .ref a3]) /\
  H a0 = some (.tup [.int q0.1, .int q0.2]) /\ H a1 = some (.tup [.int q1.1, .int q1.2]) /\ H a2 = some (.tup [.int q2.1, .int q2.2]) /\ H a3 = some (.tup [.int q3.1, .int q3.2]) := by
 cases h with
 | @pr l qs h hl =>
  obtain ⟨us, f, hP⟩ := h
  rcases g with ⟨e, _⟩ | ⟨q0, q1, q2, q3, e, _⟩
  ·cases e
  ·cases e
   cases hP with
   | cons h0 t => cases t with
    | cons h1 t => cases t with
     | cons h2 t => cases t with
      | cons h3 t =>
       cases t
       obtain ⟨a0, rfl, e0⟩ := h0
       obtain ⟨a1, rfl, e1⟩ := h1
       obtain ⟨a2, rfl, e2⟩ := h2
       obtain ⟨a3, rfl, e3⟩ := h3
       exact ⟨l, q0, q1, q2, q3, a0, a1, a2, a3, rfl, rfl, f, e0, e1, e2, e3⟩
theorem ZHK : ZCd ["one", "other", "lowest", "highest"] ["one", "other"] (ZCU ZIB) := ZC6
theorem ZJf (T : Txt K mg a) : ZCi P w K mg base CX0 2 a.Jj a.Jh ["one", "other"] (ZP1 K) := by
 refine T.Jd.ok ZHK (by walk_at "l") (fun cdv A outer s H vs Q E hr h => ?_)
 ·obtain ⟨v1, v2, o1, o2, c1, c2, rfl, h1, g1, h2, g2, hlt, k⟩ := h
  refine ⟨_, QB.h (ZCS (ZDi (ZDD (ZKI) (qv 0) ZE3 (ZDL _)) (ZCV (ZCj (qv 1))) ZDJ) (ZCS (ZDi (ZDD (ZKI) (qv 1) ZE3 (ZDL _)) (ZCV (ZCj (qv 0))) ZDJ) (ZCS (qsS (i := 2) ZHK.nd (ZHz (ZDD (ZFE) (qcS (ZDv T) hr T.ZO T.ZT.kp T.ZN (ZCQ (ZCp (ZDE K rfl) (qv 0) ZCT) ZCR)) (qcS (ZDv T) hr T.ZO T.ZT.kp T.ZN (ZCQ (ZCp (ZDE K rfl) (qv 1) ZCT) ZCR)) (ZDL _)) (ZCp (ZDE K rfl) (qv 0) ZCT) (ZCp (ZDE K rfl) (qv 1) ZCT))) (ZCS (qsS (i := 3) ZHK.nd (ZHz (ZDD (ZQM) (qcS (ZDv T) hr T.ZO T.ZT.kp T.ZN (ZCQ (ZCp (ZDE K rfl) (qv 0) ZCT) ZCR)) (qcS (ZDv T) hr T.ZO T.ZT.kp T.ZN (ZCQ (ZCp (ZDE K rfl) (qv 1) ZCT) ZCR)) (ZDL _)) (ZCp (ZDE K rfl) (qv 0) ZCT) (ZCp (ZDE K rfl) (qv 1) ZCT))) (ZCV (ZCj (ZDk (ZCQ (ZCp (ZDE K rfl) (qv 0) ZCT) (ZCQ (ZCp (ZDE K rfl) (qv 1) ZCT) (ZCQ (qv 2) (ZCQ (qv 3) ZCR))))))))))), ?_⟩
  walk_at "s"
  walk_at "w"
  cases o1 with
  | none =>
   cases h1
   refine ZDe (fun _ => ?_) (fun h => absurd rfl h)
   walk_at "w"
   refine k v2 o2 H h2 ?_ (ZCW.refl H)
   rw [g1.of_none, List.nil_append]
   exact g2
  | some qs1 =>
   obtain ⟨l1, q0, q1, q2, q3, a0, a1, a2, a3, rfl, rfl, f1, e0, e1, e2, e3⟩ := ZJe h1 g1
   refine ZDe (fun h => by cases h) (fun _ => ?_)
   walk_at "w"
   cases o2 with
   | none =>
    cases h2
    refine ZDe (fun _ => ?_) (fun h => absurd rfl h)
    walk_at "w"
    refine k (.ref l1) _ H h1 ?_ (ZCW.refl H)
    rw [g2.of_none, List.append_nil]
    exact g1
   | some qs2 =>
    obtain ⟨l2, r0, r1, r2, r3, b0, b1, b2, b3, rfl, rfl, f2, d0, d1, d2, d3⟩ := ZJe h2 g2
    refine ZDe (fun h => by cases h) (fun _ => ?_)
    walk_at "w"
    refine ⟨a2, _, _, rfl, e2, ?_⟩
    walk_at "w"
    refine ⟨b2, _, _, rfl, d2, ?_⟩
    walk_at "w"
    have J := g1.join g2 hlt
    have fin : ∀ (x y : Addr) (p2 p3 : Int × Int), H x = some (.tup [.int p2.1, .int p2.2]) -> H y = some (.tup [.int p3.1, .int p3.2]) -> Is4 (c1 ++ c2) (some [q0, r1, p2, p3]) -> ∀ l H', H l = none -> H' l = some (.tup [.ref a0, .ref b1, .ref x, .ref y]) -> ZCW H H' -> Q (.ref l) H' := fun x y p2 p3 hx hy J l H' n' f' S' =>
     k (.ref l) _ H' (.pr ⟨_, f', .cons ⟨a0, rfl, S' _ _ e0⟩ (.cons ⟨b1, rfl, S' _ _ d1⟩ (.cons ⟨x, rfl, S' _ _ hx⟩ (.cons ⟨y, rfl, S' _ _ hy⟩ .nil)))⟩ rfl) J S'
    have part2 : ∀ (x : Addr) (p2 : Int × Int), True := fun _ _ => trivial
    refine ZDe (fun hl => ?_) (fun hl => ?_)
    ·walk_at "w"
     refine ⟨a3, _, _, rfl, e3, ?_⟩
     walk_at "w"
     refine ⟨b3, _, _, rfl, d3, ?_⟩
     walk_at "w"
     refine ZDe (fun hh => ?_) (fun hh => ?_)
     ·walk_at "w"
      rw [if_pos hl, if_pos hh] at J
      exact ZCm (by show 4 <= sizeLine; decide) fun l H' n' f' S' => fin _ _ _ _ e2 e3 J l H' n' f' S'
     ·walk_at "w"
      rw [if_pos hl, if_neg hh] at J
      exact ZCm (by show 4 <= sizeLine; decide) fun l H' n' f' S' => fin _ _ _ _ e2 d3 J l H' n' f' S'
    ·walk_at "w"
     refine ⟨a3, _, _, rfl, e3, ?_⟩
     walk_at "w"
     refine ⟨b3, _, _, rfl, d3, ?_⟩
     walk_at "w"
     refine ZDe (fun hh => ?_) (fun hh => ?_)
     ·walk_at "w"
      rw [if_neg hl, if_pos hh] at J
      exact ZCm (by show 4 <= sizeLine; decide) fun l H' n' f' S' => fin _ _ _ _ d2 e3 J l H' n' f' S'
     ·walk_at "w"
      rw [if_neg hl, if_neg hh] at J
      exact ZCm (by show 4 <= sizeLine; decide) fun l H' n' f' S' => fin _ _ _ _ d2 d3 J l H' n' f' S'
theorem ZL4 {xs : List V} {v : V} (h : xs[xs.length - 1]? = some v) : atI xs (-1) = some v := by
 have hlt := (Uj.mp h).1
 unfold atI ixN
 rw [if_neg (by decide), if_pos (by omega)]
 have : ((-1 : Int) + (xs.length : Int)).toNat = xs.length - 1 := by omega
 rw [this]
 exact h
def ZP2 (K : W.Frag) : Sp := fun vs H Q _ => ∃ (l : Addr) (cv : PL), vs = [.ref l] /\ PrT H l cv /\ Asc cv /\
 ∀ (v : V) (o : Option (PL)) (H' : Hp), ZC3 H' v o -> Is4 cv o -> ZCW H H' -> Q v H'
theorem ZM4 : ZCd ["curve"] ["curve"] (ZCU ZG9) := ZC6
theorem ZM5 (T : Txt K mg a) : ZCi P w K mg base CX0 3 a.Y8 a.Y0 ["curve"] (ZP2 K) := by
 refine T.J5.ok ZM4 (by walk_at "l") (fun cdv A outer s H vs Q E hr h => ?_)
 ·obtain ⟨l, cv, rfl, ⟨us, gL, pL⟩, hasc, k⟩ := h
  have hul : us.length = cv.length := pL.length
  refine ⟨_, QB.h (ZCS (ZDi (ZDD (ZIL) (ZCy (ZF8 K rfl) rfl T.ZY ZEg (ZCQ (qv 0) ZCR)) ZCT (ZDL _)) (ZCV (ZCj ZE3)) ZDJ) (ZCV (ZCj (ZDk (ZCQ (ZCp (ZDE K rfl) (qv 0) ZCT) (ZCQ (ZCp (ZDE K rfl) (qv 0) (ZJz ZIK ZCT)) (ZCQ (ZMh K rfl rfl (ZDv T) hr rfl T.ZAJ rfl T.ZO T.ZN (ZCQ (qv 0) ZCR)) (ZCQ (ZMj K rfl rfl (ZDv T) hr rfl T.ZAI rfl T.ZO T.ZN (ZCQ (qv 0) ZCR)) ZCR)))))))), ?_⟩
  walk_at "s"
  walk_at "w"
  refine ZDe (fun h => ?_) (fun h => ?_)
  ·walk_at "w"
   have : cv = [] := List.length_eq_zero_iff.mp (by have h := V.int.inj h; omega)
   exact k _ none H .non (.inl ⟨rfl, this⟩) (ZCW.refl H)
  ·have hpos : 0 < us.length := by
    rcases Nat.eq_zero_or_pos us.length with z | z
    ·exact absurd (by rw [z]; rfl) h
    ·exact z
   have hne : us ≠ [] := Vq.mp hpos
   obtain ⟨c0, q0, ec0, hq0, hc0⟩ := pL.at (Uc hpos)
   obtain ⟨c1, q1, ec1, hq1, hc1⟩ := pL.at (Uc (show us.length - 1 < us.length by omega))
   have hx0 : us[0]? = some (.ref c0) := by rw [Uc hpos, ec0]
   have hx1 : us[us.length - 1]? = some (.ref c1) := by rw [Uc (show us.length - 1 < us.length by omega), ec1]
   have turn : ∀ i v, us[i]? = some v -> ∀ Q : VK, Q (.int (cv.getD i (0, 0)).2) H -> ZK9 [v] H Q E0 := fun i v hv Q q => by
    obtain ⟨c, p, rfl, hp, hc⟩ := pL.at hv
    have e : cv.getD i (0, 0) = p := by simp [hp]
    rw [e] at q
    exact ⟨c, p.1, p.2, rfl, hc, q⟩
   walk_at "w"
   refine ZKK (SqT.of gL) (ZEo (j := 0) hx0) ?_
   walk_at "w"
   refine ZKK (SqT.of gL) (ZL4 hx1) ?_
   walk_at "w"
   refine ZMi (fun i => (cv.getD i (0, 0)).2) (SqT.of gL) hne turn fun i2 v2 hv2 hb2 => ?_
   walk_at "w"
   refine ZMk (fun i => (cv.getD i (0, 0)).2) (SqT.of gL) hne turn fun i3 v3 hv3 hb3 => ?_
   obtain ⟨c2, q2, rfl, hq2, hc2⟩ := pL.at hv2
   obtain ⟨c3, q3, rfl, hq3, hc3⟩ := pL.at hv3
   walk_at "w"
   refine ZCm (by show 4 <= sizeLine; decide) fun c4 H4 n4 f4 S4 => ?_
   have hP4 : ZCY H4 [.ref c0, .ref c1, .ref c2, .ref c3] [q0, q1, q2, q3] := .cons ⟨c0, rfl, S4 _ _ hc0⟩ (.cons ⟨c1, rfl, S4 _ _ hc1⟩ (.cons ⟨c2, rfl, S4 _ _ hc2⟩ (.cons ⟨c3, rfl, S4 _ _ hc3⟩ .nil)))
   rw [hul] at hq1 hb2 hb3
   exact k _ (some [q0, q1, q2, q3]) H4 (.pr ⟨_, f4, hP4⟩ rfl) (Is4.minmax hasc hq0 hq1 hq2 hq3 hb2 hb3) S4
def InT (x : Int) : Prop := -1099511627776 <= x /\ x <= 1099511627776
def ZR0 : Sp := fun vs H Q _ => ∃ i : Int, vs = [.int i] /\ Q (.bl true) H
theorem ZLa : ZCd ["thing"] ["thing"] (ZCU ZGa) := ZC6
theorem ZHo (T : Txt K mg a) : ZCi P w K mg base CX0 1 a.YY a.YX ["thing"] ZR0 := by
 refine T.Yc.ok ZLa (by walk_at "l") (fun cdv A outer s H vs Q E hr h => ?_)
 ·obtain ⟨i, rfl, q⟩ := h
  refine ⟨_, QB.h (ZCV (ZCj (ZGt (ZCy (ZKR K rfl) rfl T.ZP ZE8 (ZCQ (qv 0) (ZCQ (ZIo (v := .ty "int") rfl T.ZAy ZSr rfl) ZCR))) (ZIY (ZTS (ZCy (ZKR K rfl) rfl T.ZP ZE8 (ZCQ (qv 0) (ZCQ (ZIo (v := .ty "bool") rfl T.ZAV ZQ6 rfl) ZCR)))))))), ?_⟩
  walk_at "s"
  walk_at "w"
  refine ZE2 (.int i) (ZN8 _) (ZHy (ZEe ?_))
  walk_at "w"
  refine ZE2 (.int i) (ZM1 _) ?_
  walk_at "w"
  exact q
def ZP3 : Sp := fun vs H Q _ => ∃ i : Int, vs = [.int i] /\ ((InT i /\ Q (.bl true) H) \/ (¬ InT i /\ Q (.bl false) H))
theorem ZLB : ZCd ["thing"] ["thing"] (ZCU ZFw) := ZC6
theorem ZFd (T : Txt K mg a) : ZCi P w K mg base CX0 2 a.Z9 a.YA ["thing"] ZP3 := by
 refine T.Zk.ok ZLB (by walk_at "l") (fun cdv A outer s H vs Q E hr h => ?_)
 ·obtain ⟨i, rfl, h⟩ := h
  refine ⟨_, QB.h (ZCV (ZCj (ZGt (qcS (ZHo T) hr T.Jr T.Yc.kp T.Jm (ZCQ (qv 0) ZCR)) (ZIY (ZKM ZFE ZFE (ZJz ZIK (ZFK (v := .int 1099511627776) rfl T.YI ⟨_, rfl⟩)) (qv 0) (ZFK (v := .int 1099511627776) rfl T.YI ⟨_, rfl⟩)))))), ?_⟩
  walk_at "s"
  walk_at "w"
  refine ⟨i, rfl, ?_⟩
  walk_at "w"
  refine ZEe ?_
  walk_at "w"
  unfold InT at h
  refine ZDe (fun h1 => ?_) (fun h1 => ?_)
  ·walk_at "w"
   rcases h with ⟨hi, q⟩ | ⟨hi, q⟩
   ·rw [decide_eq_true hi.2]
    exact q
   ·rw [decide_eq_false fun z => hi ⟨by omega, z⟩]
    exact q
  ·rcases h with ⟨hi, q⟩ | ⟨hi, q⟩
   ·exact absurd hi.1 (by omega)
   ·walk_at "w"
    exact q
def ZR1 : Sp := fun vs H Q _ => ∃ b e : Int, vs = [.int b, .int e] /\ InT b /\ InT e /\ Q .non H
theorem ZIE : ZCd ["begin", "end"] ["begin", "end"] (ZCU ZEi) := ZC6
theorem ZFe (T : Txt K mg a) : ZCi P w K mg base CX0 3 a.Zd a.ZZ ["begin", "end"] ZR1 := by
 refine T.Zb.ok ZIE (by walk_at "l") (fun cdv A outer s H vs Q E hr h => ?_)
 ·obtain ⟨b, e, rfl, hb, he, q⟩ := h
  refine ⟨_, QB.h (ZCV (ZDi (QW.pt (ZMX (ZE4 (ZFR (qcS (ZFd T) hr T.YD T.Zk.kp T.YF (ZCQ (qv 0) ZCR)))) (ZKO (ZE4 (ZFR (qcS (ZFd T) hr T.YD T.Zk.kp T.YF (ZCQ (qv 1) ZCR))))))) (ZCV ZGJ) ZDJ)), ?_⟩
  walk_at "s"
  walk_at "w"
  refine ⟨b, rfl, .inl ⟨hb, ?_⟩⟩
  walk_at "w"
  refine ZDp ?_
  walk_at "w"
  refine ⟨e, rfl, .inl ⟨he, ?_⟩⟩
  walk_at "w"
  refine ZDp ?_
  walk_at "w"
  exact q
def ZOD : Sp := fun vs H Q _ => ∃ x e : Int, vs = [.int x, .int e] /\ InT x /\ InT e /\ x < e /\
 ∀ (t : Addr) (L : Nat) (H' : Hp), H' t = some (.tup [.int L, .int (2 ^ L)]) -> (2 : Int) ^ L ∣ x -> x + 2 ^ L <= e -> ((2 : Int) ^ (L + 1) ∣ x -> x + 2 ^ (L + 1) <= e -> False) -> ZCW H H' -> Q (.ref t) H'
theorem ZEm : ZCd ["first", "end", "level", "size"] ["first", "end"] (ZCU ZHB) := ZC6
theorem ZM6 (T : Txt K mg a) : ZCi P w K mg base CX0 1 a.Y3 a.JN ["first", "end"] ZOD := by
 refine T.J7.ok ZEm (by walk_at "l") (fun cdv A outer s H vs Q E hr h => ?_)
 ·obtain ⟨x, e, rfl, hx, he, hxe, k⟩ := h
  unfold InT at hx he
  refine ⟨_, QB.h (ZCS (qsS (i := 2) ZEm.nd ZCT) (ZCS (qsS (i := 3) ZEm.nd ZCT) (ZCS (ZKQ PassesOwn.never (QW.pt (ZTT (ZDD (ZIL) (ZCa ZFN (qv 0) (ZCa ZCz ZCT (qv 3))) ZCT (ZDL _)) (ZRR (ZDD (ZFE) (ZCa ZDK (qv 0) (ZCa ZCz ZCT (qv 3))) (qv 1) (ZDL _))))) (ZCS (ZKd (i := 2) ZEm.nd rfl (by walk_at "o") ZLi ZCT) (ZCV (ZKd (i := 3) ZEm.nd rfl (by walk_at "o") ZQp ZCT)))) (ZCV (ZCj (ZDk (ZCQ (qv 2) (ZCQ (qv 3) ZCR)))))))), ?_⟩
  walk_at "s"
  walk_at "w"
  refine ZKe (fun U H' => H' = H /\ ∃ L : Nat, ∃ z : Int, z = 2 ^ L /\ U = [some (.int x), some (.int e), some (.int L), some (.int z)] /\ z ∣ x /\ x + z <= e) (fun U H' => match U with | [_, _, some (.int l), some (.int z)] => (2199023255552 - z).toNat | _ => 0) ?_ ?_
  ·exact ⟨rfl, 0, 1, rfl, rfl, Int.one_dvd _, by omega⟩
  ·rintro U H' ⟨rfl, L, z, hz, rfl, hd, hle⟩
   have hp : 0 < z := by rw [hz]; exact ZDu L
   have hz2 : z <= 2199023255552 := by omega
   walk_at "w"
   rw [ZMV]
   refine ZDe (fun h1 => ?_) (fun h1 => ?_)
   ·walk_at "w"
    refine ZDe (fun h2 => ?_) (fun h2 => ?_)
    ·refine ZLv ?_
     walk_at "w"
     refine ⟨⟨rfl, L + 1, z * 2, ?_, ?_, ?_, by omega⟩, ?_⟩
     ·rw [hz, Int.pow_succ]
     ·show [some (V.int x), some (V.int e), some (V.int ((L : Int) + 1)), some (V.int (z * 2))] = _
      rfl
     ·rw [Int.mul_comm]; exact Int.dvd_of_emod_eq_zero h1
     ·show (2199023255552 - z * 2).toNat < (2199023255552 - z).toNat
      omega
    ·walk_at "w"
     refine ZCm (by show 2 <= sizeLine; decide) fun t H2 n2 f2 S2 => ?_
     subst hz
     refine k t L H2 f2 hd hle (fun _ h4 => h2 ?_) S2
     rw [ZGV]; exact h4
   ·refine ZDp ?_
    walk_at "w"
    refine ZCm (by show 2 <= sizeLine; decide) fun t H2 n2 f2 S2 => ?_
    subst hz
    refine k t L H2 f2 hd hle (fun h3 _ => h1 ?_) S2
    rw [ZGV]; exact Int.emod_eq_zero_of_dvd h3
def ZHL (b e : Int) : Int := if e > b then e else b
def ZLb : Sp := fun vs H Q _ => ∃ b e : Int, vs = [.int b, .int e] /\ InT b /\ InT e /\
 ∀ (t : Addr) (prs : PL) (H' : Hp), PrT H' t prs -> Ch e b prs (ZHL b e) -> prs.length <= 80 -> ZCW H H' -> Q (.ref t) H'
theorem ZDw : ZCd ["begin", "end", "found", "first", "level", "size"] ["begin", "end"] (ZCU ZFx) := ZC6
theorem ZLC (T : Txt K mg a) : ZCi P w K mg base CX0 4 a.YH a.YK ["begin", "end"] ZLb := by
 refine T.JV.ok ZDw (by walk_at "l") (fun cdv A outer s H vs Q E hr h => ?_)
 ·obtain ⟨b, e, rfl, hb, he, k⟩ := h
  refine ⟨_, QB.h (ZCS (ZC4 (qcS (ZFe T) hr T.Z4 T.Zb.kp T.Z6 (ZCQ (qv 0) (ZCQ (qv 1) ZCR)))) (ZCS (qsS (i := 2) ZDw.nd (ZDm ZCR)) (ZCS (qsS (i := 3) ZDw.nd (qv 0)) (ZCS (ZKQ PassesOwn.never (ZDD (ZIM) (qv 3) (qv 1) (ZDL _)) (ZCS (ZE5 (qcS (ZM6 T) hr.m T.ZBH T.J7.kp T.ZBK (ZCQ (qv 3) (ZCQ (qv 1) ZCR))) (ZE6 (n := 2) K rfl rfl (ZC0 (qgN (i := 4) ZDw.nd) (ZC0 (qgN (i := 5) ZDw.nd) ZEY)))) (ZCS (ZC4 (ZJ0 PySem.F.plainAttrs_list PySem.F.slot_list_append PySem.F.type_list_append ZE0 (qv 2) (ZCQ (ZDk (ZCQ (qv 4) (ZCQ (ZCa ZGH (qv 3) (qv 5)) ZCR))) ZCR))) (ZCV (ZKd (i := 3) ZDw.nd rfl (by walk_at "o") ZLi (qv 5)))))) (ZCV (ZCj (ZGI (ZH0 K rfl) rfl T.YT ZHx (ZCQ (qv 2) ZCR)))))))), ?_⟩
  walk_at "s"
  walk_at "w"
  refine ⟨b, e, rfl, hb, he, ?_⟩
  unfold InT at hb he
  walk_at "w"
  refine ZCm (by show 0 <= sizeLine; decide) fun l H1 n1 f1 S1 => ?_
  walk_at "w"
  have e40 : (2 : Int) ^ 40 = 1099511627776 := by decide
  refine ZKe (fun U H' => ZCW H H' /\ ∃ (x : Int) (prs : PL), (∃ v4 v5, U = [some (.int b), some (.int e), some (.ref l), some (.int x), v4, v5]) /\ PrL H' l prs /\ Ch e b prs x /\ Few e prs.length x /\ x <= ZHL b e /\ b <= x) (fun U H' => match U with | [_, _, _, some (.int x), _, _] => (e - x).toNat | _ => 0) ?_ ?_
  ·exact ⟨S1, b, [], ⟨_, _, rfl⟩, ⟨[], f1, .nil⟩, rfl, Few.start (by rw [e40]; omega), by unfold ZHL; split <;> omega, Int.le_refl _⟩
  ·rintro U H' ⟨S', x, prs, ⟨v4, v5, rfl⟩, ⟨vs, f', hP⟩, hch, hfew, hmx, hbx⟩
   walk_at "w"
   refine ZDe (fun hxe => ?_) (fun hxe => ?_)
   ·refine ZLv ?_
    walk_at "w"
    refine ⟨x, e, rfl, ⟨by omega, by omega⟩, he, hxe, fun t L H2 f2 hd hle hmax S2 => ?_⟩
    have hL : L <= 40 := ZKr (by rw [e40]; omega) (by rw [e40]; omega) hd hle
    have hp := ZDu L
    have hL2 := ZGU hL
    rw [e40] at hL2
    have hfs := Few.step (by rw [e40]; omega) (by rw [e40]; omega) hfew hd hle hmax
    generalize hz : (2 : Int) ^ L = z at *
    walk_at "w"
    refine ⟨tyL (S2 _ _ f'), ?_⟩
    walk_at "w"
    refine ZCm (by show 2 <= sizeLine; decide) fun t3 H3 n3 f3 S3 => ?_
    have fl := S3 _ _ (S2 _ _ f')
    walk_at "w"
    refine ZFj fl ?_ fun H4 f4 K4 => ?_
    ·rw [hP.length]
     exact Uu hfew.len (by decide)
    walk_at "w"
    have hxz : x / z * z = x := Int.ediv_mul_cancel hd
    refine ⟨⟨((S'.trans S2).trans S3).kpN n1 K4, x + z, prs ++ [((L : Int), x / z)], ⟨_, _, rfl⟩, ⟨_, f4, ?_⟩, ?_, ?_, ?_, by omega⟩, ?_⟩
    ·exact ZCY.kpL K4 fl ((hP.same (S2.trans S3)).snoc f3)
    ·have := Ch.snoc (p := ((L : Int), x / z)) hch ⟨by simp, by simp; omega⟩ (by rw [show ((L : Int), x / z).1.toNat = L from Int.toNat_natCast L, hz]; exact hxz) (by rw [show ((L : Int), x / z).1.toNat = L from Int.toNat_natCast L, hz]; exact hle) (by
      rw [show ((L : Int), x / z).1.toNat = L from Int.toNat_natCast L, hz]
      intro _ h5 h6
      have ez : (2 : Int) ^ (L + 1) = 2 * z := by rw [<- ZGV, hz]
      refine hmax ?_ ?_
      ·rw [ez]; exact Int.dvd_of_emod_eq_zero h5
      ·rw [ez]; exact h6)
     rw [show ((L : Int), x / z).1.toNat = L from Int.toNat_natCast L, hz] at this
     exact this
    ·rw [UR]; exact hfs
    ·unfold ZHL; split <;> omega
    ·show (e - (x + z)).toNat < (e - x).toNat
     omega
   ·walk_at "w"
    refine ZIn (SqL.of f') fun t H2 n2 f2 S2 => ?_
    have ex : x = ZHL b e := by
     unfold ZHL at hmx ⊢
     split <;> rename_i hh
     ·rw [if_pos hh] at hmx; omega
     ·rw [if_neg hh] at hmx; omega
    rw [ex] at hch
    exact k t prs H2 ⟨vs, f2, hP.same S2⟩ hch hfew.len (S'.trans S2)
def ZR2 (K : W.Frag) : Sp := fun vs H Q _ => ∃ (p : Addr) (b y m k : Int), vs = [.ref p, .int k] /\ H p = some (.tup [.int b, .int y, .int m]) /\ 0 <= k /\ k < m /\ m <= 1000 /\
 ∀ (u : Addr) (H' : Hp), H u = none -> H' u = some (.tup [.int (b + k * y), .int (b + k * y + y)]) -> ZCW H H' -> Q (.ref u) H'
theorem ZEI : ZCd ["window", "k", "begin", "wide", "many", "first"] ["window", "k"] (ZCU ZGb) := ZC6
theorem ZLc (T : Txt K mg a) : ZCi P w K mg base CX0 2 a.Yh a.Yk ["window", "k"] (ZR2 K) := by
 refine T.Jq.ok ZEI (by walk_at "l") (fun cdv A outer s H vs Q E hr h => ?_)
 ·obtain ⟨p, b, y, m, n, rfl, hT, h0, h1, h2, k⟩ := h
  refine ⟨_, QB.h (ZCS (ZE5 (qv 0) (ZE6 (n := 3) K rfl rfl (ZC0 (qgN (i := 2) ZEI.nd) (ZC0 (qgN (i := 3) ZEI.nd) (ZC0 (qgN (i := 4) ZEI.nd) ZEY))))) (ZCS (ZDi (QW.pt (ZMX (ZE4 (ZFR (qcS (ZHo T) hr T.Jr T.Yc.kp T.Jm (ZCQ (qv 1) ZCR)))) (ZKO (ZE4 (ZKN ZFE ZIM ZCT (qv 1) (qv 4)))))) (ZCV ZGJ) ZDJ) (ZCS (qsS (i := 5) ZEI.nd (ZCa ZDK (qv 2) (ZCa ZCz (qv 1) (qv 3)))) (ZCV (ZCj (ZDk (ZCQ (qv 5) (ZCQ (ZCa ZDK (qv 5) (qv 3)) ZCR)))))))), ?_⟩
  walk_at "s"
  walk_at "w"
  refine ⟨n, rfl, ?_⟩
  walk_at "w"
  refine ZDp ?_
  walk_at "w"
  refine ZDe (fun _ => ?_) (fun h => absurd h0 h)
  walk_at "w"
  rw [decide_eq_true h1]
  refine ZDp ?_
  walk_at "w"
  exact ZCm (by show 2 <= sizeLine; decide) fun u H2 n2 f2 S2 => k u H2 n2 f2 S2
def ZFG (b y : Int) (n : Nat) : PL := (UD n).map fun (i : Nat) => (b + (i : Int) * y, b + (i : Int) * y + y)
theorem ZHM (b y : Int) (n : Nat) : (ZFG b y n).length = n := by rw [ZFG, Ui, List.length_range]
theorem ZM7 (b y : Int) (n : Nat) : ZFG b y (n + 1) = ZFG b y n ++ [(b + (n : Int) * y, b + (n : Int) * y + y)] := by rw [ZFG, List.range_succ, UN]; rfl
theorem ZP4 {b y : Int} {n i : Nat} {p : Int × Int} (h : (ZFG b y n)[i]? = some p) : p = (b + (i : Int) * y, b + (i : Int) * y + y) := by
 rw [ZFG, Ut] at h
 obtain ⟨j, hj, rfl⟩ := Option.map_eq_some_iff.mp h
 rw [List.getElem?_range (by have := (Uj.mp hj).1; rwa [List.length_range] at this)] at hj
 rw [<- Option.some.inj hj]
def ZOE (K : W.Frag) : Sp := fun vs H Q _ => ∃ (p : Addr) (b y m : Int), vs = [.ref p] /\ H p = some (.tup [.int b, .int y, .int m]) /\ 1 <= m /\ m <= 1000 /\
 ∀ (l : Addr) (us : List V) (H' : Hp), H l = none -> H' l = some (.lst us) -> ZCY H' us (ZFG b y m.toNat) -> ZCW H H' -> Q (.ref l) H'
theorem ZJn : ZCd ["window"] ["window"] (ZCU ZEh) := ZC6
theorem ZJo (T : Txt K mg a) : ZCi P w K mg base CX0 3 a.Zz a.Zy ["window"] (ZOE K) := by
 refine T.Y4.ok ZJn (by walk_at "l") (fun cdv A outer s H vs Q E hr h => ?_)
 ·obtain ⟨p, b, y, m, rfl, hT, h1, h2, k⟩ := h
  refine ⟨_, QB.h (ZCV (ZCj (ZF7 (N := ["window"]) (sc := ZCU ZEh) (own := ["k"]) (caps := ["window"]) (ks := [0]) rfl rfl rfl ⟨rfl, by decide +kernel, by decide +kernel, by decide +kernel, by decide +kernel, rfl, by decide +kernel⟩ (ZEW rfl T.ZX (ZCQ (ZCp (ZDE K rfl) (qv 0) ZCT) ZCR)) (fun _ _ _ _ _ => ZEX (i := 0) (show List.Nodup (α := Str) ["k", "window"] from by decide +kernel) rfl (by walk_at "o") (.inr rfl)) (fun _ _ _ _ _ => ZFS) (fun _ _ _ _ _ => qcS (ZLc T) hr T.ZAv T.Jq.kp T.ZA1 (ZCQ (qv 1) (ZCQ (qv 0) ZCR)))))), ?_⟩
  walk_at "s"
  walk_at "w"
  refine ZF5 (by omega) (by omega) ?_
  intro l n1
  refine ZFJ m.toNat (fun i U' H' => (∃ o, U' = [o, some (.ref p)]) /\ ZCW H H' /\ ∃ vs, H' l = some (.lst vs) /\ ZCY H' vs (ZFG b y i)) ?_ ?_ ?_
  ·exact ⟨⟨none, rfl⟩, ZCW.new n1, [], ZCZ, .nil⟩
  ·rintro U H2 ⟨_, S2, vs, f2, hP⟩
   refine ⟨Ue _, ?_⟩
   walk_at "w"
   exact k l vs H2 n1 f2 hP S2
  ·rintro i U H2 hi ⟨⟨o, rfl⟩, S2, vs, f2, hP⟩
   refine ⟨hi, ?_⟩
   rintro x H'' ⟨rfl, rfl⟩
   walk_at "w"
   refine ZEe ?_
   walk_at "w"
   refine ⟨p, b, y, m, _, rfl, S2 _ _ hT, by omega, by omega, by omega, fun u H3 n3 f3 S3 => ?_⟩
   have e0 : (0 + (i : Int)) = (i : Int) := by omega
   rw [e0] at f3
   refine ⟨vs, S3 _ _ f2, ?_, ⟨_, rfl⟩, (S2.trans S3).kpN n1 Kp.upd, vs ++ [.ref u], ZCZ, ?_⟩
   ·rw [hP.length, ZHM]
    exact Uk hi (UG (show m.toNat <= 1000 by omega) (by decide))
   ·rw [ZM7]
    exact ZCY.kpL Kp.upd (S3 _ _ f2) ((hP.same S3).snoc (p := (b + (i : Int) * y, b + (i : Int) * y + y)) f3)
end
def tfl (n : Int) (d1 d2 : Addr) : List (Str × V) := [("looks", V.int n), ("samples", V.ref d1), ("kept_fours", V.ref d2)]
theorem sn1 : (("samples" : Str) == "looks") = false := by decide +kernel
theorem sn2 : (("kept_fours" : Str) == "looks") = false := by decide +kernel
theorem sn3 : (("kept_fours" : Str) == "samples") = false := by decide +kernel
theorem ZFo {n : Int} {d1 d2 : Addr} : (tfl n d1 d2).lookup ("looks" : Str) = some (.int n) := by
 unfold tfl
 rw [Um, beq_self_eq_true]
theorem ZEz {n : Int} {d1 d2 : Addr} : (tfl n d1 d2).lookup ("samples" : Str) = some (.ref d1) := by
 unfold tfl
 rw [Um, sn1, Um, beq_self_eq_true]
theorem ZIF {n : Int} {d1 d2 : Addr} : (tfl n d1 d2).lookup ("kept_fours" : Str) = some (.ref d2) := by
 unfold tfl
 rw [Um, sn2, Um, sn3, Um, beq_self_eq_true]
theorem ZFf {n : Int} {d1 d2 : Addr} {m : Str} (h1 : (m == ("looks" : Str)) = false := by decide +kernel) (h2 : (m == ("samples" : Str)) = false := by decide +kernel) (h3 : (m == ("kept_fours" : Str)) = false := by decide +kernel) : (tfl n d1 d2).lookup m = none := by
 unfold tfl
 rw [Um, h1, Um, h2, Um, h3]
 rfl
theorem ZR3 {n n' : Int} {d1 d2 : Addr} : ZCw "looks" (.int n') (tfl n d1 d2) = tfl n' d1 d2 := by
 show (if ("looks" : Str) = "looks" then [(("looks" : Str), V.int n')] ++ _ else _) = _
 rw [if_pos rfl]
 rfl
theorem ZR4 {d1 d2 : Addr} : ZCw "kept_fours" (.ref d2) (ZCw "samples" (.ref d1) (ZCw "looks" (.int 0) [])) = tfl 0 d1 d2 := by
 have e1 : ¬ ("looks" : Str) = "samples" := by decide +kernel
 have e2 : ¬ ("looks" : Str) = "kept_fours" := by decide +kernel
 have e3 : ¬ ("samples" : Str) = "kept_fours" := by decide +kernel
 show ZCw "kept_fours" (.ref d2) (ZCw "samples" (.ref d1) [(("looks" : Str), V.int 0)]) = _
 rw [show ZCw "samples" (.ref d1) [(("looks" : Str), V.int 0)] = (if ("looks" : Str) = "samples" then [(("looks" : Str), V.ref d1)] else (("looks" : Str), V.int 0) :: ZCw "samples" (.ref d1) []) from rfl, if_neg e1]
 show (if ("looks" : Str) = "kept_fours" then _ else (("looks" : Str), V.int 0) :: (if ("samples" : Str) = "kept_fours" then _ else (("samples" : Str), V.ref d1) :: ZCw "kept_fours" (.ref d2) [])) = _
 rw [if_neg e2, if_neg e3]
 rfl
def ZCt (C : Addr) (H : Hp) (p : Addr) (n : Int) (d1 d2 : Addr) (sm : PL) (c : Nat) : Prop :=
 ∃ dx kvs, H p = some (.ins C dx (tfl n d1 d2)) /\ H d1 = some (.dK (ZCl sm)) /\ H d2 = some (.dT kvs) /\ (sm.map (·.1)).Nodup /\ ZDd H kvs sm (fun _ _ => True) /\ kvs.length <= 41 * c
theorem ZCt.same {C : Addr} {H H' : Hp} {p d1 d2 : Addr} {n : Int} {sm : PL} {c : Nat} (h : ZCt C H p n d1 d2 sm c) (s : ZCW H H') : ZCt C H' p n d1 d2 sm c := by
 obtain ⟨dx, kvs, h1, h2, h3, h4, h5, h6⟩ := h
 exact ⟨dx, kvs, s _ _ h1, s _ _ h2, s _ _ h3, h4, h5.same s, h6⟩
def Fr3 (p d1 d2 : Addr) (H H' : Hp) : Prop := ∀ b o, H b = some o -> b ≠ p -> b ≠ d1 -> b ≠ d2 -> H' b = some o
section
variable {P : Program} {w : World} {K : W.Frag} {mg : Str -> Option Value} {base : Heap} {a : Ad}
local macro_rules | `(tactic| walk_at "rd") => `(tactic| first
 | with_reducible first | refine ZDg (by assumption) (‹Txt _ _ _›).ZG (‹Txt _ _ _›).ZQ ZFo ?_ | refine ZDg (by assumption) (‹Txt _ _ _›).ZG (‹Txt _ _ _›).ZM ZEz ?_ | refine ZDg (by assumption) (‹Txt _ _ _›).ZG (‹Txt _ _ _›).ZK ZIF ?_)
def Tm (t : Int) : Prop := -1099511627776 <= t /\ t < 1099511627776
def ZP5 : Sp := fun vs H Q _ => ∃ t : Int, vs = [.int t] /\ Tm t /\ Q .non H
theorem ZJp : ZCd ["t"] ["t"] (ZCU ZFb) := ZC6
theorem ZGm (T : Txt K mg a) : ZCi P w K mg base CX0 3 a.Zs a.Z2 ["t"] ZP5 := by
 refine T.Zx.ok ZJp (by walk_at "l") (fun cdv A outer s H vs Q E hr h => ?_)
 ·obtain ⟨t, rfl, ht, q⟩ := h
  unfold Tm at ht
  refine ⟨_, QB.h (ZCV (ZDi (QW.pt (ZMX (ZE4 (ZFR (qcS (ZFd T) hr T.YD T.Zk.kp T.YF (ZCQ (qv 0) ZCR)))) (ZKO (ZDD (ZIL) (qv 0) (ZFK (v := .int 1099511627776) rfl T.YI ⟨_, rfl⟩) (ZDL _))))) (ZCV ZGJ) ZDJ)), ?_⟩
  walk_at "s"
  walk_at "w"
  refine ⟨t, rfl, .inl ⟨⟨by omega, by omega⟩, ?_⟩⟩
  walk_at "w"
  refine ZDp ?_
  walk_at "w"
  rw [ZMV]
  refine ZDe (fun h => ?_) (fun h => ?_)
  ·exfalso
   omega
  ·walk_at "w"
   exact q
def ZR5 (C : Addr) : Sp := fun vs H Q _ => ∃ (p d1 d2 dx : Addr) (n t : Int) (v : V) (o : Option (PL)) (sm : PL) (kvs : List (List Key × V)) (c : Nat), vs = [.ref p, .int t, v] /\ H p = some (.ins C dx (tfl n d1 d2)) /\ H d1 = some (.dK (ZCl sm)) /\ H d2 = some (.dT kvs) /\ (sm.map (·.1)).Nodup /\
 ZDd H kvs sm (fun l s => s ≠ t / 2 ^ l) /\ kvs.length <= 41 * c /\ c <= 1000 /\ ZC3 H v o /\ Is4 (inS sm 0 t) o /\ ∀ H', ZCt C H' p n d1 d2 sm (c + 1) -> Kp d2 H H' -> Q .non H'
theorem ZD2 : ZCd ["self", "t", "four", "s", "level", "halves"] ["self", "t", "four"] (ZCU ZFc) := ZC6
theorem ZGn (T : Txt K mg a) : ZCi P w K mg base CX0 3 a.Zv a.Z1 ["self", "t", "four"] (ZR5 a.ZB) := by
 refine T.ZAX.ok ZD2 (by walk_at "l") (fun cdv A outer s H vs Q E hr h => ?_)
 ·obtain ⟨p, d1, d2, dx, n, t, v, o, sm, kvs, c, rfl, hp, h1, h2, hnd, hkf, hlen, hc, hv, ho, k⟩ := h
  have hu := ZEK hr
  have np2 : p ≠ d2 := fun z => by subst z; rw [hp] at h2; cases h2
  have n12 : d1 ≠ d2 := fun z => by subst z; rw [h1] at h2; cases h2
  refine ⟨_, QB.h (ZCS (ZEs hu (qv 2) (ZDW K rfl (qv 0)) (ZDk (ZCQ ZCT (ZCQ (qv 1) ZCR)))) (ZCS (qsS (i := 3) ZD2.nd (qv 1)) (ZCV (ZDs PassesOwn.never rfl (ZEW rfl T.ZX (ZCQ (ZFK (v := .int 40) rfl T.ZAg ⟨_, rfl⟩) ZCR)) (qgN (i := 4) ZD2.nd) (ZCS (qsS (i := 3) ZD2.nd (ZCa ZGH (qv 3) ZCT)) (ZCS (qsS (i := 5) ZD2.nd (ZDk (ZCQ (ZGT hu (ZDW K rfl (qv 0)) (ZDk (ZCQ (qv 4) (ZCQ (ZCa ZCz ZCT (qv 3)) ZCR)))) (ZCQ (ZGT hu (ZDW K rfl (qv 0)) (ZDk (ZCQ (qv 4) (ZCQ (ZCa ZDK (ZCa ZCz ZCT (qv 3)) ZCT) ZCR)))) ZCR)))) (ZCV (ZEs hu (qcS (ZJf T) hr T.ZAS T.Jd.kp T.ZAN (ZCQ (ZCp (ZDE K rfl) (qv 5) ZCT) (ZCQ (ZCp (ZDE K rfl) (qv 5) ZCT) ZCR))) (ZDW K rfl (qv 0)) (ZDk (ZCQ (ZCa ZDK (qv 4) ZCT) (ZCQ (qv 3) ZCR))))))))))), ?_⟩
  walk_at "s"
  walk_at "w"
  refine ZCm (by show 2 <= sizeLine; decide) fun b3 H3 n3 f3 S3 => ?_
  walk_at "w"
  refine ZKo (k := kOf 0 t) (S3 _ _ h2) f3 (Uu (show kvs.length <= 41000 by omega) (by decide)) fun H4 f4 K4 => ?_
  have K04 : Kp d2 H H4 := (Kp.same S3).trans K4
  have nt : ∀ (l : List (List Key × V)) (xs : List V), HO.dT l ≠ .tup xs := fun l xs z => by cases z
  have e0 : t / 2 ^ 0 = t := by simp
  have hk4 : ZDd H4 (ZDf kvs (kOf 0 t) v) sm (fun l s => s ≠ t / 2 ^ l \/ l <= 0) := by
   have h := ((hkf.same S3).put (i := 0) (t := t) (hv.same S3) (by rw [e0]; exact ho)).kpX K4 (S3 _ _ h2) (nt _)
   rw [e0] at h
   refine h.mono fun l s hl g => ?_
   rcases g with g | g
   ·exact .inl g
   ·have : l = 0 := by omega
    subst this
    by_cases e : s = t / 2 ^ 0
    ·exact .inr ⟨rfl, e⟩
    ·exact .inl e
  have hl4 : (ZDf kvs (kOf 0 t) v).length <= 41 * c + 1 := UG (ZEH _ _ _) (by omega)
  walk_at "w"
  refine ZF5 (by decide) (by decide) (ZF6 (fun i U H' => (∃ v4 v5, U = [some (.ref p), some (.int t), some v, some (.int (t / 2 ^ i)), v4, v5]) /\ Kp d2 H H' /\ ∃ kvs', H' d2 = some (.dT kvs') /\ ZDd H' kvs' sm (fun l s => s ≠ t / 2 ^ l \/ l <= i) /\ kvs'.length <= 41 * c + 1 + i) ?_ ?_ ?_)
  ·exact ⟨⟨none, none, by rw [e0]; rfl⟩, K04, _, f4, hk4, hl4⟩
  ·rintro i U H5 hi ⟨⟨v4, v5, rfl⟩, K5, kv5, f5, hk5, hl5⟩
   have hi40 : i < 40 := hi
   have hp5 := K5 _ _ hp np2
   have ez : (0 + (i : Int)) = (i : Int) := by omega
   rw [ez]
   walk_at "w"
   generalize hs : t / 2 ^ i / 2 = s
   have hs1 : t / 2 ^ (i + 1) = s := by rw [ZKs, hs]
   refine ZG3 f5 ?_
   walk_at "w"
   refine ZCm (by show 2 <= sizeLine; decide) fun b6 H6 n6 f6 S6 => ?_
   refine ZH7 (k := kOf i (2 * s)) (S6 _ _ f5) f6 ?_
   have hp6 := S6 _ _ hp5
   have f56 := S6 _ _ f5
   walk_at "w"
   refine ZG3 f56 ?_
   walk_at "w"
   refine ZCm (by show 2 <= sizeLine; decide) fun b7 H7 n7 f7 S7 => ?_
   refine ZH7 (k := kOf i (2 * s + 1)) (S7 _ _ f56) f7 ?_
   have S57 := S6.trans S7
   walk_at "w"
   refine ZCm (by show 2 <= sizeLine; decide) fun b8 H8 n8 f8 S8 => ?_
   have S58 := S57.trans S8
   have hk8 := hk5.same S58
   obtain ⟨oa, ha1, ha2⟩ := hk8 i (2 * s) (by omega) (.inr (Ue _))
   obtain ⟨ob, hb1, hb2⟩ := hk8 i (2 * s + 1) (by omega) (.inr (Ue _))
   walk_at "w"
   refine ⟨_, _, oa, ob, _, _, rfl, ha1, ha2, hb1, hb2, ZTl (by omega), fun v9 o9 H9 h9 g9 S9 => ?_⟩
   have g9 : Is4 (inS sm (i + 1) s) o9 := g9.congr fun q => ZPg
   have S59 := S58.trans S9
   have hp9 := S59 _ _ hp5
   walk_at "w"
   refine ZCm (by show 2 <= sizeLine; decide) fun b10 H10 n10 f10 S10 => ?_
   have S510 := S59.trans S10
   have f510 := S510 _ _ f5
   refine ZKo (k := kOf (i + 1) s) f510 ?_ (Uu (show kv5.length <= 42000 by omega) (by decide)) fun H11 f11 K11 => ?_
   ·rw [f10]
    show some (HO.tup [V.int ((i : Int) + 1), V.int s]) = some (HO.tup [V.int ((i + 1 : Nat) : Int), V.int s])
    rw [show ((i + 1 : Nat) : Int) = (i : Int) + 1 by omega]
   walk_at "w"
   refine ⟨⟨some (.int i), some (.ref b8), by rw [hs1]; rfl⟩, (K5.then S510).trans K11, _, f11, ?_, UG (ZEH _ _ _) (by omega)⟩
   have h := ((hk5.same S510).put (i := i + 1) (t := t) (h9.same S10) (by rw [hs1]; exact g9)).kpX K11 f510 (nt _)
   rw [hs1] at h
   refine h.mono fun l s' hl g => ?_
   rcases g with g | g
   ·exact .inl (.inl g)
   ·by_cases e : l = i + 1
    ·by_cases e2 : s' = t / 2 ^ l
     ·exact .inr ⟨e, e2⟩
     ·exact .inl (.inl e2)
    ·exact .inl (.inr (by omega))
  ·rintro U H5 ⟨⟨v4, v5, rfl⟩, K5, kv5, f5, hk5, hl5⟩
   walk_at "w"
   refine k H5 ⟨dx, kv5, K5 _ _ hp np2, K5 _ _ h1 n12, f5, hnd, hk5.mono fun l s hl _ => .inr hl, ?_⟩ K5
   have : kv5.length <= 41 * c + 1 + 40 := hl5
   omega
def ZTw (C : Addr) : Sp := fun vs H Q _ => ∃ (p d1 d2 : Addr) (n t h : Int) (sm : PL) (c : Nat), vs = [.ref p, .int t, .int h] /\ ZCt C H p n d1 d2 sm c /\ Tm t /\ c <= 1000 /\ sm.length <= 1000 /\
 ∀ H', ZCt C H' p n d1 d2 (ZCn sm t h) (c + 1) -> Fr3 p d1 d2 H H' -> Q .non H'
theorem ZLd : ZCd ["self", "t", "h"] ["self", "t", "h"] (ZCU ZGc) := ZC6
theorem ZHp (T : Txt K mg a) : ZCi P w K mg base CX0 4 a.YZ a.Yb ["self", "t", "h"] (ZTw a.ZB) := by
 refine T.ZAn.ok ZLd (by walk_at "l") (fun cdv A outer s H vs Q E hr h => ?_)
 ·obtain ⟨p, d1, d2, n, t, x, sm, c, rfl, ⟨dx, kvs, hp, h1, h2, hnd, hkf, hlen⟩, ht, hc, hsl, k⟩ := h
  have hu := ZEK hr
  have np1 : p ≠ d1 := fun z => by subst z; rw [hp] at h1; cases h1
  have n21 : d2 ≠ d1 := fun z => by subst z; rw [h1] at h2; cases h2
  refine ⟨_, QB.h (ZCS (ZC4 (qcS (ZGm T) hr T.Yz T.Zx.kp T.Yy (ZCQ (qv 1) ZCR))) (ZCS (ZEs hu (qv 2) (ZDW K rfl (qv 0)) (qv 1)) (ZCV (ZC4 (ZDZ (qv 0) T.ZG T.JC (ZGn T) hr T.Y5 .nil ZDh (ZCQ (qv 1) (ZCQ (qcS (ZM5 T) hr T.ZBD T.J5.kp T.ZBC (ZCQ (ZDk (ZCQ (ZDk (ZCQ (qv 1) (ZCQ (qv 2) ZCR))) ZCR)) ZCR)) ZCR))))))), ?_⟩
  walk_at "s"
  walk_at "w"
  refine ⟨t, rfl, ht, ?_⟩
  walk_at "w"
  refine ZGO h1 (Uu hsl (by decide)) fun H3 f3 K3 => ?_
  have hp3 := K3 _ _ hp np1
  have h23 := K3 _ _ h2 n21
  have hk3 : ZDd H3 kvs (ZCn sm t x) (fun l s => s ≠ t / 2 ^ l) := (ZDd.other hkf fun q hq => by
   rw [ZGW hnd]
   constructor
   ·exact fun z => .inl ⟨hq, z⟩
   ·rintro (z | z)
    ·exact z.2
    ·exact absurd (by rw [z]) hq).kpX K3 h1 (fun xs z => by cases z)
  walk_at "w"
  refine ZDR hp3 ZFf ?_
  walk_at "w"
  refine ZCm (by show 2 <= sizeLine; decide) fun b4 H4 n4 f4 S4 => ?_
  walk_at "w"
  refine ZCm (by show 1 <= sizeLine; decide) fun b5 H5 n5 f5 S5 => ?_
  walk_at "w"
  refine ⟨b5, [(t, x)], rfl, ⟨_, f5, .cons ⟨b4, rfl, S5 _ _ f4⟩ .nil⟩, List.pairwise_singleton _ _, fun v6 o6 H6 h6 g6 S6 => ?_⟩
  have S36 := S4.trans (S5.trans S6)
  walk_at "w"
  refine ⟨p, d1, d2, dx, n, t, v6, o6, ZCn sm t x, kvs, c, rfl, S36 _ _ hp3, S36 _ _ f3, S36 _ _ h23, ZED hnd, hk3.same S36, hlen, hc, h6, g6.congr fun q => ?_, fun H7 hT7 K7 => ?_⟩
  ·rw [Ud, ZEE, ZGW hnd]
   simp only [Int.pow_zero, Int.ediv_one]
   constructor
   ·rintro rfl
    exact ⟨.inr rfl, rfl⟩
   ·rintro ⟨h1 | h1, h2⟩
    ·exact absurd h2 h1.1
    ·exact h1
  ·walk_at "w"
   exact k H7 hT7 fun b o e e1 e2 e3 => K7 _ _ (S36 _ _ (K3 _ _ e e2)) e3
def ZR6 (C : Addr) : Sp := fun vs H Q _ => ∃ (p dx : Addr) (x : V) (cv : PL), vs = [.ref p, x] /\ H p = some (.ins C dx []) /\ ((x = .non /\ cv = []) \/ ∃ t, x = .ref t /\ PrT H t cv) /\ (cv.map (·.1)).Nodup /\ (∀ q ∈ cv, Tm q.1) /\ cv.length <= 100 /\
 ∀ (d1 d2 : Addr) (sm : PL) (H' : Hp), H d1 = none -> H d2 = none -> ZCt C H' p 0 d1 d2 sm cv.length -> (∀ q, q ∈ sm ↔ q ∈ cv) -> sm.length <= cv.length -> Kp p H H' -> Q .non H'
theorem ZES : ZCd ["self", "curve", "t", "h"] ["self", "curve"] (ZCU ZDC) := ZC6
theorem ZIG (T : Txt K mg a) : ZCi P w K mg base CX0 5 a.Zc a.ZJ ["self", "curve"] (ZR6 a.ZB) := by
 refine T.Jp.ok ZES (by walk_at "l") (fun cdv A outer s H vs Q E hr h => ?_)
 ·obtain ⟨p, dx, x, cv, rfl, hp, hx, hnd, htm, hlen, k⟩ := h
  refine ⟨_, QB.h (ZCS (ZE7 K rfl (qv 0) ZCT) (ZCS (ZE7 K rfl (qv 0) ZFT) (ZCS (ZE7 K rfl (qv 0) ZPb) (ZCV (ZDi (ZDD (ZLr) (qv 1) ZE3 (ZDL _)) (ZCV (ZDs PassesOwn.never rfl (ZKS K rfl (qv 1)) (ZE6 (n := 2) K rfl rfl (ZC0 (qgN (i := 2) ZES.nd) (ZC0 (qgN (i := 3) ZES.nd) ZEY))) (ZCV (ZC4 (ZDZ (qv 0) T.ZG T.Jv (ZHp T) hr T.Jt .nil ZDh (ZCQ (qv 2) (ZCQ (qv 3) ZCR))))))) ZDJ))))), ?_⟩
  walk_at "s"
  walk_at "w"
  refine ZEa hp T.ZG T.ZQ (by show 0 < 1000; decide) fun H1 f1 K1 => ?_
  walk_at "w"
  refine ZH2 fun d1 H2 n2 f2 S2 => ?_
  have hp2 := S2 _ _ f1
  have nd1 : d1 ≠ p := fun z => by rw [z, f1] at n2; cases n2
  walk_at "w"
  refine ZEa hp2 T.ZG T.ZM (by show 1 < 1000; decide) fun H3 f3 K3 => ?_
  have f23 := K3 _ _ f2 nd1
  walk_at "w"
  refine ZPc fun d2 H4 n4 f4 S4 => ?_
  have hp4 := S4 _ _ f3
  have nd2 : d2 ≠ p := fun z => by rw [z, f3] at n4; cases n4
  walk_at "w"
  refine ZEa hp4 T.ZG T.ZK (by show 2 < 1000; decide) fun H5 f5 K5 => ?_
  have f5 : H5 p = some (.ins a.ZB dx (tfl 0 d1 d2)) := by rw [f5, ZR4]
  have K05 : Kp p H H5 := (((K1.then S2).trans K3).then S4).trans K5
  have f25 := K5 _ _ (S4 _ _ f23) nd1
  have f45 := K5 _ _ f4 nd2
  have hn1 : H d1 = none := by
   cases e : H d1 with
   | none => rfl
   | some o =>
    have := K1 _ _ e nd1
    rw [n2] at this
    cases this
  have hn2 : H d2 = none := by
   cases e : H d2 with
   | none => rfl
   | some o =>
    have := ((K1.then S2).trans K3) _ _ e nd2
    rw [n4] at this
    cases this
  have hT5 : ZCt a.ZB H5 p 0 d1 d2 [] 0 := ⟨dx, [], f5, f25, f45, Vn, fun l s hl _ => ⟨none, .non, .inl ⟨rfl, rfl⟩⟩, Ue _⟩
  walk_at "w"
  rcases hx with ⟨rfl, rfl⟩ | ⟨t, rfl, hT⟩
  ·refine ZJx (fun h => absurd rfl h) (fun _ => ?_)
   walk_at "w"
   exact k d1 d2 [] H5 hn1 hn2 hT5 (fun q => Iff.rfl) (Ue _) K05
  ·refine ZJx (fun _ => ?_) (fun h => by cases h)
   obtain ⟨us, g, hP⟩ := hT
   have ntp : ∀ {b : Addr} {xs : List V}, H b = some (.tup xs) -> b ≠ p := fun e z => by rw [z, hp] at e; cases e
   have g5 := K05 _ _ g (ntp g)
   walk_at "w"
   refine ZHY (xs := us) (fun i U H' => (∃ v2 v3, U = [some (.ref p), some (.ref t), v2, v3]) /\ Kp p H H' /\ ∃ sm, ZCt a.ZB H' p 0 d1 d2 sm i /\ (∀ q, q ∈ sm ↔ q ∈ cv.take i) /\ sm.length <= i) ?_ ?_ ?_ ?_
   ·exact ⟨⟨_, _, rfl⟩, K05, [], hT5, fun q => by rw [List.take_zero], Ue _⟩
   ·rintro i U H6 _ ⟨_, K6, _⟩
    exact SqT.of (K6 _ _ g (ntp g))
   ·rintro i x U H6 hx ⟨⟨v2, v3, rfl⟩, K6, sm, hT6, hm6, hl6⟩
    obtain ⟨cc, q, rfl, hq, hc⟩ := hP.at hx
    have hc6 := K6 _ _ hc (ntp hc)
    obtain ⟨dx6, kv6, hp6, h16, h26, hnd6, hkf6, hlen6⟩ := id hT6
    have hi : i < cv.length := (Uj.mp hq).1
    walk_at "w"
    refine ZDR hp6 ZFf ?_
    walk_at "w"
    refine ⟨p, d1, d2, 0, q.1, q.2, sm, i, rfl, hT6, htm q (UC hq), by omega, by omega, fun H7 hT7 Fr7 => ?_⟩
    walk_at "w"
    refine ⟨⟨_, _, rfl⟩, fun b o e nb => Fr7 _ _ (K6 _ _ e nb) nb (fun z => by rw [z, hn1] at e; cases e) (fun z => by rw [z, hn2] at e; cases e), ZCn sm q.1 q.2, hT7, fun r => ?_, UG (ZGP _ _ _) (by omega)⟩
    rw [ZGW hnd6, Vc, hq, UI, hm6]
    have hne : ∀ r ∈ cv.take i, r.1 ≠ q.1 := fun r hr e => by
     obtain ⟨j, hj, rfl⟩ := UO hr
     rw [UY] at hj
     rw [List.getElem_take] at e
     obtain ⟨z2, y2⟩ := Uj.mp hq
     have : (cv.map (·.1))[j]'(by rw [Ui]; omega) = (cv.map (·.1))[i]'(by rw [Ui]; omega) := by
      rw [List.getElem_map, List.getElem_map, y2]
      exact e
     have := (List.getElem_inj hnd).mp this
     omega
    constructor
    ·rintro (h | h)
     ·exact .inl h.2
     ·exact .inr (by rw [h]; exact Ux)
    ·rintro (h | h)
     ·exact .inl ⟨hne r h, h⟩
     ·exact .inr (by simpa using h)
   ·rintro U H6 ⟨⟨v2, v3, rfl⟩, K6, sm, hT6, hm6, hl6⟩
    rw [hP.length] at hT6 hm6 hl6
    rw [US] at hm6
    walk_at "w"
    exact k d1 d2 sm H6 hn1 hn2 hT6 hm6 hl6 K6
end
theorem ZCt.kpX {C : Addr} {H H' : Hp} {p d1 d2 l : Addr} {n : Int} {sm : PL} {c : Nat} {xs : List V} (h : ZCt C H p n d1 d2 sm c) (k : Kp l H H') (hl : H l = some (.lst xs)) : ZCt C H' p n d1 d2 sm c := by
 obtain ⟨dx, kvs, h1, h2, h3, h4, h5, h6⟩ := h
 exact ⟨dx, kvs, k _ _ h1 (fun z => by rw [z, hl] at h1; cases h1), k _ _ h2 (fun z => by rw [z, hl] at h2; cases h2), k _ _ h3 (fun z => by rw [z, hl] at h3; cases h3), h4, h5.kpX k hl (fun _ z => by cases z), h6⟩
theorem ZTx {p d1 d2 : Addr} {H H' : Hp} (h : Kp p H H') : Fr3 p d1 d2 H H' := fun b o e e1 _ _ => h b o e e1
theorem ZCt.keepT {C : Addr} {H H' : Hp} {p d1 d2 : Addr} {n : Int} {sm : PL} {c : Nat} (g : ZCt C H p n d1 d2 sm c) (f : Fr3 p d1 d2 H H') {b : Addr} {xs : List V} (e : H b = some (.tup xs)) : H' b = some (.tup xs) := by
 obtain ⟨dy, kws, g1, g2, g3, _⟩ := g
 exact f _ _ e (fun z => by rw [z, g1] at e; cases e) (fun z => by rw [z, g2] at e; cases e) (fun z => by rw [z, g3] at e; cases e)
theorem ZCt.keepL {C : Addr} {H H' : Hp} {p d1 d2 : Addr} {n : Int} {sm : PL} {c : Nat} (g : ZCt C H p n d1 d2 sm c) (f : Fr3 p d1 d2 H H') {b : Addr} {xs : List V} (e : H b = some (.lst xs)) : H' b = some (.lst xs) := by
 obtain ⟨dy, kws, g1, g2, g3, _⟩ := g
 exact f _ _ e (fun z => by rw [z, g1] at e; cases e) (fun z => by rw [z, g2] at e; cases e) (fun z => by rw [z, g3] at e; cases e)
theorem ZCt.nd {C : Addr} {H : Hp} {p d1 d2 : Addr} {n : Int} {sm : PL} {c : Nat} (g : ZCt C H p n d1 d2 sm c) : (sm.map (·.1)).Nodup := by
 obtain ⟨dy, kws, g1, g2, g3, g4, _⟩ := g
 exact g4
section
variable {P : Program} {w : World} {K : W.Frag} {mg : Str -> Option Value} {base : Heap} {a : Ad}
local macro_rules | `(tactic| walk_at "rd") => `(tactic| first
 | with_reducible first | refine ZDg (by assumption) (‹Txt _ _ _›).ZG (‹Txt _ _ _›).ZQ ZFo ?_ | refine ZDg (by assumption) (‹Txt _ _ _›).ZG (‹Txt _ _ _›).ZM ZEz ?_ | refine ZDg (by assumption) (‹Txt _ _ _›).ZG (‹Txt _ _ _›).ZK ZIF ?_)
def ZR7 (C : Addr) : Sp := fun vs H Q _ => ∃ (p d1 d2 : Addr) (n b e : Int) (sm : PL) (c : Nat), vs = [.ref p, .int b, .int e] /\ ZCt C H p n d1 d2 sm c /\ InT b /\ InT e /\
 ∀ (v : V) (o : Option (PL)) (prs : PL) (H' : Hp), ZC3 H' v o -> Is4 (ZC5 sm b e) o -> Ch e b prs (ZHL b e) -> ZCt C H' p (n + prs.length) d1 d2 sm c -> Kp p H H' -> Q v H'
theorem Ch.cut {e : Int} : ∀ {prs : PL} {x y : Int}, Ch e x prs y -> ∀ {i : Nat} {q : Int × Int}, prs[i]? = some q -> ∃ z, Ch e x (prs.take i) z /\ (0 <= q.1 /\ q.1 <= 40) /\ q.2 * 2 ^ q.1.toNat = z /\ Ch e x (prs.take (i + 1)) (z + 2 ^ q.1.toNat)
 | [], _, _, _, i, q, h => by simp at h
 | p :: r, x, y, hc, 0, q, h => by
  have : p = q := by simpa using h
  subst this
  obtain ⟨h1, h2, h3, h4, h5⟩ := hc
  exact ⟨x, rfl, h1, h2, h1, h2, h3, h4, rfl⟩
 | p :: r, x, y, hc, i + 1, q, h => by
  obtain ⟨h1, h2, h3, h4, h5⟩ := hc
  obtain ⟨z, g1, g2, g3, g4⟩ := Ch.cut h5 (i := i) (q := q) (by simpa using h)
  exact ⟨z, ⟨h1, h2, h3, h4, g1⟩, g2, g3, h1, h2, h3, h4, g4⟩
theorem Ch.fun {e : Int} : ∀ {prs : PL} {x y z : Int}, Ch e x prs y -> Ch e x prs z -> y = z
 | [], _, _, _, h, g => h.symm.trans g
 | p :: r, x, y, z, h, g => Ch.fun h.2.2.2.2 g.2.2.2.2
theorem ZD8 : ZCd ["self", "begin", "end", "four", "parts", "stretch"] ["self", "begin", "end"] (ZCU ZFz) := ZC6
theorem ZLD (T : Txt K mg a) : ZCi P w K mg base CX0 5 a.YM a.YQ ["self", "begin", "end"] (ZR7 a.ZB) := by
 refine T.ZAb.ok ZD8 (by walk_at "l") (fun cdv A outer s H vs Q E hr h => ?_)
 ·obtain ⟨p, d1, d2, n, b, e, sm, c, rfl, hTr, hb, he, k⟩ := h
  have hu := ZEK hr
  obtain ⟨dx, kvs, hp, h1, h2, hnd, hkf, hlen⟩ := id hTr
  refine ⟨_, QB.h (ZCS (qsS (i := 3) ZD8.nd ZE3) (ZCS (qsS (i := 4) ZD8.nd (qcS (ZLC T) hr T.ZAZ T.JV.kp T.ZAe (ZCQ (qv 1) (ZCQ (qv 2) ZCR)))) (ZCS (ZDs PassesOwn.never rfl (ZKS K rfl (qv 4)) (qgN (i := 5) ZD8.nd) (ZCV (qsS (i := 3) ZD8.nd (qcS (ZJf T) hr.m T.ZAS T.Jd.kp T.ZAN (ZCQ (qv 3) (ZCQ (ZGT hu (ZDW K rfl (qv 0)) (qv 5)) ZCR)))))) (ZCS (ZNk K rfl (qv 0) (ZCy (ZF8 K rfl) rfl T.ZY ZEg (ZCQ (qv 4) ZCR))) (ZCV (ZCj (qv 3))))))), ?_⟩
  walk_at "s"
  walk_at "w"
  refine ⟨b, e, rfl, hb, he, fun t prs H1 hT1 hch hpl S1 => ?_⟩
  obtain ⟨us, g1, hP1⟩ := hT1
  have hp1 := S1 _ _ hp
  walk_at "w"
  refine ZHY (xs := us) (fun i U H' => (∃ v v5, U = [some (.ref p), some (.int b), some (.int e), some v, some (.ref t), v5] /\ ∃ o z, ZC3 H' v o /\ Ch e b (prs.take i) z /\ Is4 (ZC5 sm b z) o) /\ ZCW H1 H') ?_ ?_ ?_ ?_
  ·refine ⟨⟨_, _, rfl, none, b, .non, rfl, .inl ⟨rfl, ?_⟩⟩, ZCW.refl _⟩
   cases e0 : ZC5 sm b b with
   | nil => rfl
   | cons q qs =>
    have := (ZDF.mp (show q ∈ ZC5 sm b b by rw [e0]; exact Ux)).2
    omega
  ·rintro i U H' _ ⟨_, S'⟩
   exact SqT.of (S' _ _ g1)
  ·rintro i x U H2 hx ⟨⟨v, v5, rfl, o, z, hv, hz, ho⟩, S2⟩
   obtain ⟨cc, q, rfl, hq, hc⟩ := (hP1.same S2).at hx
   obtain ⟨z', hz', hq1, hq2, hz2⟩ := Ch.cut hch hq
   obtain rfl := Ch.fun hz hz'
   have S02 := S1.trans S2
   obtain ⟨l, hl⟩ : ∃ l : Nat, q.1 = (l : Int) := ⟨q.1.toNat, by omega⟩
   have hln : q.1.toNat = l := by omega
   rw [hln] at hq2 hz2
   have hp2 := S02 _ _ hp
   have h22 := S02 _ _ h2
   obtain ⟨o2, hf2, hi2⟩ := (hkf.same S02) l q.2 (by omega) trivial
   have e4 : inS sm l q.2 = ZC5 sm z (z + 2 ^ l) := by unfold inS; rw [hq2]
   rw [e4] at hi2
   walk_at "w"
   refine ZG3 h22 ?_
   walk_at "w"
   refine ZH7 (k := kOf l q.2) h22 (by rw [hc, hl]; rfl) ?_
   refine ⟨v, _, o, o2, _, _, rfl, hv, ho, hf2, hi2, ZPh, fun v3 o3 H3 h3 g3 S3 => ?_⟩
   walk_at "w"
   refine ⟨⟨_, _, rfl, o3, z + 2 ^ l, h3, hz2, g3.congr fun r => ZMq hz.le (by have := ZDu l; omega) r⟩, S2.trans S3⟩
  ·rintro U H2 ⟨⟨v, v5, rfl, o, z, hv, hz, ho⟩, S2⟩
   rw [hP1.length, US] at hz
   obtain rfl := Ch.fun hz hch
   have S02 := S1.trans S2
   have hp2 := S02 _ _ hp
   have g2 := S2 _ _ g1
   have hul : us.length = prs.length := hP1.length
   walk_at "w"
   refine ZMm hp2 T.ZG T.ZQ ZFo ?_
   walk_at "w"
   refine ⟨n, _, rfl, rfl, dx, _, hp2, by show 3 < 1000; decide, ?_⟩
   rw [ZR3]
   have f3 : (upd H2 p (.ins a.ZB dx (tfl (n + (us.length : Int)) d1 d2))) p = some (.ins a.ZB dx (tfl (n + (us.length : Int)) d1 d2)) := ZCZ
   have K3 : Kp p H2 (upd H2 p (.ins a.ZB dx (tfl (n + (us.length : Int)) d1 d2))) := Kp.upd
   generalize upd H2 p (.ins a.ZB dx (tfl (n + (us.length : Int)) d1 d2)) = H3 at f3 K3
   have ntp : ∀ (xs : List V), HO.ins a.ZB dx (tfl n d1 d2) ≠ .tup xs := fun xs z => by cases z
   walk_at "w"
   refine k v o prs H3 (hv.kpX K3 hp2 ntp) (ho.congr fun r => ?_) hch ⟨dx, kvs, by rw [<- hul]; exact f3, K3 _ _ (S02 _ _ h1) (fun z => by rw [z, hp] at h1; cases h1), K3 _ _ (S02 _ _ h2) (fun z => by rw [z, hp] at h2; cases h2), hnd, (hkf.same S02).kpX K3 hp2 ntp, hlen⟩ ((Kp.same S02).trans K3)
   rw [ZDF, ZDF]
   unfold ZHL
   split
   ·exact Iff.rfl
   ·constructor
    ·rintro ⟨_, g1, g2⟩
     omega
    ·rintro ⟨_, g1, g2⟩
     omega
end
section
variable {P : Program} {w : World} {K : W.Frag} {mg : Str -> Option Value} {base : Heap} {a : Ad}
local macro_rules | `(tactic| walk_at "rd") => `(tactic| first
 | with_reducible first | refine ZDg (by assumption) (‹Txt _ _ _›).ZG (‹Txt _ _ _›).ZQ ZFo ?_ | refine ZDg (by assumption) (‹Txt _ _ _›).ZG (‹Txt _ _ _›).ZM ZEz ?_ | refine ZDg (by assumption) (‹Txt _ _ _›).ZG (‹Txt _ _ _›).ZK ZIF ?_)
def ZP6 : Sp := fun vs H Q _ => ∃ (p : Addr) (b y m : Int), vs = [.ref p] /\ H p = some (.tup [.int b, .int y, .int m]) /\ 0 <= m /\ m <= 1000 /\ InT b /\ InT (b + m * y) /\ Q .non H
theorem ZD6 : ZCd ["window", "begin", "wide", "many"] ["window"] (ZCU ZEv) := ZC6
theorem ZFp (T : Txt K mg a) : ZCi P w K mg base CX0 4 a.Zf a.Zj ["window"] ZP6 := by
 refine T.Zh.ok ZD6 (by walk_at "l") (fun cdv A outer s H vs Q E hr h => ?_)
 ·obtain ⟨p, b, y, m, rfl, hp, h0, h1, hb, he, q⟩ := h
  refine ⟨_, QB.h (ZCS (ZE5 (qv 0) (ZE6 (n := 3) K rfl rfl (ZC0 (qgN (i := 1) ZD6.nd) (ZC0 (qgN (i := 2) ZD6.nd) (ZC0 (qgN (i := 3) ZD6.nd) ZEY))))) (ZCV (ZC4 (qcS (ZFe T) hr T.Z4 T.Zb.kp T.Z6 (ZCQ (qv 1) (ZCQ (ZCa ZDK (qv 1) (ZCa ZCz (qv 3) (qv 2))) ZCR)))))), ?_⟩
  walk_at "s"
  walk_at "w"
  refine ⟨b, b + m * y, rfl, hb, he, ?_⟩
  walk_at "w"
  exact q
def ZIH (H : Hp) (q : Addr) (b y m : Int) : Prop := H q = some (.tup [.int b, .int y, .int m]) /\ 0 < y /\ 1 <= m /\ m <= 100 /\ InT b /\ InT (b + m * y)
theorem ZIH.col {H : Hp} {q : Addr} {b y m : Int} (h : ZIH H q b y m) {k : Int} (h0 : 0 <= k) (h1 : k < m) : InT (b + k * y) /\ InT (b + k * y + y) := by
 obtain ⟨_, hy, _, _, hb, he⟩ := h
 have g1 : 0 <= k * y := Int.mul_nonneg h0 (by omega)
 have g2 : (k + 1) * y <= m * y := Int.mul_le_mul_of_nonneg_right (by omega) (by omega)
 rw [Int.add_mul, Int.one_mul] at g2
 unfold InT at *
 constructor <;> constructor <;> omega
def ZP7 (C : Addr) : Sp := fun vs H Q _ => ∃ (p q d1 d2 : Addr) (n b y m : Int) (sm : PL) (c : Nat), vs = [.ref p, .ref q] /\ ZCt C H p n d1 d2 sm c /\ ZIH H q b y m /\
 ∀ (u : Addr) (us : List V) (fs : List (Option (PL))) (n' : Int) (H' : Hp), H' u = some (.tup us) -> ZDO H' us fs -> ZDc sm b y m.toNat fs -> ZCt C H' p n' d1 d2 sm c -> Kp p H H' -> Q (.ref u) H'
theorem ZJq : ZCd ["self", "window"] ["self", "window"] (ZCU ZEj) := ZC6
theorem ZJr (T : Txt K mg a) : ZCi P w K mg base CX0 6 a.Z3 a.Zw ["self", "window"] (ZP7 a.ZB) := by
 refine T.ZAK.ok ZJq (by walk_at "l") (fun cdv A outer s H vs Q E hr h => ?_)
 ·obtain ⟨p, q, d1, d2, n, b, y, m, sm, c, rfl, hTr, hW, k⟩ := h
  obtain ⟨hq, hy, hm1, hm2, hb, he⟩ := id hW
  refine ⟨_, QB.h (ZCS (ZC4 (qcS (ZFp T) hr.m T.YV T.Zh.kp T.YW (ZCQ (qv 1) ZCR))) (ZCV (ZCj (ZGI (ZH0 K rfl) rfl T.YT ZHx (ZCQ (ZF7 (N := ["self", "window"]) (sc := ZCU ZEj) (own := ["first", "behind"]) (caps := ["self"]) (ks := [0]) rfl rfl rfl ⟨rfl, by decide +kernel, by decide +kernel, by decide +kernel, by decide +kernel, rfl, by decide +kernel⟩ (ZHZ K rfl (qcS (ZJo T) hr.m T.ZAQ T.Y4.kp T.ZAW (ZCQ (qv 1) ZCR))) (fun _ _ _ _ _ => ZE6 (n := 2) K rfl rfl (ZC0 (ZEX (i := 0) (show List.Nodup (α := Str) ["first", "behind", "self"] from by decide +kernel) rfl (by walk_at "o") (.inr rfl)) (ZC0 (ZEX (i := 1) (show List.Nodup (α := Str) ["first", "behind", "self"] from by decide +kernel) rfl (by walk_at "o") (.inr rfl)) ZEY))) (fun _ _ _ _ _ => ZFS) (fun _ _ _ _ _ => ZDZ (qv 2) T.ZG T.ZAY (ZLD T) hr T.ZAa .nil ZDh (ZCQ (qv 0) (ZCQ (qv 1) ZCR)))) ZCR))))), ?_⟩
  walk_at "s"
  walk_at "w"
  refine ⟨q, b, y, m, rfl, hq, by omega, by omega, hb, he, ?_⟩
  walk_at "w"
  refine ⟨q, b, y, m, rfl, hq, hm1, by omega, fun l0 us0 H1 n1 f1 hP1 S1 => ?_⟩
  have hT1 := hTr.same S1
  have np1 : ∀ {b : Addr} {xs : List V}, H1 b = some (.tup xs) -> b ≠ p := fun e z => by
   obtain ⟨dy, kws, g1, _⟩ := hT1
   rw [z, g1] at e; cases e
  have nl1 : l0 ≠ p := fun z => by
   obtain ⟨dy, kws, g1, _⟩ := hT1
   rw [z, g1] at f1; cases f1
  walk_at "w"
  intro l n2
  have nlp : l ≠ p := fun z => by
   obtain ⟨dy, kws, g1, _⟩ := hT1
   rw [z, g1] at n2; cases n2
  refine ZFJ m.toNat (fun i U' H' => (∃ o1 o2, U' = [o1, o2, some (.ref p)]) /\ Kp p H1 H' /\ (∃ n', ZCt a.ZB H' p n' d1 d2 sm c) /\ ∃ vs fs, H' l = some (.lst vs) /\ ZDO H' vs fs /\ fs.length = i /\ ∀ (k : Nat) o, fs[k]? = some o -> Is4 (ZC5 sm (b + (k : Int) * y) (b + (k : Int) * y + y)) o) ?_ ?_ ?_
  ·exact ⟨⟨none, none, rfl⟩, Kp.same (ZCW.new n2), ⟨n, hT1.same (ZCW.new n2)⟩, [], [], ZCZ, .nil, rfl, fun k o h => by simp at h⟩
  ·rintro U' H2 ⟨_, K2, ⟨n', hT2⟩, vs, fs, f2, hF2, hfl, hO2⟩
   refine ⟨⟨_, SqL.of (K2 _ _ f1 nl1), by rw [hP1.length, ZHM]; exact Ue _⟩, ?_⟩
   walk_at "w"
   refine ZIn (SqL.of f2) fun u H3 n3 f3 S3 => ?_
   exact k u vs fs n' H3 f3 (hF2.same S3) ⟨hfl, hO2⟩ (hT2.same S3) (((Kp.same S1).trans K2).then S3)
  ·rintro i U' H2 hi ⟨⟨o1, o2, rfl⟩, K2, ⟨n', hT2⟩, vs, fs, f2, hF2, hfl, hO2⟩
   have hi2 : i < us0.length := by rw [hP1.length, ZHM]; exact hi
   have f12 := K2 _ _ f1 nl1
   refine ⟨⟨_, _, SqL.of f12, Uc hi2⟩, ?_⟩
   rintro x H'' ⟨rfl, hx⟩
   have hx := hx _ (SqL.of f12)
   obtain ⟨u, pr, rfl, hpr, f3⟩ := hP1.at hx
   have hpr := ZP4 hpr
   subst hpr
   have f32 := K2 _ _ f3 (np1 f3)
   obtain ⟨w1, w2⟩ := hW.col (k := (i : Int)) (by omega) (by omega)
   obtain ⟨dx, kvs, hp2, _⟩ := id hT2
   walk_at "w"
   refine ZEe ?_
   walk_at "w"
   refine ZDR hp2 ZFf ?_
   walk_at "w"
   refine ⟨p, d1, d2, n', _, _, sm, c, rfl, hT2, w1, w2, fun v o3 prs H3 h3 g3 _ hT3 K3 => ?_⟩
   have fl3 := K3 _ _ f2 nlp
   have hF3 : ZDO H3 vs fs := hF2.mapP fun _ _ d => d.kpX K3 hp2 (fun _ z => by cases z)
   refine ⟨vs, fl3, ?_, ⟨_, _, rfl⟩, ?_, ⟨_, hT3.kpX Kp.upd fl3⟩, vs ++ [v], fs ++ [o3], ZCZ, (hF3.snoc h3).mapP fun _ _ d => d.kpL Kp.upd fl3, by simp [hfl], ?_⟩
   ·rw [hF2.len, hfl]
    exact Uk (show i < 100 by omega) (by decide)
   ·intro b' o' e nb
    rw [ZCe (fun z => by rw [z, n2] at e; cases e)]
    exact (K2.trans K3) b' o' e nb
   ·intro k' o' h'
    rw [List.getElem?_append] at h'
    split at h'
    ·exact hO2 k' o' h'
    ·have : k' = i := by
      have := (Uj.mp h').1
      simp at this
      omega
     subst this
     rw [hfl, Nat.sub_self] at h'
     have : o3 = o' := by simpa using h'
     subst this
     exact g3
end
def sfl (tr dd dn wt : Addr) : List (Str × V) := [("tree", V.ref tr), ("deeds", V.ref dd), ("done", V.ref dn), ("watches", V.ref wt)]
section
variable {tr dd dn wt : Addr}
theorem sg1 : (("deeds" : Str) == "tree") = false := by decide +kernel
theorem sg2 : (("done" : Str) == "tree") = false := by decide +kernel
theorem sg3 : (("done" : Str) == "deeds") = false := by decide +kernel
theorem sg4 : (("watches" : Str) == "tree") = false := by decide +kernel
theorem sg5 : (("watches" : Str) == "deeds") = false := by decide +kernel
theorem sg6 : (("watches" : Str) == "done") = false := by decide +kernel
theorem ZP8 : (sfl tr dd dn wt).lookup ("tree" : Str) = some (.ref tr) := by
 unfold sfl
 rw [Um, beq_self_eq_true]
theorem ZOF : (sfl tr dd dn wt).lookup ("deeds" : Str) = some (.ref dd) := by
 unfold sfl
 rw [Um, sg1, Um, beq_self_eq_true]
theorem ZP9 : (sfl tr dd dn wt).lookup ("done" : Str) = some (.ref dn) := by
 unfold sfl
 rw [Um, sg2, Um, sg3, Um, beq_self_eq_true]
theorem ZLe : (sfl tr dd dn wt).lookup ("watches" : Str) = some (.ref wt) := by
 unfold sfl
 rw [Um, sg4, Um, sg5, Um, sg6, Um, beq_self_eq_true]
theorem ZHN {m : Str} (h1 : (m == ("tree" : Str)) = false := by decide +kernel) (h2 : (m == ("deeds" : Str)) = false := by decide +kernel) (h3 : (m == ("done" : Str)) = false := by decide +kernel) (h4 : (m == ("watches" : Str)) = false := by decide +kernel) : (sfl tr dd dn wt).lookup m = none := by
 unfold sfl
 rw [Um, h1, Um, h2, Um, h3, Um, h4]
 rfl
theorem ZR8 : ZCw "watches" (.ref wt) (ZCw "done" (.ref dn) (ZCw "deeds" (.ref dd) (ZCw "tree" (.ref tr) []))) = sfl tr dd dn wt := by
 have e1 : ¬ ("tree" : Str) = "deeds" := by decide +kernel
 have e2 : ¬ ("tree" : Str) = "done" := by decide +kernel
 have e3 : ¬ ("deeds" : Str) = "done" := by decide +kernel
 have e4 : ¬ ("tree" : Str) = "watches" := by decide +kernel
 have e5 : ¬ ("deeds" : Str) = "watches" := by decide +kernel
 have e6 : ¬ ("done" : Str) = "watches" := by decide +kernel
 show ZCw "watches" (.ref wt) (ZCw "done" (.ref dn) (ZCw "deeds" (.ref dd) [(("tree" : Str), V.ref tr)])) = _
 rw [show ZCw "deeds" (.ref dd) [(("tree" : Str), V.ref tr)] = (if ("tree" : Str) = "deeds" then _ else (("tree" : Str), V.ref tr) :: ZCw "deeds" (.ref dd) []) from rfl, if_neg e1]
 rw [show ZCw "done" (.ref dn) ((("tree" : Str), V.ref tr) :: ZCw "deeds" (.ref dd) []) = (if ("tree" : Str) = "done" then _ else (("tree" : Str), V.ref tr) :: (if ("deeds" : Str) = "done" then _ else (("deeds" : Str), V.ref dd) :: ZCw "done" (.ref dn) [])) from rfl, if_neg e2, if_neg e3]
 show (if ("tree" : Str) = "watches" then _ else (("tree" : Str), V.ref tr) :: (if ("deeds" : Str) = "watches" then _ else (("deeds" : Str), V.ref dd) :: (if ("done" : Str) = "watches" then _ else (("done" : Str), V.ref dn) :: ZCw "watches" (.ref wt) []))) = _
 rw [if_neg e4, if_neg e5, if_neg e6]
 rfl
theorem ZTy {n : Int} {d1 d2 : Addr} : sfl tr dd dn wt ≠ tfl n d1 d2 := fun h => by
 have := congrArg List.length h
 simp [sfl, tfl] at this
end
structure SA where
 p : Addr
 tr : Addr
 d1 : Addr
 d2 : Addr
 dd : Addr
 dn : Addr
 wt : Addr
def SA.ls (S : SA) : List Addr := [S.dd, S.dn, S.wt]
def SA.own (S : SA) : List Addr := [S.tr, S.d1, S.d2, S.dd, S.dn, S.wt]
def ZHO : Option Int -> V
 | none => .non
 | some i => .int i
theorem ZQA (o : Option Int) : (o.map V.int).getD .non = ZHO o := by cases o <;> rfl
def ZDx (H : Hp) (vs : List V) (ds : List (Int × Option Int)) : Prop := Paired (fun v (q : Int × Option Int) => ∃ b, v = .ref b /\ H b = some (.tup [.int q.1, ZHO q.2])) vs ds
theorem ZDx.tups {H H' : Hp} {vs : List V} {ds : List (Int × Option Int)} (h : ZDx H vs ds) (t : ∀ b xs, H b = some (.tup xs) -> H' b = some (.tup xs)) : ZDx H' vs ds := Paired.mapP h fun _ _ ⟨b, e, z⟩ => ⟨b, e, t _ _ z⟩
theorem ZDx.snoc {H : Hp} : ∀ {vs : List V} {ds : List (Int × Option Int)}, ZDx H vs ds -> ∀ {b : Addr} {q : Int × Option Int}, H b = some (.tup [.int q.1, ZHO q.2]) -> ZDx H (vs ++ [.ref b]) (ds ++ [q])
 | _, _, .nil, _, _, e => .cons ⟨_, rfl, e⟩ .nil
 | _, _, .cons h t, _, _, e => .cons h (ZDx.snoc t e)
theorem ZDx.len {H : Hp} {vs : List V} {ds : List (Int × Option Int)} (h : ZDx H vs ds) : vs.length = ds.length := Paired.length h
def ZCg (a : Ad) (H : Hp) (S : SA) (n : Int) (sm : PL) (c : Nat) (ds : List (Int × Option Int)) (ts : List Int) (ws : List V) : Prop :=
 ∃ dx vs, H S.p = some (.ins a.ZA dx (sfl S.tr S.dd S.dn S.wt)) /\ ZCt a.ZB H S.tr n S.d1 S.d2 sm c /\ H S.dd = some (.lst vs) /\ ZDx H vs ds /\ H S.dn = some (.lst (ts.map V.int)) /\ H S.wt = some (.lst ws) /\ S.dd ≠ S.dn /\ S.dd ≠ S.wt /\ S.dn ≠ S.wt
def FrS (S : SA) (H H' : Hp) : Prop := ∀ b o, H b = some o -> b ∉ S.own -> H' b = some o
theorem FrS.trans {S : SA} {H H1 H2 : Hp} (h : FrS S H H1) (g : FrS S H1 H2) : FrS S H H2 := fun b o e n => g b o (h b o e n) n
theorem FrS.same {S : SA} {H H' : Hp} (h : ZCW H H') : FrS S H H' := fun b o e _ => h b o e
theorem FrS.kp {S : SA} {H H' : Hp} {q : Addr} (h : Kp q H H') (m : q ∈ S.own) : FrS S H H' := fun b o e n => h b o e fun z => n (z ▸ m)
theorem FrS.fr3 {S : SA} {H H' : Hp} (h : Fr3 S.tr S.d1 S.d2 H H') : FrS S H H' := fun b o e n => h b o e (fun z => n (by simp [SA.own, z])) (fun z => n (by simp [SA.own, z])) (fun z => n (by simp [SA.own, z]))
section
variable {a : Ad} {H H' : Hp} {S : SA} {n : Int} {sm : PL} {c : Nat} {ds : List (Int × Option Int)} {ts : List Int} {ws : List V}
theorem ZCg.tree (h : ZCg a H S n sm c ds ts ws) : ZCt a.ZB H S.tr n S.d1 S.d2 sm c := let ⟨_, _, _, h, _⟩ := h; h
theorem ZCg.nd (h : ZCg a H S n sm c ds ts ws) : (sm.map (·.1)).Nodup := h.tree.nd
theorem ZCg.same (h : ZCg a H S n sm c ds ts ws) (s : ZCW H H') : ZCg a H' S n sm c ds ts ws := by
 obtain ⟨dx, vs, h1, h2, h3, h4, h5, h6, h7⟩ := h
 exact ⟨dx, vs, s _ _ h1, h2.same s, s _ _ h3, h4.tups fun b xs e => s _ _ e, s _ _ h5, s _ _ h6, h7⟩
theorem ZCg.nown (h : ZCg a H S n sm c ds ts ws) {b : Addr} {o : HO} (e : H b = some o) (h1 : ∀ C dx fs, o ≠ .ins C dx fs) (h2 : (∃ m, o = .dK m) -> b ≠ S.d1) (h3 : ∀ m, o ≠ .dT m) (h4 : (∃ m, o = .lst m) -> b ∉ S.ls) : b ∉ S.own := by
 obtain ⟨dx, vs, g1, ⟨dy, kvs, t1, t2, t3, _⟩, g3, g4, g5, g6, _⟩ := h
 intro z
 simp only [SA.own, Ul, UK, or_false] at z
 rcases z with z | z | z | z | z | z
 ·rw [z, t1] at e; exact h1 _ _ _ (Option.some.inj e).symm
 ·exact h2 ⟨_, (by rw [z, t2] at e; exact (Option.some.inj e).symm)⟩ z
 ·rw [z, t3] at e; exact h3 _ (Option.some.inj e).symm
 ·exact h4 ⟨_, (by rw [z, g3] at e; exact (Option.some.inj e).symm)⟩ (by simp [SA.ls, z])
 ·exact h4 ⟨_, (by rw [z, g5] at e; exact (Option.some.inj e).symm)⟩ (by simp [SA.ls, z])
 ·exact h4 ⟨_, (by rw [z, g6] at e; exact (Option.some.inj e).symm)⟩ (by simp [SA.ls, z])
theorem ZCg.kpL (h : ZCg a H S n sm c ds ts ws) {q : Addr} {xs : List V} (k : Kp q H H') (hq : H q = some (.lst xs)) (nq : q ∉ S.ls) : ZCg a H' S n sm c ds ts ws := by
 obtain ⟨dx, vs, h1, h2, h3, h4, h5, h6, h7⟩ := h
 simp only [SA.ls, Ul, UK, or_false, not_or] at nq
 exact ⟨dx, vs, k _ _ h1 (fun z => by rw [z, hq] at h1; cases h1), h2.kpX k hq, k _ _ h3 (Ne.symm nq.1), h4.tups (fun b xs e => k _ _ e (fun z => by rw [z, hq] at e; cases e)), k _ _ h5 (Ne.symm nq.2.1), k _ _ h6 (Ne.symm nq.2.2), h7⟩
theorem ZCg.fr3 (h : ZCg a H S n sm c ds ts ws) {n' : Int} {sm' : PL} {c' : Nat} (f : Fr3 S.tr S.d1 S.d2 H H') (t : ZCt a.ZB H' S.tr n' S.d1 S.d2 sm' c') : ZCg a H' S n' sm' c' ds ts ws := by
 obtain ⟨dx, vs, h1, h2, h3, h4, h5, h6, h7⟩ := h
 refine ⟨dx, vs, ?_, t, h2.keepL f h3, h4.tups (fun b xs e => h2.keepT f e), h2.keepL f h5, h2.keepL f h6, h7⟩
 obtain ⟨dy, kvs, t1, t2, t3, _⟩ := h2
 exact f _ _ h1 (fun z => by rw [z, t1] at h1; injection h1 with h1; injection h1 with _ _ h3; exact ZTy h3.symm) (fun z => by rw [z, t2] at h1; cases h1) (fun z => by rw [z, t3] at h1; cases h1)
theorem ZCg.kpDone (h : ZCg a H S n sm c ds ts ws) {ts' : List Int} (k : Kp S.dn H H') (f : H' S.dn = some (.lst (ts'.map V.int))) : ZCg a H' S n sm c ds ts' ws := by
 obtain ⟨dx, vs, h1, h2, h3, h4, h5, h6, h7, h8, h9⟩ := h
 exact ⟨dx, vs, k _ _ h1 (fun z => by rw [z, h5] at h1; cases h1), h2.kpX k h5, k _ _ h3 h7, h4.tups (fun b xs e => k _ _ e (fun z => by rw [z, h5] at e; cases e)), f, k _ _ h6 (Ne.symm h9), h7, h8, h9⟩
theorem ZCg.kpDeeds (h : ZCg a H S n sm c ds ts ws) {ds' : List (Int × Option Int)} {vs' : List V} (k : Kp S.dd H H') (f : H' S.dd = some (.lst vs')) (g : ZDx H' vs' ds') : ZCg a H' S n sm c ds' ts ws := by
 obtain ⟨dx, vs, h1, h2, h3, h4, h5, h6, h7, h8, h9⟩ := h
 exact ⟨dx, vs', k _ _ h1 (fun z => by rw [z, h3] at h1; cases h1), h2.kpX k h3, f, g, k _ _ h5 (Ne.symm h7), k _ _ h6 (Ne.symm h8), h7, h8, h9⟩
end
def ZIg (m : PL) (t : Int) : Option Int -> PL
 | none => ZEM m t
 | some h => ZCn m t h
section
variable {P : Program} {w : World} {K : W.Frag} {mg : Str -> Option Value} {base : Heap} {a : Ad}
local macro_rules | `(tactic| walk_at "rd") => `(tactic| first
 | with_reducible first | refine ZDg (by assumption) (‹Txt _ _ _›).ZG (‹Txt _ _ _›).ZM ZEz ?_ | refine ZDg (by assumption) (‹Txt _ _ _›).ZH (‹Txt _ _ _›).Yw ZP8 ?_ | refine ZDg (by assumption) (‹Txt _ _ _›).ZH (‹Txt _ _ _›).Yt ZOF ?_ | refine ZDg (by assumption) (‹Txt _ _ _›).ZH (‹Txt _ _ _›).JO ZP9 ?_ | refine ZDg (by assumption) (‹Txt _ _ _›).ZH (‹Txt _ _ _›).Z5 ZLe ?_)
def ZR9 (C : Addr) : Sp := fun vs H Q _ => ∃ (p d1 d2 : Addr) (n t v : Int) (sm : PL) (c : Nat), vs = [.ref p, .int t] /\ ZCt C H p n d1 d2 sm c /\ ZCx sm t = some v /\ c <= 1000 /\
 ∀ H', ZCt C H' p n d1 d2 (ZEM sm t) (c + 1) -> Fr3 p d1 d2 H H' -> Q .non H'
theorem ZLE : ZCd ["self", "t"] ["self", "t"] (ZCU ZFy) := ZC6
theorem ZLF (T : Txt K mg a) : ZCi P w K mg base CX0 4 a.YB a.YE ["self", "t"] (ZR9 a.ZB) := by
 refine T.ZAi.ok ZLE (by walk_at "l") (fun cdv A outer s H vs Q E hr h => ?_)
 ·obtain ⟨p, d1, d2, n, t, v, sm, c, rfl, ⟨dx, kvs, hp, h1, h2, hnd, hkf, hlen⟩, hg, hc, k⟩ := h
  have np1 : p ≠ d1 := fun z => by subst z; rw [hp] at h1; cases h1
  have n21 : d2 ≠ d1 := fun z => by subst z; rw [h1] at h2; cases h2
  refine ⟨_, QB.h (ZCS (ZC4 (ZPi (ZDW K rfl (qv 0)) (qv 1))) (ZCV (ZC4 (ZDZ (qv 0) T.ZG T.JC (ZGn T) hr T.Y5 .nil ZDh (ZCQ (qv 1) (ZCQ ZE3 ZCR)))))), ?_⟩
  walk_at "s"
  walk_at "w"
  refine ZPk h1 ?_
  walk_at "w"
  refine ZPl h1 hg fun H3 f3 K3 => ?_
  have hp3 := K3 _ _ hp np1
  have h23 := K3 _ _ h2 n21
  have hk3 : ZDd H3 kvs (ZEM sm t) (fun l s => s ≠ t / 2 ^ l) := (ZDd.other hkf fun q hq => by
   rw [ZJQ]
   exact ⟨fun z => ⟨hq, z⟩, fun z => z.2⟩).kpX K3 h1 (fun xs z => by cases z)
  walk_at "w"
  refine ZDR hp3 ZFf ?_
  walk_at "w"
  refine ⟨p, d1, d2, dx, n, t, .non, none, ZEM sm t, kvs, c, rfl, hp3, f3, h23, ZLV hnd, hk3, hlen, hc, .non, .inl ⟨rfl, ?_⟩, fun H7 hT7 K7 => ?_⟩
  ·cases e : inS (ZEM sm t) 0 t with
   | nil => rfl
   | cons q qs =>
    have hq : q ∈ inS (ZEM sm t) 0 t := by rw [e]; exact Ux
    rw [ZEE, ZJQ] at hq
    simp only [Int.pow_zero, Int.ediv_one] at hq
    exact absurd hq.2 hq.1.1
  ·walk_at "w"
   exact k H7 hT7 fun b o e e1 e2 e3 => K7 _ _ (K3 _ _ e e2) e3
def ZSA (a : Ad) : Sp := fun vs H Q _ => ∃ (p dx : Addr) (x : V) (cv : PL), vs = [.ref p, x] /\ H p = some (.ins a.ZA dx []) /\ ((x = .non /\ cv = []) \/ ∃ t, x = .ref t /\ PrT H t cv) /\ (cv.map (·.1)).Nodup /\ (∀ q ∈ cv, Tm q.1) /\ cv.length <= 100 /\
 ∀ (S : SA) (sm : PL) (H' : Hp), S.p = p -> (∀ b ∈ S.own, H b = none) -> ZCg a H' S 0 sm cv.length [] [] [] -> (∀ q, q ∈ sm ↔ q ∈ cv) -> sm.length <= cv.length -> Kp p H H' -> Q .non H'
theorem ZHd : ZCd ["self", "curve"] ["self", "curve"] (ZCU ZC7) := ZC6
theorem ZHe (T : Txt K mg a) : ZCi P w K mg base CX0 7 a.ZV a.ZI ["self", "curve"] (ZSA a) := by
 refine T.Jl.ok ZHd (by walk_at "l") (fun cdv A outer s H vs Q E hr h => ?_)
 ·obtain ⟨p, dx, x, cv, rfl, hp, hx, hnd, htm, hlen, k⟩ := h
  refine ⟨_, QB.h (ZCS (ZE7 K rfl (qv 0) (ZRe T.ZBf (ZIG T) hr rfl T.ZBx T.Jn .nil ZDh (ZCQ (qv 1) ZCR))) (ZCS (ZE7 K rfl (qv 0) (ZDm ZCR)) (ZCS (ZE7 K rfl (qv 0) (ZDm ZCR)) (ZCV (ZE7 K rfl (qv 0) (ZDm ZCR)))))), ?_⟩
  walk_at "s"
  walk_at "w"
  refine ZIs fun tr dt H1 n1 f1 S1 => ?_
  refine ⟨tr, dt, x, cv, rfl, f1, ?_, hnd, htm, hlen, fun d1 d2 sm H2 m1 m2 hT2 hm hl K2 => ⟨rfl, ?_⟩⟩
  ·rcases hx with h | ⟨t, h1, h2⟩
   ·exact .inl h
   ·exact .inr ⟨t, h1, h2.same S1⟩
  have S02 : ZCW H H2 := fun b o e => K2 _ _ (S1 _ _ e) (ZDB e n1)
  have hp2 := S02 _ _ hp
  have nt : tr ≠ p := fun z => by rw [z, hp] at n1; cases n1
  have free : ∀ {b : Addr}, H1 b = none -> H b = none := fun {b} e => by
   cases e2 : H b with
   | none => rfl
   | some o => rw [S1 _ _ e2] at e; cases e
  have free2 : ∀ {b : Addr}, H2 b = none -> H b = none := fun {b} e => by
   cases e2 : H b with
   | none => rfl
   | some o => rw [S02 _ _ e2] at e; cases e
  walk_at "w"
  refine ZEa hp2 T.ZH T.Yw (by show 0 < 1000; decide) fun H3 f3 K3 => ?_
  walk_at "w"
  refine ZCm (by show 0 <= sizeLine; decide) fun dd H4 n4 f4 S4 => ?_
  have np4 : dd ≠ p := fun z => by rw [z, f3] at n4; cases n4
  walk_at "w"
  refine ZEa (S4 _ _ f3) T.ZH T.Yt (by show 1 < 1000; decide) fun H5 f5 K5 => ?_
  walk_at "w"
  refine ZCm (by show 0 <= sizeLine; decide) fun dn H6 n6 f6 S6 => ?_
  have np6 : dn ≠ p := fun z => by rw [z, f5] at n6; cases n6
  walk_at "w"
  refine ZEa (S6 _ _ f5) T.ZH T.JO (by show 2 < 1000; decide) fun H7 f7 K7 => ?_
  walk_at "w"
  refine ZCm (by show 0 <= sizeLine; decide) fun wt H8 n8 f8 S8 => ?_
  have np8 : wt ≠ p := fun z => by rw [z, f7] at n8; cases n8
  walk_at "w"
  refine ZEa (S8 _ _ f7) T.ZH T.Z5 (by show 3 < 1000; decide) fun H9 f9 K9 => ?_
  rw [ZR8] at f9
  have K29 : Kp p H2 H9 := (((((K3.then S4).trans K5).then S6).trans K7).then S8).trans K9
  have K24 : Kp p H2 H5 := (K3.then S4).trans K5
  have K26 : Kp p H2 H7 := (K24.then S6).trans K7
  have g4 : H9 dd = some (.lst []) := K9 _ _ (S8 _ _ (K7 _ _ (S6 _ _ (K5 _ _ f4 np4)) np4)) np4
  have g6 : H9 dn = some (.lst []) := K9 _ _ (S8 _ _ (K7 _ _ f6 np6)) np6
  have g8 : H9 wt = some (.lst []) := K9 _ _ f8 np8
  have e46 : dd ≠ dn := fun z => by rw [<- z, K5 _ _ f4 np4] at n6; cases n6
  have e48 : dd ≠ wt := fun z => by rw [<- z, K7 _ _ (S6 _ _ (K5 _ _ f4 np4)) np4] at n8; cases n8
  have e68 : dn ≠ wt := fun z => by rw [<- z, K7 _ _ f6 np6] at n8; cases n8
  have hT9 : ZCt a.ZB H9 tr 0 d1 d2 sm cv.length := by
   obtain ⟨dy, kvs, t1, t2, t3, t4, t5, t6⟩ := hT2
   have nt2 : ∀ {b : Addr} {xs : List V}, H2 b = some (.tup xs) -> H9 b = some (.tup xs) := fun e => K29 _ _ e (fun z => by rw [z, hp2] at e; cases e)
   exact ⟨dy, kvs, K29 _ _ t1 nt, K29 _ _ t2 (fun z => by rw [z, hp2] at t2; cases t2), K29 _ _ t3 (fun z => by rw [z, hp2] at t3; cases t3), t4, t5.tups (fun b xs e => nt2 e), t6⟩
  have fr4 : H dd = none := by
   cases e : H dd with
   | none => rfl
   | some o => rw [K3 _ _ (S02 _ _ e) np4] at n4; cases n4
  have fr6 : H dn = none := by
   cases e : H dn with
   | none => rfl
   | some o => rw [K24 _ _ (S02 _ _ e) np6] at n6; cases n6
  have fr8 : H wt = none := by
   cases e : H wt with
   | none => rfl
   | some o => rw [K26 _ _ (S02 _ _ e) np8] at n8; cases n8
  walk_at "w"
  refine k ⟨p, tr, d1, d2, dd, dn, wt⟩ sm H9 rfl (fun b hb => ?_) ⟨dx, [], f9, hT9, g4, .nil, g6, g8, e46, e48, e68⟩ hm hl ((Kp.same S02).trans K29)
  simp only [SA.own, Ul, UK, or_false] at hb
  rcases hb with rfl | rfl | rfl | rfl | rfl | rfl
  ·exact n1
  ·exact free m1
  ·exact free m2
  ·exact fr4
  ·exact fr6
  ·exact fr8
def ZQB (a : Ad) : Sp := fun vs H Q _ => ∃ (S : SA) (n t : Int) (o : Option Int) (sm : PL) (c : Nat) (ds : List (Int × Option Int)) (ts : List Int) (ws : List V), vs = [.ref S.p, .int t, ZHO o] /\ ZCg a H S n sm c ds ts ws /\
 Tm t /\ (o = none -> (ZCx sm t).isSome = true) /\ c <= 900 /\ sm.length <= 900 /\ ts.length <= 900 /\
 ∀ H', ZCg a H' S n (ZIg sm t o) (c + 1) ds (ts ++ [t]) ws -> FrS S H H' -> Q .non H'
theorem ZI1 : ZCd ["self", "t", "h"] ["self", "t", "h"] (ZCU ZFA) := ZC6
theorem ZI2 (T : Txt K mg a) : ZCi P w K mg base CX0 5 a.Zn a.Zq ["self", "t", "h"] (ZQB a) := by
 refine T.ZAE.ok ZI1 (by walk_at "l") (fun cdv A outer s H vs Q E hr h => ?_)
 ·obtain ⟨S, n, t, o, sm, c, ds, ts, ws, rfl, hS, ht, ho, hc, hsl, htl, k⟩ := h
  refine ⟨_, QB.h (ZCS (ZDi (ZDD (ZKI) (qv 2) ZE3 (ZDL _)) (ZCV (ZC4 (ZDZ (ZDW K rfl (qv 0)) T.ZG T.ZAd (ZLF T) hr T.ZAj .nil ZDh (ZCQ (qv 1) ZCR)))) (ZCV (ZC4 (ZDZ (ZDW K rfl (qv 0)) T.ZG T.Jv (ZHp T) hr T.Jt .nil ZDh (ZCQ (qv 1) (ZCQ (qv 2) ZCR)))))) (ZCV (ZC4 (ZJ0 PySem.F.plainAttrs_list PySem.F.slot_list_append PySem.F.type_list_append ZE0 (ZDW K rfl (qv 0)) (ZCQ (qv 1) ZCR))))), ?_⟩
  walk_at "s"
  have fin : ∀ H1, ZCt a.ZB H1 S.tr n S.d1 S.d2 (ZIg sm t o) (c + 1) -> Fr3 S.tr S.d1 S.d2 H H1 -> ZCg a H1 S n (ZIg sm t o) (c + 1) ds ts ws := fun H1 hT F => hS.fr3 F hT
  obtain ⟨dx, vs, hp, hT, _⟩ := id hS
  obtain ⟨dy, kvs, hq, _⟩ := id hT
  walk_at "w"
  cases o with
  | none =>
   obtain ⟨v, hv⟩ := Option.isSome_iff_exists.mp (ho rfl)
   refine ZDe (fun _ => ?_) (fun h => absurd rfl h)
   walk_at "w"
   refine ZDR hq ZFf ?_
   walk_at "w"
   refine ⟨S.tr, S.d1, S.d2, n, t, v, sm, c, rfl, hT, hv, by omega, fun H1 hT1 F1 => ?_⟩
   have hS1 := fin H1 hT1 F1
   obtain ⟨dx1, vs1, hp1, hT1', hd1, hD1, hn1, hw1, hne⟩ := id hS1
   walk_at "w"
   refine ⟨tyL hn1, ?_⟩
   walk_at "w"
   refine ZFj hn1 (by rw [Ui]; exact Uu htl (by decide)) fun H2 f2 K2 => ?_
   walk_at "w"
   exact k H2 (hS1.kpDone K2 (by rw [UN]; exact f2)) ((FrS.fr3 F1).trans (.kp K2 (by simp [SA.own])))
  | some h =>
   refine ZDe (fun h => by simp [ZHO] at h) (fun _ => ?_)
   walk_at "w"
   refine ZDR hq ZFf ?_
   walk_at "w"
   refine ⟨S.tr, S.d1, S.d2, n, t, h, sm, c, rfl, hT, ht, by omega, by omega, fun H1 hT1 F1 => ?_⟩
   have hS1 := fin H1 hT1 F1
   obtain ⟨dx1, vs1, hp1, hT1', hd1, hD1, hn1, hw1, hne⟩ := id hS1
   walk_at "w"
   refine ⟨tyL hn1, ?_⟩
   walk_at "w"
   refine ZFj hn1 (by rw [Ui]; exact Uu htl (by decide)) fun H2 f2 K2 => ?_
   walk_at "w"
   exact k H2 (hS1.kpDone K2 (by rw [UN]; exact f2)) ((FrS.fr3 F1).trans (.kp K2 (by simp [SA.own])))
def ZUP (a : Ad) : Sp := fun vs H Q _ => ∃ (S : SA) (n t : Int) (o : Option Int) (sm : PL) (c : Nat) (ds : List (Int × Option Int)) (ts : List Int) (ws : List V), vs = [.ref S.p, .int t, ZHO o] /\ ZCg a H S n sm c ds ts ws /\
 Tm t /\ (o = none -> (ZCx sm t).isSome = true) /\ c <= 900 /\ sm.length <= 900 /\ ts.length <= 900 /\ ds.length <= 900 /\
 ∀ H', ZCg a H' S n (ZIg sm t o) (c + 1) (ds ++ [(t, ZCx sm t)]) (ts ++ [t]) ws -> FrS S H H' -> Q (ZHO (ZCx sm t)) H'
theorem ZHq : ZCd ["self", "t", "h", "before"] ["self", "t", "h"] (ZCU ZGd) := ZC6
theorem ZLf (T : Txt K mg a) : ZCi P w K mg base CX0 6 a.Yl a.Yd ["self", "t", "h"] (ZUP a) := by
 refine T.ZA8.ok ZHq (by walk_at "l") (fun cdv A outer s H vs Q E hr h => ?_)
 ·obtain ⟨S, n, t, o, sm, c, ds, ts, ws, rfl, hS, ht, ho, hc, hsl, htl, hdl, k⟩ := h
  have hu := ZEK hr
  refine ⟨_, QB.h (ZCS (qsS (i := 3) ZHq.nd (ZGT hu (ZDW K rfl (ZDW K rfl (qv 0))) (qv 1))) (ZCS (ZC4 (ZDZ (qv 0) T.ZH T.ZAG (ZI2 T) hr T.ZAH .nil ZDh (ZCQ (qv 1) (ZCQ (qv 2) ZCR)))) (ZCS (ZC4 (ZJ0 PySem.F.plainAttrs_list PySem.F.slot_list_append PySem.F.type_list_append ZE0 (ZDW K rfl (qv 0)) (ZCQ (ZDk (ZCQ (qv 1) (ZCQ (qv 3) ZCR))) ZCR))) (ZCV (ZCj (qv 3)))))), ?_⟩
  walk_at "s"
  obtain ⟨dx, vs, hp, hT, _⟩ := id hS
  obtain ⟨dy, kvs, hq, hd1, _⟩ := id hT
  walk_at "w"
  refine ZNn hd1 ?_
  walk_at "w"
  refine ZPa hd1 ?_
  rw [ZQA]
  walk_at "w"
  refine ZDR hp ZHN ?_
  walk_at "w"
  refine ⟨S, n, t, o, sm, c, ds, ts, ws, rfl, hS, ht, ho, hc, hsl, htl, fun H1 hS1 F1 => ?_⟩
  obtain ⟨dx1, vs1, hp1, hT1, hd1, hD1, _⟩ := id hS1
  walk_at "w"
  refine ⟨tyL hd1, ?_⟩
  walk_at "w"
  refine ZCm (by show 2 <= sizeLine; decide) fun b H2 n2 f2 S2 => ?_
  walk_at "w"
  refine ZFj (S2 _ _ hd1) (by rw [hD1.len]; exact Uu hdl (by decide)) fun H3 f3 K3 => ?_
  have nt : ∀ {b : Addr} {xs : List V}, H2 b = some (.tup xs) -> H3 b = some (.tup xs) := fun e => K3 _ _ e (fun z => by rw [z, S2 _ _ hd1] at e; cases e)
  walk_at "w"
  exact k H3 ((hS1.same S2).kpDeeds K3 f3 (((hD1.tups fun b xs e => S2 _ _ e).tups fun b xs e => nt e).snoc (q := (t, ZCx sm t)) (nt f2))) ((F1.trans (.same S2)).trans (.kp K3 (by simp [SA.own])))
def ZTz (a : Ad) : Sp := fun vs H Q _ => ∃ (S : SA) (n t h : Int) (sm : PL) (c : Nat) (ds : List (Int × Option Int)) (ts : List Int) (ws : List V), vs = [.ref S.p, .int t, .int h] /\ ZCg a H S n sm c ds ts ws /\
 Tm t /\ c <= 900 /\ sm.length <= 900 /\ ts.length <= 900 /\ ds.length <= 900 /\
 ∀ H', ZCg a H' S n (ZCn sm t h) (c + 1) (ds ++ [(t, ZCx sm t)]) (ts ++ [t]) ws -> FrS S H H' -> Q (ZHO (ZCx sm t)) H'
theorem ZLG : ZCd ["self", "t", "h"] ["self", "t", "h"] (ZCU ZF0) := ZC6
theorem ZHP (T : Txt K mg a) : ZCi P w K mg base CX0 7 a.YN a.YO ["self", "t", "h"] (ZTz a) := by
 refine T.ZAh.ok ZLG (by walk_at "l") (fun cdv A outer s H vs Q E hr h => ?_)
 ·obtain ⟨S, n, t, h, sm, c, ds, ts, ws, rfl, hS, ht, hc, hsl, htl, hdl, k⟩ := h
  refine ⟨_, QB.h (ZCS (ZC4 (qcS (ZGm T) hr.m T.Yz T.Zx.kp T.Yy (ZCQ (qv 1) ZCR))) (ZCV (ZCj (ZDZ (qv 0) T.ZH T.ZAr (ZLf T) hr T.ZA5 .nil ZDh (ZCQ (qv 1) (ZCQ (qv 2) ZCR)))))), ?_⟩
  walk_at "s"
  obtain ⟨dx, vs, hp, hT, _⟩ := id hS
  walk_at "w"
  refine ⟨t, rfl, ht, ?_⟩
  walk_at "w"
  refine ZDR hp ZHN ?_
  walk_at "w"
  exact ⟨S, n, t, some h, sm, c, ds, ts, ws, rfl, hS, ht, (fun z => by cases z), hc, hsl, htl, hdl, fun H1 hS1 F1 => k H1 hS1 F1⟩
def ZQC (a : Ad) : Sp := fun vs H Q _ => ∃ (S : SA) (q : Addr) (n b y m : Int) (sm : PL) (c : Nat) (ds : List (Int × Option Int)) (ts : List Int) (ws : List V), vs = [.ref S.p, .ref q] /\ ZCg a H S n sm c ds ts ws /\ ZIH H q b y m /\
 ∀ (u : Addr) (us : List V) (fs : List (Option (PL))) (n' : Int) (H' : Hp), H' u = some (.tup us) -> ZDO H' us fs -> ZDc sm b y m.toNat fs -> ZCg a H' S n' sm c ds ts ws -> Kp S.tr H H' -> Q (.ref u) H'
theorem ZI3 : ZCd ["self", "window"] ["self", "window"] (ZCU ZFB) := ZC6
theorem ZI4 (T : Txt K mg a) : ZCi P w K mg base CX0 7 a.Zm a.Zo ["self", "window"] (ZQC a) := by
 refine T.ZAC.ok ZI3 (by walk_at "l") (fun cdv A outer s H vs Q E hr h => ?_)
 ·obtain ⟨S, q, n, b, y, m, sm, c, ds, ts, ws, rfl, hS, hW, k⟩ := h
  refine ⟨_, QB.h (ZCV (ZCj (ZDZ (ZDW K rfl (qv 0)) T.ZG T.ZAP (ZJr T) hr T.ZAM .nil ZDh (ZCQ (qv 1) ZCR)))), ?_⟩
  walk_at "s"
  obtain ⟨dx, vs, hp, hT, _⟩ := id hS
  obtain ⟨dy, kvs, hq, hd1, _⟩ := id hT
  walk_at "w"
  refine ZDR hq ZFf ?_
  walk_at "w"
  exact ⟨S.tr, q, S.d1, S.d2, n, b, y, m, sm, c, rfl, hT, hW, fun u us fs n' H1 h1 g1 z1 hT1 K1 => k u us fs n' H1 h1 g1 z1 (hS.fr3 (ZTx K1) hT1) K1⟩
end
section
variable {a : Ad} {H H' : Hp} {S : SA} {n : Int} {sm : PL} {c : Nat} {ds : List (Int × Option Int)} {ts : List Int} {ws : List V}
theorem ZCg.live (h : ZCg a H S n sm c ds ts ws) : ∀ b ∈ S.p :: S.own, ∃ o, H b = some o := by
 obtain ⟨dx, vs, h1, ⟨dy, kvs, t1, t2, t3, _⟩, h3, h4, h5, h6, h7⟩ := h
 intro b hb
 simp only [SA.own, Ul, UK, or_false] at hb
 rcases hb with rfl | rfl | rfl | rfl | rfl | rfl | rfl
 ·exact ⟨_, h1⟩
 ·exact ⟨_, t1⟩
 ·exact ⟨_, t2⟩
 ·exact ⟨_, t3⟩
 ·exact ⟨_, h3⟩
 ·exact ⟨_, h5⟩
 ·exact ⟨_, h6⟩
theorem ZCg.noTup (h : ZCg a H S n sm c ds ts ws) : ∀ b ∈ S.own, ∀ xs, H b ≠ some (.tup xs) := by
 obtain ⟨dx, vs, h1, ⟨dy, kvs, t1, t2, t3, _⟩, h3, h4, h5, h6, h7⟩ := h
 intro b hb xs e
 simp only [SA.own, Ul, UK, or_false] at hb
 rcases hb with rfl | rfl | rfl | rfl | rfl | rfl
 ·rw [t1] at e; cases e
 ·rw [t2] at e; cases e
 ·rw [t3] at e; cases e
 ·rw [h3] at e; cases e
 ·rw [h5] at e; cases e
 ·rw [h6] at e; cases e
theorem ZCg.frL (h : ZCg a H S n sm c ds ts ws) {l : List Addr} (f : FrL l H H') (d : ∀ b ∈ l, b ∉ S.p :: S.own) (nt : ∀ b ∈ l, ∀ xs, H b ≠ some (.tup xs)) : ZCg a H' S n sm c ds ts ws := by
 obtain ⟨dx, vs, h1, ⟨dy, kvs, t1, t2, t3, t4, t5, t6⟩, h3, h4, h5, h6, h7⟩ := h
 have k : ∀ b o, H b = some o -> b ∈ S.p :: S.own -> H' b = some o := fun b o e m => f _ _ e fun z => d b z m
 have kt : ∀ b xs, H b = some (.tup xs) -> H' b = some (.tup xs) := fun b xs e => f _ _ e fun z => nt b z xs e
 exact ⟨dx, vs, k _ _ h1 (by simp), ⟨dy, kvs, k _ _ t1 (by simp [SA.own]), k _ _ t2 (by simp [SA.own]), k _ _ t3 (by simp [SA.own]), t4, t5.tups kt, t6⟩, k _ _ h3 (by simp [SA.own]), h4.tups kt, k _ _ h5 (by simp [SA.own]), k _ _ h6 (by simp [SA.own]), h7⟩
end
theorem ZSB {cv ps : PL} {p : Int × Int} (hasc : Asc cv) (hnd : (ps.map (·.1)).Nodup) (hs : ∀ q ∈ ps, q ∈ cv) (hp : p ∈ cv) (q : Int × Int) : q ∈ ZCn ps p.1 p.2 ↔ q ∈ ps \/ q = p := by
 obtain ⟨t, h⟩ := q
 rw [<- ZDl (ZED hnd), ZH3, <- ZDl hnd]
 by_cases e : t = p.1
 ·rw [if_pos e]
  constructor
  ·intro z
   refine .inr ?_
   rw [e, <- Option.some.inj z]
  ·rintro (z | z)
   ·have := ZGA hasc (hs _ ((ZDl hnd).mp z)) hp e
    rw [<- this]
   ·rw [<- z]
 ·rw [if_neg e]
  constructor
  ·exact .inl
  ·rintro (z | z)
   ·exact z
   ·rw [<- z] at e
    exact absurd rfl e
theorem ZL5 {cv : PL} (hasc : Asc cv) : ∀ (prs acc : PL), (acc.map (·.1)).Nodup -> (∀ q ∈ acc, q ∈ cv) -> (∀ q ∈ prs, q ∈ cv) -> ∀ q, q ∈ prs.foldl (fun m p => ZCn m p.1 p.2) acc ↔ q ∈ acc \/ q ∈ prs
 | [], acc, _, _, _, q => by simp
 | p :: prs, acc, hn, ha, hp, q => by
  have hpm := ZSB hasc hn ha (hp p Ux)
  rw [List.foldl_cons, ZL5 hasc prs _ (ZED hn) (fun z hz => by
   rcases (hpm z).mp hz with hz | rfl
   ·exact ha z hz
   ·exact hp z Ux) (fun z hz => hp z (Us _ hz)), hpm, Ul, or_assoc]
def ZDP (fs : List (Option (PL))) : PL := fs.flatMap fun o => o.getD []
theorem ZHQ {fs : List (Option (PL))} {r : Int × Int} : r ∈ ZDP fs ↔ ∃ qs, some qs ∈ fs /\ r ∈ qs := by
 unfold ZDP
 rw [List.mem_flatMap]
 constructor
 ·rintro ⟨o, ho, hr⟩
  cases o with
  | none => cases hr
  | some qs => exact ⟨qs, ho, hr⟩
 ·rintro ⟨qs, ho, hr⟩
  exact ⟨some qs, ho, hr⟩
section
variable {P : Program} {w : World} {K : W.Frag} {mg : Str -> Option Value} {base : Heap} {a : Ad}
def ZQD (K : W.Frag) : Sp := fun vs H Q _ => ∃ (t : Addr) (us : List V) (fs : List (Option (PL))) (cv : PL), vs = [.ref t] /\ H t = some (.tup us) /\ ZDO H us fs /\ fs.length <= 15 /\ Asc cv /\ (∀ qs, some qs ∈ fs -> ∀ r ∈ qs, r ∈ cv) /\
 ∀ (t' : Addr) (kp : PL) (H' : Hp), PrT H' t' kp -> Asc kp -> kp.length <= 100 -> (∀ r, r ∈ kp ↔ ∃ qs, some qs ∈ fs /\ r ∈ qs) -> ZCW H H' -> Q (.ref t') H'
theorem ZGh : ZCd ["fours", "samples", "four"] ["fours"] (ZCU ZHA) := ZC6
theorem ZM8 (T : Txt K mg a) : ZCi P w K mg base CX0 2 a.JR a.Y6 ["fours"] (ZQD K) := by
 refine T.ZAA.ok ZGh (by walk_at "l") (fun cdv A outer s H vs Q E hr h => ?_)
 ·obtain ⟨t, us, fs, cv, rfl, hT, hF, hlen, hasc, hin, k⟩ := h
  have hul : us.length = fs.length := hF.len
  refine ⟨_, QB.h (ZCS (qsS (i := 1) ZGh.nd (ZDm ZCR)) (ZCS (ZDs PassesOwn.never rfl (ZKS K rfl (qv 0)) (qgN (i := 2) ZGh.nd) (ZCV (ZDi (ZDD (ZLr) (qv 2) ZE3 (ZDL _)) (ZCV (ZC4 (ZJ0 PySem.F.plainAttrs_list PySem.F.slot_list_extend PySem.F.type_list_extend ZMf (qv 1) (ZCQ (qv 2) ZCR)))) ZDJ))) (ZCV (ZCj (qcS (ZLZ T) hr T.ZAx T.Ju.kp T.ZAq (ZCQ (qv 1) ZCR)))))), ?_⟩
  walk_at "s"
  walk_at "w"
  refine ZCm (by show 0 <= sizeLine; decide) fun l H1 n1 f1 S1 => ?_
  have hT1 := S1 _ _ hT
  walk_at "w"
  refine ZHY (xs := us) (fun i U H' => (∃ v2, U = [some (.ref t), some (.ref l), v2]) /\ ZCW H H' /\ ∃ vs, H' l = some (.lst vs) /\ ZCY H' vs (ZDP (fs.take i)) /\ (ZDP (fs.take i)).length <= 4 * i) ?_ ?_ ?_ ?_
  ·exact ⟨⟨_, rfl⟩, S1, [], f1, .nil, UE _⟩
  ·rintro i U H2 _ ⟨_, S2, _⟩
   exact SqT.of (S2 _ _ hT)
  ·rintro i xv U H2 hx ⟨⟨v2, rfl⟩, S2, vs, f2, hP2, hl2⟩
   obtain ⟨o, ho, hd⟩ := (hF.same S2).at hx
   have hi : i < fs.length := by have := (Uj.mp ho).1; exact this
   have e3 : ZDP (fs.take (i + 1)) = ZDP (fs.take i) ++ o.getD [] := by
    unfold ZDP
    rw [Vc, ho, List.flatMap_append]
    simp
   walk_at "w"
   cases hd with
   | non =>
    refine ZJx (fun h => absurd rfl h) (fun _ => ?_)
    walk_at "w"
    refine ⟨⟨_, rfl⟩, S2, vs, f2, ?_, ?_⟩
    ·rw [e3]; simpa using hP2
    ·rw [e3]; simp; omega
   | @pr c qs hq hl4 =>
    obtain ⟨ws, gq, pq⟩ := hq
    refine ZJx (fun _ => ?_) (fun h => by cases h)
    walk_at "w"
    refine ⟨tyL f2, ?_⟩
    walk_at "w"
    refine ZMg f2 gq ?_ ?_ fun H3 f3 K3 => ?_
    ·intro j z
     cases pq with
     | nil => cases z
     | cons a t =>
      obtain ⟨c', e, _⟩ := a
      rw [List.head?_cons, e] at z
      cases z
    ·rw [hP2.length, pq.length, hl4]
     exact UG (show _ <= 1000 by omega) (by decide)
    walk_at "w"
    refine ⟨⟨_, rfl⟩, S2.kpN n1 K3, _, f3, ?_, ?_⟩
    ·rw [e3]
     exact (ZCY.kpL K3 f2 hP2).app (ZCY.kpL K3 f2 pq)
    ·rw [e3, UR]
     show _ + qs.length <= _
     omega
  ·rintro U H2 ⟨⟨v2, rfl⟩, S2, vs, f2, hP2, hl2⟩
   rw [hul, US] at hP2 hl2
   walk_at "w"
   refine ⟨true, l, vs, _, rfl, f2, hP2, by omega, fun t' kp H3 hT3 hC hlk S3 => ?_⟩
   refine k t' kp H3 hT3 hC.1 (by omega) (fun r => ?_) (S2.trans S3)
   have hm : ∀ q ∈ ZDP fs, q ∈ cv := fun q hq => by
    obtain ⟨qs, h1, h2⟩ := ZHQ.mp hq
    exact hin qs h1 q h2
   rw [<- ZHQ]
   obtain ⟨t0, h0⟩ := r
   rw [hC.2, ZDl (ZIa _)]
   have := ZL5 hasc (ZDP fs) [] Vn (fun q hq => by cases hq) hm (t0, h0)
   rw [show ZD4 (ZDP fs) = (ZDP fs).foldl (fun m p => ZCn m p.1 p.2) [] from rfl, this]
   simp
def ZOG (cv : PL) (x z : Int) (o : Option (PL)) : Prop := (o = none /\ ZC5 cv x z = []) \/ ∃ q0 q1 q2 q3, o = some [q0, q1, q2, q3] /\ (∀ r ∈ [q0, q1, q2, q3], r ∈ ZC5 cv x z) /\ ∀ p ∈ ZC5 cv x z, q0.1 <= p.1 /\ p.1 <= q1.1 /\ q2.2 <= p.2 /\ p.2 <= q3.2
def ZI5 (cv : PL) (b y m : Int) (fs : List (Option (PL))) : Prop := fs.length = m.toNat /\ ∀ (k : Nat) o, fs[k]? = some o -> ZOG cv (b + (k : Int) * y) (b + (k : Int) * y + y) o
theorem ZI5.mem {cv : PL} {b y m : Int} {fs : List (Option (PL))} (h : ZI5 cv b y m fs) {qs : PL} (hq : some qs ∈ fs) : ∃ k : Nat, (k : Int) < m /\ ∀ r ∈ qs, r ∈ cv /\ b + (k : Int) * y <= r.1 /\ r.1 < b + (k : Int) * y + y := by
 obtain ⟨k, hk, e⟩ := UO hq
 refine ⟨k, by rw [h.1] at hk; omega, fun r hr => ?_⟩
 rcases h.2 k _ (by rw [Uc hk, e]) with ⟨z, _⟩ | ⟨q0, q1, q2, q3, e4, h4, _⟩
 ·cases z
 ·obtain rfl := Option.some.inj e4
  exact ZDF.mp (h4 r hr)
end
def bfl (d : Addr) : List (Str × V) := [("stores", V.ref d)]
theorem ZIh {d : Addr} : (bfl d).lookup ("stores" : Str) = some (.ref d) := by
 unfold bfl
 rw [Um, beq_self_eq_true]
theorem ZLH {d : Addr} {m : Str} (h1 : (m == ("stores" : Str)) = false) : (bfl d).lookup m = none := by
 unfold bfl
 rw [Um, h1]
 rfl
structure SS where
 S : SA
 sm : PL
 c : Nat
 ds : List (Int × Option Int)
 ts : List Int
 ws : List V
def SS.At (a : Ad) (H : Hp) (q : SS) : Prop := ∃ n, ZCg a H q.S n q.sm q.c q.ds q.ts q.ws
def SS.all (q : SS) : List Addr := q.S.p :: q.S.own
def ZD7 (m : List (Str × SS)) : List (Str × V) := m.map fun q => (q.1, V.ref q.2.S.p)
theorem ZFq (m : List (Str × SS)) (k : Str) : ZCf (ZD7 m) k = (ZCf m k).map fun q => V.ref q.S.p := ZK1 (fun q : SS => V.ref q.S.p) m k
structure BIn (a : Ad) (H : Hp) (p d : Addr) (m : List (Str × SS)) : Prop where
 nd : (m.map (·.1)).Nodup
 st : ∀ q ∈ m, q.2.At a H
 pw : m.Pairwise fun x y => ∀ b ∈ x.2.all, b ∉ y.2.all
 ap : ∀ q ∈ m, p ∉ q.2.all /\ d ∉ q.2.all
def ZCc (a : Ad) (H : Hp) (p d : Addr) (m : List (Str × SS)) : Prop := (∃ dx, H p = some (.ins a.ZD dx (bfl d))) /\ H d = some (.dK (dkS (ZD7 m))) /\ BIn a H p d m
def BL (p d : Addr) (m : List (Str × SS)) : List Addr := p :: d :: m.flatMap fun q => q.2.all
def trs (m : List (Str × SS)) : List Addr := m.map fun q => q.2.S.tr
theorem ZCr {p d b : Addr} {m : List (Str × SS)} : b ∈ BL p d m ↔ b = p \/ b = d \/ ∃ q ∈ m, b ∈ q.2.all := by simp [BL, List.mem_flatMap]
theorem ZQc {α : Type} {R : α -> α -> Prop} (sy : ∀ x y, R x y -> R y x) : ∀ {l : List α}, l.Pairwise R -> ∀ {x y : α}, x ∈ l -> y ∈ l -> x ≠ y -> R x y
 | [], _, _, _, h, _, _ => by cases h
 | z :: l, h, x, y, hx, hy, n => by
  rw [List.pairwise_cons] at h
  rcases Ul.mp hx with e1 | hx <;> rcases Ul.mp hy with e2 | hy
  ·exact absurd (e1.trans e2.symm) n
  ·rw [e1]; exact h.1 y hy
  ·rw [e2]; exact sy _ _ (h.1 x hx)
  ·exact ZQc sy h.2 hx hy n
section
variable {a : Ad} {H H' : Hp} {p d : Addr} {m : List (Str × SS)} {l : List Addr}
theorem SS.At.frL {q : SS} (h : q.At a H) (f : FrL l H H') (n : ∀ b ∈ l, b ∉ q.all) (nt : ∀ b ∈ l, ∀ xs, H b ≠ some (.tup xs)) : q.At a H' := by
 obtain ⟨x, h⟩ := h
 exact ⟨x, h.frL f n nt⟩
theorem SS.At.same {q : SS} (h : q.At a H) (s : ZCW H H') : q.At a H' := by
 obtain ⟨x, h⟩ := h
 exact ⟨x, h.same s⟩
theorem BIn.frL (h : BIn a H p d m) (f : FrL l H H') (n : ∀ q ∈ m, ∀ b ∈ l, b ∉ q.2.all) (nt : ∀ b ∈ l, ∀ xs, H b ≠ some (.tup xs)) : BIn a H' p d m := ⟨h.nd, fun q hq => (h.st q hq).frL f (n q hq) nt, h.pw, h.ap⟩
theorem BIn.same (h : BIn a H p d m) (s : ZCW H H') : BIn a H' p d m := ⟨h.nd, fun q hq => (h.st q hq).same s, h.pw, h.ap⟩
theorem BIn.apart (h : BIn a H p d m) {x y : Str × SS} (hx : x ∈ m) (hy : y ∈ m) (n : x ≠ y) : ∀ b ∈ x.2.all, b ∉ y.2.all := ZQc (fun _ _ h b hb z => h b z hb) h.pw hx hy n
theorem BIn.look (h : BIn a H p d m) {q : Str × SS} (hq : q ∈ m) (g : q.2.At a H') (k : Kp q.2.S.tr H H') : BIn a H' p d m := by
 refine ⟨h.nd, fun x hx => ?_, h.pw, h.ap⟩
 by_cases e : x = q
 ·rw [e]; exact g
 ·have hA := h.apart hq hx (Ne.symm e)
  obtain ⟨n, hS⟩ := h.st q hq
  refine (h.st x hx).frL (l := [q.2.S.tr]) (FrL.kp k (by simp)) (fun b hb => ?_) fun b hb xs => ?_
  ·rw [Ud.mp hb]
   exact hA _ (by simp [SS.all, SA.own])
  ·rw [Ud.mp hb]
   exact hS.noTup _ (by simp [SA.own]) xs
theorem ZCc.bin (h : ZCc a H p d m) : BIn a H p d m := h.2.2
theorem ZCc.frL (h : ZCc a H p d m) (f : FrL l H H') (n : ∀ b ∈ l, b ∉ BL p d m) (nt : ∀ b ∈ l, ∀ xs, H b ≠ some (.tup xs)) : ZCc a H' p d m := by
 obtain ⟨⟨dx, h1⟩, h2, h3⟩ := h
 exact ⟨⟨dx, f _ _ h1 fun z => n _ z (ZCr.mpr (.inl rfl))⟩, f _ _ h2 fun z => n _ z (ZCr.mpr (.inr (.inl rfl))), h3.frL f (fun q hq b hb z => n b hb (ZCr.mpr (.inr (.inr ⟨q, hq, z⟩)))) nt⟩
theorem ZCc.same (h : ZCc a H p d m) (s : ZCW H H') : ZCc a H' p d m := by
 obtain ⟨⟨dx, h1⟩, h2, h3⟩ := h
 exact ⟨⟨dx, s _ _ h1⟩, s _ _ h2, h3.same s⟩
theorem ZCc.live (h : ZCc a H p d m) : ∀ b ∈ BL p d m, ∃ o, H b = some o := fun b hb => by
 obtain ⟨⟨dx, h1⟩, h2, h3⟩ := h
 rcases ZCr.mp hb with rfl | rfl | ⟨q, hq, z⟩
 ·exact ⟨_, h1⟩
 ·exact ⟨_, h2⟩
 ·obtain ⟨n, hS⟩ := h3.st q hq
  exact hS.live b z
theorem ZCc.fresh (h : ZCc a H p d m) {b : Addr} (e : H b = none) : b ∉ BL p d m := fun z => by
 obtain ⟨o, e2⟩ := h.live b z
 rw [e] at e2; cases e2
theorem ZCc.kpL (h : ZCc a H p d m) {q : Addr} {xs : List V} (k : Kp q H H') (hq : H q = some (.lst xs)) (nq : q ∉ BL p d m) : ZCc a H' p d m :=
 h.frL (l := [q]) (FrL.kp k (by simp)) (fun b hb => by rw [Ud.mp hb]; exact nq) fun b hb ys => by rw [Ud.mp hb, hq]; intro z; cases z
theorem ZCc.pur (h : ZCc a H p d m) {q : Addr} (hp : Pur H q) (k : Kp q H H') (nq : q ∉ BL p d m) : ZCc a H' p d m := by
 obtain ⟨x, n, c, e, _⟩ := hp
 exact h.kpL k e nq
theorem ZCc.looked (h : ZCc a H p d m) (g : BIn a H' p d m) (f : FrL (trs m) H H') : ZCc a H' p d m := by
 obtain ⟨⟨dx, h1⟩, h2, h3⟩ := h
 have nt : ∀ b, (∀ q ∈ m, b ∉ q.2.all) -> b ∉ trs m := fun b n z => by
  obtain ⟨q, hq, rfl⟩ := Uy.mp z
  exact n q hq (by simp [SS.all, SA.own])
 exact ⟨⟨dx, f _ _ h1 (nt _ fun q hq => (h3.ap q hq).1)⟩, f _ _ h2 (nt _ fun q hq => (h3.ap q hq).2), g⟩
theorem ZOH {k : Str} {q q' : SS} (nd : (m.map (·.1)).Nodup) (hg : ZCf m k = some q) (e : q'.S = q.S) : ZD7 (ZCv m k q') = ZD7 m /\ (ZCv m k q').map (·.1) = m.map (·.1) := by
 have ha : (m.any fun p => decide (p.1 = k)) = true := by
  rw [UQ]
  exact ⟨_, ZDG hg, by simp⟩
 unfold ZCv
 rw [if_pos ha]
 unfold ZD7
 constructor
 ·rw [UU]
  refine UL fun x hx => ?_
  simp only [Function.comp]
  split
  ·rename_i c
   have h1 : ZCf m k = some x.2 := ZDj nd (by rw [<- c]; exact hx)
   rw [hg] at h1
   rw [e, Option.some.inj h1]
  ·rfl
 ·rw [UU]
  refine UL fun x hx => ?_
  simp only [Function.comp]
  split <;> rfl
theorem ZLI {k : Str} {q q' : SS} (n : (m.map (·.1)).Nodup) (hg : ZCf m k = some q) {x : Str × SS} (hx : x ∈ ZCv m k q') : x = (k, q') \/ (x ∈ m /\ x.1 ≠ k) := by
 have ha : (m.any fun p => decide (p.1 = k)) = true := by
  rw [UQ]
  exact ⟨_, ZDG hg, by simp⟩
 unfold ZCv at hx
 rw [if_pos ha] at hx
 obtain ⟨z, hz, e⟩ := Uy.mp hx
 by_cases c : z.1 = k
 ·rw [if_pos c] at e
  left; rw [<- e, c]
 ·rw [if_neg c] at e
  right; rw [<- e]; exact ⟨hz, c⟩
theorem ZSC {k : Str} {q q' : SS} (nd : (m.map (·.1)).Nodup) (hg : ZCf m k = some q) (e : q'.S = q.S) (h : m.Pairwise fun x y => ∀ b ∈ x.2.all, b ∉ y.2.all) : (ZCv m k q').Pairwise fun x y => ∀ b ∈ x.2.all, b ∉ y.2.all := by
 have ha : (m.any fun p => decide (p.1 = k)) = true := by
  rw [UQ]
  exact ⟨_, ZDG hg, by simp⟩
 have hal : ∀ x ∈ m, (if x.1 = k then (x.1, q') else x).2.all = x.2.all := fun x hx => by
  split
  ·rename_i c
   have h1 : ZCf m k = some x.2 := ZDj nd (by rw [<- c]; exact hx)
   rw [hg] at h1
   unfold SS.all
   rw [e, Option.some.inj h1]
  ·rfl
 unfold ZCv
 rw [if_pos ha, List.pairwise_map]
 exact h.imp_of_mem fun {x y} hx hy g b hb => by
  rw [hal x hx] at hb
  rw [hal y hy]
  exact g b hb
theorem ZCc.deed (h : ZCc a H p d m) {k : Str} {q q' : SS} (hg : ZCf m k = some q) (e : q'.S = q.S) (g : q'.At a H') (f : FrS q.S H H') : ZCc a H' p d (ZCv m k q') := by
 obtain ⟨⟨dx, h1⟩, h2, h3⟩ := h
 have hq := ZDG hg
 obtain ⟨n, hS⟩ := h3.st _ hq
 have apq := h3.ap _ hq
 obtain ⟨e1, e2⟩ := ZOH h3.nd hg e
 refine ⟨⟨dx, f _ _ h1 fun z => apq.1 (Us _ z)⟩, by rw [e1]; exact f _ _ h2 fun z => apq.2 (Us _ z), by rw [e2]; exact h3.nd, fun x hx => ?_, ZSC h3.nd hg e h3.pw, fun x hx => ?_⟩
 ·rcases ZLI h3.nd hg hx with rfl | ⟨hx, nx⟩
  ·exact g
  ·have hA := h3.apart hq hx fun z => nx (by rw [<- z])
   exact (h3.st x hx).frL (l := q.S.own) (fun b o eb nb => f _ _ eb nb) (fun b hb => hA b (Us _ hb)) hS.noTup
 ·rcases ZLI h3.nd hg hx with rfl | ⟨hx, nx⟩
  ·unfold SS.all
   rw [e]
   exact apq
  ·exact h3.ap x hx
theorem ZCc.more (h : ZCc a H p d m) {k : Str} {S : SA} (hg : ZCf m k = none) {H1 : Hp} (hfr : ∀ b ∈ S.p :: S.own, H b = none) (s : ZCW H H1) (g : (SS.mk S [] 0 [] [] []).At a H1) (kp : Kp d H1 H') (f : H' d = some (.dK (dkS (ZD7 (m ++ [(k, ⟨S, [], 0, [], [], []⟩)]))))) : ZCc a H' p d (m ++ [(k, ⟨S, [], 0, [], [], []⟩)]) := by
 have hl := h.live
 obtain ⟨⟨dx, h1⟩, h2, h3⟩ := h
 have npd : p ≠ d := fun z => by rw [z, h2] at h1; cases h1
 have nt : ∀ xs, H1 d ≠ some (.tup xs) := fun xs z => by rw [s _ _ h2] at z; cases z
 have fa : ∀ b ∈ BL p d m, b ∉ S.p :: S.own := fun b hb z => by
  obtain ⟨o, e⟩ := hl b hb
  rw [hfr b z] at e; cases e
 have nd' : d ∉ S.p :: S.own := fa d (ZCr.mpr (.inr (.inl rfl)))
 refine ⟨⟨dx, kp _ _ (s _ _ h1) npd⟩, f, ?_, fun x hx => ?_, ?_, fun x hx => ?_⟩
 ·rw [UN, Vk]
  refine ⟨h3.nd, by simp, fun y hy z hz e => ?_⟩
  simp only [UF, List.map_nil, Ud] at hz
  rw [ZDy] at hg
  exact hg (by rw [<- hz, <- e]; exact hy)
 ·have aux : ∀ q : SS, q.At a H1 -> d ∉ q.all -> q.At a H' := fun q hq nq => hq.frL (l := [d]) (FrL.kp kp (by simp)) (fun b hb => by rw [Ud.mp hb]; exact nq) fun b hb => by rw [Ud.mp hb]; exact nt
  rcases UI.mp hx with hx | hx
  ·exact aux _ ((h3.st x hx).same s) (h3.ap x hx).2
  ·rw [Ud.mp hx]
   exact aux _ g nd'
 ·rw [List.pairwise_append]
  refine ⟨h3.pw, List.pairwise_singleton _ _, fun x hx y hy b hb => ?_⟩
  rw [Ud.mp hy]
  exact fa b (ZCr.mpr (.inr (.inr ⟨x, hx, hb⟩)))
 ·rcases UI.mp hx with hx | hx
  ·exact h3.ap x hx
  ·rw [Ud.mp hx]
   exact ⟨fa p (ZCr.mpr (.inl rfl)), nd'⟩
end
def ZFg (k : Str) : Bool := decide (1 <= k.length) && decide (k.length <= 8) && k.cps.toList.all fun c => decide (c ∈ ("abcdefghijklmnopqrstuvwxyz" : Str).cps.toList)
theorem ZOI (K : W.Frag) : W.kitOne K (.type "str") (.type "str") = some true := by kernel_rfl
section
variable {P : Program} {w : World} {K : W.Frag} {mg : Str -> Option Value} {base : Heap} {a : Ad}
local macro_rules | `(tactic| walk_at "rd") => `(tactic| first
 | with_reducible first | refine ZJU ?_ | refine ZKx ?_ | refine ZDg (by assumption) (‹Txt _ _ _›).Zr (‹Txt _ _ _›).Zi ZIh ?_)
inductive ZI6 (H : Hp) : V -> Prop where
 | non : ZI6 H .non
 | bl (b : Bool) : ZI6 H (.bl b)
 | int (i : Int) : ZI6 H (.int i)
 | tup {p : Addr} {xs : List V} (e : H p = some (.tup xs)) : ZI6 H (.ref p)
 | lst {p : Addr} {xs : List V} (e : H p = some (.lst xs)) : ZI6 H (.ref p)
theorem ZOJ (K : W.Frag) : W.kitOne K (.type "NoneType") (.type "str") = some false := by kernel_rfl
theorem ZQE (K : W.Frag) : W.kitOne K (.type "bool") (.type "str") = some false := by kernel_rfl
theorem ZOK (K : W.Frag) : W.kitOne K (.type "int") (.type "str") = some false := by kernel_rfl
theorem ZOL (K : W.Frag) : W.kitOne K (.type "tuple") (.type "str") = some false := by kernel_rfl
theorem ZOM (K : W.Frag) : W.kitOne K (.type "list") (.type "str") = some false := by kernel_rfl
def ZQF : Sp := fun vs H Q _ => ∃ v : V, vs = [v] /\ ((∃ k : Str, v = .str k /\ k.length <= 1000 /\ ∀ H', ZCW H H' -> Q (.bl (ZFg k)) H') \/ (ZI6 H v /\ Q (.bl false) H))
theorem ZM9 : ZCd ["thing"] ["thing"] (ZCU ZFm) := ZC6
theorem ZNA (T : Txt K mg a) : ZCi P w K mg base CX0 1 a.JF a.Yx ["thing"] ZQF := by
 refine T.Jy.ok ZM9 (by walk_at "l") (fun cdv A outer s H vs Q E hr h => ?_)
 ·obtain ⟨v, rfl, hv⟩ := h
  refine ⟨_, QB.h (ZCV (ZCj (ZGt (ZCy (ZKR K rfl) rfl T.ZP ZE8 (ZCQ (qv 0) (ZCQ (ZIo (v := .ty "str") rfl T.ZAp ZSs rfl) ZCR))) (ZGt (ZKM ZFE ZFE ZCT (ZCy ZRh rfl T.ZY ZEg (ZCQ (qv 0) ZCR)) (ZFK (v := .int 8) rfl T.Jx ⟨_, rfl⟩)) (ZIY (ZCy (ZTW K rfl rfl) rfl T.ZA0 ZSu (ZCQ (ZF7 (N := ["thing"]) (sc := ZCU ZFm) (own := ["sign"]) (caps := []) (ks := []) rfl rfl rfl ⟨rfl, by decide +kernel, by decide +kernel, by decide +kernel, by decide +kernel, rfl, by decide +kernel⟩ (ZTk (qv 0)) (fun _ _ _ _ _ => ZEX (i := 0) (show List.Nodup (α := Str) ["sign"] from by decide +kernel) rfl (by walk_at "o") (.inr rfl)) (fun _ _ _ _ _ => ZFS) (fun _ _ _ _ _ => ZIp (ZTh) (qv 0) (ZFK (v := .str "abcdefghijklmnopqrstuvwxyz") rfl T.ZBB ⟨_, rfl⟩) (by with_unfolding_all rfl))) ZCR))))))), ?_⟩
  walk_at "s"
  walk_at "w"
  rcases hv with ⟨z, rfl, hl, k⟩ | ⟨hv, q⟩
  case inr =>
   cases hv with
   | non => exact ZE2 .non (ZOJ _) (ZHy (ZDp q))
   | bl b => exact ZE2 (.bl b) (ZQE _) (ZHy (ZDp q))
   | int i => exact ZE2 (.int i) (ZOK _) (ZHy (ZDp q))
   | tup e => exact ZE2 (.tup e) (ZOL _) (ZHy (ZDp q))
   | lst e => exact ZE2 (.lst e) (ZOM _) (ZHy (ZDp q))
  have hzl : z.length = z.cps.toList.length := by rw [UA]; rfl
  refine ZE2 (.str z) (ZOI _) ?_
  walk_at "w"
  refine ZEe ?_
  walk_at "w"
  refine ZRi (UG hl (by decide)) ?_
  walk_at "w"
  have e1 : ZFg z = (decide (1 <= z.length) && (decide (z.length <= 8) && z.cps.toList.all fun c => decide (c ∈ ("abcdefghijklmnopqrstuvwxyz" : Str).cps.toList))) := by unfold ZFg; rw [Bool.and_assoc]
  refine ZDe (fun h1 => ?_) (fun h1 => ?_)
  ·walk_at "w"
   refine ZDe (fun h2 => ?_) (fun h2 => ?_)
   ·walk_at "w"
    intro l hl1
    refine ZFJ z.cps.toList.length (fun i U' H' => (∃ o, U' = [o]) /\ ZCW H H' /\ H' l = some (.lst (((z.cps.toList.take i).map fun c => decide (c ∈ ("abcdefghijklmnopqrstuvwxyz" : Str).cps.toList)).map V.bl))) ?_ ?_ ?_
    ·exact ⟨⟨none, rfl⟩, ZCW.new hl1, ZCZ⟩
    ·rintro U H' ⟨_, s, f⟩
     refine ⟨by show z.cps.size <= _; rw [UA]; exact Ue _, ?_⟩
     rw [US] at f
     walk_at "w"
     refine ZTK (SqL.of f) ?_
     have e2 : ((z.cps.toList.map fun c => decide (c ∈ ("abcdefghijklmnopqrstuvwxyz" : Str).cps.toList)).all id) = ZFg z := by
      rw [e1, decide_eq_true (by omega), decide_eq_true (by omega), Bool.true_and, Bool.true_and, List.all_map]
      rfl
     rw [e2]
     exact k H' s
    ·rintro i U H' hi ⟨⟨o, rfl⟩, s, f⟩
     refine ⟨by show i < z.cps.size; rw [UA] at hi; exact hi, ?_⟩
     rintro x H'' ⟨rfl, c, hc, rfl⟩
     walk_at "w"
     refine ZEe ?_
     walk_at "w"
     refine ZTi ?_
     refine ⟨_, f, ?_, ⟨_, rfl⟩, s.kpN hl1 Kp.upd, ?_⟩
     ·rw [Ui, Ui, UY]
      exact Uu (Nat.min_le_right _ _) (Uu (show z.cps.toList.length <= 1000 by omega) (by decide))
     ·rw [ZCZ, Vc, hc, UN, UN]
      rfl
   ·have := k H (ZCW.refl _)
    rw [e1, decide_eq_false (show ¬ z.length <= 8 by simp at h2; omega), Bool.false_and, Bool.and_false] at this
    exact this
  ·refine ⟨_, rfl, ZDp ?_⟩
   have := k H (ZCW.refl _)
   rw [e1, decide_eq_false (show ¬ 1 <= z.length by simp at h1; omega), Bool.false_and] at this
   exact this
def ZSD (a : Ad) : Sp := fun vs H Q _ => ∃ p dx : Addr, vs = [.ref p] /\ H p = some (.ins a.ZD dx []) /\ ∀ (d : Addr) (H' : Hp), H d = none -> ZCc a H' p d [] -> Kp p H H' -> Q .non H'
theorem ZHf : ZCd ["self"] ["self"] (ZCU ZER) := ZC6
theorem ZHg (T : Txt K mg a) : ZCi P w K mg base CX0 1 a.ZU a.ZW ["self"] (ZSD a) := by
 refine T.Jb.ok ZHf (by walk_at "l") (fun cdv A outer s H vs Q E hr h => ?_)
 ·obtain ⟨p, dx, rfl, hp, k⟩ := h
  refine ⟨_, QB.h (ZCV (ZE7 K rfl (qv 0) ZFT)), ?_⟩
  walk_at "s"
  walk_at "w"
  refine ZK2 fun d H1 n1 f1 S1 => ?_
  have nd : d ≠ p := fun z => by rw [z, hp] at n1; cases n1
  walk_at "w"
  refine ZEa (S1 _ _ hp) T.Zr T.Zi (by show 0 < 1000; decide) fun H2 f2 K2 => ?_
  walk_at "w"
  exact k d H2 n1 ⟨⟨dx, f2⟩, K2 _ _ f1 nd, by simp, fun q hq => (by cases hq), .nil, fun q hq => by cases hq⟩ ((Kp.same S1).trans K2)
def ZLJ (a : Ad) : Sp := fun vs H Q _ => ∃ (p d : Addr) (m : List (Str × SS)) (k : Str), vs = [.ref p, .str k] /\ ZFg k = true /\ ZCc a H p d m /\ m.length <= 60 /\
 (∀ q, ZCf m k = some q -> ∀ H', ZCW H H' -> Q (.ref q.S.p) H') /\
 (ZCf m k = none -> ∀ (S : SA) (H' : Hp), (∀ b ∈ S.p :: S.own, H b = none) -> ZCc a H' p d (m ++ [(k, ⟨S, [], 0, [], [], []⟩)]) -> Kp d H H' -> Q (.ref S.p) H')
theorem ZI7 : ZCd ["self", "name"] ["self", "name"] (ZCU ZFC) := ZC6
theorem ZGE (T : Txt K mg a) : ZCi P w K mg base CX0 9 a.Zl a.Zp ["self", "name"] (ZLJ a) := by
 refine T.ZAF.ok ZI7 (by walk_at "l") (fun cdv A outer s H vs Q E hr h => ?_)
 ·obtain ⟨p, d, m, z, rfl, hz, hB, hml, k1, k2⟩ := h
  have hu := ZEK hr
  have hzl : z.length <= 1000 := by
   unfold ZFg at hz
   simp only [Bool.and_eq_true, decide_eq_true_eq] at hz
   omega
  refine ⟨_, QB.h (ZCS (ZDi (ZE4 (ZFR (qcS (ZNA T) hr.m T.ZBI T.Jy.kp T.ZBM (ZCQ (qv 1) ZCR)))) (ZCV ZGJ) ZDJ) (ZCS (ZDi (ZDD (ZMr hu) (qv 1) (ZDW K rfl (qv 0)) (by with_unfolding_all rfl)) (ZCV (ZEs hu (ZKl (dvs := [V.non]) T.ZBP (ZHe T) hr rfl T.ZBa T.JS (.cons rfl .nil) ZDh) (ZDW K rfl (qv 0)) (qv 1))) ZDJ) (ZCV (ZCj (ZEC hu (ZDW K rfl (qv 0)) (qv 1)))))), ?_⟩
  walk_at "s"
  walk_at "w"
  refine ⟨_, rfl, .inl ⟨z, rfl, hzl, fun H1 S1 => ?_⟩⟩
  rw [hz]
  have hB1 := hB.same S1
  obtain ⟨⟨dx, hp1⟩, hd1, hI1⟩ := id hB1
  walk_at "w"
  refine ZDp ?_
  walk_at "w"
  refine ZMw hd1 ?_
  rw [ZFq]
  walk_at "w"
  cases hg : ZCf m z with
  | some q =>
   refine ZDp ?_
   walk_at "w"
   refine ZGX (v := .ref q.S.p) hd1 (by rw [ZFq, hg]; rfl) ?_
   exact k1 q hg H1 S1
  | none =>
   refine ZEe ?_
   walk_at "w"
   refine ZIs fun x dx2 H2 n2 f2 S2 => ?_
   refine ⟨x, dx2, .non, [], rfl, f2, .inl ⟨rfl, rfl⟩, Vn, (fun q hq => by cases hq), UE _, fun S sm H3 eS hfr hSt hsm hsl K3 => ⟨rfl, ?_⟩⟩
   subst eS
   obtain rfl : sm = [] := List.eq_nil_iff_forall_not_mem.mpr fun r hr => by have := (hsm r).mp hr; cases this
   have S13 : ZCW H1 H3 := S2.kpN n2 K3
   have hB3 := hB1.same S13
   obtain ⟨⟨dx3, hp3⟩, hd3, hI3⟩ := id hB3
   walk_at "w"
   refine ZPr hd3 (Uu (show (ZD7 m).length <= 60 by simpa [ZD7] using hml) (by decide)) fun H4 f4 K4 => ?_
   have e4 : ZCv (ZD7 m) z (.ref S.p) = ZD7 (m ++ [(z, ⟨S, [], 0, [], [], []⟩)]) := by
    rw [ZK0 (by rw [ZFq, hg]; rfl)]
    simp [ZD7]
   rw [e4] at f4
   have fr1 : ∀ b ∈ S.p :: S.own, H1 b = none := fun b hb => by
    rcases Ul.mp hb with rfl | hb
    ·exact n2
    ·exact ZGB S2 (hfr b hb)
   have hB4 := hB1.more hg fr1 S13 ⟨0, hSt⟩ K4 f4
   obtain ⟨⟨dx4, hp4⟩, hd4, hI4⟩ := id hB4
   walk_at "w"
   refine ZGX (v := .ref S.p) hd4 ?_ ?_
   ·rw [ZFq, ZDj hI4.nd (v := ⟨S, [], 0, [], [], []⟩) (by simp)]
    rfl
   ·exact k2 hg S H4 (fun b hb => ZGB S1 (fr1 b hb)) hB4 (((Kp.same S1).trans (Kp.same S13)).trans K4)
def ZON (a : Ad) : Sp := fun vs H Q _ => ∃ (p d : Addr) (m : List (Str × SS)) (k : Str), vs = [.ref p, .str k] /\ ZFg k = true /\ ZCc a H p d m /\ m.length <= 60 /\
 ∀ (q : SS) (m' : List (Str × SS)) (H' : Hp), ZCf m' k = some q -> ((m' = m /\ ZCW H H') \/ (ZCf m k = none /\ q = ⟨q.S, [], 0, [], [], []⟩ /\ m' = m ++ [(k, q)] /\ ∀ b ∈ q.all, H b = none)) -> ZCc a H' p d m' -> Kp d H H' -> Q (.ref q.S.p) H'
theorem ZOO {a : Ad} {vs : List V} {H : Hp} {Q : VK} {E : XK} (h : ZON a vs H Q E) : ZLJ a vs H Q E := by
 obtain ⟨p, d, m, k, e, hk, hB, hl, h⟩ := h
 refine ⟨p, d, m, k, e, hk, hB, hl, fun q hq H' s => h q m H' hq (.inl ⟨rfl, s⟩) (hB.same s) (Kp.same s), fun hn S H' hf hB' K' => ?_⟩
 refine h ⟨S, [], 0, [], [], []⟩ _ H' (ZDj hB'.bin.nd (by simp)) (.inr ⟨hn, rfl, rfl, hf⟩) hB' K'
end
section
variable {P : Program} {w : World} {K : W.Frag} {mg : Str -> Option Value} {base : Heap} {a : Ad}
theorem ZQG {sm cv : PL} {x z : Int} {o : Option (PL)} (hm : ∀ r, r ∈ cv ↔ r ∈ sm) (h : Is4 (ZC5 sm x z) o) : ZOG cv x z o := by
 have e : ∀ r, r ∈ ZC5 cv x z ↔ r ∈ ZC5 sm x z := fun r => by rw [ZDF, ZDF, hm]
 rcases h with ⟨h1, h2⟩ | ⟨q0, q1, q2, q3, h0, m0, m1, m2, m3, hb⟩
 ·refine .inl ⟨h1, List.eq_nil_iff_forall_not_mem.mpr fun r hr => ?_⟩
  have := (e r).mp hr
  rw [h2] at this
  cases this
 ·refine .inr ⟨q0, q1, q2, q3, h0, fun r hr => (e r).mpr ?_, fun r hr => ?_⟩
  ·simp only [Ul, UK, or_false] at hr
   rcases hr with rfl | rfl | rfl | rfl <;> assumption
  ·have := hb r ((e r).mp hr)
   exact ⟨this.1, this.2.1, by omega, by omega⟩
theorem ZQH {sm : PL} (n : (sm.map (·.1)).Nodup) : ∃ cv, Asc cv /\ ∀ r, r ∈ cv ↔ r ∈ sm := by
 have h := ZIb n (List.mergeSort_perm (sm.map (·.1)) (fun a b => decide (a <= b))) (by
  have := List.pairwise_mergeSort (le := fun a b : Int => decide (a <= b)) (fun a b c h1 h2 => by simp at *; omega) (fun a b => by simp; omega) (sm.map (·.1))
  exact this.imp fun h => by simpa using h)
 exact ⟨_, h.1, fun r => by obtain ⟨t, x⟩ := r; rw [h.2, ZDl n]⟩
theorem FrL.tup {l : List Addr} {H H' : Hp} {b : Addr} {xs : List V} (f : FrL l H H') (nt : ∀ b ∈ l, ∀ xs, H b ≠ some (.tup xs)) (e : H b = some (.tup xs)) : H' b = some (.tup xs) := f _ _ e fun z => nt b z xs e
theorem BIn.noTup {a : Ad} {H : Hp} {p d : Addr} {m : List (Str × SS)} (h : BIn a H p d m) : ∀ b ∈ trs m, ∀ xs, H b ≠ some (.tup xs) := fun b hb xs => by
 obtain ⟨q, hq, rfl⟩ := Uy.mp hb
 obtain ⟨n, hS⟩ := h.st q hq
 exact hS.noTup _ (by simp [SA.own]) xs
local macro_rules | `(tactic| walk_at "rd") => `(tactic| first
 | with_reducible first | refine ZJU ?_ | refine ZKx ?_ | refine ZDg (by assumption) (‹Txt _ _ _›).Zr (‹Txt _ _ _›).Zi ZIh ?_)
def ZIi (sm : PL) (b y w : Int) (kp : PL) : Prop := ∃ fs, ZDc sm b y w.toNat fs /\ Asc kp /\ ∀ r, r ∈ kp ↔ ∃ qs, some qs ∈ fs /\ r ∈ qs
def ZSE (a : Ad) : Sp := fun vs H Q _ => ∃ (p d q : Addr) (m : List (Str × SS)) (b y w : Int), vs = [.ref p, .ref q] /\ ZCc a H p d m /\ m.length <= 60 /\ ZIH H q b y w /\ w <= 15 /\
 ∀ (ns : List Int) (H' : Hp), Paired (fun (x : Str × SS) (n : Int) => ∃ kp, ZIi x.2.sm b y w kp /\ n = (kp.length : Int)) m ns -> ZCc a H' p d m -> FrL (trs m) H H' -> Q (.int ns.sum) H'
theorem ZJs : ZCd ["self", "window"] ["self", "window"] (ZCU ZEl) := ZC6
theorem ZJt (T : Txt K mg a) : ZCi P w K mg base CX0 8 a.Zu a.Zt ["self", "window"] (ZSE a) := by
 refine T.ZAT.ok ZJs (by walk_at "l") (fun cdv A outer s H vs Q E hr h => ?_)
 ·obtain ⟨p, d, q, m, b, y, w, rfl, hB, hml, hW, hw15, k⟩ := h
  have hu := ZEK hr
  refine ⟨_, QB.h (ZCS (ZC4 (qcS (ZFp T) hr.m T.YV T.Zh.kp T.YW (ZCQ (qv 1) ZCR))) (ZCV (ZCj (ZCy (ZTe K rfl rfl) rfl T.ZA3 ZTZ (ZCQ (ZRn (ZF7 (N := ["self", "window"]) (sc := ZCU ZEl) (own := ["store"]) (caps := ["window"]) (ks := [1]) rfl rfl rfl ⟨rfl, by decide +kernel, by decide +kernel, by decide +kernel, by decide +kernel, rfl, by decide +kernel⟩ (ZPq (ZDW K rfl (qv 0))) (fun _ _ _ _ _ => ZEX (i := 0) (show List.Nodup (α := Str) ["store", "window"] from by decide +kernel) rfl (by walk_at "o") (.inr rfl)) (fun _ _ _ _ _ => ZFS) (fun _ _ _ _ _ => ZCy (ZF8 K rfl) rfl T.ZY ZEg (ZCQ (qcS (ZM8 T) hr.m T.ZBA T.ZAA.kp T.ZA9 (ZCQ (ZDZ (qv 0) T.ZH T.ZAB (ZI4 T) hr T.ZAD .nil ZDh (ZCQ (qv 1) ZCR)) ZCR)) ZCR)))) ZCR))))), ?_⟩
  walk_at "s"
  walk_at "w"
  refine ⟨q, b, y, w, rfl, hW.1, by have := hW.2.2.1; omega, by omega, hW.2.2.2.2.1, hW.2.2.2.2.2, ?_⟩
  obtain ⟨⟨dx, hp⟩, hd, hI⟩ := id hB
  walk_at "w"
  refine ZTo hd fun ob H1 nf f1 K1 => ?_
  intro l hl
  have npd : p ≠ d := fun z => by rw [z, hd] at hp; cases hp
  have hI1 : BIn a H1 p d m := hI.frL (l := [d]) (FrL.kp K1 (by simp)) (fun x hx b hb => by rw [Ud.mp hb]; exact (hI.ap x hx).2) fun b hb xs => by rw [Ud.mp hb, hd]; intro z; cases z
  have nlB : l ∉ BL p d m := hB.fresh (by
   cases e : H l with
   | none => rfl
   | some o =>
    by_cases z : l = d
    ·rw [z, f1] at hl; cases hl
    ·rw [K1 _ _ e z] at hl; cases hl)
  have nll : l ∉ trs m := fun z => by
   obtain ⟨x, hx, e⟩ := Uy.mp z
   exact nlB (ZCr.mpr (.inr (.inr ⟨x, hx, by rw [<- e]; simp [SS.all, SA.own]⟩)))
  have ntr : ∀ b, (∀ x ∈ m, b ∉ x.2.all) -> b ∉ trs m := fun b n z => by
   obtain ⟨x, hx, rfl⟩ := Uy.mp z
   exact n x hx (by simp [SS.all, SA.own])
  have ndt : d ∉ trs m := ntr d fun x hx => (hI.ap x hx).2
  refine ZFJ m.length (fun i U' H' => (∃ o, U' = [o, some (.ref q)]) /\ BIn a H' p d m /\ FrL (trs m) H1 H' /\ ∃ ns : List Int, H' l = some (.lst (ns.map V.int)) /\ Paired (fun (x : Str × SS) (n : Int) => ∃ kp, ZIi x.2.sm b y w kp /\ n = (kp.length : Int)) (m.take i) ns) ?_ ?_ ?_
  ·exact ⟨⟨none, rfl⟩, hI1.same (ZCW.new hl), FrL.same (ZCW.new hl), [], ZCZ, .nil⟩
  ·rintro U H2 ⟨_, hI2, F2, ns, f2, hO2⟩
   have fd2 := F2 _ _ f1 ndt
   refine ⟨⟨fd2, by simp [dkS, ZD7]⟩, ?_⟩
   rw [US] at hO2
   walk_at "w"
   refine ZPs nf fd2 fun H3 f3 K3 => ?_
   walk_at "w"
   refine ZTf (SqL.of (K3 _ _ f2 fun z => nlB (by rw [z]; exact ZCr.mpr (.inr (.inl rfl))))) ?_
   have F03 : FrL (trs m) H H3 := fun b' o' e' nb => by
    by_cases z : b' = d
    ·rw [z, f3]; rw [z, hd] at e'; exact e'
    ·exact K3 _ _ (F2 _ _ (K1 _ _ e' z) nb) z
   refine k ns H3 hO2 (hB.looked (hI2.frL (l := [d]) (FrL.kp K3 (by simp)) (fun x hx b hb => by rw [Ud.mp hb]; exact (hI.ap x hx).2) fun b hb xs => ?_) F03) F03
   rw [Ud.mp hb, fd2]; intro z; cases z
  ·rintro i U H2 hi ⟨⟨o, rfl⟩, hI2, F2, ns, f2, hO2⟩
   have fd2 := F2 _ _ f1 ndt
   refine ⟨⟨fd2, by simpa [dkS, ZD7] using hi⟩, ?_⟩
   rintro u H3 ⟨eh, pr, hpr, rfl⟩
   obtain rfl : H2 = H3 := eh.symm
   have hst : m[i] ∈ m := Vm hi
   have epr : pr = (.inr m[i].1, .ref m[i].2.S.p) := by
    unfold dkS ZD7 at hpr
    rw [Ut, Ut, Uc hi] at hpr
    exact (Option.some.inj hpr).symm
   rw [epr]
   obtain ⟨n2, hS2⟩ := hI2.st _ hst
   obtain ⟨dxS, vsS, hpS, _⟩ := id hS2
   have hW2 : ZIH H2 q b y w := ⟨FrL.tup F2 hI1.noTup (K1 _ _ hW.1 fun z => by have := hW.1; rw [z, hd] at this; cases this), hW.2⟩
   walk_at "w"
   refine ZEe ?_
   walk_at "w"
   refine ZDR hpS ZHN ?_
   walk_at "w"
   refine ⟨m[i].2.S, q, n2, b, y, w, m[i].2.sm, m[i].2.c, m[i].2.ds, m[i].2.ts, m[i].2.ws, rfl, hS2, hW2, fun u5 us5 fs n5 H5 f5 hF5 h45 hS5 K5 => ?_⟩
   obtain ⟨cv, hcv, hcm⟩ := ZQH hS2.nd
   have hFO : ZI5 cv b y w fs := ⟨h45.1, fun k' o hk => ZQG hcm (h45.2 k' o hk)⟩
   walk_at "w"
   refine ⟨u5, us5, fs, cv, rfl, f5, hF5, by rw [hFO.1]; omega, hcv, fun qs hq r hr => ?_, fun t6 kp H6 hT6 hak hlk hmk S6 => ?_⟩
   ·obtain ⟨_, _, hall⟩ := hFO.mem hq
    exact (hall r hr).1
   obtain ⟨us6, f6, hP6⟩ := id hT6
   walk_at "w"
   have f26 : H6 l = some (.lst (ns.map V.int)) := S6 _ _ (K5 _ _ f2 fun z => nll (by rw [z]; exact Uy.mpr ⟨_, hst, rfl⟩))
   rw [hP6.length]
   refine ⟨_, f26, ?_, ⟨_, rfl⟩, ?_, ?_, ns ++ [(kp.length : Int)], ?_, ?_⟩
   ·have h2 := Paired.length hO2
    rw [UY] at h2
    rw [Ui]
    exact Uu (show ns.length <= 60 by omega) (by decide)
   ·refine ((hI2.look hst ⟨n5, hS5⟩ K5).same S6).frL (l := [l]) (FrL.kp Kp.upd (by simp)) (fun x hx b' hb => ?_) fun b' hb xs => ?_
    ·rw [Ud.mp hb]
     exact fun z => nlB (ZCr.mpr (.inr (.inr ⟨x, hx, z⟩)))
    ·rw [Ud.mp hb, f26]; intro z; cases z
   ·intro b' o' e' nb
    rw [ZCe (fun z => by rw [z, hl] at e'; cases e')]
    exact S6 _ _ (K5 _ _ (F2 _ _ e' nb) fun z => nb (by rw [z]; exact Uy.mpr ⟨_, hst, rfl⟩))
   ·rw [ZCZ, UN]; rfl
   ·rw [Vc, Uc hi]
    exact Paired.snocP hO2 ⟨kp, ⟨fs, h45, hak, hmk⟩, rfl⟩
end
abbrev Cv := Str × Addr × PL
def cvR (cs : List Cv) : List (Str × V) := cs.map fun c => (c.1, V.ref c.2.1)
theorem ZQI (cs : List Cv) : (cvR cs).map (·.1) = cs.map (·.1) := by simp [cvR, UU, Function.comp_def]
theorem ZL6 (cs : List Cv) : (cvR cs).length = cs.length := by simp [cvR]
theorem ZD3 (cs : List Cv) (k : Str) : ZCf (cvR cs) k = (ZCf cs k).map fun c => V.ref c.1 := ZK1 (fun c : Addr × PL => V.ref c.1) cs k
structure ZDr (H : Hp) (cs : List Cv) : Prop where
 nd : (cs.map (·.1)).Nodup
 na : (cs.map (·.2.1)).Nodup
 hd : ∀ c ∈ cs, H c.2.1 = some (.dK (ZCl c.2.2))
 nk : ∀ c ∈ cs, (c.2.2.map (·.1)).Nodup
 nm : ∀ c ∈ cs, ZFg c.1 = true
section
variable {H H' : Hp} {cs : List Cv} {l : List Addr}
theorem ZDr.frL (h : ZDr H cs) (f : FrL l H H') (n : ∀ c ∈ cs, c.2.1 ∉ l) : ZDr H' cs := ⟨h.nd, h.na, fun c hc => f _ _ (h.hd c hc) (n c hc), h.nk, h.nm⟩
theorem ZDr.same (h : ZDr H cs) (s : ZCW H H') : ZDr H' cs := ⟨h.nd, h.na, fun c hc => s _ _ (h.hd c hc), h.nk, h.nm⟩
theorem ZDr.pur (h : ZDr H cs) {p : Addr} (hp : Pur H p) (k : Kp p H H') : ZDr H' cs := ⟨h.nd, h.na, fun c hc => k _ _ (h.hd c hc) (hp.ne_dk (h.hd c hc)), h.nk, h.nm⟩
theorem ZDr.live (h : ZDr H cs) {c : Cv} (hc : c ∈ cs) {b : Addr} (e : H b = none) : c.2.1 ≠ b := fun z => by rw [<- z, h.hd c hc] at e; cases e
end
theorem ZHc {α β : Type} {f : α -> β} : ∀ {l : List α}, (l.map f).Nodup -> ∀ {x y : α}, x ∈ l -> y ∈ l -> f x = f y -> x = y
 | [], _, _, _, h, _, _ => by cases h
 | z :: l, n, x, y, hx, hy, e => by
  rw [UF, Vf] at n
  rcases Ul.mp hx with e1 | hx <;> rcases Ul.mp hy with e2 | hy
  ·rw [e1, e2]
  ·exact absurd (Uy.mpr ⟨y, hy, by rw [<- e, e1]⟩) n.1
  ·exact absurd (Uy.mpr ⟨x, hx, by rw [e, e2]⟩) n.1
  ·exact ZHc n.2 hx hy e
theorem ZDr.more {H : Hp} {cs : List Cv} (h : ZDr H cs) {k : Str} {b : Addr} (hk : ZFg k = true) (hg : ZCf cs k = none) (f : H b = some (.dK (ZCl []))) (n : ∀ c ∈ cs, c.2.1 ≠ b) : ZDr H (cs ++ [(k, b, [])]) := by
 refine ⟨?_, ?_, fun c hc => ?_, fun c hc => ?_, fun c hc => ?_⟩
 ·rw [UN, Vk]
  refine ⟨h.nd, by simp, fun y hy z hz e => ?_⟩
  simp only [UF, List.map_nil, Ud] at hz
  exact (ZDy.mp hg) (by rw [<- hz, <- e]; exact hy)
 ·rw [UN, Vk]
  refine ⟨h.na, by simp, fun y hy z hz e => ?_⟩
  simp only [UF, List.map_nil, Ud] at hz
  obtain ⟨c, hc, rfl⟩ := Uy.mp hy
  exact n c hc (e.trans hz)
 all_goals rcases UI.mp hc with hc | hc
 ·exact h.hd c hc
 ·rw [Ud.mp hc]; exact f
 ·exact h.nk c hc
 ·rw [Ud.mp hc]; exact Vn
 ·exact h.nm c hc
 ·rw [Ud.mp hc]; exact hk
section
variable {α : Type} {m : List (Str × α)}
theorem ZFh {k : Str} {q' : α} {x : Str × α} (hx : x ∈ ZCv m k q') : x = (k, q') \/ (x ∈ m /\ x.1 ≠ k) := by
 unfold ZCv at hx
 split at hx
 ·obtain ⟨z, hz, e⟩ := Uy.mp hx
  by_cases c : z.1 = k
  ·rw [if_pos c] at e
   left; rw [<- e, c]
  ·rw [if_neg c] at e
   right; rw [<- e]; exact ⟨hz, c⟩
 ·rename_i ha
  rcases UI.mp hx with hx | hx
  ·refine .inr ⟨hx, fun e => ha ?_⟩
   rw [UQ]
   exact ⟨x, hx, by simpa using e⟩
  ·exact .inl (Ud.mp hx)
theorem ZFr {k : Str} {q q' : α} (hg : ZCf m k = some q) : (ZCv m k q').map (·.1) = m.map (·.1) := by
 have ha : (m.any fun p => decide (p.1 = k)) = true := by
  rw [UQ]
  exact ⟨_, ZDG hg, by simp⟩
 unfold ZCv
 rw [if_pos ha, UU]
 refine UL fun x hx => ?_
 simp only [Function.comp]
 split <;> rfl
theorem ZII {β : Type} {f : α -> β} {k : Str} {q' : α} (m : List (Str × α)) : (ZCv m k q').map (fun x => (x.1, f x.2)) = ZCv (m.map fun x => (x.1, f x.2)) k (f q') := by
 unfold ZCv
 have : ((m.map fun x => (x.1, f x.2)).any fun p => decide (p.1 = k)) = m.any fun p => decide (p.1 = k) := by rw [List.any_map]; rfl
 rw [this]
 split
 ·rw [UU, UU]
  refine UL fun x hx => ?_
  simp only [Function.comp]
  split <;> rfl
 ·simp
theorem ZOP {k : Str} {q : α} (hg : ZCf m k = some q) (n : (m.map (·.1)).Nodup) : ZCv m k q = m := by
 have ha : (m.any fun p => decide (p.1 = k)) = true := by
  rw [UQ]
  exact ⟨_, ZDG hg, by simp⟩
 unfold ZCv
 rw [if_pos ha]
 conv => rhs; rw [<- List.map_id m]
 refine UL fun x hx => ?_
 split
 ·rename_i c
  have : x = (k, q) := ZHc n hx (ZDG hg) c
  rw [this]; rfl
 ·rfl
end
theorem ZDr.put {H H' : Hp} {cs : List Cv} (h : ZDr H cs) {k : Str} {b : Addr} {sm : PL} {t v : Int} (hg : ZCf cs k = some (b, sm)) (K1 : Kp b H H') (f : H' b = some (.dK (ZCl (ZCn sm t v)))) : ZDr H' (ZCv cs k (b, ZCn sm t v)) := by
 have hq := ZDG hg
 have ek : (ZCv cs k (b, ZCn sm t v)).map (·.2.1) = cs.map (·.2.1) := by
  have ha : (cs.any fun p => decide (p.1 = k)) = true := by
   rw [UQ]
   exact ⟨_, hq, by simp⟩
  unfold ZCv
  rw [if_pos ha, UU]
  refine UL fun x hx => ?_
  simp only [Function.comp]
  split
  ·rename_i c
   have : x = (k, b, sm) := ZHc h.nd hx hq c
   rw [this]
  ·rfl
 refine ⟨by rw [ZFr hg]; exact h.nd, by rw [ek]; exact h.na, fun c hc => ?_, fun c hc => ?_, fun c hc => ?_⟩
 all_goals rcases ZFh hc with rfl | ⟨hc, nc⟩
 ·exact f
 ·exact K1 _ _ (h.hd c hc) fun z => nc (by have := ZHc h.na hc hq z; rw [this])
 ·exact ZED (h.nk _ hq)
 ·exact h.nk c hc
 ·exact h.nm (k, b, sm) hq
 ·exact h.nm c hc
theorem ZL7 {cs : List Cv} {k : Str} {b : Addr} {sm sm' : PL} (n : (cs.map (·.1)).Nodup) (hg : ZCf cs k = some (b, sm)) : cvR (ZCv cs k (b, sm')) = cvR cs := by
 unfold cvR
 have e := ZII (f := fun c : Addr × PL => V.ref c.1) (k := k) (q' := (b, sm')) cs
 rw [e]
 exact ZOP (by have := ZD3 cs k; unfold cvR at this; rw [this, hg]; rfl) (by rw [UU]; exact n)
section
variable {P : Program} {w : World} {K : W.Frag} {mg : Str -> Option Value} {base : Heap} {a : Ad}
local macro_rules | `(tactic| walk_at "rd") => `(tactic| first
 | with_reducible first | refine ZFW ?_ | refine ZFX ?_ | refine ZFV ?_)
theorem ZLK {H : Hp} {Q : VK} {l : Addr} {ns : List Int} {d : Int} (h : H l = some (.lst (ns.map V.int))) (h0 : 0 <= d) (h1 : d < (ns.length : Int)) (q : ∀ n ∈ ns, Q (.int n) H) : ZMP K (.ref l) (.int d) H Q := by
 obtain ⟨j, rfl⟩ : ∃ j : Nat, d = (j : Int) := ⟨d.toNat, by omega⟩
 have hj : j < ns.length := by omega
 exact ZE1 (SqL.of h) (ZEo (by rw [Ut, Uc hj]; rfl)) (q _ (Vm hj))
def ZHR (b y w : Int) : Prop := -1099511627776 + 180 <= b /\ b <= 1099511627776 - 180 /\ 1 <= y /\ y <= 9 /\ 1 <= w /\ w <= 7
theorem ZHR.mul {b y w : Int} (h : ZHR b y w) : 1 <= w * y /\ w * y <= 63 := by
 obtain ⟨_, _, h1, h2, h3, h4⟩ := h
 constructor
 ·have : 1 * 1 <= w * y := Int.mul_le_mul h3 h1 (by decide) (by omega)
  omega
 ·have : w * y <= 7 * 9 := Int.mul_le_mul h4 h2 (by omega) (by decide)
  omega
theorem ZHR.winT {H : Hp} {q : Addr} {b y w : Int} (h : ZHR b y w) (e : H q = some (.tup [.int b, .int y, .int w])) : ZIH H q b y w := by
 have := h.mul
 obtain ⟨h1, h2, h3, h4, h5, h6⟩ := h
 exact ⟨e, by omega, by omega, by omega, ⟨by omega, by omega⟩, ⟨by omega, by omega⟩⟩
def ZT0 : Sp := fun vs H Q _ => ∃ p : Addr, vs = [.ref p] /\ Pur H p /\ ∀ (q : Addr) (b y w : Int) (H' : Hp), H' q = some (.tup [.int b, .int y, .int w]) -> ZHR b y w -> Pur H' p -> Kp p H H' -> Q (.ref q) H'
theorem ZF2 : ZCd ["_law_purse_here", "_law_begin"] ["_law_purse_here"] (ZCU ZGe) := ZC6
theorem ZLg (T : Txt K mg a) : ZCi P w K mg base CX0 2 a.Yf a.Yg ["_law_purse_here"] ZT0 := by
 refine T.Js.ok ZF2 (by walk_at "l") (fun cdv A outer s H vs Q E hr h => ?_)
 ·obtain ⟨p, rfl, hp, k⟩ := h
  refine ⟨_, QB.h (ZCS (qsS (i := 1) ZF2.nd (ZCa ZF4 (qcS (ZDA T) hr T.ZF T.ZC.kp T.ZE (ZCQ (qv 0) (ZCQ ZCT ZCR))) ZCT)) (ZCS (ZDi (ZDD (ZIL) (qcS (ZDA T) hr T.ZF T.ZC.kp T.ZE (ZCQ (qv 0) (ZCQ ZCT ZCR))) ZCT (ZDL _)) (ZCV (qsS (i := 1) ZF2.nd (ZCa ZDK (qv 1) (ZCa ZCz (qcS (ZDA T) hr T.ZF T.ZC.kp T.ZE (ZCQ (qv 0) (ZCQ (ZCa ZF4 (ZCa ZJ9 ZCT ZCT) ZCT) ZCR))) (ZCa ZF4 ZCT (ZCa ZCz ZCT (qcS (ZDA T) hr T.ZF T.ZC.kp T.ZE (ZCQ (qv 0) (ZCQ ZCT ZCR))))))))) ZDJ) (ZCV (ZCj (ZDk (ZCQ (qv 1) (ZCQ (ZCa ZDK ZCT (qcS (ZDA T) hr T.ZF T.ZC.kp T.ZE (ZCQ (qv 0) (ZCQ (ZCp (ZDU K rfl) (ZDm (ZCQ ZCT (ZCQ ZCT (ZCQ ZCT ZCR)))) (qcS (ZDA T) hr T.ZF T.ZC.kp T.ZE (ZCQ (qv 0) (ZCQ ZCT ZCR)))) ZCR)))) (ZCQ (ZCa ZDK ZCT (qcS (ZDA T) hr T.ZF T.ZC.kp T.ZE (ZCQ (qv 0) (ZCQ ZCT ZCR)))) ZCR)))))))), ?_⟩
  walk_at "s"
  walk_at "w"
  refine ⟨p, _, rfl, hp, by decide, by decide, fun d1 H1 h1 h1' P1 K1 => ?_⟩
  repeat walk_at "ri"
  refine ZRm (fun U H' => ∃ b : Int, U = [some (.ref p), some (.int b)] /\ -1099511627776 + 180 <= b /\ b <= 1099511627776 - 180 /\ Pur H' p /\ Kp p H H') ?_ ?_
  ·rintro U H3 ⟨b, rfl, hb1, hb2, P3, K3⟩
   walk_at "w"
   refine ZCm (by show 3 <= sizeLine; decide) fun l4 H4 n4 f4 S4 => ?_
   walk_at "w"
   refine ⟨p, _, rfl, P3.same S4, by decide, by decide, fun d5 H5 h5 h5' P5 K5 => ?_⟩
   walk_at "w"
   refine ZLK (ns := [_, _, _]) (K5 _ _ f4 (P3.neN n4)) h5 (by simpa using h5') fun n hn => ?_
   have hn2 : 0 < n /\ n <= 9 := by
    simp only [Ul, UK, or_false] at hn
    rcases hn with rfl | rfl | rfl <;> decide
   walk_at "w"
   refine ⟨p, _, rfl, P5, hn2.1, Int.lt_of_le_of_lt hn2.2 (by decide), fun d6 H6 h6 h6' P6 K6 => ?_⟩
   walk_at "w"
   refine ⟨p, _, rfl, P6, by decide, by decide, fun d7 H7 h7 h7' P7 K7 => ?_⟩
   walk_at "w"
   refine ZCm (by show 3 <= sizeLine; decide) fun t8 H8 n8 f8 S8 => ?_
   exact k t8 _ _ _ H8 f8 ⟨hb1, hb2, by omega, by omega, by omega, by omega⟩ (P7.same S8) (((((K3.then S4).trans K5).trans K6).trans K7).then S8)
  ·intro D' _ hD
   walk_at "w"
   refine ⟨p, _, rfl, P1, by decide, by decide, fun d2 H2 h2 h2' P2 K2 => ?_⟩
   walk_at "w"
   rw [ZMV]
   refine ZDe (fun _ => ?_) (fun _ => ?_)
   ·walk_at "w"
    refine ⟨p, _, rfl, P2, by decide, by decide, fun d3 H3 h3 h3' P3 K3 => ?_⟩
    walk_at "w"
    refine ⟨p, _, rfl, P3, by decide, by decide, fun d4 H4 h4 h4' P4 K4 => ?_⟩
    walk_at "w"
    have : d4 = 0 \/ d4 = 1 := by omega
    refine hD _ _ ⟨_, rfl, ?_, ?_, P4, ((K1.trans K2).trans K3).trans K4⟩
    ·rcases this with rfl | rfl <;> omega
    ·rcases this with rfl | rfl <;> omega
   ·walk_at "w"
    exact hD _ _ ⟨_, rfl, by omega, by omega, P2, K1.trans K2⟩
end
structure CI (Hb H : Hp) (p cd : Addr) (cs : List Cv) (b y w : Int) (i j : Nat) : Prop where
 fc : H cd = some (.dK (dkS (cvR cs)))
 cv : ZDr H cs
 nc : ∀ c ∈ cs, c.2.1 ≠ cd /\ Hb c.2.1 = none
 n0 : Hb cd = none
 ln : cs.length <= i
 bs : ∀ c ∈ cs, c.2.2.length <= j /\ ∀ r ∈ c.2.2, b - 3 <= r.1 /\ r.1 <= b + w * y + 2 /\ -12 <= r.2 /\ r.2 <= 12
 pu : Pur H p
 kp : Kp p Hb H
section
variable {Hb H H' H1 H2 : Hp} {p cd hd0 b0 : Addr} {cs : List Cv} {b y w : Int} {i j : Nat} {kk : Str} {sm : PL} {t v : Int}
theorem CI.pur (h : CI Hb H p cd cs b y w i j) (k : Kp p H H') (P' : Pur H' p) : CI Hb H' p cd cs b y w i j := ⟨k _ _ h.fc (h.pu.ne_dk h.fc), h.cv.pur h.pu k, h.nc, h.n0, h.ln, h.bs, P', h.kp.trans k⟩
theorem CI.same (h : CI Hb H p cd cs b y w i j) (s : ZCW H H') : CI Hb H' p cd cs b y w i j := ⟨s _ _ h.fc, h.cv.same s, h.nc, h.n0, h.ln, h.bs, h.pu.same s, h.kp.then s⟩
theorem CI.mono (h : CI Hb H p cd cs b y w i j) {i' j' : Nat} (hi : i <= i') (hj : j <= j') : CI Hb H p cd cs b y w i' j' := ⟨h.fc, h.cv, h.nc, h.n0, UG h.ln hi, fun c hc => ⟨UG (h.bs c hc).1 hj, (h.bs c hc).2⟩, h.pu, h.kp⟩
theorem CI.asked (h : CI Hb H p cd cs b y w i j) (hk : ZFg kk = true) (n1 : H hd0 = none) (f1 : H1 hd0 = some (.dK (ZCl []))) (S1 : ZCW H H1) (f2 : H2 cd = some (.dK (dkS (ZG6 (cvR cs) kk (.ref hd0))))) (K2 : Kp cd H1 H2) :
  ∃ cs' b0 sm, CI Hb H2 p cd cs' b y w (i + 1) j /\ ZCf cs' kk = some (b0, sm) /\ (ZCf (cvR cs) kk).getD (.ref hd0) = .ref b0 := by
 have h1 := h.same S1
 cases hg : ZCf cs kk with
 | some c =>
  obtain ⟨b0, sm⟩ := c
  have e2 : ZG6 (cvR cs) kk (.ref hd0) = cvR cs := by unfold ZG6; rw [ZD3, hg]; rfl
  rw [e2] at f2
  refine ⟨cs, b0, sm, (h1.same ?_).mono (Nat.le_succ _) (Ue _), hg, by rw [ZD3, hg]; rfl⟩
  intro c o e
  by_cases z : c = cd
  ·rw [z] at e ⊢
   rw [f2, <- h1.fc, e]
  ·exact K2 _ _ e z
 | none =>
  have e2 : ZG6 (cvR cs) kk (.ref hd0) = cvR (cs ++ [(kk, hd0, [])]) := by unfold ZG6; rw [ZD3, hg]; simp [cvR]
  rw [e2] at f2
  have nh : hd0 ≠ cd := fun z => by rw [z, h.fc] at n1; cases n1
  have hc2 : ZDr H2 cs := h1.cv.frL (l := [cd]) (FrL.kp K2 (by simp)) fun c hc z => (h.nc c hc).1 (Ud.mp z)
  have nb0 : Hb hd0 = none := by
   cases e : Hb hd0 with
   | none => rfl
   | some o => rw [h.kp _ _ e (h.pu.neN n1)] at n1; cases n1
  refine ⟨cs ++ [(kk, hd0, [])], hd0, [], ⟨f2, hc2.more hk hg (K2 _ _ f1 nh) fun c hc => h.cv.live hc n1, fun c hc => ?_, h.n0, ?_, fun c hc => ?_, ?_, fun b o e nb => ?_⟩, ?_, by rw [ZD3, hg]; rfl⟩
  ·rcases UI.mp hc with hc | hc
   ·exact h.nc c hc
   ·rw [Ud.mp hc]; exact ⟨nh, nb0⟩
  ·rw [UR]; have := h.ln; simp; omega
  ·rcases UI.mp hc with hc | hc
   ·exact h.bs c hc
   ·rw [Ud.mp hc]; exact ⟨UE _, fun r hr => by cases hr⟩
  ·exact h1.pu.kp K2 fun z => h1.pu.ne_dk h1.fc z.symm
  ·exact K2 _ _ (h1.kp _ _ e nb) fun z => by rw [z, h.n0] at e; cases e
  ·exact ZDj (by rw [UN, Vk]; exact ⟨h.cv.nd, by simp, fun y hy z hz e => (ZDy.mp hg) (by simp at hz; rw [<- hz, <- e]; exact hy)⟩) (by simp)
theorem CI.put (h : CI Hb H p cd cs b y w i j) (hg : ZCf cs kk = some (b0, sm)) (K1 : Kp b0 H H1) (f1 : H1 b0 = some (.dK (ZCl (ZCn sm t v)))) (ht : b - 3 <= t /\ t <= b + w * y + 2) (hv : -12 <= v /\ v <= 12) : CI Hb H1 p cd (ZCv cs kk (b0, ZCn sm t v)) b y w i (j + 1) := by
 have hq := ZDG hg
 have hn := h.nc _ hq
 refine ⟨by rw [ZL7 h.cv.nd hg]; exact K1 _ _ h.fc (Ne.symm hn.1), h.cv.put hg K1 f1, fun c hc => ?_, h.n0, ?_, fun c hc => ?_, h.pu.kp K1 fun z => h.pu.ne_dk (h.cv.hd _ hq) z.symm, fun b o e nb => K1 _ _ (h.kp _ _ e nb) fun z => by rw [z, hn.2] at e; cases e⟩
 ·rcases ZFh hc with rfl | ⟨hc, _⟩
  ·exact hn
  ·exact h.nc c hc
 ·have := congrArg List.length (ZFr (q' := (b0, ZCn sm t v)) hg)
  simp only [Ui] at this
  rw [this]; exact h.ln
 ·rcases ZFh hc with rfl | ⟨hc, _⟩
  ·have hb := h.bs _ hq
   refine ⟨UG (ZGP sm t v) (Nat.succ_le_succ hb.1), fun r hr => ?_⟩
   rcases (ZGW (h.cv.nk _ hq)).mp hr with z | z
   ·exact hb.2 r z.2
   ·rw [z]; exact ⟨ht.1, ht.2, hv.1, hv.2⟩
  ·exact ⟨Nat.le_succ_of_le (h.bs c hc).1, (h.bs c hc).2⟩
end
section
variable {P : Program} {w : World} {K : W.Frag} {mg : Str -> Option Value} {base : Heap} {a : Ad}
local macro_rules | `(tactic| walk_at "rd") => `(tactic| first
 | with_reducible first | refine ZFW ?_ | refine ZFX ?_ | refine ZFV ?_)
def ZOQ : Sp := fun vs H Q _ => ∃ (p q : Addr) (b y w : Int), vs = [.ref p, .ref q] /\ Pur H p /\ H q = some (.tup [.int b, .int y, .int w]) /\ ZHR b y w /\
 ∀ (cd : Addr) (cs : List Cv) (H' : Hp), CI H H' p cd cs b y w 4 28 -> Q (.ref cd) H'
theorem ZDa : ZCd ["_law_purse_here", "_law_window_here", "_law_begin", "_law_wide", "_law_many", "_law_curves_here", "_law_k", "_law_name", "_law_held", "_law_j"] ["_law_purse_here", "_law_window_here"] (ZCU ZGf) := ZC6
theorem ZLh (T : Txt K mg a) : ZCi P w K mg base CX0 2 a.Yj a.Ya ["_law_purse_here", "_law_window_here"] ZOQ := by
 refine T.Jo.ok ZDa (by walk_at "l") (fun cdv A outer s H vs Q E hr h => ?_)
 ·obtain ⟨p, q, b, y, w, rfl, hp, hq, hW, k⟩ := h
  have hu := ZEK hr
  have hwy := hW.mul
  have hcm : y * w = w * y := Int.mul_comm _ _
  obtain ⟨hb1, hb2, hy1, hy2, hw1, hw2⟩ := id hW
  refine ⟨_, QB.h (ZCS (ZE5 (qv 1) (ZE6 (n := 3) K rfl rfl (ZC0 (qgN (i := 2) ZDa.nd) (ZC0 (qgN (i := 3) ZDa.nd) (ZC0 (qgN (i := 4) ZDa.nd) ZEY))))) (ZCS (qsS (i := 5) ZDa.nd ZFT) (ZCS (ZDs PassesOwn.never rfl (ZEW rfl T.ZX (ZCQ (qcS (ZDA T) hr T.ZF T.ZC.kp T.ZE (ZCQ (qv 0) (ZCQ ZCT ZCR))) ZCR)) (qgN (i := 6) ZDa.nd) (ZCS (qsS (i := 7) ZDa.nd (ZCp (ZDU K rfl) (ZDm (ZCQ ZFQ (ZCQ ZFQ (ZCQ ZFQ (ZCQ ZFQ (ZCQ ZFQ (ZCQ ZFQ (ZCQ ZFQ ZCR)))))))) (qcS (ZDA T) hr T.ZF T.ZC.kp T.ZE (ZCQ (qv 0) (ZCQ ZCT ZCR))))) (ZCS (qsS (i := 8) ZDa.nd (ZRp (qv 5) (qv 7) ZFT)) (ZCV (ZDs PassesOwn.never rfl (ZEW rfl T.ZX (ZCQ (qcS (ZDA T) hr T.ZF T.ZC.kp T.ZE (ZCQ (qv 0) (ZCQ (ZCp (ZDU K rfl) (ZDm (ZCQ ZCT (ZCQ ZCT ZCR))) (qcS (ZDA T) hr T.ZF T.ZC.kp T.ZE (ZCQ (qv 0) (ZCQ ZCT ZCR)))) ZCR))) ZCR)) (qgN (i := 9) ZDa.nd) (ZCV (ZEs hu (ZCa ZF4 (qcS (ZDA T) hr T.ZF T.ZC.kp T.ZE (ZCQ (qv 0) (ZCQ ZCT ZCR))) ZCT) (qv 8) (ZCa ZDK (ZCa ZF4 (qv 2) ZCT) (qcS (ZDA T) hr T.ZF T.ZC.kp T.ZE (ZCQ (qv 0) (ZCQ (ZCa ZDK (ZCa ZCz (qv 3) (qv 4)) ZCT) ZCR))))))))))) (ZCV (ZCj (qv 5)))))), ?_⟩
  walk_at "s"
  walk_at "w"
  refine ZK2 fun cd H1 n1 f1 S1 => ?_
  have C1 : CI H H1 p cd [] b y w 0 0 := ⟨f1, ⟨by simp, by simp, (fun c hc => by cases hc), (fun c hc => by cases hc), (fun c hc => by cases hc)⟩, (fun c hc => by cases hc), n1, Ue _, (fun c hc => by cases hc), hp.same S1, Kp.same S1⟩
  walk_at "w"
  refine ⟨p, _, rfl, C1.pu, by decide, by decide, fun cnt H2 h2 h2' P2 K2 => ?_⟩
  have C2 := C1.pur K2 P2
  walk_at "w"
  refine ZF5 (by omega) (by omega) (ZF6 (fun i U H' => (∃ v6 v7 v8 v9, U = [some (.ref p), some (.ref q), some (.int b), some (.int y), some (.int w), some (.ref cd), v6, v7, v8, v9]) /\ ∃ cs, CI H H' p cd cs b y w i (7 * i)) ?_ ?_ ?_)
  ·exact ⟨⟨_, _, _, _, rfl⟩, [], C2⟩
  ·rintro i U H3 hi ⟨⟨v6, v7, v8, v9, rfl⟩, cs, C3⟩
   have hi4 : i < 4 := by omega
   walk_at "w"
   refine ZCm (by show 7 <= sizeLine; decide) fun l4 H4 n4 f4 S4 => ?_
   have C4 := C3.same S4
   walk_at "w"
   refine ⟨p, _, rfl, C4.pu, by decide, by decide, fun d5 H5 h5 h5' P5 K5 => ?_⟩
   have C5 := C4.pur K5 P5
   have f5 := K5 _ _ f4 (C3.pu.neN n4)
   walk_at "w"
   obtain ⟨n5, rfl⟩ : ∃ n : Nat, d5 = (n : Int) := ⟨d5.toNat, by omega⟩
   have h7 : n5 < 7 := by omega
   have hx : ∃ x : Str, [V.str "a", .str "ab", .str "b", .str "c", .str "ca", .str "z", .str "zz"][n5]? = some (.str x) /\ ZFg x = true := by
    match n5, h7 with
    | 0, _ => exact ⟨_, rfl, by decide +kernel⟩
    | 1, _ => exact ⟨_, rfl, by decide +kernel⟩
    | 2, _ => exact ⟨_, rfl, by decide +kernel⟩
    | 3, _ => exact ⟨_, rfl, by decide +kernel⟩
    | 4, _ => exact ⟨_, rfl, by decide +kernel⟩
    | 5, _ => exact ⟨_, rfl, by decide +kernel⟩
    | 6, _ => exact ⟨_, rfl, by decide +kernel⟩
   obtain ⟨kk, hx, hk⟩ := hx
   refine ZE1 (SqL.of f5) (ZEo hx) ?_
   walk_at "w"
   refine ZPt C5.fc ?_
   walk_at "w"
   refine ZH2 fun hd0 H6 n6 f6 S6 => ?_
   walk_at "w"
   refine ZPu (S6 _ _ C5.fc) (Uu (show (cvR cs).length <= 60 by rw [ZL6]; have := C5.ln; omega) (by decide)) fun H7 f7 K7 => ?_
   obtain ⟨cs', b0, sm0, C7, hg7, eb0⟩ := C5.asked hk n6 f6 S6 f7 K7
   rw [eb0]
   walk_at "w"
   refine ZCm (by show 2 <= sizeLine; decide) fun l8 H8 n8 f8 S8 => ?_
   have C8 := C7.same S8
   walk_at "w"
   refine ⟨p, _, rfl, C8.pu, by decide, by decide, fun d9 H9 h9 h9' P9 K9 => ?_⟩
   have C9 := C8.pur K9 P9
   walk_at "w"
   refine ZLK (ns := [_, _]) (K9 _ _ f8 (C7.pu.neN n8)) h9 (by simpa using h9') fun n hn => ?_
   have hn2 : 0 < n /\ n <= 8 := by
    simp only [Ul, UK, or_false] at hn
    rcases hn with rfl | rfl <;> decide
   walk_at "w"
   refine ⟨p, _, rfl, C9.pu, hn2.1, Int.lt_of_le_of_lt hn2.2 (by decide), fun cn H10 h10 h10' P10 K10 => ?_⟩
   have C10 := C9.pur K10 P10
   walk_at "w"
   refine ZF5 (by omega) (by omega) (ZF6 (fun i' U H' => (∃ v9, U = [some (.ref p), some (.ref q), some (.int b), some (.int y), some (.int w), some (.ref cd), some (.int (0 + (i : Int))), some (.str kk), some (.ref b0), v9]) /\ ∃ cs sm, CI H H' p cd cs b y w (i + 1) (7 * i + i') /\ ZCf cs kk = some (b0, sm)) ?_ ?_ ?_)
   ·exact ⟨⟨_, rfl⟩, cs', sm0, C10, hg7⟩
   ·rintro i' U H11 hi' ⟨⟨v9, rfl⟩, cs1, sm1, C11, hg11⟩
    walk_at "w"
    refine ⟨p, _, rfl, C11.pu, by decide, by decide, fun vv H12 h12 h12' P12 K12 => ?_⟩
    have C12 := C11.pur K12 P12
    walk_at "w"
    refine ⟨p, _, rfl, C12.pu, by omega, Int.lt_of_le_of_lt (show y * w + 6 <= 100 by omega) (by decide), fun tt H13 h13 h13' P13 K13 => ?_⟩
    have C13 := C12.pur K13 P13
    have hq13 := ZDG hg11
    walk_at "w"
    refine ZGO (C13.cv.hd _ hq13) (Uu (show sm1.length <= 100 by have := (C13.bs _ hq13).1; dsimp only at this; omega) (by decide)) fun H14 f14 K14 => ?_
    walk_at "w"
    refine ⟨⟨_, rfl⟩, _, ZCn sm1 (b - 3 + tt) (vv - 12), C13.put hg11 K14 f14 ⟨by omega, by omega⟩ ⟨by omega, by omega⟩, ?_⟩
    exact ZDj (by rw [ZFr hg11]; exact C13.cv.nd) (by
     unfold ZCv
     rw [if_pos (by rw [UQ]; exact ⟨_, hq13, by simp⟩)]
     exact Uy.mpr ⟨_, hq13, by simp⟩)
   ·rintro U H11 ⟨⟨v9, rfl⟩, cs1, sm1, C11, hg11⟩
    walk_at "w"
    exact ⟨⟨_, _, _, _, rfl⟩, cs1, C11.mono (Ue _) (by omega)⟩
  ·rintro U H3 ⟨⟨v6, v7, v8, v9, rfl⟩, cs, C3⟩
   walk_at "w"
   exact k cd cs H3 (C3.mono (by omega) (by omega))
end
theorem ZOR {α : Type} {m : List (Str × α)} {k : Str} {q q' : α} (hn : ZCf m k = none) : ZCv (m ++ [(k, q)]) k q' = m ++ [(k, q')] := by
 unfold ZCv
 rw [if_pos (by rw [UQ]; exact ⟨(k, q), by simp, by simp⟩), UN]
 congr 1
 ·conv => rhs; rw [<- List.map_id m]
  refine UL fun x hx => ?_
  rw [if_neg fun e => (ZDy.mp hn) (Uy.mpr ⟨x, hx, e⟩)]
  rfl
 ·simp
theorem ZL8 {α β : Type} {f : α -> β} {l : List α} (n : (l.map f).Nodup) {i : Nat} (hi : i < l.length) : f l[i] ∉ (l.take i).map f := fun z => by
 rw [<- List.take_append_drop i l, UN, Vk] at n
 exact n.2.2 _ z _ (Uy.mpr ⟨l[i], by rw [List.drop_eq_getElem_cons hi]; exact Ux, rfl⟩) rfl
def ZD5 (m : List (Str × SS)) (cs : List Cv) : Prop := m.map (fun q => (q.1, q.2.sm)) = cs.map fun c => (c.1, c.2.2)
theorem ZD5.keys {m : List (Str × SS)} {cs : List Cv} (h : ZD5 m cs) : m.map (·.1) = cs.map (·.1) := by
 have := congrArg (List.map fun x : Str × PL => x.1) h
 simpa [UU, Function.comp_def] using this
def Few (m : List (Str × SS)) (n : Nat) : Prop := ∀ q ∈ m, q.2.c <= n /\ q.2.ts.length <= n /\ q.2.ds.length <= n
section
variable {P : Program} {w : World} {K : W.Frag} {mg : Str -> Option Value} {base : Heap} {a : Ad}
local macro_rules | `(tactic| walk_at "rd") => `(tactic| first
 | with_reducible first | refine ZFW ?_ | refine ZFX ?_ | refine ZFV ?_)
def ZQJ (a : Ad) : Sp := fun vs H Q _ => ∃ (cd : Addr) (cs : List Cv), vs = [.ref cd] /\ H cd = some (.dK (dkS (cvR cs))) /\ ZDr H cs /\ (∀ c ∈ cs, c.2.1 ≠ cd) /\ cs.length <= 10 /\ (∀ c ∈ cs, c.2.2.length <= 100 /\ ∀ r ∈ c.2.2, Tm r.1) /\
 ∀ (x d : Addr) (m : List (Str × SS)) (H' : Hp), ZCc a H' x d m -> ZD5 m cs -> Few m 100 -> (∀ b ∈ BL x d m, H b = none) -> ZCW H H' -> Q (.ref x) H'
theorem ZEn : ZCd ["_law_curves_here", "_law_board_here", "_law_name", "_law_store", "_law_time"] ["_law_curves_here"] (ZCU ZHI) := ZC6
theorem ZNB (T : Txt K mg a) : ZCi P w K mg base CX0 10 a.Y7 a.JK ["_law_curves_here"] (ZQJ a) := by
 refine T.J9.ok ZEn (by walk_at "l") (fun cdv A outer s H vs Q E hr h => ?_)
 ·obtain ⟨cd, cs, rfl, fc, hC, hne, hcl, hbs, k⟩ := h
  have hu := ZEK hr
  refine ⟨_, QB.h (ZCS (qsS (i := 1) ZEn.nd (ZKl T.ZBT (ZHg T) hr.m rfl T.ZBb T.Je .nil ZDh)) (ZCS (ZIv (ZDs PassesOwn.never rfl (ZIt (qv 0)) (qgN (i := 2) ZEn.nd) (ZCS (qsS (i := 3) ZEn.nd (ZDZ (qv 1) T.Zr T.Ym (ZGE T) hr T.Yr .nil ZDh (ZCQ (qv 2) ZCR))) (ZCV (ZIv (ZDs PassesOwn.never rfl (ZIt (ZEC hu (qv 0) (qv 2))) (qgN (i := 4) ZEn.nd) (ZCV (ZC4 (ZDZ (qv 3) T.ZH T.JZ (ZHP T) hr.m T.JY .nil ZDh (ZCQ (qv 4) (ZCQ (ZEC hu (ZEC hu (qv 0) (qv 2)) (qv 4)) ZCR))))))))))) (ZCV (ZCj (qv 1))))), ?_⟩
  walk_at "s"
  walk_at "w"
  refine ZIs fun x dx H1 n1 f1 S1 => ?_
  refine ⟨x, dx, rfl, f1, fun d H2 n2 hB2 K2 => ⟨rfl, ?_⟩⟩
  have S02 : ZCW H H2 := S1.kpN n1 K2
  have n0d : H d = none := ZGB S1 n2
  walk_at "w"
  refine ZL0 (S02 _ _ fc) fun ob H3 nf f3 K3 => ?_
  have cdB : ∀ {m : List (Str × SS)}, (∀ b ∈ BL x d m, H b = none) -> cd ∉ BL x d m := fun h z => by rw [h cd z] at fc; cases fc
  have hdB : ∀ {c : Cv}, c ∈ cs -> ∀ {m : List (Str × SS)}, (∀ b ∈ BL x d m, H b = none) -> c.2.1 ∉ BL x d m := fun {c} hc {m} h z => by have := hC.hd c hc; rw [h _ z] at this; cases this
  have fr0 : ∀ b ∈ BL x d [], H b = none := fun b hb => by
   rcases ZCr.mp hb with rfl | rfl | ⟨_, h, _⟩
   ·exact n1
   ·exact n0d
   ·cases h
  have hB3 : ZCc a H3 x d [] := hB2.frL (l := [cd]) (FrL.kp K3 (by simp)) (fun b hb => by rw [Ud.mp hb]; exact cdB fr0) fun b hb xs => by rw [Ud.mp hb, S02 _ _ fc]; intro z; cases z
  refine ZIu (fun i U H' => (∃ v2 v3 v4, U = [some (.ref cd), some (.ref x), v2, v3, v4]) /\ Kp cd H H' /\ H' cd = some (.frz ob (.dK (dkS (cvR cs)))) /\ ∃ m, ZCc a H' x d m /\ ZD5 m (cs.take i) /\ Few m 100 /\ ∀ b ∈ BL x d m, H b = none) ⟨⟨_, _, _, rfl⟩, (Kp.same S02).trans K3, f3, [], hB3, rfl, (fun q hq => by cases hq), fr0⟩ (fun i' U H' _ h => h.2.2.1) ?_ ?_
  ·rintro i pr U H4 hpr ⟨⟨v2, v3, v4, rfl⟩, K4, f4, m, hB4, hR4, hF4, hfr4⟩
   have hi : i < cs.length := by
    have := (Uj.mp hpr).1
    simpa [dkS, cvR] using this
   have epr : pr = (.inr cs[i].1, .ref cs[i].2.1) := by
    unfold dkS cvR at hpr
    rw [Ut, Ut, Uc hi] at hpr
    exact (Option.some.inj hpr).symm
   rw [epr]
   have hc : cs[i] ∈ cs := Vm hi
   have htk : cs.take (i + 1) = cs.take i ++ [cs[i]] := by rw [Vc, Uc hi]; rfl
   have hmk : ZCf m cs[i].1 = none := by
    rw [ZDy, hR4.keys]
    exact ZL8 hC.nd hi
   generalize hcc : cs[i] = c at *
   obtain ⟨kk, hd, sm⟩ := c
   dsimp only at *
   have hml : m.length <= 60 := by
    have := congrArg List.length hR4.keys
    simp only [Ui, UY] at this
    omega
   have hgc := ZDj hC.nd hc
   have fhd := K4 _ _ (hC.hd _ hc) (hne _ hc)
   have hsmb := hbs _ hc
   have hnk := hC.nk _ hc
   dsimp only at fhd hsmb hnk
   obtain ⟨⟨dx4, hp4⟩, _⟩ := id hB4
   walk_at "w"
   refine ZDR hp4 (ZLH (by decide +kernel)) ?_
   walk_at "w"
   refine ⟨x, d, m, kk, rfl, hC.nm _ hc, hB4, hml, (fun q hq => by rw [hmk] at hq; cases hq), fun _ S H5 hfS hB5 K5 => ?_⟩
   have n4 : ∀ b, H4 b = none -> H b = none := fun b e => by
    cases e2 : H b with
    | none => rfl
    | some o =>
     by_cases z : b = cd
     ·rw [z, f4] at e; cases e
     ·rw [K4 _ _ e2 z] at e; cases e
   have hfr5 : ∀ b ∈ BL x d (m ++ [(kk, (⟨S, [], 0, [], [], []⟩ : SS))]), H b = none := fun b hb => by
    rcases ZCr.mp hb with h | h | ⟨q, hq, h⟩
    ·exact hfr4 b (ZCr.mpr (.inl h))
    ·exact hfr4 b (ZCr.mpr (.inr (.inl h)))
    ·rcases UI.mp hq with hq | hq
     ·exact hfr4 b (ZCr.mpr (.inr (.inr ⟨q, hq, h⟩)))
     ·rw [Ud.mp hq] at h
      exact n4 b (hfS b h)
   have cdd : cd ≠ d := fun z => cdB hfr4 (by rw [z]; exact ZCr.mpr (.inr (.inl rfl)))
   have hdd : hd ≠ d := fun z => hdB hc hfr4 (by show hd ∈ _; rw [z]; exact ZCr.mpr (.inr (.inl rfl)))
   have f5 := K5 _ _ f4 cdd
   have fhd5 := K5 _ _ fhd hdd
   walk_at "w"
   refine ZG5 (v := .ref hd) f5 (by rw [ZD3, hgc]; rfl) ?_
   refine ZTm fhd5 fun ob2 H6 nf2 f6 K6 => ?_
   have hB6 : ZCc a H6 x d (m ++ [(kk, ⟨S, [], 0, [], [], []⟩)]) := hB5.frL (l := [hd]) (FrL.kp K6 (by simp)) (fun b hb => by rw [Ud.mp hb]; exact hdB hc hfr5) fun b hb xs => by rw [Ud.mp hb, fhd5]; intro z; cases z
   have F06 : FrL [cd, hd] H H6 := fun b o e nb => by
    simp only [Ul, UK, or_false, not_or] at nb
    exact K6 _ _ (K5 _ _ (K4 _ _ e nb.1) fun z => by rw [z, n0d] at e; cases e) nb.2
   refine ZIu (fun j U H' => (∃ v4, U = [some (.ref cd), some (.ref x), some (.str kk), some (.ref S.p), v4]) /\ FrL [cd, hd] H H' /\ H' cd = some (.frz ob (.dK (dkS (cvR cs)))) /\ H' hd = some (.frz ob2 (.dK (ZCl sm))) /\ ∃ st : SS, st.S = S /\ st.sm = sm.take j /\ st.c <= j /\ st.ts.length <= j /\ st.ds.length <= j /\ ZCc a H' x d (m ++ [(kk, st)]))
    ⟨⟨_, rfl⟩, F06, K6 _ _ f5 (Ne.symm (hne _ hc)), f6, _, rfl, rfl, Ue _, Ue _, Ue _, hB6⟩ (fun j U H' _ h => h.2.2.2.1) ?_ ?_
   ·rintro j pr2 U H7 hpr2 ⟨⟨v4, rfl⟩, F7, f7, fh7, st, eS, esm, hc7, ht7, hd7, hB7⟩
    have hj : j < sm.length := by
     have := (Uj.mp hpr2).1
     simpa [ZCl] using this
    rw [ZUN hj] at hpr2
    obtain rfl := Option.some.inj hpr2
    have hr := Vm hj
    have hgt : ZCx sm sm[j].1 = some sm[j].2 := (ZDl hnk).mpr hr
    have htk2 : sm.take (j + 1) = sm.take j ++ [sm[j]] := by rw [Vc, Uc hj]; rfl
    have hno : ZCx (sm.take j) sm[j].1 = none := by
     rw [ZEZ]
     exact ZL8 hnk hj
    have hg7 : ZCf (m ++ [(kk, st)]) kk = some st := ZDj hB7.bin.nd (by simp)
    obtain ⟨n7, hS7⟩ := hB7.bin.st _ (ZDG hg7)
    dsimp only at hS7
    rw [eS] at hS7
    obtain ⟨dxS, vsS, hpS, _⟩ := id hS7
    show ZEc 4 (V.int sm[j].1) _ _ _
    walk_at "w"
    refine ZDR hpS ZHN ?_
    walk_at "w"
    refine ZG5 (v := .ref hd) f7 (by rw [ZD3, hgc]; rfl) ?_
    walk_at "w"
    refine ZPn fh7 hgt ?_
    walk_at "w"
    have hsl : st.sm.length <= 900 := by rw [esm, UY]; omega
    refine ⟨S, n7, _, _, _, _, _, _, _, rfl, hS7, hsmb.2 _ hr, by omega, hsl, by omega, by omega, fun H8 hS8 F8 => ?_⟩
    have own7 : ∀ b ∈ S.own, H b = none \/ b ∈ S.own := fun b hb => .inr hb
    have hl5 : ∀ b ∈ S.own, b ≠ cd /\ b ≠ hd /\ H b = none := fun b hb => by
     have hm : b ∈ BL x d (m ++ [(kk, (⟨S, [], 0, [], [], []⟩ : SS))]) := ZCr.mpr (.inr (.inr ⟨(kk, ⟨S, [], 0, [], [], []⟩), by simp, Us _ hb⟩))
     refine ⟨fun z => cdB hfr5 (by rw [<- z]; exact hm), fun z => hdB hc hfr5 (by show hd ∈ _; rw [<- z]; exact hm), hfr5 b hm⟩
    have hB8 := hB7.deed hg7 (q' := ⟨S, ZCn st.sm sm[j].1 sm[j].2, st.c + 1, st.ds ++ [(sm[j].1, ZCx st.sm sm[j].1)], st.ts ++ [sm[j].1], st.ws⟩) eS.symm ⟨n7, hS8⟩ (by rw [eS]; exact F8)
    rw [ZOR hmk] at hB8
    walk_at "w"
    refine ⟨⟨_, rfl⟩, (fun b o e nb => F8 _ _ (F7 _ _ e nb) fun z => by rw [(hl5 b z).2.2] at e; cases e), F8 _ _ f7 fun z => (hl5 _ z).1 rfl, F8 _ _ fh7 fun z => (hl5 _ z).2.1 rfl, _, rfl, ?_, ?_, ?_, ?_, hB8⟩
    ·show ZCn st.sm sm[j].1 sm[j].2 = _
     rw [esm, ZPm hno, htk2]
    ·show st.c + 1 <= j + 1
     omega
    ·simp; omega
    ·simp; omega
   ·rintro U H7 ⟨⟨v4, rfl⟩, F7, f7, fh7, st, eS, esm, hc7, ht7, hd7, hB7⟩
    have el : (ZCl sm).length = sm.length := by simp [ZCl]
    rw [el] at hc7 ht7 hd7
    have esm' : st.sm = sm := by rw [esm, el, US]
    have hfr7 : ∀ b ∈ BL x d (m ++ [(kk, st)]), H b = none := fun b hb => by
     rcases ZCr.mp hb with h | h | ⟨q, hq, h⟩
     ·exact hfr5 b (ZCr.mpr (.inl h))
     ·exact hfr5 b (ZCr.mpr (.inr (.inl h)))
     ·rcases UI.mp hq with hq | hq
      ·exact hfr4 b (ZCr.mpr (.inr (.inr ⟨q, hq, h⟩)))
      ·rw [Ud.mp hq] at h
       refine hfr5 b (ZCr.mpr (.inr (.inr ⟨(kk, ⟨S, [], 0, [], [], []⟩), by simp, ?_⟩)))
       unfold SS.all at h ⊢
       rw [eS] at h
       exact h
    refine ZG7 nf2 fh7 True.intro fun H8 f8 K8 => ?_
    have hB8 : ZCc a H8 x d (m ++ [(kk, st)]) := hB7.frL (l := [hd]) (FrL.kp K8 (by simp)) (fun b hb => by rw [Ud.mp hb]; exact hdB hc hfr7) fun b hb xs => by rw [Ud.mp hb, fh7]; intro z; cases z
    refine ⟨⟨_, _, _, rfl⟩, fun b o e nb => ?_, K8 _ _ f7 (Ne.symm (hne _ hc)), _, hB8, ?_, ?_, hfr7⟩
    ·by_cases z : b = hd
     ·rw [z] at e ⊢
      rw [f8, <- hC.hd _ hc, e]
     ·exact K8 _ _ (F7 _ _ e (by simp [nb, z])) z
    ·unfold ZD5 at hR4 ⊢
     rw [UN, hR4, htk, UN]
     simp [esm']
    ·intro q hq
     rcases UI.mp hq with hq | hq
     ·exact hF4 q hq
     ·rw [Ud.mp hq]
      exact ⟨by show st.c <= 100; omega, by show st.ts.length <= 100; omega, by show st.ds.length <= 100; omega⟩
  ·rintro U H4 ⟨⟨v2, v3, v4, rfl⟩, K4, f4, m, hB4, hR4, hF4, hfr4⟩
   have el : (dkS (cvR cs)).length = cs.length := by simp [dkS, cvR]
   rw [el, US] at hR4
   refine ZG7 nf f4 True.intro fun H5 f5 K5 => ?_
   have hB5 : ZCc a H5 x d m := hB4.frL (l := [cd]) (FrL.kp K5 (by simp)) (fun b hb => by rw [Ud.mp hb]; exact cdB hfr4) fun b hb xs => by rw [Ud.mp hb, f4]; intro z; cases z
   walk_at "w"
   refine k x d m H5 hB5 hR4 hF4 hfr4 fun b o e => ?_
   by_cases z : b = cd
   ·rw [z] at e ⊢
    rw [f5, <- fc, e]
   ·exact K5 _ _ (K4 _ _ e z) z
end
section
variable {P : Program} {w : World} {K : W.Frag} {mg : Str -> Option Value} {base : Heap} {a : Ad}
def ZSF (K : W.Frag) : Sp := fun vs H Q _ => ∃ (l : Addr) (ps : PL) (sg : Int), vs = [.ref l, .int sg] /\ PrL H l ps /\ ps ≠ [] /\ (sg = 1 \/ sg = -1) /\
 ∀ (c : Addr) (q : Int × Int) (j : Nat), H c = some (.tup [.int q.1, .int q.2]) -> ps[j]? = some q -> (∀ (i : Nat) r, ps[i]? = some r -> q.2 * sg <= r.2 * sg /\ (i < j -> q.2 * sg < r.2 * sg)) -> Q (.ref c) H
theorem ZFH : ZCd ["_law_samples", "_law_sign", "_law_best", "_law_sample"] ["_law_samples", "_law_sign"] (ZCU ZHJ) := ZC6
theorem ZIj (T : Txt K mg a) : ZCi P w K mg base CX0 1 a.JE a.JH ["_law_samples", "_law_sign"] (ZSF K) := by
 refine T.JL.ok ZFH (by walk_at "l") (fun cdv A outer s H vs Q E hr h => ?_)
 ·obtain ⟨l, ps, sg, rfl, ⟨us, gT, pT⟩, hne, hsg, k⟩ := h
  have hs1 : -2 < sg := by rcases hsg with rfl | rfl <;> decide
  have hs2 : sg < 2 := by rcases hsg with rfl | rfl <;> decide
  have hpos : 0 < ps.length := Vq.mpr hne
  have hul : us.length = ps.length := pT.length
  obtain ⟨c0, q0, ec0, hq0, hc0⟩ := pT.at (Uc (show 0 < us.length by omega))
  have hx0 : us[0]? = some (.ref c0) := by rw [Uc (show 0 < us.length by omega), ec0]
  refine ⟨_, QB.h (ZCS (qsS (i := 2) ZFH.nd (ZCp (ZDU K rfl) (qv 0) ZCT)) (ZCS (ZDs PassesOwn.never rfl (ZHZ K rfl (qv 0)) (qgN (i := 3) ZFH.nd) (ZCV (ZDi (ZDD (ZIM) (ZCa ZCz (ZCp (ZDE K rfl) (qv 3) ZCT) (qv 1)) (ZCa ZCz (ZCp (ZDE K rfl) (qv 2) ZCT) (qv 1)) (ZDL _)) (ZCV (qsS (i := 2) ZFH.nd (qv 3))) ZDJ))) (ZCV (ZCj (qv 2))))), ?_⟩
  walk_at "s"
  walk_at "w"
  refine ZE1 (SqL.of gT) (ZEo (j := 0) hx0) ?_
  walk_at "w"
  refine ZLt (xs := us) (fun i U H' => H' = H /\ ∃ (c : Addr) (u : Int × Int) (j : Nat), (∃ v3, U = [some (.ref l), some (.int sg), some (.ref c), v3]) /\ H c = some (.tup [.int u.1, .int u.2]) /\ ps[j]? = some u /\ j <= i /\ ∀ (n : Nat) r, n < i -> ps[n]? = some r -> u.2 * sg <= r.2 * sg /\ (n < j -> u.2 * sg < r.2 * sg)) ?_ ?_ ?_ ?_
  ·exact ⟨rfl, c0, q0, 0, ⟨_, rfl⟩, hc0, hq0, Ue _, fun n r hn => absurd hn (by omega)⟩
  ·rintro i U H' _ ⟨rfl, _⟩
   exact SqL.of gT
  ·rintro i x U H' hx ⟨rfl, c, u, j, ⟨v3, rfl⟩, hc, hu, hj, hb⟩
   obtain ⟨c2, q2, rfl, hq2, hc2⟩ := pT.at hx
   walk_at "w"
   refine ZDe (fun hlt => ?_) (fun hlt => ?_)
   ·walk_at "w"
    refine ⟨rfl, c2, q2, i, ⟨_, rfl⟩, hc2, hq2, Nat.le_succ _, fun n r hn hr => ?_⟩
    by_cases e : n = i
    ·subst e
     rw [hq2] at hr; cases hr
     exact ⟨Int.le_refl _, fun z => absurd z (by omega)⟩
    ·have := (hb n r (by omega) hr).1
     exact ⟨by omega, fun _ => by omega⟩
   ·walk_at "w"
    refine ⟨rfl, c, u, j, ⟨_, rfl⟩, hc, hu, Nat.le_succ_of_le hj, fun n r hn hr => ?_⟩
    by_cases e : n = i
    ·subst e
     rw [hq2] at hr; cases hr
     exact ⟨by omega, fun z => absurd z (by omega)⟩
    ·exact hb n r (by omega) hr
  ·rintro U H' ⟨rfl, c, u, j, ⟨v3, rfl⟩, hc, hu, hj, hb⟩
   walk_at "w"
   refine k c u j hc hu fun i r hr => hb i r ?_ hr
   rw [hul]
   exact (Uj.mp hr).1
end
theorem ZL9 {cv : PL} {b y : Int} {i : Nat} {fs : List (Option (PL))} (h : ZDc cv b y i fs) {o : Option (PL)} (g : Is4 (ZC5 cv (b + (i : Int) * y) (b + (i : Int) * y + y)) o) : ZDc cv b y (i + 1) (fs ++ [o]) := by
 refine ⟨by simp [h.1], fun k o' e => ?_⟩
 rw [List.getElem?_append] at e
 split at e
 ·exact h.2 k o' e
 ·rename_i hk
  have hk0 : k - fs.length = 0 := by
   have := (Uj.mp e).1
   simp at this
   omega
  have hki : k = i := by have := h.1; omega
  rw [hk0] at e
  simp at e
  rw [<- e, hki]
  exact g
theorem ZIk (fs : List (Option (PL))) (o : Option (PL)) : ZDP (fs ++ [o]) = ZDP fs ++ o.getD [] := by simp [ZDP]
theorem ZI8 {cv : PL} {b y : Int} {fs : List (Option (PL))} : ∀ {i : Nat}, ZDc cv b y i fs -> (ZDP fs).length <= 4 * i := by
 have : ∀ l : List (Option (PL)), (∀ o ∈ l, (o.getD []).length <= 4) -> (ZDP l).length <= 4 * l.length := by
  intro l
  induction l with
  | nil => intro _; exact UE _
  | cons o l ih =>
   intro h
   have h1 := ih fun x hx => h x (Us _ hx)
   have h2 := h o Ux
   show ((o.getD []) ++ ZDP l).length <= _
   rw [UR, UT]
   omega
 intro i h
 rw [<- h.1]
 refine this fs fun o ho => ?_
 cases o with
 | none => exact UE _
 | some qs => exact (h.mem ho).1
section
variable {P : Program} {w : World} {K : W.Frag} {mg : Str -> Option Value} {base : Heap} {a : Ad}
local macro_rules | `(tactic| walk_at "rd") => `(tactic| first
 | with_reducible refine ZM0 ?_)
def ZSG : Sp := fun vs H Q _ => ∃ (t q : Addr) (cv : PL) (b y w : Int), vs = [.ref t, .ref q] /\ PrL H t cv /\ Asc cv /\ cv.length <= 100 /\ H q = some (.tup [.int b, .int y, .int w]) /\ ZHR b y w /\
 ∀ (fs : List (Option (PL))) (H' : Hp), ZDc cv b y w.toNat fs -> ZCW H H' -> Q (.int ((ddp (ZDP fs)).length : Int)) H'
theorem ZDn : ZCd ["_law_curve", "_law_window_here", "_law_begin", "_law_wide", "_law_many", "_law_found", "_law_k", "_law_x", "_law_some"] ["_law_curve", "_law_window_here"] (ZCU ZGg) := ZC6
theorem ZOS (T : Txt K mg a) : ZCi P w K mg base CX0 2 a.Jg a.Jk ["_law_curve", "_law_window_here"] ZSG := by
 refine T.ZAU.ok ZDn (by walk_at "l") (fun cdv A outer s H vs Q E hr h => ?_)
 ·obtain ⟨t, q, cv, b, y, w, rfl, hT, hasc, hlen, hq, ⟨hb1, hb2, hy1, hy2, hw1, hw2⟩, k⟩ := h
  have hu := ZEK hr
  have hu64 := hr.units
  obtain ⟨us, gT, pT⟩ := id hT
  have hul : us.length = cv.length := pT.length
  refine ⟨_, QB.h (ZCS (ZE5 (qv 1) (ZE6 (n := 3) K rfl rfl (ZC0 (qgN (i := 2) ZDn.nd) (ZC0 (qgN (i := 3) ZDn.nd) (ZC0 (qgN (i := 4) ZDn.nd) ZEY))))) (ZCS (qsS (i := 5) ZDn.nd (ZDm ZCR)) (ZCS (ZDs PassesOwn.never rfl (ZEW rfl T.ZX (ZCQ (qv 4) ZCR)) (qgN (i := 6) ZDn.nd) (ZCS (qsS (i := 7) ZDn.nd (ZCa ZDK (qv 2) (ZCa ZCz (qv 6) (qv 3)))) (ZCS (ZRZ (N := ["_law_curve", "_law_window_here", "_law_begin", "_law_wide", "_law_many", "_law_found", "_law_k", "_law_x", "_law_some"]) (sc := ZCU ZGg) (own := ["_law_sample"]) (caps := ["_law_x", "_law_wide"]) (ks := [7, 3]) (i := 8) rfl rfl rfl ⟨rfl, by decide +kernel, by decide +kernel, by decide +kernel, by decide +kernel, rfl, by decide +kernel⟩ ZDn.nd rfl (by walk_at "o") (ZHZ K rfl (qv 0)) (fun _ _ _ _ _ => ZEX (i := 0) (show List.Nodup (α := Str) ["_law_sample", "_law_x", "_law_wide"] from by decide +kernel) rfl (by walk_at "o") (.inr rfl)) (fun _ _ _ _ _ => ZPK (ZKN ZFE ZIM (qv 1) (ZCp (ZDE K rfl) (qv 0) ZCT) (ZCa ZDK (qv 1) (qv 2)))) (fun _ _ _ _ _ => qv 0)) (ZCV (ZDi (ZDD (ZKv K rfl hu) (qv 8) (ZDm ZCR) (ZDL _)) (ZCV (qsS (i := 5) ZDn.nd (ZCa ZSq (qv 5) (ZDm (ZCQ (ZCp (ZDU K rfl) (qv 8) ZCT) (ZCQ (ZCp (ZDU K rfl) (qv 8) (ZJz ZIK ZCT)) (ZCQ (qcS (ZIj T) hr T.J6 T.JL.kp T.Jz (ZCQ (qv 8) (ZCQ ZCT ZCR))) (ZCQ (qcS (ZIj T) hr T.J6 T.JL.kp T.Jz (ZCQ (qv 8) (ZCQ (ZJz ZIK ZCT) ZCR))) ZCR)))))))) ZDJ))))) (ZCV (ZCj (ZN6 K rfl rfl hu64 rfl T.ZY rfl T.ZAw (ZCQ (qv 5) ZCR))))))), ?_⟩
  walk_at "s"
  walk_at "w"
  refine ZCm (by show 0 <= sizeLine; decide) fun l0 H1 n1 f1 S1 => ?_
  walk_at "w"
  refine ZF5 (by omega) (by omega) (ZF6 (fun i U H' => ∃ (l : Addr) (vs : List V) (fs : List (Option (PL))), (∃ v6 v7 v8, U = [some (.ref t), some (.ref q), some (.int b), some (.int y), some (.int w), some (.ref l), v6, v7, v8]) /\ ZCW H H' /\ H' l = some (.lst vs) /\ ZCY H' vs (ZDP fs) /\ ZDc cv b y i fs) ?_ ?_ ?_)
  ·exact ⟨l0, [], [], ⟨_, _, _, rfl⟩, S1, f1, .nil, rfl, fun k o e => by simp at e⟩
  ·rintro i U H2 hi ⟨l, vs, fs, ⟨v6, v7, v8, rfl⟩, S2, f2, hP2, hF2⟩
   have hi7 : i < 7 := by omega
   have hfl := ZI8 hF2
   have hvl := hP2.length
   have gT2 := S2 _ _ gT
   have pT2 := pT.same S2
   have ei : 0 + (i : Int) = (i : Int) := Int.zero_add _
   walk_at "w"
   rw [ei]
   intro l3 n3
   generalize hx : b + (i : Int) * y = x
   refine ZFJ cv.length (fun i' U' H' => (∃ o, U' = [o, some (.int x), some (.int y)]) /\ ZCW H2 H' /\ ∃ vs, H' l3 = some (.lst vs) /\ ZCY H' vs (ZC5 (cv.take i') x (x + y))) ?_ ?_ ?_
   ·exact ⟨⟨none, rfl⟩, ZCW.new n3, [], ZCZ, .nil⟩
   ·rintro U' H3 ⟨_, S3, vs3, f3, hP3⟩
    refine ⟨⟨_, SqL.of (S3 _ _ gT2), by rw [hul]; exact Ue _⟩, ?_⟩
    rw [US] at hP3
    walk_at "w"
    refine ZCm (by show 0 <= sizeLine; decide) fun l4 H4 n4 f4 S4 => ?_
    refine ZKw (SqL.of (S4 _ _ f3)) (SqL.of f4) ?_
    walk_at "w"
    have hP4 := hP3.same S4
    have f34 := S4 _ _ f3
    have S24 := S3.trans S4
    have hac : Asc (ZC5 cv x (x + y)) := ZJP hasc
    generalize hcc : ZC5 cv x (x + y) = cc at hP3 hP4 hac
    have hvl3 : vs3.length = cc.length := hP4.length
    cases hb : vs3.isEmpty with
    | true =>
     refine ZDp ?_
     have hcn : cc = [] := by
      rw [List.isEmpty_iff] at hb
      rw [hb] at hvl3
      exact List.length_eq_zero_iff.mp hvl3.symm
     walk_at "w"
     refine ⟨l, vs, fs ++ [none], ⟨_, _, _, rfl⟩, S2.trans S24, S24 _ _ f2, ?_, ZL9 hF2 ?_⟩
     ·rw [ZIk]
      simpa using hP2.same S24
     ·rw [hx, hcc, hcn]
      exact Is4.nil
    | false =>
     refine ZEe ?_
     have hpos : 0 < cc.length := by
      cases vs3 with
      | nil => cases hb
      | cons v vs => rw [<- hvl3]; simp
     obtain ⟨c0, q0, ec0, hq0, hc0⟩ := hP4.at (Uc (show 0 < vs3.length by omega))
     obtain ⟨c1, q1, ec1, hq1, hc1⟩ := hP4.at (Uc (show vs3.length - 1 < vs3.length by omega))
     have hx0 : vs3[0]? = some (.ref c0) := by rw [Uc (show 0 < vs3.length by omega), ec0]
     have hx1 : vs3[vs3.length - 1]? = some (.ref c1) := by rw [Uc (show vs3.length - 1 < vs3.length by omega), ec1]
     rw [hvl3] at hq1
     walk_at "w"
     refine ZE1 (SqL.of f34) (ZEo (j := 0) hx0) ?_
     walk_at "w"
     refine ZE1 (SqL.of f34) (ZL4 hx1) ?_
     walk_at "w"
     refine ⟨l3, cc, 1, rfl, ⟨vs3, f34, hP4⟩, Vq.mp hpos, .inl rfl, fun c2 q2 j2 hc2 hq2 hb2 => ?_⟩
     walk_at "w"
     refine ⟨l3, cc, -1, rfl, ⟨vs3, f34, hP4⟩, Vq.mp hpos, .inr rfl, fun c3 q3 j3 hc3 hq3 hb3 => ?_⟩
     walk_at "w"
     refine ZCm (by show 4 <= sizeLine; decide) fun l5 H5 n5 f5 S5 => ?_
     walk_at "w"
     refine ZTM (S5 _ _ (S24 _ _ f2)) f5 (by show vs.length + 4 <= _; rw [hvl]; exact UG (show _ <= 100 by omega) (by decide)) fun l6 H6 n6 f6 S6 => ?_
     walk_at "w"
     have S46 := S5.trans S6
     have h4 : ZCY H6 [.ref c0, .ref c1, .ref c2, .ref c3] [q0, q1, q2, q3] := .cons ⟨c0, rfl, S46 _ _ hc0⟩ (.cons ⟨c1, rfl, S46 _ _ hc1⟩ (.cons ⟨c2, rfl, S46 _ _ hc2⟩ (.cons ⟨c3, rfl, S46 _ _ hc3⟩ .nil)))
     have dg : ∀ {j : Nat} {r : Int × Int}, cc[j]? = some r -> cc.getD j (0, 0) = r := fun h => by simp [h]
     have dn : ∀ {j : Nat}, j < cc.length -> cc[j]? = some (cc.getD j (0, 0)) := fun h => by simp [h]
     refine ⟨l6, _, fs ++ [some [q0, q1, q2, q3]], ⟨_, _, _, rfl⟩, (S2.trans S24).trans S46, f6, ?_, ZL9 hF2 ?_⟩
     ·rw [ZIk]
      exact (hP2.same (S24.trans S46)).app h4
     ·rw [hx, hcc]
      refine Is4.minmax hac hq0 hq1 hq2 hq3 (fun j hj => ?_) (fun j hj => ?_)
      ·have := hb2 j _ (dn hj)
       rw [dg hq2]
       exact ⟨by omega, fun z => by have := this.2 z; omega⟩
      ·have := hb3 j _ (dn hj)
       rw [dg hq3]
       exact ⟨by omega, fun z => by have := this.2 z; omega⟩
   ·rintro i' U' H3 hi' ⟨⟨o, rfl⟩, S3, vs3, f3, hP3⟩
    have hi2 : i' < us.length := by rw [hul]; exact hi'
    refine ⟨⟨_, _, SqL.of (S3 _ _ gT2), Uc hi2⟩, ?_⟩
    rintro v H'' ⟨rfl, hv⟩
    have hv := hv _ (SqL.of (S3 _ _ gT2))
    obtain ⟨c, q', rfl, hq', hc⟩ := (pT2.same S3).at hv
    have e4 := ZMp (x := x) (z := x + y) hq'
    walk_at "w"
    refine ZDe (fun h1 => ?_) (fun h1 => ?_)
    ·walk_at "w"
     refine ZDe (fun h2 => ?_) (fun h2 => ?_)
     ·walk_at "w"
      refine ⟨vs3, f3, ?_, ⟨_, rfl⟩, S3.kpN n3 Kp.upd, _, ZCZ, ?_⟩
      ·rw [hP3.length]
       refine Uu (List.length_filter_le _ _) ?_
       rw [UY]
       exact Uu (Nat.min_le_right _ _) (Uu hlen (by decide))
      ·rw [e4, decide_eq_true h1, decide_eq_true h2, Bool.and_self, if_pos rfl]
       exact ZCY.kpL Kp.upd f3 (hP3.snoc hc)
     ·refine ⟨⟨_, rfl⟩, S3, vs3, f3, ?_⟩
      rw [e4, decide_eq_false h2, Bool.and_false, if_neg (by decide), List.append_nil]
      exact hP3
    ·walk_at "w"
     refine ZDp ?_
     refine ⟨⟨_, rfl⟩, S3, vs3, f3, ?_⟩
     rw [e4, decide_eq_false h1, Bool.false_and, if_neg (by decide), List.append_nil]
     exact hP3
  ·rintro U H2 ⟨l, vs, fs, ⟨v6, v7, v8, rfl⟩, S2, f2, hP2, hF2⟩
   have hfl := ZI8 hF2
   walk_at "w"
   refine ZN7 (SqL.of f2) hP2 (by omega) ?_
   walk_at "w"
   exact k fs H2 hF2 S2
end
theorem ZFD {α : Type} [DecidableEq α] : ∀ {xs ys : List α}, xs.Nodup -> (∀ x ∈ xs, x ∈ ys) -> xs.length <= ys.length
 | [], _, _, _ => UE _
 | x :: xs, ys, hn, hs => by
  have hx : x ∈ ys := hs x Ux
  obtain ⟨h1, h2⟩ := Vf.mp hn
  have := ZFD (ys := ys.erase x) h2 fun z hz => (List.mem_erase_of_ne (show z ≠ x from fun e => h1 (by rw [<- e]; exact hz))).mpr (hs z (Us _ hz))
  rw [List.length_erase_of_mem hx] at this
  have hp : 0 < ys.length := List.length_pos_of_mem hx
  simp only [UT]
  omega
theorem ZNC {cv : PL} (h : Asc cv) : cv.Nodup := UP.mpr (h.imp fun {a b} hab e => by rw [e] at hab; omega)
theorem ZHS : ∀ (l acc : PL), acc.Nodup -> (l.foldl (fun ps q => if q ∈ ps then ps else ps ++ [q]) acc).Nodup /\ ∀ r, r ∈ l.foldl (fun ps q => if q ∈ ps then ps else ps ++ [q]) acc ↔ r ∈ acc \/ r ∈ l
 | [], acc, h => ⟨h, fun r => by simp⟩
 | q :: l, acc, h => by
  rw [List.foldl_cons]
  by_cases hq : q ∈ acc
  ·rw [if_pos hq]
   refine ⟨(ZHS l acc h).1, fun r => ?_⟩
   rw [(ZHS l acc h).2 r, Ul]
   constructor
   ·rintro (z | z)
    ·exact .inl z
    ·exact .inr (.inr z)
   ·rintro (z | rfl | z)
    ·exact .inl z
    ·exact .inl hq
    ·exact .inr z
  ·rw [if_neg hq]
   have hn : (acc ++ [q]).Nodup := by
    rw [Vk]
    exact ⟨h, by simp, fun x hx y hy z => by rw [Ud.mp hy] at z; exact hq (z ▸ hx)⟩
   refine ⟨(ZHS l _ hn).1, fun r => ?_⟩
   rw [(ZHS l _ hn).2 r, UI, Ud, Ul, or_assoc]
theorem ZQK {sm cv kp : PL} {b y w : Int} {fs : List (Option (PL))} (hk : ZIi sm b y w kp) (ha : Asc cv) (he : ∀ r, r ∈ cv ↔ r ∈ sm) (h4 : ZDc cv b y w.toNat fs) : kp.length = (ddp (ZDP fs)).length := by
 obtain ⟨gs, g4, hak, hm⟩ := hk
 have g4' : ZDc cv b y w.toNat gs := ⟨g4.1, fun k o e => (g4.2 k o e).congr fun p => (ZNu he _ _ p).symm⟩
 obtain rfl := ZDc.unique ha h4 g4'
 obtain ⟨d1, d2⟩ := ZHS (ZDP fs) [] Vn
 have e : ∀ r, r ∈ kp ↔ r ∈ ddp (ZDP fs) := fun r => by
  rw [hm r, <- ZHQ]
  unfold ddp
  rw [d2 r]
  simp
 exact Nat.le_antisymm (ZFD (ZNC hak) fun x hx => (e x).mp hx) (ZFD d1 fun x hx => (e x).mpr hx)
def ZQL (b y w : Int) (c : Cv) (n : Int) : Prop := ∃ cv fs, Asc cv /\ (∀ r, r ∈ cv ↔ r ∈ c.2.2) /\ ZDc cv b y w.toNat fs /\ n = ((ddp (ZDP fs)).length : Int)
theorem ZMA {b y w : Int} : ∀ {m : List (Str × SS)} {cs : List Cv} {ns ns' : List Int}, ZD5 m cs -> Paired (fun (x : Str × SS) (n : Int) => ∃ kp, ZIi x.2.sm b y w kp /\ n = (kp.length : Int)) m ns -> Paired (ZQL b y w) cs ns' -> ns = ns'
 | [], [], _, _, _, .nil, .nil => rfl
 | [], _ :: _, _, _, h, _, _ => by simp [ZD5] at h
 | _ :: _, [], _, _, h, _, _ => by simp [ZD5] at h
 | x :: m, c :: cs, _, _, h, .cons ⟨kp, g1, g2⟩ t, .cons ⟨cv, fs, k1, k2, k3, k4⟩ u => by
  unfold ZD5 at h
  rw [UF, UF] at h
  obtain ⟨h1, h2⟩ := List.cons.inj h
  have e : x.2.sm = c.2.2 := congrArg Prod.snd h1
  rw [ZMA h2 t u, g2, k4, ZQK g1 k1 (fun r => by rw [e]; exact k2 r) k3]
theorem ZMB {b y w : Int} (hw : 0 <= w) : ∀ {cs : List Cv} {ns : List Int}, Paired (ZQL b y w) cs ns -> ns.sum <= 4 * w * (cs.length : Int)
 | [], [], .nil => by simp
 | c :: cs, n :: ns, .cons ⟨cv, fs, k1, k2, k3, k4⟩ u => by
  have h1 := ZMB hw u
  have h2 := ZIy (ZDP fs)
  have h3 := ZI8 k3
  rw [List.sum_cons, UT, k4, Int.natCast_add, Int.mul_add]
  omega
section
variable {P : Program} {w : World} {K : W.Frag} {mg : Str -> Option Value} {base : Heap} {a : Ad}
local macro_rules | `(tactic| walk_at "rd") => `(tactic| first
 | with_reducible first | refine ZFW ?_ | refine ZFX ?_ | refine ZG1 ?_ | refine ZFV ?_)
def ZT1 (a : Ad) : Sp := fun vs H Q _ => ∃ (x cd q d : Addr) (m : List (Str × SS)) (cs : List Cv) (b y w : Int), vs = [.ref x, .ref cd, .ref q] /\ ZCc a H x d m /\ ZD5 m cs /\ H cd = some (.dK (dkS (cvR cs))) /\ ZDr H cs /\ (∀ c ∈ cs, c.2.1 ≠ cd) /\ cs.length <= 10 /\ (∀ c ∈ cs, c.2.2.length < 64) /\ cd ∉ BL x d m /\
 H q = some (.tup [.int b, .int y, .int w]) /\ ZHR b y w /\ ∀ H', ZCc a H' x d m -> FrL (trs m) H H' -> Q (.bl true) H'
theorem ZD9 : ZCd ["_law_board_here", "_law_curves_here", "_law_window_here", "_law_many", "_law_name", "_law_found"] ["_law_board_here", "_law_curves_here", "_law_window_here"] (ZCU ZF1) := ZC6
theorem ZHT (T : Txt K mg a) : ZCi P w K mg base CX0 9 a.YG a.YR ["_law_board_here", "_law_curves_here", "_law_window_here"] (ZT1 a) := by
 refine T.YC.ok ZD9 (by walk_at "l") (fun cdv A outer s H vs Q E hr h => ?_)
 ·obtain ⟨x, cd, q, d, m, cs, b, y, w, rfl, hB, hR, fc, hC, hne, hcl, hbs, hcB, hq, hW, k⟩ := h
  have hu := ZEK hr
  obtain ⟨hb1, hb2, hy1, hy2, hw1, hw2⟩ := id hW
  refine ⟨_, QB.h (ZCS (qsS (i := 3) ZD9.nd ZCT) (ZCS (ZIv (ZDs PassesOwn.never rfl (ZIt (qv 1)) (qgN (i := 4) ZD9.nd) (ZCV (qsS (i := 3) ZD9.nd (ZCa ZDK (qv 3) (qcS (ZOS T) hr.m T.ZBW T.ZAU.kp T.ZBU (ZCQ (ZLR rfl rfl T.Z0 (ZEC hu (qv 1) (qv 4))) (ZCQ (qv 2) ZCR)))))))) (ZCS (qsS (i := 5) ZD9.nd (ZDZ (qv 0) T.Zr T.ZAL (ZJt T) hr T.ZAR .nil ZDh (ZCQ (qv 2) ZCR))) (ZCV (ZCj (ZGt (ZIp (ZIL) (qv 5) (qv 3) (ZDL _)) (ZIY (ZIp (ZFE) (qv 5) (ZCa ZCz (ZCa ZCz ZCT (ZCp (ZDE K rfl) (qv 2) ZCT)) (ZCy ZRo rfl T.ZY ZEg (ZCQ (qv 1) ZCR))) (ZDL _))))))))), ?_⟩
  walk_at "s"
  walk_at "w"
  refine ZL0 fc fun ob H2 nf f2 K2 => ?_
  refine ZIu (fun i U H' => Kp cd H H' /\ H' cd = some (.frz ob (.dK (dkS (cvR cs)))) /\ ∃ ns : List Int, (∃ v4 v5, U = [some (.ref x), some (.ref cd), some (.ref q), some (.int ns.sum), v4, v5]) /\ Paired (ZQL b y w) (cs.take i) ns) ⟨K2, f2, [], ⟨_, _, rfl⟩, .nil⟩ (fun i' U H' _ h => h.2.1) ?_ ?_
  ·rintro i pr U H3 hpr ⟨K3, f3, ns, ⟨v4, v5, rfl⟩, hO3⟩
   have hi : i < cs.length := by
    have := (Uj.mp hpr).1
    simpa [dkS, cvR] using this
   have epr : pr = (.inr cs[i].1, .ref cs[i].2.1) := by
    unfold dkS cvR at hpr
    rw [Ut, Ut, Uc hi] at hpr
    exact (Option.some.inj hpr).symm
   rw [epr]
   have hc : cs[i] ∈ cs := Vm hi
   have htk : cs.take (i + 1) = cs.take i ++ [cs[i]] := by rw [Vc, Uc hi]; rfl
   generalize hcc : cs[i] = c at *
   obtain ⟨kk, hd, sm⟩ := c
   dsimp only at *
   have hgc := ZDj hC.nd hc
   have fhd := K3 _ _ (hC.hd _ hc) (hne _ hc)
   have hsb := hbs _ hc
   have hnk := hC.nk _ hc
   dsimp only at fhd hsb hnk
   walk_at "w"
   refine ZG5 (v := .ref hd) f3 (by rw [ZD3, hgc]; rfl) ?_
   walk_at "w"
   refine ZLS fhd hnk hsb fun l4 H4 cv4 n4 hL4 hC4 hlc S4 => ?_
   have hcm : ∀ r, r ∈ cv4 ↔ r ∈ sm := fun r => by
    obtain ⟨t0, x0⟩ := r
    rw [hC4.2, ZDl hnk]
   have hq4 : H4 q = some (.tup [.int b, .int y, .int w]) := S4 _ _ (K3 _ _ hq fun z => by rw [z, fc] at hq; cases hq)
   walk_at "w"
   refine ⟨l4, q, cv4, b, y, w, rfl, hL4, hC4.1, by omega, hq4, hW, fun fs H5 hF5 S5 => ?_⟩
   walk_at "w"
   refine ⟨K3.then (S4.trans S5), (S4.trans S5) _ _ f3, ns ++ [((ddp (ZDP fs)).length : Int)], ⟨some (.str kk), v5, by rw [List.sum_append, List.sum_cons, List.sum_nil, Int.add_zero]; rfl⟩, ?_⟩
   ·rw [htk]
    exact Paired.snocP hO3 ⟨cv4, fs, hC4.1, hcm, hF5, rfl⟩
  ·rintro U H3 ⟨K3, f3, ns, ⟨v4, v5, rfl⟩, hO3⟩
   have el : (dkS (cvR cs)).length = cs.length := by simp [dkS, cvR]
   rw [el, US] at hO3
   refine ZG7 nf f3 True.intro fun H4 f4 K4 => ?_
   have S04 : ZCW H H4 := fun b o e => by
    by_cases z : b = cd
    ·rw [z] at e ⊢
     rw [f4, <- fc, e]
    ·exact K4 _ _ (K3 _ _ e z) z
   have hB4 := hB.same S04
   have hq4 := S04 _ _ hq
   have hml : m.length <= 10 := by
    have := congrArg List.length hR.keys
    simp only [Ui] at this
    omega
   obtain ⟨⟨dx4, hp4⟩, _⟩ := id hB4
   walk_at "w"
   refine ZDR hp4 (ZLH (by decide +kernel)) ?_
   walk_at "w"
   refine ⟨x, d, q, m, b, y, w, rfl, hB4, by omega, hW.winT hq4, by omega, fun ns5 H5 hP5 hB5 F5 => ?_⟩
   obtain rfl := ZMA hR hP5 hO3
   have hle := ZMB (by omega) hO3
   have hq5 := FrL.tup F5 hB4.bin.noTup hq4
   have hc5 : H5 cd = some (.dK (dkS (cvR cs))) := F5 _ _ f4 fun z => hcB (by
    obtain ⟨z', hz, e⟩ := Uy.mp z
    exact ZCr.mpr (.inr (.inr ⟨z', hz, by rw [<- e]; simp [SS.all, SA.own]⟩)))
   walk_at "w"
   rw [decide_eq_true rfl]
   refine ZEe ?_
   walk_at "w"
   refine ⟨cd, _, rfl, hc5, ?_⟩
   rw [el]
   walk_at "w"
   rw [decide_eq_true hle]
   exact k H5 hB5 fun b o e nb => F5 _ _ (S04 _ _ e) nb
end
theorem ZD5.mem {m : List (Str × SS)} {cs : List Cv} (h : ZD5 m cs) {x : Str × SS} (hx : x ∈ m) : ∃ c ∈ cs, c.1 = x.1 /\ c.2.2 = x.2.sm := by
 have : (x.1, x.2.sm) ∈ m.map fun q => (q.1, q.2.sm) := Uy.mpr ⟨x, hx, rfl⟩
 unfold ZD5 at h
 rw [h] at this
 obtain ⟨c, hc, e⟩ := Uy.mp this
 exact ⟨c, hc, congrArg Prod.fst e, congrArg Prod.snd e⟩
theorem ZD5.put {m : List (Str × SS)} {cs : List Cv} (h : ZD5 m cs) {k : Str} {q : SS} {c : Addr × PL} (e : q.sm = c.2) : ZD5 (ZCv m k q) (ZCv cs k c) := by
 unfold ZD5 at h ⊢
 have h1 := ZII (f := SS.sm) (k := k) (q' := q) m
 have h2 := ZII (f := fun c : Addr × PL => c.2) (k := k) (q' := c) cs
 rw [h1, h2, h, e]
section
variable {P : Program} {w : World} {K : W.Frag} {mg : Str -> Option Value} {base : Heap} {a : Ad}
local macro_rules | `(tactic| walk_at "rd") => `(tactic| first
 | with_reducible first | refine ZFW ?_ | refine ZFX ?_ | refine ZFV ?_)
def ZJ4 (K : W.Frag) : Sp := fun vs H Q _ => ∃ (s : Addr) (ns : List Int), vs = [.ref s] /\ SqL K H s (ns.map V.int) /\ ns.length <= 63 /\ ∀ H', Q (.bl true) H'
theorem ZEJ : ZCd ["_law_script", "_law_k", "_law_purse_here", "_law_window_here", "_law_curves_here", "_law_board_here", "_law_names", "_law_name", "_law_time", "_law_store"] ["_law_script"] (ZCU ZEO) := ZC6
theorem ZT2 (T : Txt K mg a) : ZCi P w K mg base CX0 11 a.ZAu a.ZAz ["_law_script"] (ZJ4 K) := by
 refine T.ZCE.ok ZEJ (by walk_at "l") (fun cdv A outer s H vs Q E hr h => ?_)
 ·obtain ⟨s, ns, rfl, hS, hn, k⟩ := h
  have hu := ZEK hr
  have hu64 := hr.units
  refine ⟨_, QB.h (ZCS (ZDs PassesOwn.never rfl (ZEW rfl T.ZX (ZCQ (ZCy (ZS1 rfl) rfl T.ZAI ZNW (ZCQ ZCT (ZCQ (ZCy (ZS2 rfl) rfl T.ZAJ ZNX (ZCQ (ZCy (ZF8 K rfl) rfl T.ZY ZEg (ZCQ (qv 0) ZCR)) (ZCQ ZCT ZCR))) ZCR))) ZCR)) (qgN (i := 1) ZEJ.nd) (ZCS (qsS (i := 2) ZEJ.nd (qcS (ZM3 T) hr.m T.ZBE T.J8.kp T.ZBJ (ZCQ (qcS (ZOA T) hr.m T.ZBO T.ZAO.kp T.ZBR (ZCQ (qv 0) (ZCQ (qv 1) ZCR))) (ZCQ (qv 1) ZCR)))) (ZCS (qsS (i := 3) ZEJ.nd (qcS (ZLg T) hr.m T.ZA4 T.Js.kp T.ZAo (ZCQ (qv 2) ZCR))) (ZCS (qsS (i := 4) ZEJ.nd (qcS (ZLh T) hr.m T.ZAt T.Jo.kp T.ZAm (ZCQ (qv 2) (ZCQ (qv 3) ZCR)))) (ZCS (qsS (i := 5) ZEJ.nd (qcS (ZNB T) hr T.ZBF T.J9.kp T.ZBL (ZCQ (qv 4) ZCR))) (ZCS (ZDi (ZE4 (ZFR (qcS (ZHT T) hr.m T.JX T.YC.kp T.JW (ZCQ (qv 5) (ZCQ (qv 4) (ZCQ (qv 3) ZCR)))))) (ZCV (ZCj ZMW)) ZDJ) (ZCS (qsS (i := 6) ZEJ.nd (ZCy (ZLW rfl) rfl T.Z0 ZGs (ZCQ (qv 4) ZCR))) (ZCV (ZDi (ZDD (ZKv K rfl hu) (qv 6) (ZDm ZCR) (ZDL _)) (ZCS (qsS (i := 7) ZEJ.nd (ZCp (ZDU K rfl) (qv 6) (qcS (ZDA T) hr.m T.ZF T.ZC.kp T.ZE (ZCQ (qv 2) (ZCQ (ZCy (ZF8 K rfl) rfl T.ZY ZEg (ZCQ (qv 6) ZCR)) ZCR))))) (ZCS (qsS (i := 8) ZEJ.nd (ZCa ZDK (ZCp (ZDE K rfl) (qv 3) ZCT) (qcS (ZDA T) hr.m T.ZF T.ZC.kp T.ZE (ZCQ (qv 2) (ZCQ (ZCa ZCz (ZCp (ZDE K rfl) (qv 3) ZCT) (ZCp (ZDE K rfl) (qv 3) ZCT)) ZCR))))) (ZCS (ZEs hu (ZCa ZF4 (qcS (ZDA T) hr.m T.ZF T.ZC.kp T.ZE (ZCQ (qv 2) (ZCQ ZCT ZCR))) ZCT) (ZEC hu (qv 4) (qv 7)) (qv 8)) (ZCS (qsS (i := 9) ZEJ.nd (ZDZ (qv 5) T.Zr T.Ym (ZGE T) hr.m T.Yr .nil ZDh (ZCQ (qv 7) ZCR))) (ZCS (ZC4 (ZDZ (qv 9) T.ZH T.JZ (ZHP T) hr.m T.JY .nil ZDh (ZCQ (qv 8) (ZCQ (ZEC hu (ZEC hu (qv 4) (qv 7)) (qv 8)) ZCR)))) (ZCV (ZDi (ZE4 (ZFR (qcS (ZHT T) hr.m T.JX T.YC.kp T.JW (ZCQ (qv 5) (ZCQ (qv 4) (ZCQ (qv 3) ZCR)))))) (ZCV (ZCj ZMW)) ZDJ))))))) ZDJ))))))))) (ZCV (ZCj ZMW))), ?_⟩
  walk_at "s"
  walk_at "w"
  generalize hj : (if (if (10 : Int) < ((ns.map V.int).length : Int) then (10 : Int) else ((ns.map V.int).length : Int)) > 1 then (if (10 : Int) < ((ns.map V.int).length : Int) then (10 : Int) else ((ns.map V.int).length : Int)) else 1) = j
  have hj1 : 1 <= j := by rw [<- hj]; split <;> omega
  have hj2 : j <= 10 := by rw [<- hj]; split <;> (try split) <;> omega
  refine ZF5 (by omega) (by omega) (ZF6 (fun i U H' => (∃ v1 v2 v3 v4 v5 v6 v7 v8 v9, U = [some (.ref s), v1, v2, v3, v4, v5, v6, v7, v8, v9]) /\ ZCW H H') ⟨⟨_, _, _, _, _, _, _, _, _, rfl⟩, ZCW.refl H⟩ ?_ ?_)
  ·rintro i U H1 hi ⟨⟨v1, v2, v3, v4, v5, v6, v7, v8, v9, rfl⟩, S1⟩
   have hi2 : (i : Int) < 10 := by omega
   walk_at "w"
   refine ⟨s, ns, _, rfl, S1.seq hS, by omega, ?_⟩
   walk_at "w"
   refine ⟨_, _, rfl, by omega, by omega, fun p H2 n2 P2 S2 => ?_⟩
   walk_at "w"
   refine ⟨p, rfl, P2, fun q b y w H3 hq3 hW P3 K3 => ?_⟩
   have hwy := hW.mul
   have hcm : y * w = w * y := Int.mul_comm _ _
   obtain ⟨hb1, hb2, hy1, hy2, hw1, hw2⟩ := id hW
   have S13 : ZCW H1 H3 := S2.kpN n2 K3
   walk_at "w"
   refine ⟨p, q, b, y, w, rfl, P3, hq3, hW, fun cd cs H4 C4 => ?_⟩
   have hq4 := C4.kp _ _ hq3 (P3.ne_tup hq3)
   have S14 : ZCW H1 H4 := S13.kpN n2 C4.kp
   walk_at "w"
   refine ⟨cd, cs, rfl, C4.fc, C4.cv, fun c hc => (C4.nc c hc).1, by have := C4.ln; omega, fun c hc => ⟨by have := (C4.bs c hc).1; omega, fun r hr => ?_⟩, fun x d m H5 hB5 hR5 hF5 hfr5 S5 => ?_⟩
   ·have := (C4.bs c hc).2 r hr
    exact ⟨by omega, by omega⟩
   have C5 := C4.same S5
   have hq5 := S5 _ _ hq4
   have S15 := S14.trans S5
   have live : ∀ {b o}, H4 b = some o -> b ∉ BL x d m := fun e z => by rw [hfr5 _ z] at e; cases e
   have fr1 : ∀ b ∈ BL x d m, H1 b = none := fun b hb => ZGB S14 (hfr5 b hb)
   have trin : ∀ {m : List (Str × SS)} {b : Addr}, b ∈ trs m -> b ∈ BL x d m := fun hb => by
    obtain ⟨z, hz, e⟩ := Uy.mp hb
    exact ZCr.mpr (.inr (.inr ⟨z, hz, by rw [<- e]; simp [SS.all, SA.own]⟩))
   walk_at "w"
   refine ⟨x, cd, q, d, m, cs, b, y, w, rfl, hB5, hR5, C5.fc, C5.cv, (fun c hc => (C5.nc c hc).1), by have := C5.ln; omega, (fun c hc => by have := (C5.bs c hc).1; omega), live C4.fc, hq5, hW, fun H6 hB6 F6 => ?_⟩
   have S16 : ZCW H1 H6 := F6.fresh S15 fun b hb => fr1 b (trin hb)
   have C6 : CI H3 H6 p cd cs b y w 4 28 := ⟨F6 _ _ C5.fc fun z => live C4.fc (trin z), C5.cv.frL F6 fun c hc z => live (C4.cv.hd c hc) (trin z), C5.nc, C5.n0, C5.ln, C5.bs, by
    obtain ⟨xx, nn, cc, e, r⟩ := C5.pu
    obtain ⟨_, _, _, e6, _⟩ := C4.pu
    exact ⟨xx, nn, cc, F6 _ _ e fun z => live e6 (trin z), r⟩, fun b o e nb => F6 _ _ (C5.kp _ _ e nb) fun z => by
     have := C4.kp _ _ e nb
     exact live this (trin z)⟩
   have hq6 := FrL.tup F6 hB5.bin.noTup hq5
   walk_at "w"
   refine ZDp ?_
   walk_at "w"
   refine ZMx C6.fc (by rw [ZL6]; have := C6.ln; omega) fun l7 H7 ss n7 f7 hp7 hs7 S7 => ?_
   rw [ZQI] at hp7
   walk_at "w"
   refine ZCm (by show 0 <= sizeLine; decide) fun l8 H8 n8 f8 S8 => ?_
   refine ZKw (SqL.of (S8 _ _ f7)) (SqL.of f8) ?_
   have S68 := S7.trans S8
   have C8 := C6.same S68
   have f78 := S8 _ _ f7
   walk_at "w"
   cases hb : (ss.map V.str).isEmpty with
   | true =>
    refine ZDp ?_
    walk_at "w"
    exact ⟨⟨_, _, _, _, _, _, _, _, _, rfl⟩, S1.trans (S16.trans S68)⟩
   | false =>
    refine ZEe ?_
    have hpos : 0 < ss.length := by
     cases ss with
     | nil => cases hb
     | cons v vs => simp
    have hssl : ss.length <= 4 := by
     have := hp7.length_eq
     rw [Ui] at this
     have := C8.ln
     omega
    walk_at "w"
    refine ⟨p, _, rfl, C8.pu, by rw [Ui]; omega, Int.lt_of_le_of_lt (show ((ss.map V.str).length : Int) <= 100 by rw [Ui]; omega) (by decide), fun d9 H9 h9 h9' P9 K9 => ?_⟩
    rw [Ui] at h9'
    obtain ⟨n9, rfl⟩ : ∃ n : Nat, d9 = (n : Int) := ⟨d9.toNat, by omega⟩
    have hn9 : n9 < ss.length := by omega
    have f9 := K9 _ _ f78 (C6.pu.neN n7)
    have C9 := C8.pur K9 P9
    have hk9 : ss[n9] ∈ cs.map (·.1) := hp7.mem_iff.mp (Vm hn9)
    have hx9 : (ss.map V.str)[n9]? = some (.str ss[n9]) := by rw [Ut, Uc hn9]; rfl
    generalize ss[n9] = k0 at hk9 hx9
    refine ZE1 (SqL.of f9) (ZEo hx9) ?_
    obtain ⟨b0, sm0, hc0⟩ : ∃ b0 sm0, (k0, b0, sm0) ∈ cs := by
     obtain ⟨c, hc, e⟩ := Uy.mp hk9
     exact ⟨c.2.1, c.2.2, by rw [<- e]; exact hc⟩
    have hg0 := ZDj C9.cv.nd hc0
    have hq9 := K9 _ _ (S68 _ _ hq6) (C8.pu.ne_tup (S68 _ _ hq6))
    walk_at "w"
    refine ⟨p, _, rfl, C9.pu, by omega, Int.lt_of_le_of_lt (show y * w <= 100 by omega) (by decide), fun d10 H10 h10 h10' P10 K10 => ?_⟩
    have C10 := C9.pur K10 P10
    have hq10 := K10 _ _ hq9 (C9.pu.ne_tup hq9)
    walk_at "w"
    refine ⟨p, _, rfl, C10.pu, by decide, by decide, fun d11 H11 h11 h11' P11 K11 => ?_⟩
    have C11 := C10.pur K11 P11
    have hq11 := K11 _ _ hq10 (C10.pu.ne_tup hq10)
    have fb0 := C11.cv.hd _ hc0
    have hb0 := C11.bs _ hc0
    have nb0 := C11.nc _ hc0
    have kn0 := C11.cv.nk _ hc0
    dsimp only at fb0 hb0 nb0 kn0
    walk_at "w"
    refine ZGX (v := .ref b0) C11.fc (by rw [ZD3, hg0]; rfl) ?_
    walk_at "w"
    refine ZGO fb0 (Uu (show sm0.length <= 100 by omega) (by decide)) fun H12 f12 K12 => ?_
    have ht0 : Tm (b + d10) := ⟨by omega, by omega⟩
    generalize b + d10 = t0 at *
    generalize d11 - 30 = h0 at *
    have CV12 := C11.cv.put hg0 K12 f12
    have fc12 : H12 cd = some (.dK (dkS (cvR (ZCv cs k0 (b0, ZCn sm0 t0 h0))))) := by
     rw [ZL7 C11.cv.nd hg0]
     exact K12 _ _ C11.fc (Ne.symm nb0.1)
    have hq12 := K12 _ _ hq11 fun z => by rw [z, fb0] at hq11; cases hq11
    have pB : p ∉ BL x d m := by
     obtain ⟨_, _, _, e6, _⟩ := C4.pu
     exact live e6
    have b0B : b0 ∉ BL x d m := live (C4.cv.hd _ hc0)
    have hB12 : ZCc a H12 x d m := ((((hB6.same S68).pur C8.pu K9 pB).pur C9.pu K10 pB).pur C10.pu K11 pB).frL (l := [b0]) (FrL.kp K12 (by simp)) (fun b hb => by rw [Ud.mp hb]; exact b0B) fun b hb xs => by rw [Ud.mp hb, fb0]; intro z; cases z
    have S112 : ZCW H1 H12 := ((((S16.trans S68).kpN n2 K9).kpN n2 K10).kpN n2 K11).kpN (ZGB S13 nb0.2) K12
    have hmem2 : ∀ c ∈ ZCv cs k0 (b0, ZCn sm0 t0 h0), c = (k0, b0, ZCn sm0 t0 h0) \/ (c ∈ cs /\ c.1 ≠ k0) := fun c hc => ZFh hc
    have hkeys2 : (ZCv cs k0 (b0, ZCn sm0 t0 h0)).map (·.1) = cs.map (·.1) := ZFr hg0
    have hgp : ZCf (ZCv cs k0 (b0, ZCn sm0 t0 h0)) k0 = some (b0, ZCn sm0 t0 h0) := ZDj CV12.nd (by
     unfold ZCv
     rw [if_pos (by rw [UQ]; exact ⟨_, hc0, by simp⟩)]
     exact Uy.mpr ⟨_, hc0, by simp⟩)
    have hml : m.length <= 4 := by
     have := congrArg List.length hR5.keys
     simp only [Ui] at this
     have := C5.ln
     omega
    obtain ⟨⟨dx12, hp12⟩, _⟩ := id hB12
    walk_at "w"
    refine ZDR hp12 (ZLH (by decide +kernel)) ?_
    walk_at "w"
    refine ZOO ⟨x, d, m, k0, rfl, C11.cv.nm _ hc0, hB12, by omega, fun st m' H13 hg13 hm13 hB13 K13 => ?_⟩
    have hk0m : k0 ∈ m.map (·.1) := by rw [hR5.keys]; exact hk9
    obtain ⟨em, S13'⟩ := hm13.resolve_right fun ⟨z, _⟩ => (ZDy.mp z) hk0m
    rw [em] at hg13 hB13
    have esm : st.sm = sm0 := by
     obtain ⟨c, hc, e1, e2⟩ := hR5.mem (ZDG hg13)
     obtain ⟨ck, cb, csm⟩ := c
     dsimp only at e1 e2
     subst e1
     have := ZDj C9.cv.nd hc
     rw [hg0] at this
     rw [<- e2]
     exact (congrArg Prod.snd (Option.some.inj this)).symm
    have few := hF5 _ (ZDG hg13)
    dsimp only at few
    obtain ⟨n13, hS13⟩ := hB13.bin.st _ (ZDG hg13)
    dsimp only at hS13
    obtain ⟨dxS, vsS, hpS, _⟩ := id hS13
    walk_at "w"
    refine ZDR hpS ZHN ?_
    walk_at "w"
    refine ZGX (v := .ref b0) (S13' _ _ fc12) (by rw [ZD3, hgp]; rfl) ?_
    walk_at "w"
    refine ZKb (S13' _ _ f12) (v := h0) (by rw [ZH3, if_pos rfl]) ?_
    walk_at "w"
    refine ⟨st.S, n13, t0, h0, st.sm, _, _, _, _, rfl, hS13, ht0, by omega, by rw [esm]; omega, by omega, by omega, fun H14 hS14 F14 => ?_⟩
    generalize hst2 : (⟨st.S, ZCn st.sm t0 h0, st.c + 1, st.ds ++ [(t0, ZCx st.sm t0)], st.ts ++ [t0], st.ws⟩ : SS) = st2
    have eS2 : st2.S = st.S := by rw [<- hst2]
    have hB14 : ZCc a H14 x d (ZCv m k0 st2) := hB13.deed hg13 eS2 (by rw [<- hst2]; exact ⟨n13, hS14⟩) F14
    have hR14 : ZD5 (ZCv m k0 st2) (ZCv cs k0 (b0, ZCn sm0 t0 h0)) := hR5.put (by rw [<- hst2]; show ZCn st.sm t0 h0 = _; rw [esm])
    have own : ∀ {b}, b ∈ st.S.own -> b ∈ BL x d m := fun z => ZCr.mpr (.inr (.inr ⟨_, ZDG hg13, Us _ z⟩))
    have kp14 : ∀ {b o}, H12 b = some o -> b ∉ BL x d m -> H14 b = some o := fun {b o} e n => F14 _ _ (S13' _ _ e) fun z => n (own z)
    have S114 : ZCW H1 H14 := fun b o e => F14 _ _ ((S112.trans S13') _ _ e) fun z => by rw [fr1 b (own z)] at e; cases e
    have BLs : ∀ b ∈ BL x d (ZCv m k0 st2), b ∈ BL x d m := fun b hb => by
     rcases ZCr.mp hb with h | h | ⟨z, hz, h⟩
     ·exact ZCr.mpr (.inl h)
     ·exact ZCr.mpr (.inr (.inl h))
     ·rcases ZFh hz with rfl | ⟨hz, _⟩
      ·unfold SS.all at h
       dsimp only at h
       rw [eS2] at h
       exact ZCr.mpr (.inr (.inr ⟨_, ZDG hg13, h⟩))
      ·exact ZCr.mpr (.inr (.inr ⟨z, hz, h⟩))
    have liveC : ∀ c ∈ ZCv cs k0 (b0, ZCn sm0 t0 h0), c.2.1 ∉ BL x d m /\ c.2.1 ≠ cd /\ c.2.2.length < 64 := fun c hc => by
     rcases hmem2 c hc with rfl | ⟨hc, _⟩
     ·exact ⟨b0B, nb0.1, Uu (ZGP _ _ _) (by omega)⟩
     ·exact ⟨live (C4.cv.hd c hc), (C4.nc c hc).1, by have := (C4.bs c hc).1; omega⟩
    have cdB : cd ∉ BL x d m := live C4.fc
    walk_at "w"
    refine ⟨x, cd, q, d, ZCv m k0 st2, _, b, y, w, rfl, hB14, hR14, kp14 fc12 cdB, ⟨CV12.nd, CV12.na, fun c hc => kp14 (CV12.hd c hc) (liveC c hc).1, CV12.nk, CV12.nm⟩, fun c hc => (liveC c hc).2.1, ?_, fun c hc => (liveC c hc).2.2, fun z => cdB (BLs _ z), kp14 hq12 (live hq4), hW, fun H15 hB15 F15 => ?_⟩
    ·have := congrArg List.length hkeys2
     simp only [Ui] at this
     have := C4.ln
     omega
    have S115 : ZCW H1 H15 := F15.fresh S114 fun b hb => fr1 b (BLs b (trin hb))
    walk_at "w"
    refine ZDp ?_
    walk_at "w"
    exact ⟨⟨_, _, _, _, _, _, _, _, _, rfl⟩, S1.trans S115⟩
  ·rintro U H1 ⟨⟨v1, v2, v3, v4, v5, v6, v7, v8, v9, rfl⟩, S1⟩
   walk_at "w"
   exact k H1
end
structure FnH (K : W.Frag) (x : Str) (st : Stmt) (f : Addr) (d : FuncData) : Prop where
 a : W.nsIn K mainGlobals x = some (some (.ref f))
 F : Fun K x x st f d
structure MtH (K : W.Frag) (C : Addr) (x q : Str) (st : Stmt) (f : Addr) (d : FuncData) : Prop where
 a : W.findIn K (.ref C) x = some (some (.ref f))
 i : W.isFn K (.ref f) = true
 F : Fun K x q st f d
open PySem.W in
theorem all_mk {l : OpenLaw} {w : World} {K : Frag} {h : Heap} {mg : Str -> Option Value} {fa : Addr} (X : K.In h) (G : h.Ns mainGlobals mg) (hfa : mg "law" = some (.ref fa))
 {ZB ZA ZD ZS ZL ZR Zg : Addr}
 {f0 f1 f2 f3 f4 f5 f6 f7 f8 f9 f10 f11 f12 f13 f14 f15 f16 f17 f18 f19 f20 f21 f22 f23 f24 f25 f26 f27 f28 f29 f30 f31 f32 f33 f34 f35 f36 f37 f38 f39 f40 f41 f42 f43 f44 f45 f46 f47 f48 f49 f50 f51 : Addr} {d0 d1 d2 d3 d4 d5 d6 d7 d8 d9 d10 d11 d12 d13 d14 d16 d17 d18 d19 d20 d21 d23 d24 d25 d26 d27 d28 d29 d30 d31 d32 d33 d34 d35 d36 d37 d38 d39 d40 d41 d42 d43 d44 d45 d46 d47 d48 d49 d50 : FuncData}
 {od15 an15 : Option Addr} {sl15 : Array (Option Value)} {oc15 kV15 dc15 pm15 cd15 ct15 : Value}
 {dt15 : Addr} {dod15 : Option Addr} {dsl15 : Array (Option Value)} {doc15 : Value} {dn15 : Nat}
 {od22 an22 : Option Addr} {sl22 : Array (Option Value)} {oc22 kV22 dc22 pm22 cd22 ct22 : Value}
 {dt22 : Addr} {dod22 : Option Addr} {dsl22 : Array (Option Value)} {doc22 : Value} {dn22 : Nat}
 {od51 an51 : Option Addr} {sl51 : Array (Option Value)} {oc51 kV51 dc51 pm51 cd51 ct51 : Value}
 {tk_TOP_LEVEL : Tok}
 {tk_TIMES_END : Tok}
 {tk_LETTERS : Tok}
 {tk_LONGEST_NAME : Tok}
 (e_NoColumn : ZMt K "NoColumn" ZS)
 (e_OutOfTimes : ZMt K "OutOfTimes" ZL)
 (e_NoSample : ZMt K "NoSample" ZR)
 (e_NoName : ZMt K "NoName" Zg)
 (e_Tree : ZPo K "Tree" ZB)
 (na_Tree_looks : findIn K (.ref ZB) "looks" = some none)
 (na_Tree_samples : findIn K (.ref ZB) "samples" = some none)
 (na_Tree_kept_fours : findIn K (.ref ZB) "kept_fours" = some none)
 (e_Store : ZPo K "Store" ZA)
 (na_Store_tree : findIn K (.ref ZA) "tree" = some none)
 (na_Store_deeds : findIn K (.ref ZA) "deeds" = some none)
 (na_Store_done : findIn K (.ref ZA) "done" = some none)
 (na_Store_watches : findIn K (.ref ZA) "watches" = some none)
 (e_Board : ZPo K "Board" ZD)
 (na_Board_stores : findIn K (.ref ZD) "stores" = some none)
 (F0 : FnH K "_wall" ZL3 f0 d0)
 (F1 : FnH K "is_whole" ZGa f1 d1)
 (F2 : FnH K "curve_of" ZFF f2 d2)
 (F3 : FnH K "times_of" ZGb f3 d3)
 (F4 : FnH K "columns_of" ZEh f4 d4)
 (F5 : FnH K "height_of" ZFv f5 d5)
 (F6 : FnH K "four_of" ZG9 f6 d6)
 (F7 : FnH K "joined" ZIB f7 d7)
 (F8 : FnH K "kept_of" ZHA f8 d8)
 (F9 : FnH K "is_border" ZFw f9 d9)
 (F10 : FnH K "check_borders" ZEi f10 d10)
 (F11 : FnH K "check_time" ZFb f11 d11)
 (F12 : FnH K "check_window" ZEv f12 d12)
 (F13 : FnH K "stretches" ZFx f13 d13)
 (F14 : FnH K "longest" ZHB f14 d14)
 (a15 : findIn K (.ref ZB) "__init__" = some (some (.ref f15))) (i15 : isFn K (.ref f15) = true)
 (l15 : K.lookup f15 = some ⟨oc15, od15, .func (fnOf "__init__" "Tree.__init__" (ZDS ZDC) (ZDH ZDC) (ZCU ZDC) (.ref dt15) kV15 dc15 pm15 an15 cd15 ct15), sl15⟩) (c15 : codeIn K cd15 "Tree.__init__" = true) (k15 : keepIn K (.ref f15) = true)
 (dl15 : K.lookup dt15 = some ⟨doc15, dod15, .seq #[.none] dn15, dsl15⟩)
 (F16 : MtH K ZB "put" "Tree.put" ZGc f16 d16)
 (F17 : MtH K ZB "take" "Tree.take" ZFy f17 d17)
 (F18 : MtH K ZB "renew" "Tree.renew" ZFc f18 d18)
 (F19 : MtH K ZB "four" "Tree.four" ZFz f19 d19)
 (F20 : MtH K ZB "fours" "Tree.fours" ZEj f20 d20)
 (F21 : MtH K ZB "told" "Tree.told" ZHn f21 d21)
 (a22 : findIn K (.ref ZA) "__init__" = some (some (.ref f22))) (i22 : isFn K (.ref f22) = true)
 (l22 : K.lookup f22 = some ⟨oc22, od22, .func (fnOf "__init__" "Store.__init__" (ZDS ZC7) (ZDH ZC7) (ZCU ZC7) (.ref dt22) kV22 dc22 pm22 an22 cd22 ct22), sl22⟩) (c22 : codeIn K cd22 "Store.__init__" = true) (k22 : keepIn K (.ref f22) = true)
 (dl22 : K.lookup dt22 = some ⟨doc22, dod22, .seq #[.none] dn22, dsl22⟩)
 (F23 : MtH K ZA "put" "Store.put" ZF0 f23 d23)
 (F24 : MtH K ZA "take" "Store.take" ZHC f24 d24)
 (F25 : MtH K ZA "height" "Store.height" ZGD f25 d25)
 (F26 : MtH K ZA "check_sample" "Store.check_sample" ZEk f26 d26)
 (F27 : MtH K ZA "do" "Store.do" ZGd f27 d27)
 (F28 : MtH K ZA "bring" "Store.bring" ZFA f28 d28)
 (F29 : MtH K ZA "undo" "Store.undo" ZHD f29 d29)
 (F30 : MtH K ZA "times" "Store.times" ZGj f30 d30)
 (F31 : MtH K ZA "four" "Store.four" ZHE f31 d31)
 (F32 : MtH K ZA "fours" "Store.fours" ZFB f32 d32)
 (F33 : MtH K ZA "told" "Store.told" ZHF f33 d33)
 (F34 : MtH K ZA "watch" "Store.watch" ZGk f34 d34)
 (F35 : MtH K ZA "news" "Store.news" ZHG f35 d35)
 (F36 : FnH K "is_name" ZFm f36 d36)
 (F37 : MtH K ZD "__init__" "Board.__init__" ZER f37 d37)
 (F38 : MtH K ZD "store" "Board.store" ZFC f38 d38)
 (F39 : MtH K ZD "names" "Board.names" ZGl f39 d39)
 (F40 : MtH K ZD "picture" "Board.picture" ZFn f40 d40)
 (F41 : MtH K ZD "kept" "Board.kept" ZEl f41 d41)
 (F42 : FnH K "_law_cell" ZIC f42 d42)
 (F43 : FnH K "_law_purse" ZHH f43 d43)
 (F44 : FnH K "_law_draw" ZID f44 d44)
 (F45 : FnH K "_law_window" ZGe f45 d45)
 (F46 : FnH K "_law_curves" ZGf f46 d46)
 (F47 : FnH K "_law_board" ZHI f47 d47)
 (F48 : FnH K "_law_first" ZHJ f48 d48)
 (F49 : FnH K "_law_kept" ZGg f49 d49)
 (F50 : FnH K "_law_is_told" ZF1 f50 d50)
 (a51 : nsIn K mainGlobals "law" = some (some (.ref f51)))
 (l51 : K.lookup f51 = some ⟨oc51, od51, .func (fnOf "law" "law" (ZDS ZEO) (ZDH ZEO) (ZCU ZEO) .none kV51 dc51 pm51 an51 cd51 ct51), sl51⟩) (c51 : codeIn K cd51 "law" = true) (k51 : keepIn K (.ref f51) = true)
 (ac_TOP_LEVEL : nsIn K mainGlobals "TOP_LEVEL" = some (some (.int 40 tk_TOP_LEVEL)))
 (ac_TIMES_END : nsIn K mainGlobals "TIMES_END" = some (some (.int 1099511627776 tk_TIMES_END)))
 (ac_LETTERS : nsIn K mainGlobals "LETTERS" = some (some (.str "abcdefghijklmnopqrstuvwxyz" tk_LETTERS)))
 (ac_LONGEST_NAME : nsIn K mainGlobals "LONGEST_NAME" = some (some (.int 8 tk_LONGEST_NAME)))
 (Yv : nsIn K mainGlobals "ValueError" = some none)
 (ZA6 : nsIn K mainGlobals "abs" = some none)
 (ZA0 : nsIn K mainGlobals "all" = some none)
 (ZAV : nsIn K mainGlobals "bool" = some none)
 (ZAy : nsIn K mainGlobals "int" = some none)
 (ZP : nsIn K mainGlobals "isinstance" = some none)
 (ZY : nsIn K mainGlobals "len" = some none)
 (ZAI : nsIn K mainGlobals "max" = some none)
 (ZAJ : nsIn K mainGlobals "min" = some none)
 (ZX : nsIn K mainGlobals "range" = some none)
 (ZAw : nsIn K mainGlobals "set" = some none)
 (Z0 : nsIn K mainGlobals "sorted" = some none)
 (ZAp : nsIn K mainGlobals "str" = some none)
 (ZA3 : nsIn K mainGlobals "sum" = some none)
 (YT : nsIn K mainGlobals "tuple" = some none)
   : ∃ fd : FuncData, (∀ (s : Shared) (v : Value), BindsTo s fd ⟨[v], []⟩ [("_law_script", v)]) /\ ∀ base : Heap, K.In base -> base.Ns mainGlobals mg -> ZCi l.prog w K mg base CX0 11 fa fd ["_law_script"] (ZJ4 K) := by
  have e := hfa.symm.trans (mg_of X G a51)
  cases e
  have F15 := ZLx (st := ZDC) l15 c15 k15
  have F22 := ZLx (st := ZC7) l22 c22 k22
  have F51 := fun_mk (st := ZEO) l51 c51 k51
  have T : Txt K mg ⟨f0, d0, f1, d1, f2, d2, f3, d3, f4, d4, f5, d5, f6, d6, f7, d7, f8, d8, f9, d9, f10, d10, f11, d11, f12, d12, f13, d13, f14, d14, f15, fnOf "__init__" "Tree.__init__" (ZDS ZDC) (ZDH ZDC) (ZCU ZDC) (.ref dt15) kV15 dc15 pm15 an15 cd15 ct15, f16, d16, f17, d17, f18, d18, f19, d19, f20, d20, f21, d21, f22, fnOf "__init__" "Store.__init__" (ZDS ZC7) (ZDH ZC7) (ZCU ZC7) (.ref dt22) kV22 dc22 pm22 an22 cd22 ct22, f23, d23, f24, d24, f25, d25, f26, d26, f27, d27, f28, d28, f29, d29, f30, d30, f31, d31, f32, d32, f33, d33, f34, d34, f35, d35, f36, d36, f37, d37, f38, d38, f39, d39, f40, d40, f41, d41, f42, d42, f43, d43, f44, d44, f45, d45, f46, d46, f47, d47, f48, d48, f49, d49, f50, d50, fa, fnOf "law" "law" (ZDS ZEO) (ZDH ZEO) (ZCU ZEO) .none kV51 dc51 pm51 an51 cd51 ct51, ZB, ZA, ZD, ZS, ZL, ZR, Zg, tk_TOP_LEVEL, tk_TIMES_END, tk_LETTERS, tk_LONGEST_NAME⟩ := ⟨F0.F, (F0.F.b1 fun _ _ _ _ _ _ _ => rfl), (mg_of X G F0.a), F1.F, (F1.F.b1 fun _ _ _ _ _ _ _ => rfl), (mg_of X G F1.a), F2.F, (F2.F.b1 fun _ _ _ _ _ _ _ => rfl), (mg_of X G F2.a), F3.F, (F3.F.b2 fun _ _ _ _ _ _ _ _ => rfl), (mg_of X G F3.a), F4.F, (F4.F.b1 fun _ _ _ _ _ _ _ => rfl), (mg_of X G F4.a), F5.F, (F5.F.b1 fun _ _ _ _ _ _ _ => rfl), (mg_of X G F5.a), F6.F, (F6.F.b1 fun _ _ _ _ _ _ _ => rfl), (mg_of X G F6.a), F7.F, (F7.F.b2 fun _ _ _ _ _ _ _ _ => rfl), (mg_of X G F7.a), F8.F, (F8.F.b1 fun _ _ _ _ _ _ _ => rfl), (mg_of X G F8.a), F9.F, (F9.F.b1 fun _ _ _ _ _ _ _ => rfl), (mg_of X G F9.a), F10.F, (F10.F.b2 fun _ _ _ _ _ _ _ _ => rfl), (mg_of X G F10.a), F11.F, (F11.F.b1 fun _ _ _ _ _ _ _ => rfl), (mg_of X G F11.a), F12.F, (F12.F.b1 fun _ _ _ _ _ _ _ => rfl), (mg_of X G F12.a), F13.F, (F13.F.b2 fun _ _ _ _ _ _ _ _ => rfl), (mg_of X G F13.a), F14.F, (F14.F.b2 fun _ _ _ _ _ _ _ _ => rfl), (mg_of X G F14.a), F15, (fun s us hI hl => by match us, hl with | [_, _], _ => exact binds_K hI rfl dl15 rfl rfl rfl), (fun s us hI hl => have hl2 : us.length = 1 := (by simpa using hl); match us, hl2 with | [_], _ => binds_K hI rfl dl15 rfl rfl rfl), (fun s u v hI => binds_K hI rfl dl15 rfl rfl rfl), F16.F, (F16.F.b3 fun _ _ _ _ _ _ _ _ _ => rfl), ⟨F16.a, F16.i, F16.F.kp⟩, F17.F, (F17.F.b2 fun _ _ _ _ _ _ _ _ => rfl), ⟨F17.a, F17.i, F17.F.kp⟩, F18.F, (F18.F.b3 fun _ _ _ _ _ _ _ _ _ => rfl), ⟨F18.a, F18.i, F18.F.kp⟩, F19.F, (F19.F.b3 fun _ _ _ _ _ _ _ _ _ => rfl), ⟨F19.a, F19.i, F19.F.kp⟩, F20.F, (F20.F.b2 fun _ _ _ _ _ _ _ _ => rfl), ⟨F20.a, F20.i, F20.F.kp⟩, F21.F, (F21.F.b1 fun _ _ _ _ _ _ _ => rfl), ⟨F21.a, F21.i, F21.F.kp⟩, F22, (fun s us hI hl => by match us, hl with | [_, _], _ => exact binds_K hI rfl dl22 rfl rfl rfl), (fun s us hI hl => have hl2 : us.length = 1 := (by simpa using hl); match us, hl2 with | [_], _ => binds_K hI rfl dl22 rfl rfl rfl), (fun s u v hI => binds_K hI rfl dl22 rfl rfl rfl), F23.F, (F23.F.b3 fun _ _ _ _ _ _ _ _ _ => rfl), ⟨F23.a, F23.i, F23.F.kp⟩, F24.F, (F24.F.b2 fun _ _ _ _ _ _ _ _ => rfl), ⟨F24.a, F24.i, F24.F.kp⟩, F25.F, (F25.F.b2 fun _ _ _ _ _ _ _ _ => rfl), ⟨F25.a, F25.i, F25.F.kp⟩, F26.F, (F26.F.b2 fun _ _ _ _ _ _ _ _ => rfl), ⟨F26.a, F26.i, F26.F.kp⟩, F27.F, (F27.F.b3 fun _ _ _ _ _ _ _ _ _ => rfl), ⟨F27.a, F27.i, F27.F.kp⟩, F28.F, (F28.F.b3 fun _ _ _ _ _ _ _ _ _ => rfl), ⟨F28.a, F28.i, F28.F.kp⟩, F29.F, (F29.F.b1 fun _ _ _ _ _ _ _ => rfl), ⟨F29.a, F29.i, F29.F.kp⟩, F30.F, (F30.F.b1 fun _ _ _ _ _ _ _ => rfl), ⟨F30.a, F30.i, F30.F.kp⟩, F31.F, (F31.F.b3 fun _ _ _ _ _ _ _ _ _ => rfl), ⟨F31.a, F31.i, F31.F.kp⟩, F32.F, (F32.F.b2 fun _ _ _ _ _ _ _ _ => rfl), ⟨F32.a, F32.i, F32.F.kp⟩, F33.F, (F33.F.b1 fun _ _ _ _ _ _ _ => rfl), ⟨F33.a, F33.i, F33.F.kp⟩, F34.F, (F34.F.b2 fun _ _ _ _ _ _ _ _ => rfl), ⟨F34.a, F34.i, F34.F.kp⟩, F35.F, (F35.F.b2 fun _ _ _ _ _ _ _ _ => rfl), ⟨F35.a, F35.i, F35.F.kp⟩, F36.F, (F36.F.b1 fun _ _ _ _ _ _ _ => rfl), (mg_of X G F36.a), F37.F, (F37.F.b1 fun _ _ _ _ _ _ _ => rfl), F38.F, (F38.F.b2 fun _ _ _ _ _ _ _ _ => rfl), ⟨F38.a, F38.i, F38.F.kp⟩, F39.F, (F39.F.b1 fun _ _ _ _ _ _ _ => rfl), ⟨F39.a, F39.i, F39.F.kp⟩, F40.F, (F40.F.b3 fun _ _ _ _ _ _ _ _ _ => rfl), ⟨F40.a, F40.i, F40.F.kp⟩, F41.F, (F41.F.b2 fun _ _ _ _ _ _ _ _ => rfl), ⟨F41.a, F41.i, F41.F.kp⟩, F42.F, (F42.F.b2 fun _ _ _ _ _ _ _ _ => rfl), (mg_of X G F42.a), F43.F, (F43.F.b2 fun _ _ _ _ _ _ _ _ => rfl), (mg_of X G F43.a), F44.F, (F44.F.b2 fun _ _ _ _ _ _ _ _ => rfl), (mg_of X G F44.a), F45.F, (F45.F.b1 fun _ _ _ _ _ _ _ => rfl), (mg_of X G F45.a), F46.F, (F46.F.b2 fun _ _ _ _ _ _ _ _ => rfl), (mg_of X G F46.a), F47.F, (F47.F.b1 fun _ _ _ _ _ _ _ => rfl), (mg_of X G F47.a), F48.F, (F48.F.b2 fun _ _ _ _ _ _ _ _ => rfl), (mg_of X G F48.a), F49.F, (F49.F.b2 fun _ _ _ _ _ _ _ _ => rfl), (mg_of X G F49.a), F50.F, (F50.F.b3 fun _ _ _ _ _ _ _ _ _ => rfl), (mg_of X G F50.a), F51, (F51.b1 fun _ _ _ _ _ _ _ => rfl), (mg_of X G a51), ⟨e_Tree.pg, e_Tree.hd, e_Tree.po, e_Tree.sa⟩, (mg_of X G e_Tree.a), ⟨e_Tree.mi, a15, i15, e_Tree.kc⟩, na_Tree_looks, na_Tree_samples, na_Tree_kept_fours, ⟨e_Store.pg, e_Store.hd, e_Store.po, e_Store.sa⟩, (mg_of X G e_Store.a), ⟨e_Store.mi, a22, i22, e_Store.kc⟩, na_Store_tree, na_Store_deeds, na_Store_done, na_Store_watches, ⟨e_Board.pg, e_Board.hd, e_Board.po, e_Board.sa⟩, (mg_of X G e_Board.a), ⟨e_Board.mi, F37.a, F37.i, e_Board.kc⟩, na_Board_stores, e_NoColumn.ex, ⟨e_NoColumn.ga, e_NoColumn.gt, e_NoColumn.cl, e_NoColumn.ob, e_NoColumn.be⟩, (mg_of X G e_NoColumn.a), e_OutOfTimes.ex, ⟨e_OutOfTimes.ga, e_OutOfTimes.gt, e_OutOfTimes.cl, e_OutOfTimes.ob, e_OutOfTimes.be⟩, (mg_of X G e_OutOfTimes.a), e_NoSample.ex, ⟨e_NoSample.ga, e_NoSample.gt, e_NoSample.cl, e_NoSample.ob, e_NoSample.be⟩, (mg_of X G e_NoSample.a), e_NoName.ex, ⟨e_NoName.ga, e_NoName.gt, e_NoName.cl, e_NoName.ob, e_NoName.be⟩, (mg_of X G e_NoName.a), (mg_of X G ac_TOP_LEVEL), (mg_of X G ac_TIMES_END), (mg_of X G ac_LETTERS), (mg_of X G ac_LONGEST_NAME), (mg_none_of X G Yv), (mg_none_of X G ZA6), (mg_none_of X G ZA0), (mg_none_of X G ZAV), (mg_none_of X G ZAy), (mg_none_of X G ZP), (mg_none_of X G ZY), (mg_none_of X G ZAI), (mg_none_of X G ZAJ), (mg_none_of X G ZX), (mg_none_of X G ZAw), (mg_none_of X G Z0), (mg_none_of X G ZAp), (mg_none_of X G ZA3), (mg_none_of X G YT)⟩
  exact ⟨fnOf "law" "law" (ZDS ZEO) (ZDH ZEO) (ZCU ZEO) .none kV51 dc51 pm51 an51 cd51 ct51, fun s v => .of_eq rfl, fun base _ _ => ZT2 T⟩
theorem walk {l : W.OpenLaw} {q : Program} {loose : List Str} {XP : (Str -> Option Value) -> Heap -> Prop} {YP : World -> Heap -> Prop} {d : DefRec} {K : Params -> W.Frag} (hn : l.most = some 63) (hdf : d.params.defaults = [])
  (hY : ∀ (w : World) (h : Heap), YP w h -> (K w.params).In h)
  (F : ∀ (w : World) (mg : Str -> Option Value) (fa : Addr) (h : Heap), (K w.params).In h -> h.Ns mainGlobals mg -> mg d.name = some (.ref fa) ->
   ∃ fd : FuncData, (∀ (s : Shared) (u : Value), BindsTo s fd ⟨[u], []⟩ [("_law_script", u)]) /\ ∀ base : Heap, (K w.params).In base -> base.Ns mainGlobals mg -> ZCi l.prog w (K w.params) mg base CX0 11 fa fd ["_law_script"] (ZJ4 (K w.params))) :
  W.WalkO q loose XP YP l.row.toRowW d [] (fun f vs => PySem.call f vs) :=
 L2.walk_of (n := 63) (k := 11) (x := "_law_script") (CX := fun _ => CX0) (sp := fun w => ZJ4 (K w.params)) hn (by decide) hdf ⟨rfl, by decide, by decide, rfl⟩ hY F (fun _ _ a ns hl _ hS => ⟨a, ns, rfl, hS, hl, fun _ => rfl⟩) fun _ _ _ _ _ z => z
end My
local macro_rules | `(tactic| walk_at "e") => `(tactic| (refine' ⟨?a, ?b, ?c, ?d, ?e, ?f, ?g⟩; (case a => k_is); (case b => k_exc); (case c => k_is); (case d => k_is); (case e => k_is); (case f => k_is); (case g => k_is)))
local macro_rules | `(tactic| walk_at "c") => `(tactic| (refine' ⟨?a, ?b, ?c, ?d, ?e, ?f, ?g⟩; (case a => k_is); (case b => k_is); (case c => k_is); (case d => k_is); (case e => k_is); (case f => k_is); (case g => k_is)))
local macro_rules | `(tactic| walk_at "f") => `(tactic| (refine' ⟨?a, L2.fun_mk ?b ?c ?d⟩; (case a => k_is); (case b => k_is); (case c => k_is); (case d => k_is)))
local macro_rules | `(tactic| walk_at "m") => `(tactic| (refine' ⟨?a, ?b, L2.fun_mk ?c ?d ?e⟩; (case a => k_is); (case b => k_is); (case c => k_is); (case d => k_is); (case e => k_is)))
namespace PySem.W.Fast
def tw7367809814323643043:=()
def tw12294084940477055268:=()
def tw536447644263487908:=()
def tw4735040437097812933:=()
def tw15610343026567140870:=()
def tw3048055692615164456:=()
def tw8927712591624054794:=()
def tw16921255846029358481:=()
def tw1518966045186261876:=()
def tw16677473758301698358:=()
def tw11564326531147645302:=()
def tw7570251224926252727:=()
def tw1815163298738940727:=()
def tw3696028201840904152:=()
def tw15567375599899706046:=()
def tw665546578036581311:=()
def tw12578758225560806399:=()
def tw14099620800679929169:=()
def tw11123794174894336243:=()
def tw7961188608549803550:=()
def tw5557632363983638201:=()
def tw17287435351346460883:=()
def tw14745439539907444614:=()
def tw5053487325802118306:=()
def tw11173269410859767845:=()
def tw237723617906540425:=()
def tw13814439545274399949:=()
def tw14349048138349083981:=()
def tw876513462044041206:=()
def tw17113045167049943011:=()
def tw12178961791820542894:=()
def tw16779996026171608539:=()
def tw13202583569989660571:=()
def tw7883913077403207266:=()
def tw18177637903435738255:=()
def tw7647804075221344637:=()
def tw1214890110993732092:=()
def tw3243138114537973290:=()
def tw8585314404904660653:=()
def tw9012605258246204366:=()
def tw2062505516309377308:=()
def tw15291933139310475460:=()
def tw5493305143450244031:=()
def tw5547706947521493918:=()
def tw18213263671862692520:=()
def tw12862794764523211045:=()
def tw1010918073750704661:=()
def tw125421790304731694:=()
def tw12404102023664856458:=()
def tw17039518739351242752:=()
def tw8304264589163079518:=()
def tw15926749549406620576:=()
def tw3349485585394992575:=()
def tw12701947100368057393:=()
def tw2006967314334238686:=()
def tw12259227063557052836:=()
def tw17715935860849479503:=()
def tw8593954255072040572:=()
def tw7499262667118808678:=()
def tw1451674299931975339:=()
def tw1496010295103697781:=()
def tw4808591320278173599:=()
def tw10649085144338303327:=()
def tw17530527594488658069:=()
def tw12187870437639515447:=()
def tw10133964341223831669:=()
def tw13527869461930953988:=()
def tw13100427903534784364:=()
def tw2632772212244901631:=()
def tw17013332418410337014:=()
def tw14991423461513820406:=()
def tw3202706945791409496:=()
def tw12661932209834442648:=()
def tw17729030249272148461:=()
def tw8400422513759406016:=()
def tw8867097201062190336:=()
def tw15007080842950642748:=()
def tw7334904501727797986:=()
def tw12296050259383872302:=()
def tw15235879384322252636:=()
def tw16493331056297869446:=()
def tw7414983470949421818:=()
def tw14282573482396255317:=()
def tw4814467467478046579:=()
def tw11093057165128144997:=()
def tw12934617090804819934:=()
def tw4011878755872787868:=()
def tw10073601012500832987:=()
def tw461714648117248730:=()
def tw2216916808552023905:=()
def tw9743627522072647507:=()
def tw5377896721257025877:=()
def tw7659510176309148459:=()
def tw16192912296190324592:=()
def tw15355624716959302467:=()
def tw12566539285853608391:=()
def tw14972958690707280288:=()
def tw3587833636895060504:=()
def tw9164492533465218986:=()
def tw13603411487603214967:=()
def tw4353336687129892865:=()
def tw3340124153462858056:=()
def tw1592193962725082113:=()
def tw2073284728100369200:=()
def tw2722641947594524546:=()
def tw11099139431962672547:=()
def tw694832728046924090:=()
def tw4656205002229814964:=()
def tw6992116755086783365:=()
def tw6623721218304836277:=()
def tw362784666273032037:=()
def tw77590911977553624:=()
def tw15256606734692787095:=()
def tw2031433900140611346:=()
def tw10172691997623904234:=()
def tw13421218444778186270:=()
def tw3211020735637869557:=()
def tw1488911717026271223:=()
def tw15024539482707293351:=()
def tw8713498895567693139:=()
def tw11773950692860121420:=()
def tw12715964098268744193:=()
def tw3228245635624321666:=()
def tw17694409081517835582:=()
def tw16358339796118214109:=()
def tw5255405486411246962:=()
def tw15182427608078663440:=()
def tw3870736954469389806:=()
def tw3888384358734194197:=()
def tw4198759860420834694:=()
def tw5669666756146570616:=()
def tw16978423947141834284:=()
def tw15704242150652835367:=()
def tw17532804523361918301:=()
def tw8372080583480620451:=()
def tw12828812716836533438:=()
def tw17340191785766252720:=()
def tw10262478928379046661:=()
def tw2811241435733703259:=()
def tw16450544100263197650:=()
def tw9464318418301417342:=()
def tw14729940755040996275:=()
def tw12751026018622928521:=()
def tw5448133516632085119:=()
def tw15260988715959358255:=()
def tw2732019283196058276:=()
def tw16592297475930603242:=()
def tw539551471382616869:=()
def tw3453657552652462637:=()
def tw2776207914795429203:=()
def tw16607242327389187396:=()
def tw6236327612603225827:=()
def tw13196503878970072126:=()
def tw7987166534704543306:=()
def tw2510061900375869004:=()
def tw12985505212573264711:=()
def tw376532219677157485:=()
def tw17868107907836436866:=()
def tw2469295994286743510:=()
end PySem.W.Fast
open PySem PySem.W PyProof.Rows
set_option maxRecDepth 100000 in
set_option maxHeartbeats 0 in
theorem PySem.Challenge.cw_fourpoints_k83_how_many_are_kept_holds : PySem.Challenge.rw_fourpoints_k83_how_many_are_kept.Holds := by
 w_on; o_law; k_head; (case hw => w_witness2)
 k_fill
 refine My.walk (l := PySem.Challenge.rw_fourpoints_k83_how_many_are_kept) rfl rfl (fun w h Y => PySem.W.kIn_of Y) ?F
 case F =>
  intro w mg fa h KX G hmg
  refine' My.all_mk KX G hmg ?taa ?tab ?tac ?tad ?tae ?taf ?tag ?tah ?tai ?taj ?tak ?tal ?tam ?tan ?tao ?tap ?taq ?tar ?tas ?tat ?tau ?tav ?taw ?tax ?tay ?taz ?tba ?tbb ?tbc ?tbd ?tbe ?tbf ?tbg ?tbh ?tbi ?tbj ?tbk ?tbl ?tbm ?tbn ?tbo ?tbp ?tbq ?tbr ?tbs ?tbt ?tbu ?tbv ?tbw ?tbx ?tby ?tbz ?tca ?tcb ?tcc ?tcd ?tce ?tcf ?tcg ?tch ?tci ?tcj ?tck ?tcl ?tcm ?tcn ?tco ?tcp ?tcq ?tcr ?tcs ?tct ?tcu ?tcv ?tcw ?tcx ?tcy ?tcz ?tda ?tdb ?tdc ?tdd ?tde ?tdf ?tdg ?tdh ?tdi ?tdj ?tdk ?tdl ?tdm ?tdn ?tdo ?tdp ?tdq ?tdr ?tds ?tdt ?tdu
  (case taa | tab | tac | tad => walk_at "e")
  (case tae => walk_at "c")
  (case taf | tag | tah => k_is)
  (case tai => walk_at "c")
  (case taj | tak | tal | tam => k_is)
  (case tan => walk_at "c")
  (case tao => k_is)
  (case tap | taq | tar | tas | tat | tau | tav | taw | tax | tay | taz | tba | tbb | tbc | tbd => walk_at "f")
  (case tbe | tbf | tbg | tbh | tbi | tbj => k_is)
  (case tbk | tbl | tbm | tbn | tbo | tbp => walk_at "m")
  (case tbq | tbr | tbs | tbt | tbu | tbv => k_is)
  (case tbw | tbx | tby | tbz | tca | tcb | tcc | tcd | tce | tcf | tcg | tch | tci => walk_at "m")
  (case tcj => walk_at "f")
  (case tck | tcl | tcm | tcn | tco => walk_at "m")
  (case tcp | tcq | tcr | tcs | tct | tcu | tcv | tcw | tcx => walk_at "f")
  (case tcy | tcz | tda | tdb | tdc | tdd | tde | tdf | tdg | tdh | tdi | tdj | tdk | tdl | tdm | tdn | tdo | tdp | tdq | tdr | tds | tdt | tdu => k_is)
