import PyProof.Rows.All
import Wide.All
import OpenK.AllK
import Wide.FinOn
import Lean
import PyProof.EqAt
import PyProof.EqKinds
import PyProof.TupleCall
import KE.KSortTup
import PyProof.CollectWalk
import PyProof.DictWalks
import PyProof.Rows.SortWalk
import KE.KItemsList
import PyProof.ReprText
import PyProof.Rows.StrIntSpec
import PyProof.RowDictHeap
import KE.KRevIter
import KE.KMinKey
import PyProof.P3In
import KE.KIntText
import PyProof.StrLawsTight
import PyProof.StrWalks
import PyProof.ListRange
import PyProof.DictValues
import PyProof.Rows.SortStr
import KE.KDictLaws
import PyProof.Rows.SortRuns
import PyProof.Rows.SortIns
import PySem.Challenge.RW_fourpoints_k61_samples_put_and_taken
set_option Elab.async false
set_option linter.all false
set_option maxRecDepth 100000
set_option maxHeartbeats 4000000
-- CHANGE: your row's module here, as the last of these rows
abbrev L2.PL := List (Int × Int)
open PySem renaming wpAny_bind → Ua, wpAny_pure → Uh, wpAny_mono → Uv, wpAny_holding → UI, codeAny_builtin → UQ
open PySem.Heap renaming get?_push_of_some → Ub, lt_size → Ug, get?_push_size → Uk, get?_update_other → Uq
open Nat renaming le_refl → Uc, lt_of_lt_of_le → Ue, ne_of_lt → Up, lt_of_le_of_lt → Ux, le_trans → UF, zero_le → UJ, lt_irrefl → UW
open List renaming getElem?_eq_getElem → Ud, lookup_cons → Ui, mem_cons → Uj, mem_append_right → Ul, getElem?_eq_some_iff → Um, length_map → Ur, size_toArray → Ut, mem_cons_of_mem → Uu, map_cons → Uw, mem_cons_self → Uy, getD_eq_getElem?_getD → Uz, mem_of_getElem? → UA, length_cons → UB, find?_cons → UC, length_append → UD, getElem?_map → UG, length_take → UK, lookup → UL, pairwise_map → UM, nodup_iff_pairwise_ne → UN, getElem?_append_right → UO, mem_append → UR, pairwise_iff_getElem → US, take_length → UT, not_mem_nil → UU, mem_append_left → UX, append_assoc → UY
open Array renaming length_toList → Uf, toList_append → Us, toList_reverse → UH, perm_iff_toList_perm → UP, size_extract → UV, toList_push → UZ
open Bool renaming false_eq_true → Uo, false_ne_true → UE
open Option renaming map_some → Va
namespace L2
open PySem PySem.Spec PyProof.Rows
abbrev Key := Sum Int Str
def ZEm : Key -> Value -> Bool
 | .inl k, v => Value.isInt k v
 | .inr x, v => Value.isStrOf x v
def ZRk (w : World) : Key -> Int
 | .inl k => hashInt k
 | .inr x => hashStr w x
theorem ZCb : ∀ {k : Key} {v : Value}, ZEm k v = true -> (∃ i t, k = Sum.inl i /\ v = Value.int i t) \/ (∃ x t, k = Sum.inr x /\ v = Value.str x t)
 | .inl i, v, h => by
  obtain ⟨t, e⟩ := Value.isInt_shape (k := i) (v := v) h
  exact .inl ⟨i, t, rfl, e⟩
 | .inr x, v, h => by
  obtain ⟨t, e⟩ := Value.isStrOf_shape (x := x) (v := v) h
  exact .inr ⟨x, t, rfl, e⟩
theorem ZLG (i : Int) (t : Tok) : ZEm (.inl i) (.int i t) = true := by simp [ZEm, Value.isInt]
theorem ZLH (x : Str) (t : Tok) : ZEm (.inr x) (.str x t) = true := by simp [ZEm, Value.isStrOf]
theorem ZP0 (a b : Int) : decide ((Sum.inl a : Key) = Sum.inl b) = (a == b) := by
 by_cases e : a = b
 ·subst e; simp
 ·have h : ¬ (Sum.inl a : Key) = Sum.inl b := fun q => e (Sum.inl.inj q)
  rw [decide_eq_false h]
  exact (beq_eq_false_iff_ne.mpr e).symm
theorem ZP1 (a b : Str) : decide ((Sum.inr a : Key) = Sum.inr b) = decide (a = b) := by
 by_cases e : a = b
 ·subst e; simp
 ·have h : ¬ (Sum.inr a : Key) = Sum.inr b := fun q => e (Sum.inr.inj q)
  rw [decide_eq_false h, decide_eq_false e]
theorem ZP2 (a : Int) (b : Str) : decide ((Sum.inl a : Key) = Sum.inr b) = false := decide_eq_false (fun q => nomatch q)
theorem ZP3 (a : Str) (b : Int) : decide ((Sum.inr a : Key) = Sum.inl b) = false := decide_eq_false (fun q => nomatch q)
def ZCY (prog : Program) (w : World) : PySem.KeyKind prog w Key where
 is := ZEm
 hash := ZRk w
 inj := fun v a b ha hb => by
  rcases ZCb ha with ⟨i, t, rfl, rfl⟩ | ⟨x, t, rfl, rfl⟩
  ·rcases ZCb hb with ⟨j, u, rfl, e⟩ | ⟨y, u, rfl, e⟩
   ·injection e with e1 _; rw [e1]
   ·exact nomatch e
  ·rcases ZCb hb with ⟨j, u, rfl, e⟩ | ⟨y, u, rfl, e⟩
   ·exact nomatch e
   ·injection e with e1 _; rw [e1]
 byValue := fun k v h => by
  rcases ZCb h with ⟨i, t, rfl, rfl⟩ | ⟨x, t, rfl, rfl⟩ <;> rfl
 pyHash := fun hv h => by
  rcases ZCb hv with ⟨i, t, rfl, rfl⟩ | ⟨x, t, rfl, rfl⟩
  ·exact wpAny_pyHash_int h
  ·exact wpAny_pyHash_str h
 eqBool := fun hu hv h => by
  rcases ZCb hu with ⟨i, t, rfl, rfl⟩ | ⟨x, t, rfl, rfl⟩
  ·rcases ZCb hv with ⟨j, u, rfl, rfl⟩ | ⟨y, u, rfl, rfl⟩
   ·rw [ZP0] at h; exact wpAny_eqBool_int h
   ·rw [ZP2] at h; exact SeqAt.EqAt.int_str i t y u _ _ _ _ h
  ·rcases ZCb hv with ⟨j, u, rfl, rfl⟩ | ⟨y, u, rfl, rfl⟩
   ·rw [ZP3] at h; exact SeqAt.EqAt.str_int x t j u _ _ _ _ h
   ·rw [ZP1] at h; exact wpAny_eqBool_str h
 «strs» := fun k x t v h => by
  rcases ZCb h with ⟨i, u, rfl, e⟩ | ⟨y, u, rfl, e⟩
  ·exact nomatch e
  ·injection e with e1 _
   subst e1
   cases v <;> rfl
theorem ZJY (prog : Program) (w : World) (i : Int) (t : Tok) : (ZCY prog w).is (.inl i) (.int i t) = true := ZLG i t
theorem ZJZ (prog : Program) (w : World) (x : Str) (t : Tok) : (ZCY prog w).is (.inr x) (.str x t) = true := ZLH x t
inductive V where
 | non | bl (b : Bool) | int (i : Int) | str (x : Str) | byt (b : Array UInt8) | flt (b : UInt64) | ref (a : Addr) | ty (n : String)
 deriving DecidableEq
def ZB3 : V -> Value -> Prop
 | .non, u => u = Value.none
 | .bl b, u => u = Value.bool b
 | .int i, u => ∃ t, u = Value.int i t
 | .str x, u => ∃ t, u = Value.str x t
 | .byt b, u => ∃ t, u = Value.bytes b t
 | .flt b, u => ∃ t, u = Value.float b t
 | .ref a, u => u = Value.ref a
 | .ty n, u => u = Value.type n
abbrev ZB6 : List V -> List Value -> Prop := Paired ZB3
theorem ZB6.length {xs : List V} {us : List Value} (r : ZB6 xs us) : xs.length = us.length := Paired.length r
theorem ZB6.get : ∀ {xs : List V} {us : List Value} {i : Nat} {x : V}, ZB6 xs us -> xs[i]? = some x -> ∃ u, us[i]? = some u /\ ZB3 x u
 | _, _, _, _, .nil, e => by simp at e
 | _, _, 0, _, .cons r _, e => by simp at e; subst e; exact ⟨_, rfl, r⟩
 | _, _, i + 1, x, .cons _ t, e => by
  obtain ⟨u, h1, h2⟩ := ZB6.get (i := i) (x := x) t (by simpa using e)
  exact ⟨u, by simpa using h1, h2⟩
theorem ZB6.set {x : V} {u : Value} (r : ZB3 x u) : ∀ {xs : List V} {us : List Value} (i : Nat), ZB6 xs us -> ZB6 (xs.set i x) (us.set i u)
 | _, _, _, .nil => .nil
 | _, _, 0, .cons _ t => .cons r t
 | _, _, i + 1, .cons q t => .cons q (ZB6.set r i t)
theorem ZB6.append : ∀ {xs ys : List V} {us ws : List Value}, ZB6 xs us -> ZB6 ys ws -> ZB6 (xs ++ ys) (us ++ ws)
 | _, _, _, _, .nil, s => s
 | _, _, _, _, .cons r t, s => .cons r (ZB6.append t s)
def ZDD : Option V -> Option Value -> Prop
 | some v, some u => ZB3 v u
 | none, none => True
 | _, _ => False
def KV {κ : Type} : List (κ × V) -> List (κ × Value) -> Prop := Paired fun (p : κ × V) (q : κ × Value) => p.1 = q.1 /\ ZB3 p.2 q.2
def kV : Key -> V
 | .inl i => .int i
 | .inr x => .str x
inductive HO where
 | lst (xs : List V)
 | tup (xs : List V)
 | dK (kvs : List (Key × V)) | dT (kvs : List (List Key × V))
 | set (S : Int -> Bool) (n : Nat)
 | ins (C dx : Addr) (fs : List (Str × V))
 | own (x : Addr)
 | xd (fs : List (Str × V))
 | met (f x : Addr)
 | rng (lo hi : Int)
 | frz (o : Obj) (u : HO)
 | tbl (ps : Array Value)
 | ext (φ : Heap -> Prop)
abbrev Hp := Addr -> Option HO
def upd (H : Hp) (a : Addr) (o : HO) : Hp := fun b => if b = a then some o else H b
theorem ZCC {H : Hp} {a : Addr} {o : HO} : upd H a o a = some o := by unfold upd; rw [if_pos rfl]
theorem ZB8 {H : Hp} {a b : Addr} {o : HO} (h : b ≠ a) : upd H a o b = H b := by unfold upd; rw [if_neg h]
theorem ZRO {H : Hp} {a b : Addr} {o u : HO} (h : H a = some o) (h' : H b = some u) (d : o ≠ u) : a ≠ b := by
 intro e; subst e; rw [h] at h'; exact d (Option.some.inj h')
theorem ZCA {H : Hp} {a b : Addr} {o : HO} (h : H a = some o) (h' : H b = none) : a ≠ b := by
 intro e; subst e; rw [h] at h'; cases h'
section
variable (P : Program) (w : World)
def ZCF (H : Hp) (h : Heap) (a : Addr) : HO -> Prop
 | .lst xs => xs.length <= sizeLine /\ ∃ (its : List Value) (n : Nat), ZB6 xs its /\ h.get? a = some { cls := .type "list", data := .seq its.toArray n }
 | .tup xs => (xs.length <= sizeLine /\ ((∀ i : Int, xs.head? ≠ some (.int i)) -> ∃ o, h.get? a = some o /\ o.dict = none /\ o.slots = #[])) /\ ∃ its : List Value, ZB6 xs its /\ IsTup h a its.toArray
 | .dK kvs => kvs.length <= sizeLine /\ (a == sysModules) = false /\ ∃ vs, KV kvs vs /\ h.DictOf (ZCY P w) a vs
 | .dT kvs => kvs.length <= sizeLine /\ (a == sysModules) = false /\ ∃ xs : List (List Key × Addr × Value),
  Paired (fun (p : List Key × V) (q : List Key × Addr × Value) => p.1 = q.1 /\ H q.2.1 = some (.tup (p.1.map kV)) /\ ZB3 p.2 q.2.2) kvs xs /\
  ∃ o es ep, h.get? a = some o /\ o.ExactDict /\ o.data = .dict es ep /\ es.toList = xs.map (entryOfKey (tupleKind (ZCY P w))) /\ (xs.map (·.1)).Nodup
 | .set S n => h.SetOf (intKind P w) a S n
 | .ins C dx fs => H dx = some (.own a) /\ fs.length <= 1000 /\ dx ≠ a /\ h.get? a = some (PySem.W.instObj C dx) /\
  ∃ mA, h.Ns1 dx mA /\ (∀ f, ZDD (fs.lookup f) (mA f)) /\ PySem.Within mA (fs.map (·.1))
 | .own _ => ∃ o, h.get? a = some o
 | .xd fs => ∃ mA, h.Ns1 a mA /\ ∀ f, ZDD (fs.lookup f) (mA f)
 | .rng lo hi => ∃ t u v, h.get? a = some { cls := .type "range", data := .fields #[.int lo t, .int hi u, .int 1 v] }
 | .frz o u => h.get? a = some o /\ ZCF H h a u
 | .tbl ps => h.get? a = some { cls := .none, data := .fields ps }
 | .met f x => h.get? a = some (PySem.W.methodObj (.ref f) (.ref x))
 | .ext φ => φ h /\ (∃ o, h.get? a = some o) /\ ∀ h1 h2 : Heap, φ h1 -> (∀ o, h1.get? a = some o -> h2.get? a = some o) -> φ h2
def HOk (H : Hp) (h : Heap) : Prop := ∀ a o, H a = some o -> ZCF P w H h a o
end
section
variable {P : Program} {w : World} {H H' : Hp} {h h' : Heap} {a : Addr} {o : HO}
theorem ZCF.lt (x : ZCF P w H h a o) : a < h.objs.size := by
 cases o with
 | lst xs => obtain ⟨_, _, _, _, e⟩ := x; exact Ug e
 | tup xs => obtain ⟨_, _, _, p⟩ := x; exact p.lt
 | dK kvs => obtain ⟨_, _, _, _, o, _, _, e, _⟩ := x; exact Ug e
 | dT kvs => obtain ⟨_, _, _, _, o, _, _, e, _⟩ := x; exact Ug e
 | set S n => obtain ⟨o, _, _, _, e, _⟩ := x; exact Ug e
 | ins C dx fs => obtain ⟨_, _, _, e, _⟩ := x; exact Ug e
 | own y => obtain ⟨_, e⟩ := x; exact Ug e
 | xd fs => obtain ⟨_, ⟨_, _, _, e, _⟩, _⟩ := x; exact Ug e
 | rng lo hi => obtain ⟨_, _, _, e⟩ := x; exact Ug e
 | frz ob u => obtain ⟨e, _⟩ := x; exact Ug e
 | tbl ps => exact Ug (show h.get? a = some _ from x)
 | met f y => exact Ug (show h.get? a = some _ from x)
 | ext φ => obtain ⟨_, ⟨_, e⟩, _⟩ := x; exact Ug e
theorem Paired.mapP {α β : Type} {F G : α -> β -> Prop} : ∀ {l₁ : List α} {l₂ : List β}, Paired F l₁ l₂ -> (∀ a b, F a b -> G a b) -> Paired G l₁ l₂
 | _, _, .nil, _ => .nil
 | _, _, .cons r t, f => .cons (f _ _ r) (Paired.mapP t f)
theorem ZCF.stay (x : ZCF P w H h a o) (k : ∀ b u, (b = a \/ H b = some (.own a)) -> h.get? b = some u -> h'.get? b = some u)
  (ho : ∀ b, H b = some (.own a) -> H' b = some (.own a)) (ht : ∀ b xs, H b = some (.tup xs) -> H' b = some (.tup xs)) : ZCF P w H' h' a o := by
 induction o with
 | lst xs => obtain ⟨z, its, n, r, e⟩ := x; exact ⟨z, its, n, r, k _ _ (.inl rfl) e⟩
 | tup xs =>
  obtain ⟨⟨z, pd⟩, its, r, ob, e, c⟩ := x
  exact ⟨⟨z, fun q => let ⟨od, ed, cd⟩ := pd q; ⟨od, k _ _ (.inl rfl) ed, cd⟩⟩, its, r, ob, k _ _ (.inl rfl) e, c⟩
 | dK kvs => obtain ⟨z, y, vs, r, ob, es, ep, e, c⟩ := x; exact ⟨z, y, vs, r, ob, es, ep, k _ _ (.inl rfl) e, c⟩
 | dT kvs =>
  obtain ⟨z, y, xs, r, ob, es, ep, e, c⟩ := x
  exact ⟨z, y, xs, Paired.mapP r fun p q z => ⟨z.1, ht _ _ z.2.1, z.2.2⟩, ob, es, ep, k _ _ (.inl rfl) e, c⟩
 | set S n => obtain ⟨ob, es, ep, t, e, c⟩ := x; exact ⟨ob, es, ep, t, k _ _ (.inl rfl) e, c⟩
 | ins C dx fs =>
  obtain ⟨d, z, ne, e, mA, ⟨od, es, ep, e2, c⟩, r⟩ := x
  exact ⟨ho _ d, z, ne, k _ _ (.inl rfl) e, mA, ⟨od, es, ep, k _ _ (.inr d) e2, c⟩, r⟩
 | own y => obtain ⟨ob, e⟩ := x; exact ⟨ob, k _ _ (.inl rfl) e⟩
 | xd fs => obtain ⟨mA, ⟨od, es, ep, e, c⟩, r⟩ := x; exact ⟨mA, ⟨od, es, ep, k _ _ (.inl rfl) e, c⟩, r⟩
 | rng lo hi => obtain ⟨t, u, v, e⟩ := x; exact ⟨t, u, v, k _ _ (.inl rfl) e⟩
 | frz ob u ih => obtain ⟨e, q⟩ := x; exact ⟨k _ _ (.inl rfl) e, ih q⟩
 | tbl ps =>
  have e : h.get? a = some { cls := .none, data := .fields ps } := x
  show h'.get? a = some { cls := .none, data := .fields ps }
  exact k a _ (.inl rfl) e
 | met f y =>
  have e : h.get? a = some (PySem.W.methodObj (.ref f) (.ref y)) := x
  show h'.get? a = some (PySem.W.methodObj (.ref f) (.ref y))
  exact k a _ (.inl rfl) e
 | ext φ => obtain ⟨p, ⟨o, e⟩, st⟩ := x; exact ⟨st _ _ p fun o q => k _ _ (.inl rfl) q, ⟨o, k _ _ (.inl rfl) e⟩, st⟩
theorem HOk.lt (x : HOk P w H h) (e : H a = some o) : a < h.objs.size := (x a o e).lt
theorem HOk.fresh (x : HOk P w H h) (e : h.objs.size <= a) : H a = none := by
 cases q : H a with
 | none => rfl
 | some u => exact absurd (Ue (x.lt q) e) (UW _)
theorem HOk.kept (x : HOk P w H h) (k : ∀ b u, h.get? b = some u -> h'.get? b = some u) : HOk P w H h' := fun a o e =>
 (x a o e).stay (fun b u _ q => k b u q) (fun _ q => q) fun _ _ q => q
theorem HOk.laid (x : HOk P w H h) (k : ∀ b u, h.get? b = some u -> h'.get? b = some u) (hp : h.objs.size <= a) (new : ZCF P w (upd H a o) h' a o) : HOk P w (upd H a o) h' := fun b u e => by
 have hn := x.fresh hp
 by_cases hb : b = a
 ·subst hb; rw [ZCC] at e; cases e; exact new
 ·rw [ZB8 hb] at e
  exact (x b u e).stay (fun c v _ q => k c v q) (fun c q => by rw [ZB8 (ZCA q hn)]; exact q) fun c xs q => by rw [ZB8 (ZCA q hn)]; exact q
end
def Rd (H : Hp) (a : Addr) (u : HO) : Prop := H a = some u \/ ∃ o, H a = some (.frz o u)
theorem Rd.ok {P : Program} {w : World} {H : Hp} {h : Heap} {a : Addr} {u : HO} (r : Rd H a u) (x : HOk P w H h) : ZCF P w H h a u := by
 rcases r with r | ⟨o, r⟩
 ·exact x a u r
 ·obtain ⟨_, q⟩ := x a _ r
  exact q
def Mut : Option HO -> Prop
 | some (.lst _) => True
 | some (.dK _) => True
 | some (.dT _) => True
 | some (.set _ _) => True
 | some (.ins _ _ _) => True
 | some (.ext _) => True
 | _ => False
section
variable {P : Program} {w : World} {H : Hp} {h h' : Heap} {x e : Addr} {o' : HO}
theorem HOk.write (ok : HOk P w H h) (mu : Mut (H x)) (he : e = x \/ H e = some (.own x)) (k : ∀ b u, b ≠ e -> h.get? b = some u -> h'.get? b = some u) (heo : ∃ u, h'.get? e = some u)
  (new : ZCF P w (upd H x o') h' x o') : HOk P w (upd H x o') h' := fun b u q => by
 have nown : ∀ c y, H c = some (.own y) -> c ≠ x := fun c y r z => by subst z; rw [r] at mu; exact mu
 have ntup : ∀ c xs, H c = some (.tup xs) -> c ≠ x := fun c xs r z => by subst z; rw [r] at mu; exact mu
 by_cases hb : b = x
 ·subst hb; rw [ZCC] at q; cases q; exact new
 ·rw [ZB8 hb] at q
  by_cases hbe : b = e
  ·have q' : H b = some (.own x) := by
    rcases he with z | z
    ·exact absurd (hbe.trans z) hb
    ·rw [hbe]; exact z
   rw [q] at q'; cases q'
   obtain ⟨v, hv⟩ := heo
   exact ⟨v, by rw [hbe]; exact hv⟩
  ·refine (ok b u q).stay (fun c v hc r => k c v ?_ r) (fun c r => by rw [ZB8 (nown c b r)]; exact r) fun c xs r => by rw [ZB8 (ntup c xs r)]; exact r
   rcases hc with rfl | hc
   ·exact hbe
   ·rintro rfl
    rcases he with z | z
    ·exact nown c b hc z
    ·rw [hc] at z; cases z; exact hb rfl
end
structure Un (fs ex : List Addr) (H H' : Hp) (h h' : Heap) : Prop where
 keep : ∀ b o, h.get? b = some o -> H b = none -> b ∉ fs -> b ∉ ex -> h'.get? b = some o
 slot : ∀ b o, h.get? b = some o -> H b = none -> b ∈ fs -> b ∉ ex -> ∃ sl, h'.get? b = some { o with slots := sl }
 free : ∀ b o, h.get? b = some o -> H b = none -> b ∉ ex -> H' b = none
 there : ∀ b o, h.get? b = some o -> b ∉ ex -> ∃ o', h'.get? b = some o'
 tups : ∀ b xs, H b = some (.tup xs) -> H' b = some (.tup xs)
 frzs : ∀ b o u, H b = some (.frz o u) -> H' b = some (.frz o u)
 tbls : ∀ b ps, H b = some (.tbl ps) -> ∃ more, H' b = some (.tbl (ps ++ more))
section
variable {fs fs' ex ex' : List Addr} {H H1 H2 : Hp} {h h1 h2 h' : Heap} {a x e : Addr} {o : HO}
theorem Un.any (u : Un fs ex H H1 h h1) {b : Addr} {ob : Obj} (q : h.get? b = some ob) (n : H b = none) (hx : b ∉ ex) : ∃ sl, h1.get? b = some { ob with slots := sl } := by
 by_cases hb : b ∈ fs
 ·exact u.slot b ob q n hb hx
 ·exact ⟨ob.slots, u.keep b ob q n hb hx⟩
theorem Un.kept (k : ∀ b u, h.get? b = some u -> h'.get? b = some u) : Un fs ex H H h h' :=
 ⟨fun b ob q _ _ _ => k b ob q, fun b ob q _ _ _ => ⟨ob.slots, k b ob q⟩, fun _ _ _ n _ => n, fun b ob q _ => ⟨ob, k b ob q⟩, fun _ _ q => q, fun _ _ _ q => q, fun _ ps q => ⟨#[], by rw [q]; simp⟩⟩
theorem Un.refl : Un fs ex H H h h := Un.kept fun _ _ q => q
theorem Un.laid (k : ∀ b u, h.get? b = some u -> h'.get? b = some u) (hp : h.objs.size <= a) (hn : H a = none) : Un fs ex H (upd H a o) h h' where
 keep := fun b u q _ _ _ => k b u q
 slot := fun b u q _ _ _ => ⟨u.slots, k b u q⟩
 free := fun b u q n _ => by rw [ZB8 (Up (Ue (Ug q) hp))]; exact n
 there := fun b u q _ => ⟨u, k b u q⟩
 tups := fun b xs q => by rw [ZB8 (ZCA q hn)]; exact q
 frzs := fun b u xs q => by rw [ZB8 (ZCA q hn)]; exact q
 tbls := fun b ps q => ⟨#[], by rw [ZB8 (ZCA q hn), q]; simp⟩
theorem Un.write (mu : Mut (H x)) (he : e = x \/ H e = some (.own x)) (k : ∀ b u, b ≠ e -> h.get? b = some u -> h'.get? b = some u) (heo : ∃ u, h'.get? e = some u) : Un fs ex H (upd H x o) h h' := by
 have hx : ∀ b, H b = none -> b ≠ x := fun b n z => by subst z; rw [n] at mu; exact mu
 have hb : ∀ b, H b = none -> b ≠ e := fun b n z => by
  subst z
  rcases he with r | r
  ·exact hx b n r
  ·rw [n] at r; cases r
 have hm : ∀ b u, H b = some u -> ¬ Mut (some u) -> b ≠ x := fun b u q nm z => by subst z; rw [q] at mu; exact nm mu
 refine ⟨fun b u q n _ _ => k b u (hb b n) q, fun b u q n _ _ => ⟨u.slots, k b u (hb b n) q⟩, fun b u q n _ => by rw [ZB8 (hx b n)]; exact n, fun b u q _ => ?_,
  fun b xs q => by rw [ZB8 (hm b _ q fun z => z)]; exact q, fun b u xs q => by rw [ZB8 (hm b _ q fun z => z)]; exact q, fun b ps q => ⟨#[], by rw [ZB8 (hm b _ q fun z => z), q]; simp⟩⟩
 by_cases hbe : b = e
 ·subst hbe; exact heo
 ·exact ⟨u, k b u hbe q⟩
end
def trk (h : Heap) (H : Hp) : List Addr := (List.range h.objs.size).filter fun a => (H a).isSome
def ZEn (h : Heap) (H : Hp) : Heap := PySem.W.hideAll h (trk h H)
theorem ZLI (h : Heap) (H : Hp) : (ZEn h H).objs.size = h.objs.size := PySem.W.hideAll_size _ _
theorem ZMa {h : Heap} {H : Hp} {b : Addr} {o : Obj} (e : h.get? b = some o) (n : H b = none) : (ZEn h H).get? b = some o :=
 PySem.W.hideAll_get _ e fun hm => by
  have q : (H b).isSome = true := (List.mem_filter.mp hm).2
  rw [n] at q; simp at q
theorem ZOY {h : Heap} {H : Hp} {b : Addr} {o : Obj} (e : (ZEn h H).get? b = some o) : h.get? b = some o /\ H b = none := by
 have e' : h.get? b = some o := PySem.W.of_hideAll (trk h H) e
 refine ⟨e', ?_⟩
 cases q : H b with
 | none => rfl
 | some x =>
  have hm : b ∈ trk h H := List.mem_filter.mpr ⟨List.mem_range.mpr (Ug e'), by simp [q]⟩
  have z : (ZEn h H).get? b = none := PySem.W.hideAll_none (trk h H) hm
  rw [z] at e; cases e
def ZOZ (g h : Heap) (L : Addr) : List (Addr × Obj) := (List.range h.objs.size).filterMap fun a => if a = L \/ (g.get? a).isSome = true then none else (h.get? a).map fun o => (a, o)
def ZCm (g h : Heap) (L d : Addr) : List (Addr × Obj) := (ZOZ g h L).filter fun p => decide (p.1 ≠ d)
structure Mod (K : W.Frag) (mg : Str -> Option Value) (base : Heap) : Prop where
 kin : K.In base
 glob : base.Ns mainGlobals mg
 blt : ∃ mb, base.Ns builtinsNs mb /\ ∀ x : Str, x ≠ "__name__" -> mb x = bootBuiltins x
 nolimit : base.NoLimit
structure Cx where
 prog : Program
 w : World
 K : W.Frag
 mg : Str -> Option Value
 base : Heap
 A : Around
 N : List Str
 s₀ : Shared
 H₀ : Hp
 env : Env
 outer : List Env
 stack : List Env
 ex : List Addr
 fn : Str -> Bool
 calm : Bool
 pn : List (Addr × Obj)
 xe : Value -> Shared -> Prop
def frs (l : List Env) : List Addr := l.filterMap (·.frame)
abbrev Cx.fs (X : Cx) : List Addr := frs X.outer
def Vis (sc : Scope) (x : Str) : Prop := sc.names.lookup x = some .local \/ sc.names.lookup x = some .cell \/ sc.names.lookup x = some .free
def Loc (sc : Scope) (x : Str) : Prop := sc.names.lookup x = some .local \/ sc.names.lookup x = some .cell
def ZRl (env : Env) (h : Heap) (m : Str -> Option Value) (x : Str) (u : Value) : Prop :=
 (env.kindOf x = some .local /\ m x = some u) \/ ((env.kindOf x = some .cell \/ env.kindOf x = some .free) /\ ∃ c, env.cells.lookup x = some c /\ h.IsCell c (some u))
structure Cx.Ok (X : Cx) : Prop where
 mod : Mod X.K X.mg X.base
 kind : X.env.scope.kind = .function
 glob : X.env.globals = mainGlobals
 blt : X.env.builtins = builtinsNs
 above : X.s₀.heap.objs.size <= X.env.locals
 inj : ∀ x y c, X.env.cells.lookup x = some c -> X.env.cells.lookup y = some c -> x = y
 has : ∀ x, (X.env.kindOf x = some .cell \/ X.env.kindOf x = some .free) -> ∃ c, X.env.cells.lookup x = some c
 cab : ∀ x c, X.fn x = true -> X.env.cells.lookup x = some c -> X.s₀.heap.objs.size <= c
 hd : X.calm = true -> X.A.handled = none
 frames : X.A.frames = some X.stack
 stk : X.stack = X.outer \/ (X.stack = X.env :: X.outer /\ X.env.frame = some X.env.locals)
 exf : ∀ b ∈ X.ex, b ≠ X.env.locals /\ ∀ x c, X.env.cells.lookup x = some c -> c ≠ b
 bs : ∀ b o, X.base.get? b = some o -> X.s₀.heap.get? b = some o /\ X.H₀ b = none
 bsz : X.base.objs.size <= X.s₀.heap.objs.size
 noex : ∀ b o, X.base.get? b = some o -> b ∉ X.ex
 exfs : ∀ b ∈ X.ex, b ∉ X.fs
 funs : X.s₀.heap.FunFrames X.base X.outer
 frf : ∀ b ∈ X.fs, X.H₀ b = none
structure Inv (X : Cx) (pins : List (Addr × Obj)) (U : List (Option V)) (H : Hp) (s : Shared) : Prop where
 ok : X.Ok
 os : s.os = X.s₀.os
 bare : AllBare s.gens
 base : Un X.fs X.ex X.H₀ H X.s₀.heap s.heap
 loc : ∃ m, s.heap.Ns X.env.locals m /\ ∀ (i : Nat) (x : Str) (v : V), X.N[i]? = some x -> U[i]? = some (some v) -> Vis X.env.scope x -> ∃ u, ZB3 v u /\ ZRl X.env s.heap m x u
 cell : ∀ x c, X.env.cells.lookup x = some c -> ∃ v, s.heap.IsCell c v
 free : H X.env.locals = none
 freeC : ∀ x c, X.env.cells.lookup x = some c -> H c = none
 pin : ∀ p ∈ X.pn ++ pins, s.heap.get? p.1 = some p.2 /\ H p.1 = none /\ p.1 ≠ X.env.locals /\ p.1 ∉ X.fs /\ ∀ v, p.2.data ≠ .cell v
 hok : HOk X.prog X.w H s.heap
 len : U.length = X.N.length
section
variable {X : Cx} {pins : List (Addr × Obj)} {U : List (Option V)} {H H' : Hp} {s : Shared} {h' : Heap}
theorem Cx.Ok.nofr (ok : X.Ok) {b : Addr} {o : Obj} (e : X.base.get? b = some o) : b ∉ X.fs := fun hb => by
 have := (ok.funs.mem hb).1
 rw [e] at this; cases this
theorem Inv.bs (I : Inv X pins U H s) : ∀ b o, X.base.get? b = some o -> s.heap.get? b = some o /\ H b = none := fun b o e =>
 ⟨I.base.keep b o (I.ok.bs b o e).1 (I.ok.bs b o e).2 (I.ok.nofr e) (I.ok.noex b o e), I.base.free b o (I.ok.bs b o e).1 (I.ok.bs b o e).2 (I.ok.noex b o e)⟩
theorem Inv.bk (I : Inv X pins U H s) : ∀ b o, X.base.get? b = some o -> s.heap.get? b = some o := fun b o e => (I.bs b o e).1
theorem Inv.mod (I : Inv X pins U H s) : Mod X.K X.mg X.base := I.ok.mod
theorem Inv.kIn (I : Inv X pins U H s) : X.K.In s.heap := I.ok.mod.kin.keeps I.bk
theorem Inv.lt (I : Inv X pins U H s) : X.env.locals < s.heap.objs.size := let ⟨_, hn, _⟩ := I.loc; hn.lt
theorem Inv.sz (I : Inv X pins U H s) : X.s₀.heap.objs.size <= s.heap.objs.size := UF I.ok.above (Nat.le_of_lt I.lt)
theorem Inv.nofs (I : Inv X pins U H s) {a : Addr} (h : s.heap.objs.size <= a) : a ∉ X.fs := fun hb => by
 obtain ⟨_, o, ho, _⟩ := I.ok.funs.mem hb
 exact absurd (Ue (Ug ho) (UF I.sz h)) (UW _)
theorem Inv.cne (I : Inv X pins U H s) : ∀ x c, X.env.cells.lookup x = some c -> c ≠ X.env.locals := fun x c e z => by
 obtain ⟨v, o, ho, hd⟩ := I.cell x c e
 obtain ⟨m, ⟨o', es, ep, ho', hd', _⟩, _⟩ := I.loc
 rw [z, ho'] at ho; cases ho; rw [hd'] at hd; cases hd
theorem Inv.funs (I : Inv X pins U H s) : s.heap.FunFrames X.base X.outer := by
 have all : ∀ (l : List Env), (∀ b ∈ frs l, b ∈ X.fs) -> X.s₀.heap.FunFrames X.base l -> s.heap.FunFrames X.base l := by
  intro l
  induction l with
  | nil => intro _ _; trivial
  | cons env r ih =>
   intro hs hl
   obtain ⟨hk, ⟨L, o, hf, hn, ho, hd⟩, hr⟩ := hl
   have hL : L ∈ X.fs := hs L (by unfold frs; rw [List.filterMap_cons, hf]; exact Uy)
   obtain ⟨sl, e⟩ := I.base.slot L o ho (I.ok.frf L hL) hL fun z => I.ok.exfs L z hL
   exact ⟨hk, ⟨L, _, hf, hn, e, hd⟩, ih (fun b hb => hs b (by unfold frs; rw [List.filterMap_cons, hf]; exact Uu _ hb)) hr⟩
 exact all X.outer (fun _ hb => hb) I.ok.funs
theorem Inv.stack (I : Inv X pins U H s) : s.heap.FunFrames X.base X.stack := by
 rcases I.ok.stk with e | ⟨e, hf⟩
 ·rw [e]; exact I.funs
 ·rw [e]
  obtain ⟨m, hn, _⟩ := I.loc
  refine .cons (by rw [I.ok.kind]; decide) hf hn ?_ I.funs
  exact Heap.get?_none_of_le (UF I.ok.bsz I.ok.above)
theorem Inv.stkSub (I : Inv X pins U H s) : ∀ b ∈ frs X.stack, b ∈ X.env.locals :: X.fs := fun b hb => by
 rcases I.ok.stk with e | ⟨e, hf⟩
 ·rw [e] at hb; exact Uu _ hb
 ·rw [e] at hb
  unfold frs at hb
  rw [List.filterMap_cons, hf] at hb
  exact hb
theorem Inv.stkFree (I : Inv X pins U H s) : ∀ b ∈ frs X.stack, H b = none := fun b hb => by
 rcases Uj.mp (I.stkSub b hb) with e | hb
 ·rw [e]; exact I.free
 ·obtain ⟨_, o, ho, _⟩ := I.ok.funs.mem hb
  exact I.base.free b o ho (I.ok.frf b hb) fun z => I.ok.exfs b z hb
theorem Inv.step {g' : Array GenState} {t' : Nat} {d' : Drawn} {ch : List Addr} (I : Inv X pins U H s)
  (hch : ∀ b ∈ ch, (b ∈ X.ex \/ X.s₀.heap.objs.size <= b) /\ b ≠ X.env.locals /\ (∀ x c, X.env.cells.lookup x = some c -> c ≠ b) /\ ∀ p ∈ X.pn ++ pins, p.1 ≠ b)
  (keep : ∀ b o, b ≠ X.env.locals -> b ∉ X.fs -> b ∉ ch -> s.heap.get? b = some o -> H b = none -> h'.get? b = some o)
  (slot : ∀ b o, b ≠ X.env.locals -> b ∈ X.fs -> b ∉ ch -> s.heap.get? b = some o -> H b = none -> ∃ sl, h'.get? b = some { o with slots := sl }) (free : ∀ b o, b ∉ ch -> s.heap.get? b = some o -> H b = none -> H' b = none)
  (there : ∀ b o, b ∉ ch -> s.heap.get? b = some o -> ∃ o', h'.get? b = some o')
  (tups : ∀ b xs, H b = some (.tup xs) -> H' b = some (.tup xs)) (frzs : ∀ b o u, H b = some (.frz o u) -> H' b = some (.frz o u)) (tbls : ∀ b ps, H b = some (.tbl ps) -> ∃ more, H' b = some (.tbl (ps ++ more)))
  (ns : ∀ m, s.heap.Ns X.env.locals m -> h'.Ns X.env.locals m) (hok : HOk X.prog X.w H' h') (hg : AllBare g') :
  Inv X pins U H' { s with heap := h', gens := g', drawn := d', toks := t' } := by
 have neL : ∀ b o, X.s₀.heap.get? b = some o -> b ≠ X.env.locals := fun b o e => Up (Ue (Ug e) I.ok.above)
 have neC : ∀ b o, X.s₀.heap.get? b = some o -> b ∉ X.ex -> b ∉ ch := fun b o e hx hb => by
  rcases (hch b hb).1 with z | z
  ·exact hx z
  ·exact absurd (Ue (Ug e) z) (UW _)
 have cellK : ∀ x c, X.env.cells.lookup x = some c -> ∀ v, s.heap.IsCell c v -> h'.IsCell c v := fun x c e v ⟨o, ho, hd⟩ => by
  have nch : c ∉ ch := fun z => (hch c z).2.2.1 x c e rfl
  by_cases hc : c ∈ X.fs
  ·obtain ⟨sl, q⟩ := slot c o (I.cne x c e) hc nch ho (I.freeC x c e)
   exact ⟨_, q, hd⟩
  ·exact ⟨o, keep c o (I.cne x c e) hc nch ho (I.freeC x c e), hd⟩
 refine ⟨I.ok, I.os, hg, ⟨fun b o e n hb hx => ?_, fun b o e n hb hx => ?_, fun b o e n hx => ?_, fun b o e hx => ?_, fun b xs e => tups b xs (I.base.tups b xs e), fun b o xs e => frzs b o xs (I.base.frzs b o xs e), fun b ps e => ?_⟩, ?_, fun x c e => ?_, ?_, fun x c e => ?_, fun p hp => ?_, hok, I.len⟩
 ·exact keep b o (neL b o e) hb (neC b o e hx) (I.base.keep b o e n hb hx) (I.base.free b o e n hx)
 ·obtain ⟨sl, e1⟩ := I.base.slot b o e n hb hx
  obtain ⟨sl', e2⟩ := slot b _ (neL b o e) hb (neC b o e hx) e1 (I.base.free b o e n hx)
  exact ⟨sl', e2⟩
 ·obtain ⟨o', e1⟩ := I.base.there b o e hx
  exact free b o' (neC b o e hx) e1 (I.base.free b o e n hx)
 ·obtain ⟨o', e1⟩ := I.base.there b o e hx
  exact there b o' (neC b o e hx) e1
 ·obtain ⟨m1, e1⟩ := I.base.tbls b ps e
  obtain ⟨m2, e2⟩ := tbls b _ e1
  exact ⟨m1 ++ m2, by rw [e2, Array.append_assoc]⟩
 ·obtain ⟨m, hn, hl⟩ := I.loc
  refine ⟨m, ns m hn, fun i x v e1 e2 e3 => ?_⟩
  obtain ⟨u, r, l⟩ := hl i x v e1 e2 e3
  refine ⟨u, r, ?_⟩
  rcases l with l | ⟨k, c, e, z⟩
  ·exact .inl l
  ·exact .inr ⟨k, c, e, cellK x c e _ z⟩
 ·obtain ⟨v, z⟩ := I.cell x c e
  exact ⟨v, cellK x c e v z⟩
 ·obtain ⟨m, ⟨o, _, _, ho, _⟩, _⟩ := I.loc
  exact free _ o (fun z => (hch _ z).2.1 rfl) ho I.free
 ·obtain ⟨v, o, ho, hd⟩ := I.cell x c e
  exact free c o (fun z => (hch c z).2.2.1 x c e rfl) ho (I.freeC x c e)
 ·obtain ⟨e, n, ne, nf, d⟩ := I.pin p hp
  have nch : p.1 ∉ ch := fun z => (hch p.1 z).2.2.2 p hp rfl
  exact ⟨keep p.1 p.2 ne nf nch e n, free p.1 p.2 nch e n, ne, nf, d⟩
theorem Inv.un {t' : Nat} (I : Inv X pins U H s) (u : Un X.fs [] H H' s.heap h') (hok : HOk X.prog X.w H' h') : Inv X pins U H' { s with heap := h', toks := t' } := by
 obtain ⟨m, ⟨o, es, ep, ho, r⟩, _⟩ := id I.loc
 obtain ⟨sl, hL⟩ := u.any ho I.free (by simp)
 exact I.step (g' := s.gens) (d' := s.drawn) (ch := []) (fun _ z => nomatch z) (fun b o _ hb _ e n => u.keep b o e n hb (by simp)) (fun b o _ hb _ e n => u.slot b o e n hb (by simp)) (fun b o _ e n => u.free b o e n (by simp)) (fun b o _ e => u.there b o e (by simp)) u.tups u.frzs u.tbls (fun m' hm => by
  obtain ⟨o', es', ep', ho', r'⟩ := hm
  rw [ho] at ho'; cases ho'
  exact ⟨_, es', ep', hL, r'⟩) hok I.bare
theorem Inv.call {g' : Array GenState} {t' : Nat} {d' : Drawn} {ch : List Addr} (I : Inv X pins U H s) (u : Un (frs X.stack) ch H H' s.heap h') (hok : HOk X.prog X.w H' h') (hg : AllBare g')
  (hch : ∀ b ∈ ch, (b ∈ X.ex \/ X.s₀.heap.objs.size <= b) /\ b ≠ X.env.locals /\ (∀ x c, X.env.cells.lookup x = some c -> c ≠ b) /\ ∀ p ∈ X.pn ++ pins, p.1 ≠ b) :
  Inv X pins U H' { s with heap := h', gens := g', drawn := d', toks := t' } := by
 obtain ⟨m, ⟨o, es, ep, ho, r⟩, _⟩ := id I.loc
 obtain ⟨sl, hL⟩ := u.any ho I.free fun z => (hch _ z).2.1 rfl
 exact I.step (ch := ch) hch (fun b o hL hb hc e n => u.keep b o e n (fun z => (Uj.mp (I.stkSub b z)).elim hL hb) hc) (fun b o _ _ hc e n => u.any e n hc) (fun b o hc e n => u.free b o e n hc) (fun b o hc e => u.there b o e hc) u.tups u.frzs u.tbls (fun m' hm => by
  obtain ⟨o', es', ep', ho', r'⟩ := hm
  rw [ho] at ho'; cases ho'
  exact ⟨_, es', ep', hL, r'⟩) hok hg
theorem Inv.turned {t' : Nat} {it : Addr} (I : Inv X pins U H s) (k : ∀ b o, b ≠ it -> s.heap.get? b = some o -> h'.get? b = some o) (hn : H it = none) (hL : it ≠ X.env.locals)
  (h1 : it ∈ X.ex \/ X.s₀.heap.objs.size <= it) (h2 : ∀ x c, X.env.cells.lookup x = some c -> c ≠ it) (h3 : ∀ p ∈ X.pn ++ pins, p.1 ≠ it) : Inv X pins U H { s with heap := h', toks := t' } := by
 have nit : ∀ b u, H b = some u -> b ≠ it := fun b u e z => by rw [z, hn] at e; cases e
 refine I.step (g' := s.gens) (d' := s.drawn) (ch := [it]) (fun b hb => ?_) (fun b o _ _ hc e _ => k b o (fun z => hc (by simp [z])) e) (fun b o _ _ hc e _ => ⟨o.slots, k b o (fun z => hc (by simp [z])) e⟩) (fun _ _ _ _ n => n)
  (fun b o hc e => ⟨o, k b o (fun z => hc (by simp [z])) e⟩) (fun _ _ e => e) (fun _ _ _ e => e) (fun b ps e => ⟨#[], by rw [e]; simp⟩) (fun m hm => ?_) (fun b u e => ?_) I.bare
 ·have e : b = it := by simpa using hb
  subst e
  exact ⟨h1, hL, h2, h3⟩
 ·obtain ⟨o, es, ep, ho, r⟩ := hm
  exact ⟨o, es, ep, k _ o (Ne.symm hL) ho, r⟩
 ·refine (I.hok b u e).stay (fun c v hc q => k c v ?_ q) (fun _ q => q) fun _ _ q => q
  rcases hc with z | z
  ·rw [z]; exact nit b u e
  ·exact nit c _ z
theorem Inv.tok (I : Inv X pins U H s) (t : Nat) : Inv X pins U H { s with toks := t } := I.un (h' := s.heap) (t' := t) Un.refl I.hok
theorem Inv.kept {t' : Nat} (I : Inv X pins U H s) (k : ∀ b u, s.heap.get? b = some u -> h'.get? b = some u) : Inv X pins U H { s with heap := h', toks := t' } := I.un (Un.kept k) (I.hok.kept k)
theorem Inv.laid {a : Addr} {o : HO} {t' : Nat} (I : Inv X pins U H s) (k : ∀ b u, s.heap.get? b = some u -> h'.get? b = some u) (hp : s.heap.objs.size <= a) (new : ZCF X.prog X.w (upd H a o) h' a o) :
 Inv X pins U (upd H a o) { s with heap := h', toks := t' } := I.un (Un.laid k hp (I.hok.fresh hp)) (I.hok.laid k hp new)
theorem Inv.write {x e : Addr} {o : HO} {t' : Nat} (I : Inv X pins U H s) (mu : Mut (H x)) (he : e = x \/ H e = some (.own x)) (k : ∀ b u, b ≠ e -> s.heap.get? b = some u -> h'.get? b = some u) (heo : ∃ u, h'.get? e = some u)
 (new : ZCF X.prog X.w (upd H x o) h' x o) : Inv X pins U (upd H x o) { s with heap := h', toks := t' } := I.un (Un.write mu he k heo) (I.hok.write mu he k heo new)
theorem Inv.pins_of {pins' : List (Addr × Obj)} (I : Inv X pins U H s) (h : ∀ p ∈ pins', s.heap.get? p.1 = some p.2 /\ H p.1 = none /\ p.1 ≠ X.env.locals /\ p.1 ∉ X.fs /\ ∀ v, p.2.data ≠ .cell v) : Inv X pins' U H s :=
 ⟨I.ok, I.os, I.bare, I.base, I.loc, I.cell, I.free, I.freeC, fun p hp => (UR.mp hp).elim (fun z => I.pin p (UX _ z)) (h p), I.hok, I.len⟩
theorem ZGH {N : List Str} (hN : N.Nodup) {i j : Nat} {x : Str} (a : N[i]? = some x) (b : N[j]? = some x) : i = j := by
 obtain ⟨h1, e1⟩ := Um.mp a
 obtain ⟨h2, e2⟩ := Um.mp b
 exact (List.getElem_inj hN).mp (e1.trans e2.symm)
theorem ZLJ {M : Model} {A : Around} {E : Value -> Shared -> Prop} {i : Nat} {x : Str} {v : V} {u : Value} {Q : Unit -> Shared -> Prop} (I : Inv X pins U H s) (hN : X.N.Nodup) (hi : X.N[i]? = some x) (hx : Loc X.env.scope x) (r : ZB3 v u)
  (h : ∀ s', Inv X pins (U.set i (some v)) H s' -> (∃ a, Heap.SameBut a s.heap s'.heap /\ (a = X.env.locals \/ X.env.cells.lookup x = some a)) -> Q () s') (hf : X.fn x = true \/ X.env.scope.names.lookup x = some .local := by first | exact .inl rfl | exact .inr rfl | assumption) : wpAny M A (storeName X.env x u) Q E s := by
 obtain ⟨m, hn, hl⟩ := id I.loc
 have hcls : (X.env.scope.kind == .class || (X.env.scope.kind == .module && X.env.locals != X.env.globals)) = false := by rw [I.ok.kind]; rfl
 have hiσ : i < U.length := by rw [I.len]; exact (Um.mp hi).1
 have cne := I.cne
 have tracked : ∀ {a : Addr} {h' : Heap}, (∃ o, s.heap.get? a = some o /\ H a = none) -> Heap.SameBut a s.heap h' -> HOk X.prog X.w H h' := fun {a h'} ha hs b ob e => by
  obtain ⟨_, _, hfree⟩ := ha
  refine (I.hok b ob e).stay (fun c w' hc q => (hs.2 c ?_).trans q) (fun _ q => q) fun _ _ q => q
  rintro rfl
  rcases hc with rfl | hc
  ·rw [hfree] at e; cases e
  ·rw [hfree] at hc; cases hc
 rcases hx with hk | hk
 ·refine wpAny_storeName_local hk hn (fun h' hn' hs => ?_) hcls
  obtain ⟨oL, _, _, hoL, _⟩ := id hn
  refine h _ ⟨I.ok, I.os, I.bare, ⟨fun b o e n hb hx => ?_, fun b o e n hb hx => ?_, I.base.free, fun b o e hx => ?_, I.base.tups, I.base.frzs, I.base.tbls⟩, ⟨_, hn', fun j y v' e1 e2 e3 => ?_⟩, fun y c e => ?_, I.free, I.freeC, fun p hp => ?_, tracked ⟨oL, hoL, I.free⟩ hs, by simpa using I.len⟩ ⟨_, hs, .inl rfl⟩
  ·exact (hs.2 b (Up (Ue (Ug e) I.ok.above))).trans (I.base.keep b o e n hb hx)
  ·obtain ⟨sl, e1⟩ := I.base.slot b o e n hb hx
   exact ⟨sl, (hs.2 b (Up (Ue (Ug e) I.ok.above))).trans e1⟩
  ·obtain ⟨o', e1⟩ := I.base.there b o e hx
   exact ⟨o', (hs.2 b (Up (Ue (Ug e) I.ok.above))).trans e1⟩
  ·by_cases hj : j = i
   ·subst hj
    rw [hi] at e1; cases e1
    rw [List.getElem?_set_self hiσ] at e2
    cases e2
    exact ⟨u, r, .inl ⟨hk, by simp⟩⟩
   ·rw [List.getElem?_set_ne (Ne.symm hj)] at e2
    obtain ⟨u', r', q⟩ := hl j y v' e1 e2 e3
    refine ⟨u', r', ?_⟩
    rcases q with ⟨k, e⟩ | ⟨k, c, e, z⟩
    ·refine .inl ⟨k, ?_⟩
     have : y ≠ x := fun e => hj (ZGH hN e1 (e ▸ hi))
     simp [this, e]
    ·exact .inr ⟨k, c, e, z.sameBut hs (cne y c e)⟩
  ·obtain ⟨w', z⟩ := I.cell y c e
   exact ⟨w', z.sameBut hs (cne y c e)⟩
  ·obtain ⟨e, n, ne, nf, d⟩ := I.pin p hp
   exact ⟨(hs.2 p.1 ne).trans e, n, ne, nf, d⟩
 ·have hfn : X.fn x = true := by
   rcases hf with z | z
   ·exact z
   ·rw [z] at hk; cases hk
  obtain ⟨c, hc⟩ := I.ok.has x (.inl hk)
  obtain ⟨w', z⟩ := I.cell x c hc
  refine wpAny_storeName_cell I.ok.kind hk hc z (fun h' hc' hs => ?_)
  obtain ⟨oc, hoc, hocd⟩ := id z
  refine h { s with heap := h' } ⟨I.ok, I.os, I.bare, ⟨fun b o e n hb hx => ?_, fun b o e n hb hx => ?_, I.base.free, fun b o e hx => ?_, I.base.tups, I.base.frzs, I.base.tbls⟩, ⟨m, hn.sameBut hs (Ne.symm (cne x c hc)), fun j y v' e1 e2 e3 => ?_⟩, fun y c' e => ?_, I.free, I.freeC, fun p hp => ?_, tracked ⟨oc, hoc, I.freeC x c hc⟩ hs, by simpa using I.len⟩ ⟨c, hs, .inr hc⟩
  ·exact (hs.2 b (Up (Ue (Ug e) (I.ok.cab x c hfn hc)))).trans (I.base.keep b o e n hb hx)
  ·obtain ⟨sl, e1⟩ := I.base.slot b o e n hb hx
   exact ⟨sl, (hs.2 b (Up (Ue (Ug e) (I.ok.cab x c hfn hc)))).trans e1⟩
  ·obtain ⟨o', e1⟩ := I.base.there b o e hx
   exact ⟨o', (hs.2 b (Up (Ue (Ug e) (I.ok.cab x c hfn hc)))).trans e1⟩
  ·by_cases hj : j = i
   ·subst hj
    rw [hi] at e1; cases e1
    rw [List.getElem?_set_self hiσ] at e2
    cases e2
    exact ⟨u, r, .inr ⟨.inl hk, c, hc, hc'⟩⟩
   ·rw [List.getElem?_set_ne (Ne.symm hj)] at e2
    obtain ⟨u', r', q⟩ := hl j y v' e1 e2 e3
    refine ⟨u', r', ?_⟩
    rcases q with q | ⟨k, c', e, z'⟩
    ·exact .inl q
    ·refine .inr ⟨k, c', e, z'.sameBut hs ?_⟩
     rintro rfl
     exact hj (ZGH hN e1 (I.ok.inj _ _ _ e hc ▸ hi))
  ·by_cases hcc : c' = c
   ·subst hcc; exact ⟨_, hc'⟩
   ·obtain ⟨w2, z2⟩ := I.cell y c' e
    exact ⟨w2, z2.sameBut hs hcc⟩
  ·obtain ⟨e, n, ne, nf, d⟩ := I.pin p hp
   refine ⟨(hs.2 p.1 ?_).trans e, n, ne, nf, d⟩
   intro q
   rw [q, hoc] at e
   have q' : oc = p.2 := Option.some.inj e
   exact d w' (by rw [<- q']; exact hocd)
theorem ZEo {M : Model} {A : Around} {E : Value -> Shared -> Prop} {i : Nat} {x : Str} {v : V} {u : Value} {Q : Unit -> Shared -> Prop} (I : Inv X pins U H s) (hN : X.N.Nodup) (hi : X.N[i]? = some x) (hx : Loc X.env.scope x) (r : ZB3 v u)
  (h : ∀ s', Inv X pins (U.set i (some v)) H s' -> Q () s') (hf : X.fn x = true \/ X.env.scope.names.lookup x = some .local := by first | exact .inl rfl | exact .inr rfl | assumption) : wpAny M A (storeName X.env x u) Q E s :=
 ZLJ I hN hi hx r (fun s' I' _ => h s' I') hf
theorem Inv.call' {s' : Shared} {ch : List Addr} (I : Inv X pins U H s) (ho : s'.os = s.os) (u : Un (frs X.stack) ch H H' s.heap s'.heap) (hok : HOk X.prog X.w H' s'.heap) (hg : AllBare s'.gens)
  (hch : ∀ b ∈ ch, (b ∈ X.ex \/ X.s₀.heap.objs.size <= b) /\ b ≠ X.env.locals /\ (∀ x c, X.env.cells.lookup x = some c -> c ≠ b) /\ ∀ p ∈ X.pn ++ pins, p.1 ≠ b) : Inv X pins U H' s' := by
 obtain ⟨h', g', d', t', o'⟩ := s'
 have e : o' = s.os := ho
 subst e
 exact I.call (g' := g') (t' := t') (d' := d') u hok hg hch
end
abbrev XK := Value -> Option Addr -> Hp -> Prop
abbrev St := List (Option V)
abbrev VK := V -> Hp -> Prop
abbrev TE := St -> Hp -> VK -> Prop
abbrev TT := St -> Hp -> (Bool -> Hp -> Prop) -> Prop
abbrev TA := St -> Hp -> (List V -> Hp -> Prop) -> Prop
structure ZCg where
 nx : St -> Hp -> Prop
 rt : VK
 bk : St -> Hp -> Prop := fun _ _ => False
 ct : St -> Hp -> Prop := fun _ _ => False
abbrev TS := ZCg -> St -> Hp -> Prop
def EP (X : Cx) (pins : List (Addr × Obj)) (U : St) (Q : VK) (u : Value) (s' : Shared) : Prop := ∃ v H', Inv X pins U H' s' /\ ZB3 v u /\ Q v H'
def TP (X : Cx) (pins : List (Addr × Obj)) (U : St) (Q : Bool -> Hp -> Prop) (b : Bool) (s' : Shared) : Prop := ∃ H', Inv X pins U H' s' /\ Q b H'
def AP (X : Cx) (pins : List (Addr × Obj)) (U : St) (Q : List V -> Hp -> Prop) (us : List Value) (s' : Shared) : Prop := ∃ vs H', Inv X pins U H' s' /\ ZB6 vs us /\ Q vs H'
def SP (X : Cx) (pins : List (Addr × Obj)) (D : ZCg) (f : Flow) (s' : Shared) : Prop :=
 match f with
 | .next => ∃ U' H', Inv X pins U' H' s' /\ D.nx U' H'
 | .brk => ∃ U' H', Inv X pins U' H' s' /\ D.bk U' H'
 | .cont => ∃ U' H', Inv X pins U' H' s' /\ D.ct U' H'
 | .ret u => ∃ v U' H', Inv X pins U' H' s' /\ ZB3 v u /\ D.rt v H'
def PE (X : Cx) (e : Expr) (t : TE) : Prop :=
 ∀ (pins : List (Addr × Obj)) (s : Shared) (U : St) (H : Hp) (Q : VK), Inv X pins U H s -> t U H Q -> wpAny (model X.prog X.w) X.A (eval e X.env) (EP X pins U Q) X.xe s
def PT (X : Cx) (e : Expr) (t : TT) : Prop :=
 ∀ (pins : List (Addr × Obj)) (s : Shared) (U : St) (H : Hp) (Q : Bool -> Hp -> Prop), Inv X pins U H s -> t U H Q -> wpAny (model X.prog X.w) X.A (isTrue e X.env (eval e X.env)) (TP X pins U Q) X.xe s
def PW (X : Cx) (e : Expr) (t : TT) : Prop :=
 ∀ (whole : Sem Value) (pins : List (Addr × Obj)) (s : Shared) (U : St) (H : Hp) (Q : Bool -> Hp -> Prop), Inv X pins U H s -> t U H Q -> wpAny (model X.prog X.w) X.A (isTrue e X.env whole) (TP X pins U Q) X.xe s
theorem PW.pt {X : Cx} {e : Expr} {t : TT} (h : PW X e t) : PT X e t := h _
def PA (X : Cx) (es : List Expr) (t : TA) : Prop :=
 ∀ (pos : Pos) (pins : List (Addr × Obj)) (s : Shared) (U : St) (H : Hp) (Q : List V -> Hp -> Prop), Inv X pins U H s -> t U H Q -> wpAny (model X.prog X.w) X.A (spliced (backTo pos (starEach es X.env))) (AP X pins U Q) X.xe s
def PS (X : Cx) (st : Stmt) (t : TS) : Prop :=
 ∀ (pins : List (Addr × Obj)) (s : Shared) (U : St) (H : Hp) (D : ZCg), Inv X pins U H s -> t D U H -> wpAny (model X.prog X.w) X.A (exec st X.env) (SP X pins D) X.xe s
def PSs (X : Cx) (st : List Stmt) (t : TS) : Prop :=
 ∀ (pins : List (Addr × Obj)) (s : Shared) (U : St) (H : Hp) (D : ZCg), Inv X pins U H s -> t D U H -> wpAny (model X.prog X.w) X.A (execs st X.env) (SP X pins D) X.xe s
theorem thn {α : Type} {t : Sem α} {Q Q' : α -> Shared -> Prop} {M : Model} {A : Around} {E : Value -> Shared -> Prop} {s : Shared} (h : wpAny M A t Q E s) (hQ : ∀ a s, Q a s -> Q' a s) : wpAny M A t Q' E s := Uv h hQ fun _ _ x => x
section
variable {X : Cx}
def ZMb (i : Nat) : TE := fun U H Q => ∃ v, U[i]? = some (some v) /\ Q v H
def tC (v : V) : TE := fun _ H Q => Q v H
theorem ZP4 {i : Nat} {x : Str} {pos : Pos} (hN : X.N[i]? = some x) (hv : Vis X.env.scope x) (hd : (x == ("__debug__" : Str)) = false := by decide) (hcd : (x == ("__classdict__" : Str)) = false := by decide) : PE X (.Name x pos) (ZMb i) := by
 intro pins s U H Q I h
 obtain ⟨v, e, h⟩ := h
 obtain ⟨m, hn, hl⟩ := I.loc
 obtain ⟨u, r, l⟩ := hl i x v hN e hv
 have fin : EP X pins U Q u s := ⟨v, H, I, r, h⟩
 rcases l with ⟨hk, hm⟩ | ⟨hk, c, hc, hcell⟩
 ·exact wpAny_Name (wpAny_loadName_local I.ok.kind hk hn hm fin) hd
 ·rcases hk with hk | hk
  ·exact wpAny_Name (wpAny_loadName_cell I.ok.kind hk hc hcell fin) hd
  ·exact wpAny_Name (wpAny_loadName_free I.ok.kind hk hc hcell fin hcd) hd
theorem ZP5 {i j pos} : PE X (.Constant (.int i) j pos) (tC (.int i)) := fun _ _ _ H _ I h => wpAny_Constant_int ⟨.int i, H, I.tok _, ⟨_, rfl⟩, h⟩
theorem ZRP {b j pos} : PE X (.Constant (.bool b) j pos) (tC (.bl b)) := fun _ _ _ H _ I h => Constant_bool ⟨.bl b, H, I, rfl, h⟩
theorem ZP6 {j pos} : PE X (.Constant .none j pos) (tC .non) := fun _ _ _ H _ I h => Constant_none ⟨.non, H, I, rfl, h⟩
theorem ZP7 {x j pos} : PE X (.Constant (.str x) j pos) (tC (.str x)) := fun _ _ _ H _ I h => Calls.Constant_str ⟨.str x, H, I.tok _, ⟨_, rfl⟩, h⟩
def Gl (X : Cx) (x : Str) : Prop := X.env.kindOf x = some .globalImplicit
theorem ZDa {E : Value -> Shared -> Prop} {pins : List (Addr × Obj)} {s : Shared} {U : St} {H : Hp} {x : Str} {u : Value} {pos : Pos} {Q : Value -> Shared -> Prop} (I : Inv X pins U H s) (hg : Gl X x) (hm : X.mg x = some u) (h : Q u s)
  (hd : (x == ("__debug__" : Str)) = false := by decide) : wpAny (model X.prog X.w) X.A (eval (.Name x pos) X.env) Q E s :=
 Calls.Name_function_global I.ok.kind hg (Calls.loadGlobal_global (by rw [I.ok.glob]; exact I.mod.glob.keeps I.bk) hm h) hd
theorem ZDs {E : Value -> Shared -> Prop} {pins : List (Addr × Obj)} {s : Shared} {U : St} {H : Hp} {x : Str} {u : Value} {pos : Pos} {Q : Value -> Shared -> Prop} (I : Inv X pins U H s) (hg : Gl X x) (hm : X.mg x = none) (hv : bootBuiltins x = some u) (h : Q u s)
  (hn : x ≠ "__name__" := by decide) (hd : (x == ("__debug__" : Str)) = false := by decide) : wpAny (model X.prog X.w) X.A (eval (.Name x pos) X.env) Q E s := by
 obtain ⟨mb, h1, h2⟩ := I.mod.blt
 exact Calls.Name_function_global I.ok.kind hg (Calls.loadGlobal_builtin (by rw [I.ok.glob]; exact I.mod.glob.keeps I.bk) hm (by rw [I.ok.blt]; exact h1.keeps I.bk) ((h2 x hn).trans hv) h) hd
theorem ZOa {x : Str} {v : V} {u : Value} {pos : Pos} (hg : Gl X x) (hm : X.mg x = some u) (r : ZB3 v u) (hd : (x == ("__debug__" : Str)) = false := by decide) : PE X (.Name x pos) (tC v) :=
 fun _ _ _ H _ I h => ZDa I hg hm ⟨v, H, I, r, h⟩ hd
theorem ZOb {x : Str} {v : V} {u : Value} {pos : Pos} (hg : Gl X x) (hm : X.mg x = none) (hv : bootBuiltins x = some u) (r : ZB3 v u) (hn : x ≠ "__name__" := by decide) (hd : (x == ("__debug__" : Str)) = false := by decide) : PE X (.Name x pos) (tC v) :=
 fun _ _ _ H _ I h => ZDs I hg hm hv ⟨v, H, I, r, h⟩ hn hd
variable {a b : Expr} {ta tb : TE} {pos : Pos}
def tB (t : TE) : TT := fun U H Q => t U H fun x H1 => ∃ c, x = .bl c /\ Q c H1
theorem ZP8 {e : Expr} {t : TE} (h : PE X e t) (he : ∀ whole, isTrue e X.env whole = (do let v <- whole; standAt e.pos; holding [v] (truthy v)) := by intro _; rfl) : PT X e (tB t) := by
 intro pins s U H Q I hw
 refine isTrue_plain (thn (h pins s U H _ I hw) fun v s1 ⟨x, H1, I1, r1, q1⟩ => ?_) (he _)
 obtain ⟨d, rfl, q⟩ := q1
 cases r1
 exact wpAny_truthy_bool ⟨H1, I1, q⟩
variable {tA tB' : TT} {ZCm : List Expr}
def ZMc (t u : TT) : TT := fun U H Q => t U H fun c H1 => if c = true then u U H1 Q else Q false H1
def tOr (t u : TT) : TT := fun U H Q => t U H fun c H1 => if c = true then Q true H1 else u U H1 Q
def ZMd (t : TT) : TT := fun U H Q => t U H fun c H1 => Q (!c) H1
theorem ZOc (ha : PT X a tA) : PW X (.BoolOp .And [a] pos) tA := by
 intro wh pins s U H Q I h
 refine isTrue_and (thn (ha pins s U H Q I h) fun c s1 e => ?_)
 cases c with
 | true => exact isTrue_and_nil e
 | false => exact e
theorem ZP9 (ha : PT X a tA) : PW X (.BoolOp .Or [a] pos) tA := by
 intro wh pins s U H Q I h
 refine isTrue_or (thn (ha pins s U H Q I h) fun c s1 e => ?_)
 cases c with
 | false => exact isTrue_or_nil e
 | true => exact e
theorem ZQA (ha : PT X a tA) (hb : PW X (.BoolOp .And (b :: ZCm) pos) tB') : PW X (.BoolOp .And (a :: b :: ZCm) pos) (ZMc tA tB') := by
 intro wh pins s U H Q I h
 refine isTrue_and (thn (ha pins s U H _ I h) fun c s1 ⟨H1, I1, q1⟩ => ?_)
 cases c with
 | true => exact hb wh pins s1 U H1 Q I1 q1
 | false => exact ⟨H1, I1, q1⟩
theorem ZRQ (ha : PT X a tA) (hb : PW X (.BoolOp .Or (b :: ZCm) pos) tB') : PW X (.BoolOp .Or (a :: b :: ZCm) pos) (tOr tA tB') := by
 intro wh pins s U H Q I h
 refine isTrue_or (thn (ha pins s U H _ I h) fun c s1 ⟨H1, I1, q1⟩ => ?_)
 cases c with
 | true => exact ⟨H1, I1, q1⟩
 | false => exact hb wh pins s1 U H1 Q I1 q1
theorem ZQB (ha : PT X a tA) : PT X (.UnaryOp .Not a pos) (ZMd tA) := by
 intro pins s U H Q I h
 exact isTrue_not (ha pins s U H (fun c H1 => Q (!c) H1) I h)
def ZKS (ta tb : TE) : TE := fun U H Q => ta U H fun x H1 => ∃ c, x = .bl c /\ if c = true then tb U H1 Q else Q (.bl false) H1
def ZKT (ta : TE) : TE := fun U H Q => ta U H fun x H1 => ∃ c, x = .bl c /\ Q (.bl (!c)) H1
theorem ZQC {op} {t : TE} (h : PE X a t) : PE X (.BoolOp op [a] pos) t := fun pins s U H Q I hw => BoolOp_one (h pins s U H Q I hw)
theorem ZQD (ha : PE X a ta) (hb : PE X (.BoolOp .And (b :: ZCm) pos) tb) : PE X (.BoolOp .And (a :: b :: ZCm) pos) (ZKS ta tb) := by
 intro pins s U H Q I h
 refine BoolOp_and (thn (ha pins s U H _ I h) fun v s1 ⟨x, H1, I1, r1, q1⟩ => ?_)
 obtain ⟨c, rfl, q1⟩ := q1
 cases r1
 refine wpAny_truthy_bool ?_
 cases c with
 | true => exact hb pins s1 U H1 Q I1 q1
 | false => exact ⟨.bl false, H1, I1, rfl, q1⟩
theorem ZQE (ha : PE X a ta) : PE X (.UnaryOp .Not a pos) (ZKT ta) := by
 intro pins s U H Q I h
 refine UnaryOp_ (thn (ha pins s U H _ I h) fun v s1 ⟨x, H1, I1, r1, q1⟩ => ?_)
 obtain ⟨c, rfl, q1⟩ := q1
 cases r1
 exact not_of (wpAny_truthy_bool ⟨.bl (!c), H1, I1, rfl, q1⟩)
def tIf (t : TT) (ta tb : TE) : TE := fun U H Q => t U H fun c H1 => if c = true then ta U H1 Q else tb U H1 Q
theorem ZMe {c : Expr} (hc : PT X c tA) (ha : PE X a ta) (hb : PE X b tb) : PE X (.IfExp c a b pos) (tIf tA ta tb) := by
 intro pins s U H Q I h
 refine wpAny_IfExp (thn (hc pins s U H _ I h) fun d s1 ⟨H1, I1, q1⟩ => ?_)
 cases d with
 | true => exact ha pins s1 U H1 Q I1 q1
 | false => exact hb pins s1 U H1 Q I1 q1
end
def SqL (K : W.Frag) (H : Hp) (a : Addr) (xs : List V) : Prop :=
 Rd H a (.lst xs) \/
  ∃ (o : Obj) (its : Array Value) (n : Nat), K.lookup a = some o /\ o.cls = .type "list" /\ o.dict = none /\ o.data = .seq its n /\ its.size <= sizeLine /\ ZB6 xs its.toList
def SqT (K : W.Frag) (H : Hp) (a : Addr) (xs : List V) : Prop :=
 Rd H a (.tup xs) \/
  ∃ (o : Obj) (its : Array Value) (n : Nat), K.lookup a = some o /\ o.cls = .type "tuple" /\ o.data = .seq its n /\ its.size <= sizeLine /\ ZB6 xs its.toList
def ZRm : Value -> Option V
 | .none => some .non
 | .bool b => some (.bl b)
 | .int i _ => some (.int i)
 | .str x _ => some (.str x)
 | .bytes b _ => some (.byt b)
 | .float b _ => some (.flt b)
 | .ref a => some (.ref a)
 | .type n => some (.ty n)
 | _ => none
theorem ZB3.abs {x : V} {u : Value} (r : ZB3 x u) : ZRm u = some x := by
 cases x with
 | non => cases r; rfl
 | bl _ => cases r; rfl
 | int _ => obtain ⟨t, rfl⟩ := r; rfl
 | str _ => obtain ⟨t, rfl⟩ := r; rfl
 | byt _ => obtain ⟨t, rfl⟩ := r; rfl
 | flt _ => obtain ⟨t, rfl⟩ := r; rfl
 | ref _ => cases r; rfl
 | ty _ => cases r; rfl
theorem ZB3.inj {x y : V} {u : Value} (r : ZB3 x u) (q : ZB3 y u) : x = y := Option.some.inj (r.abs.symm.trans q.abs)
theorem ZB6.inj : ∀ {xs ys : List V} {us : List Value}, ZB6 xs us -> ZB6 ys us -> xs = ys
 | _, _, _, .nil, .nil => rfl
 | _, _, _, .cons r t, .cons r' t' => by rw [r.inj r', ZB6.inj t t']
section
variable {X : Cx} {pins : List (Addr × Obj)} {U : St} {H : Hp} {s : Shared} {a : Addr} {xs ys : List V}
theorem SqL.of {K : W.Frag} (h : H a = some (.lst xs)) : SqL K H a xs := .inl (.inl h)
theorem SqT.of {K : W.Frag} (h : H a = some (.tup xs)) : SqT K H a xs := .inl (.inl h)
theorem Inv.list (I : Inv X pins U H s) (h : SqL X.K H a xs) : ∃ its : List Value, ZB6 xs its /\ PlainL s.heap a its.toArray /\ xs.length <= sizeLine := by
 rcases h with h | ⟨o, its, n, hk, hc, hd, hs, hz, r⟩
 ·obtain ⟨z, its, n, r, e⟩ := h.ok I.hok
  exact ⟨its, r, ⟨_, n, e, rfl, rfl, rfl⟩, z⟩
 ·refine ⟨its.toList, r, ⟨o, n, I.kIn a o hk, hc, hd, by simpa using hs⟩, ?_⟩
  have e := r.length
  simp only [Uf] at e
  omega
theorem Inv.tuple (I : Inv X pins U H s) (h : SqT X.K H a xs) : ∃ its : List Value, ZB6 xs its /\ IsTup s.heap a its.toArray /\ xs.length <= sizeLine := by
 rcases h with h | ⟨o, its, n, hk, hc, hs, hz, r⟩
 ·obtain ⟨z, its, r, p⟩ := h.ok I.hok
  exact ⟨its, r, p, z.1⟩
 ·refine ⟨its.toList, r, ⟨o, I.kIn a o hk, hc, n, by simpa using hs⟩, ?_⟩
  have e := r.length
  simp only [Uf] at e
  omega
theorem Inv.list_inj (I : Inv X pins U H s) (h : SqL X.K H a xs) (h' : SqL X.K H a ys) : xs = ys := by
 obtain ⟨its, r, ⟨o, n, e, _, _, d⟩, _⟩ := I.list h
 obtain ⟨its', r', ⟨o', n', e', _, _, d'⟩, _⟩ := I.list h'
 rw [e] at e'; cases e'
 rw [d] at d'
 injection d' with d1 _
 have : its = its' := by simpa using congrArg Array.toList d1
 subst this
 exact r.inj r'
theorem Inv.tuple_inj (I : Inv X pins U H s) (h : SqT X.K H a xs) (h' : SqT X.K H a ys) : xs = ys := by
 obtain ⟨its, r, ⟨o, e, _, n, d⟩, _⟩ := I.tuple h
 obtain ⟨its', r', ⟨o', e', _, n', d'⟩, _⟩ := I.tuple h'
 rw [e] at e'; cases e'
 rw [d] at d'
 injection d' with d1 _
 have : its = its' := by simpa using congrArg Array.toList d1
 subst this
 exact r.inj r'
end
abbrev Cx.wish (X : Cx) (E : Value -> Shared -> Prop) : Cx := { X with xe := E }
abbrev Cx.nox (X : Cx) : Cx := X.wish fun _ _ => False
theorem Cx.Ok.wish {X : Cx} (ok : X.Ok) (E : Value -> Shared -> Prop) : (X.wish E).Ok :=
 ⟨ok.mod, ok.kind, ok.glob, ok.blt, ok.above, ok.inj, ok.has, ok.cab, ok.hd, ok.frames, ok.stk, ok.exf, ok.bs, ok.bsz, ok.noex, ok.exfs, ok.funs, ok.frf⟩
theorem Cx.Ok.unwish {X : Cx} {E : Value -> Shared -> Prop} (ok : (X.wish E).Ok) : X.Ok :=
 ⟨ok.mod, ok.kind, ok.glob, ok.blt, ok.above, ok.inj, ok.has, ok.cab, ok.hd, ok.frames, ok.stk, ok.exf, ok.bs, ok.bsz, ok.noex, ok.exfs, ok.funs, ok.frf⟩
section
variable {X : Cx} {pins : List (Addr × Obj)} {U : St} {H : Hp} {s : Shared} {E : Value -> Shared -> Prop}
theorem Inv.wish (I : Inv X pins U H s) (E : Value -> Shared -> Prop) : Inv (X.wish E) pins U H s := ⟨I.ok.wish E, I.os, I.bare, I.base, I.loc, I.cell, I.free, I.freeC, I.pin, I.hok, I.len⟩
theorem Inv.unwish (I : Inv (X.wish E) pins U H s) : Inv X pins U H s := ⟨I.ok.unwish, I.os, I.bare, I.base, I.loc, I.cell, I.free, I.freeC, I.pin, I.hok, I.len⟩
theorem SP.unwish {D : ZCg} {f : Flow} {s' : Shared} (h : SP (X.wish E) pins D f s') : SP X pins D f s' := by
 cases f with
 | next => obtain ⟨U', H', I, q⟩ := h; exact ⟨U', H', I.unwish, q⟩
 | brk => obtain ⟨U', H', I, q⟩ := h; exact ⟨U', H', I.unwish, q⟩
 | cont => obtain ⟨U', H', I, q⟩ := h; exact ⟨U', H', I.unwish, q⟩
 | ret u => obtain ⟨v, U', H', I, r, q⟩ := h; exact ⟨v, U', H', I.unwish, r, q⟩
theorem PSs.nox {st : List Stmt} {t : TS} (h : PSs X.nox st t) : PSs X st t := fun pins s U H D I hw =>
 Uv (h pins s U H D (I.wish _) hw) (fun _ _ q => q.unwish) fun _ _ z => False.elim z
end
section
variable {X : Cx} {st : Stmt} {ZCm : List Stmt} {t u : TS} {e : Expr} {te : TE} {pos : Pos}
def ZKU : TS := fun D U H => D.nx U H
def ZMf (t u : TS) : TS := fun D U H => t { D with nx := u D } U H
theorem ZOd : PSs X [] ZKU := fun _ _ U H _ I h => wpAny_execs_nil ⟨U, H, I, h⟩
theorem ZMg (h1 : PS X st t) (h2 : PSs X ZCm u) : PSs X (st :: ZCm) (ZMf t u) := by
 intro pins s U H D I h
 refine wpAny_execs_cons (thn (h1 pins s U H { D with nx := u D } I h) fun f s1 q => ?_)
 cases f with
 | next =>
  obtain ⟨U', H', I', q⟩ := q
  exact h2 pins s1 U' H' D I' q
 | ret v => exact q
 | brk => exact q
 | cont => exact q
theorem ZOe (h1 : PS X st t) : PSs X [st] t := by
 intro pins s U H D I h
 refine wpAny_execs_cons (thn (h1 pins s U H D I h) fun f s1 q => ?_)
 cases f with
 | next => exact wpAny_execs_nil q
 | ret v => exact q
 | brk => exact q
 | cont => exact q
theorem Inv.quiet {pins : List (Addr × Obj)} {U : St} {H : Hp} {s : Shared} (I : Inv X pins U H s) : interactive X.env = false := by simp [interactive, I.ok.kind]
def ZIC (te : TE) : TS := fun D U H => te U H fun _ H1 => D.nx U H1
theorem ZOf (he : PE X e te) (hs : swapsWith e none pos.line X.env = pure false := by rfl) : PS X (.Expr e pos) (ZIC te) := by
 intro pins s U H D I h
 exact wpAny_Expr_any (thn (he pins s U H _ I h) fun v s1 ⟨x, H1, I1, r1, q1⟩ => ⟨U, H1, I1, q1⟩) I.quiet hs
def ZMh (te : TE) : TS := fun D U H => te U H D.rt
theorem ZQF (he : PE X e te) : PS X (.Return (some e) pos) (ZMh te) := by
 intro pins s U H D I h
 exact wpAny_Return_some (thn (he pins s U H _ I h) fun v s1 ⟨x, H1, I1, r1, q1⟩ => ⟨x, U, H1, I1, r1, q1⟩)
def ZIM (c : TT) (t u : TS) : TS := fun D U H => c U H fun b H1 => if b = true then t D U H1 else u D U H1
theorem ZRR {c : Expr} {a b : List Stmt} {tc : TT} (hc : PT X c tc) (ha : PSs X a t) (hb : PSs X b u) : PS X (.If c a b pos) (ZIM tc t u) := by
 intro pins s U H D I h
 refine wpAny_If (thn (hc pins s U H _ I h) fun d s1 ⟨H1, I1, q1⟩ => ?_)
 cases d with
 | true => exact ha pins s1 U H1 D I1 q1
 | false => exact hb pins s1 U H1 D I1 q1
def ZLK : TS := fun _ _ _ => False
theorem ZMi : PS X st ZLK := fun _ _ _ _ _ _ h => h.elim
end
abbrev TG := V -> St -> Hp -> (St -> Hp -> Prop) -> Prop
abbrev TGs := List V -> St -> Hp -> (St -> Hp -> Prop) -> Prop
def PG (X : Cx) (target : Expr) (t : TG) : Prop :=
 ∀ (pins : List (Addr × Obj)) (s : Shared) (U : St) (H : Hp) (v : V) (u : Value) (Q : St -> Hp -> Prop), Inv X pins U H s -> ZB3 v u -> t v U H Q ->
  wpAny (model X.prog X.w) X.A (assign target X.env u) (fun _ s' => ∃ U' H', Inv X pins U' H' s' /\ Q U' H') X.xe s
def PGs (X : Cx) (ts : List Expr) (t : TGs) : Prop :=
 ∀ (pins : List (Addr × Obj)) (s : Shared) (U : St) (H : Hp) (vs : List V) (us : List Value) (Q : St -> Hp -> Prop), Inv X pins U H s -> ZB6 vs us -> t vs U H Q ->
  wpAny (model X.prog X.w) X.A (assignInOrder ((assignEach ts X.env).map (·.2)) us) (fun _ s' => ∃ U' H', Inv X pins U' H' s' /\ Q U' H') X.xe s
abbrev ZIN := V -> V -> V -> Hp -> (Hp -> Prop) -> Prop
def ZMj (X : Cx) (t : ZIN) : Prop :=
 ∀ (pins : List (Addr × Obj)) (s : Shared) (U : St) (H : Hp) (o i v : V) (ov iv u : Value) (Q : Hp -> Prop), Inv X pins U H s -> ZB3 o ov -> ZB3 i iv -> ZB3 v u -> t o i v H Q ->
  wpAny (model X.prog X.w) X.A (setItem ov iv u) (fun _ s' => ∃ H', Inv X pins U H' s' /\ Q H') X.xe s
section
variable {X : Cx} {pos : Pos}
def ZEM (i : Nat) : TG := fun v U H Q => Q (U.set i (some v)) H
theorem ZOg {i : Nat} {x : Str} (hN : X.N.Nodup) (hi : X.N[i]? = some x) (hx : Loc X.env.scope x) (hf : X.fn x = true \/ X.env.scope.names.lookup x = some .local := by first | exact .inl rfl | exact .inr rfl | assumption) : PG X (.Name x pos) (ZEM i) := by
 intro pins s U H v u Q I r h
 exact wpAny_assign_Name (ZEo I hN hi hx r (fun s' I' => ⟨_, H, I', h⟩) hf)
def ZMk : TGs := fun vs U H Q => vs = [] /\ Q U H
def ZKV (t : TG) (u : TGs) : TGs := fun vs U H Q => ∃ v r, vs = v :: r /\ t v U H fun U' H' => u r U' H' Q
theorem ZOh : PGs X [] ZMk := by
 intro pins s U H vs us Q I r h
 obtain ⟨e, h⟩ := h
 subst e
 cases r
 exact assignInOrder_nil ⟨U, H, I, h⟩
theorem ZMl {e : Expr} {es : List Expr} {t : TG} {u : TGs} (h1 : PG X e t) (h2 : PGs X es u)
  (hs : (assignEach (e :: es) X.env).map (·.2) = assign e X.env :: (assignEach es X.env).map (·.2) := by rfl) : PGs X (e :: es) (ZKV t u) := by
 intro pins s U H vs us Q I r h
 obtain ⟨v, vr, e1, h⟩ := h
 subst e1
 cases r with
 | cons r rr =>
  rw [hs]
  refine assignInOrder_cons (thn (h1 pins s U H _ _ _ I r h) fun _ s1 ⟨U1, H1, I1, q1⟩ => ?_)
  exact h2 pins s1 U1 H1 _ _ Q I1 rr q1
def ZKW (K : W.Frag) (n : Nat) (t : TGs) : TG := fun v U H Q => ∃ a xs, v = .ref a /\ SqT K H a xs /\ xs.length = n /\ t xs U H Q
theorem ZQG {es : List Expr} {k : Nat} {t : TGs} {n : Nat} (hc : X.calm = true) (h : PGs X es t)
  (hn : (assignEach es X.env).length = n := by rfl) (hst : (assignEach es X.env).findIdx? (·.1) = none := by rfl) : PG X (.Tuple es k pos) (ZKW X.K n t) := by
 intro pins s U H v u Q I r hw
 obtain ⟨a, xs, e1, hq, hl, hw⟩ := hw
 subst e1
 cases r
 obtain ⟨its, rv, ht, hz⟩ := I.tuple hq
 refine assign_Tuple_tuple (I.ok.hd hc) ht (by simp [hn, <- hl, rv.length]) hst fun h' hx => ?_
 have I1 : Inv X pins U H { s with heap := h' } := I.kept (t' := s.toks) fun b o e => hx b o (Up (Ug e)) e
 exact h pins _ U H xs _ Q I1 (by simpa using rv) hw
def ZMm (to ti : TE) (t : ZIN) : TG := fun v U H Q => to U H fun o H1 => ti U H1 fun i H2 => t o i v H2 fun H3 => Q U H3
theorem ZQH {o i : Expr} {to ti : TE} {t : ZIN} (ho : PE X o to) (hi : PE X i ti) (hs : ZMj X t)
  (ha : ∀ v, assign (.Subscript o i pos) X.env v = (do
   let ov <- holding [v] (eval o X.env)
   let iv <- holding [v, ov] (eval i X.env)
   standAt pos
   holding [v, ov, iv] (setItem ov iv v)
   release [v, ov, iv] []) := by intro _; rfl) : PG X (.Subscript o i pos) (ZMm to ti t) := by
 intro pins s U H v u Q I r h
 rw [ha]
 refine Ua (UI (thn (ho pins s U H _ I h) fun ov s1 ⟨x, H1, I1, r1, q1⟩ => ?_))
 refine Ua (UI (thn (hi pins s1 U H1 _ I1 q1) fun iv s2 ⟨y, H2, I2, r2, q2⟩ => ?_))
 refine Ua (wpAny_standAt (Ua (UI (thn (hs pins s2 U H2 x y v ov iv u _ I2 r1 r2 r q2) fun _ s3 ⟨H3, I3, q3⟩ => ?_))))
 exact wpAny_release ⟨U, H3, I3, q3⟩
def ZGI (te : TE) (g : TG) : TS := fun D U H => te U H fun x H1 => g x U H1 D.nx
theorem ZQI {tg e : Expr} {te : TE} {g : TG} (he : PE X e te) (hg : PG X tg g) (hs : swapsWithSole [tg] e pos.line X.env = pure false := by rfl) (hw : swappedStores [tg] e X.env = pure none := by rfl)
  (h1 : (assignEach [tg] X.env).map (·.2) = [assign tg X.env] := by rfl) : PS X (.Assign [tg] e pos) (ZGI te g) := by
 intro pins s U H D I h
 refine wpAny_Assign_stores (thn (he pins s U H _ I h) fun v s1 ⟨x, H1, I1, r1, q1⟩ => ?_) hs hw
 rw [h1]
 exact thn (hg pins s1 U H1 x v _ I1 r1 q1) fun _ s2 q => q
theorem ZQJ {i : Nat} {x : Str} {e : Expr} {te : TE} {pos' : Pos} (hN : X.N.Nodup) (hi : X.N[i]? = some x) (hx : Loc X.env.scope x) (he : PE X e te) (hs : swapsWith e (some (.Name x pos')) pos.line X.env = pure false := by rfl) (hf : X.fn x = true \/ X.env.scope.names.lookup x = some .local := by first | exact .inl rfl | exact .inr rfl | assumption) :
  PS X (.Assign [.Name x pos'] e pos) (ZGI te (ZEM i)) := by
 intro pins s U H D I h
 refine wpAny_Assign_Name (thn (he pins s U H _ I h) fun v s1 ⟨y, H1, I1, r1, q1⟩ => ?_) hs
 exact ZEo I1 hN hi hx r1 (fun s2 I2 => ⟨_, H1, I2, q1⟩) hf
end
structure It where
 go : Nat -> Hp -> Prop
 yld : Nat -> Hp -> V -> Hp -> Prop
 stop : Nat -> Hp -> Prop
def ZDM (X : Cx) (pins : List (Addr × Obj)) (H : Hp) (b : Addr) : Prop :=
 H b = none /\ b ≠ X.env.locals /\ b ∉ X.fs /\ (b ∈ X.ex \/ X.s₀.heap.objs.size <= b) /\ (∀ x c, X.env.cells.lookup x = some c -> c ≠ b) /\ ∀ p ∈ X.pn ++ pins, p.1 ≠ b
theorem Inv.fpOk {X : Cx} {pins : List (Addr × Obj)} {U : St} {H H' : Hp} {s : Shared} {b : Addr} (I : Inv X pins U H s) (hb : s.heap.objs.size <= b) (hn : H' b = none) : ZDM X pins H' b := by
 refine ⟨hn, Nat.ne_of_gt (Ue I.lt hb), I.nofs hb, .inr (UF I.sz hb), fun x c e z => ?_, fun p hp z => ?_⟩
 ·obtain ⟨v, q⟩ := I.cell x c e
  exact absurd (Ue q.lt (by rw [z]; exact hb)) (UW _)
 ·exact absurd (Ue (Ug (I.pin p hp).1) (by rw [z]; exact hb)) (UW _)
structure ZKX (P : Program) (w : World) (K : W.Frag) (tg : Expr) (J : It) (fp : List Addr) (it : Addr) (tn : Nat -> Heap -> Prop) : Prop where
 mem : it ∈ fp
 obj : ∀ i h, tn i h -> ∀ b ∈ fp, ∃ o, h.get? b = some o /\ ∀ v, o.data ≠ .cell v
 keep : ∀ i h h', tn i h -> (∀ b ∈ fp, ∀ o, h.get? b = some o -> h'.get? b = some o) -> tn i h'
 item : ∀ (X : Cx), X.prog = P -> X.w = w -> X.K = K -> X.calm = true -> ∀ (i : Nat) (pins : List (Addr × Obj)) (s : Shared) (U : St) (H : Hp) (E : Value -> Shared -> Prop), Inv X pins U H s -> (∀ b ∈ fp, ZDM X pins H b) -> tn i s.heap -> J.go i H ->
  wpAny (model P w) X.A (pyNext (.ref it)) (fun r s1 => ∃ u, r = some u /\
   wpAny (model P w) X.A (letOwnedTupleGo tg (.ref it) u) (fun _ s2 => ∃ x H', Inv X pins U H' s2 /\ ZB3 x u /\ J.yld i H x H' /\ tn (i + 1) s2.heap /\ ∀ b ∈ fp, H' b = none) E s1) E s
 done : ∀ (X : Cx), X.prog = P -> X.w = w -> X.K = K -> X.calm = true -> ∀ (i : Nat) (pins : List (Addr × Obj)) (s : Shared) (U : St) (H : Hp) (E : Value -> Shared -> Prop), Inv X pins U H s -> (∀ b ∈ fp, ZDM X pins H b) -> tn i s.heap -> J.stop i H ->
  wpAny (model P w) X.A (pyNext (.ref it)) (fun r s1 => r = none /\ Inv X pins U H s1) E s
 self : ∀ (A : Around) (i : Nat) (s : Shared) (Q : Value -> Shared -> Prop) (E : Value -> Shared -> Prop), tn i s.heap -> Q (.ref it) s -> wpAny (model P w) A (pyIter (.ref it)) Q E s
abbrev TI := St -> Hp -> (It -> Hp -> Prop) -> Prop
def PIE (X : Cx) (pins : List (Addr × Obj)) (U : St) (tg : Expr) (R : It -> Hp -> Prop) (itv : Value) (s2 : Shared) : Prop :=
 ∃ (it : Addr) (fp : List Addr) (tn : Nat -> Heap -> Prop) (J : It) (H' : Hp), itv = .ref it /\ Inv X pins U H' s2 /\ ZKX X.prog X.w X.K tg J fp it tn /\ tn 0 s2.heap /\ (∀ b ∈ fp, ZDM X pins H' b) /\ R J H'
def PI (X : Cx) (tg iter : Expr) (wi : TI) : Prop :=
 ∀ (pins : List (Addr × Obj)) (s : Shared) (U : St) (H : Hp) (R : It -> Hp -> Prop), Inv X pins U H s -> wi U H R ->
  wpAny (model X.prog X.w) X.A (eval iter X.env) (fun v s1 => wpAny (model X.prog X.w) X.A (pyIter v) (PIE X pins U tg R) X.xe s1) X.xe s
theorem ZKY {M : Model} {A : Around} {E : Value -> Shared -> Prop} {s : Shared} {tg : Expr} {it : Addr} {u : Value} {o : Obj} {n : String} {vs : Array Value} {Q : Unit -> Shared -> Prop} (ho : s.heap.get? it = some o) (hc : o.cls = .type n) (hd : o.data = .fields vs)
    (hn : ["enumerate", "zip", "dict_itemiterator", "dict_reverseitemiterator", "odict_iterator", "itertools.zip_longest", "itertools.pairwise"].contains n = false) (hQ : Q () s) : wpAny M A (letOwnedTupleGo tg (.ref it) u) Q E s := by
  unfold letOwnedTupleGo
  cases tg <;> first
    | exact Uh hQ
    | (cases u <;> first
        | exact Uh hQ
        | (refine Ua (wpAny_load ho ?_)
           rw [hc, hd]
           show wpAny M A (if (["enumerate", "zip", "dict_itemiterator", "dict_reverseitemiterator", "odict_iterator", "itertools.zip_longest", "itertools.pairwise"].contains n && vs[0]? == some (rawInt _)) = true then _ else _) Q E s
           rw [if_neg (by intro h; rw [hn, Bool.false_and] at h; cases h)]
           exact Uh hQ))
def Itl (K : W.Frag) (a : Addr) : It :=
 ⟨fun i H => ∃ xs x, SqL K H a xs /\ xs[i]? = some x, fun i H x H' => H' = H /\ ∀ xs, SqL K H a xs -> xs[i]? = some x, fun i H => ∃ xs, SqL K H a xs /\ xs.length <= i⟩
def Itt (K : W.Frag) (a : Addr) : It :=
 ⟨fun i H => ∃ xs x, SqT K H a xs /\ xs[i]? = some x, fun i H x H' => H' = H /\ ∀ xs, SqT K H a xs -> xs[i]? = some x, fun i H => ∃ xs, SqT K H a xs /\ xs.length <= i⟩
def Itr (lo : Int) (n : Nat) : It := ⟨fun i _ => i < n, fun i H x H' => H' = H /\ x = .int (lo + i), fun i _ => n <= i⟩
theorem ZHX {P : Program} {w : World} {K : W.Frag} {tg : Expr} (a it : Addr) : ZKX P w K tg (Itl K a) [it] it (fun i h => h.IsListIter it a i) where
 mem := by simp
 obj := fun i h st b hb => by
  have e : b = it := by simpa using hb
  subst e
  obtain ⟨o, e, c, d⟩ := st
  exact ⟨o, e, fun v z => by rw [d] at z; cases z⟩
 keep := fun i h h' st k => st.at fun o e => k it (by simp) o e
 item := by
  intro X hP hw hK hc i pins s U H E I hf st hg
  subst hP hw hK
  obtain ⟨xs, x, hq, hx⟩ := hg
  obtain ⟨its, rv, p, hz⟩ := I.list hq
  obtain ⟨u, hu, ru⟩ := rv.get hx
  obtain ⟨f0, f1, f2, f3, f4, f5⟩ := hf it (by simp)
  refine wpAny_pyNext_list_item st p.isList (x := u) (by simpa using hu) fun h' st' sb => ?_
  have I1 : Inv X pins U H { s with heap := h' } := I.turned (t' := s.toks) (fun b o hb e => (sb.2 b hb).trans e) f0 f1 f3 f4 f5
  obtain ⟨o, e, c, d⟩ := id st'
  exact ⟨u, rfl, ZKY (s := { s with heap := h' }) e c d (by decide) ⟨x, H, I1, ru, ⟨rfl, fun ys hy => by rw [I.list_inj hy hq]; exact hx⟩, st', fun b hb => (hf b hb).1⟩⟩
 done := by
  intro X hP hw hK hc i pins s U H E I hf st hg
  subst hP hw hK
  obtain ⟨xs, hq, hx⟩ := hg
  obtain ⟨its, rv, p, hz⟩ := I.list hq
  obtain ⟨f0, f1, f2, f3, f4, f5⟩ := hf it (by simp)
  have hl := rv.length
  exact wpAny_pyNext_list_end (I.ok.hd hc) st p.isList (by simp; omega) fun h' eb => ⟨rfl, I.turned (t' := s.toks) (fun b o hb e => eb b o hb e) f0 f1 f3 f4 f5⟩
 self := fun _ _ _ _ _ st h => wpAny_pyIter_listiter st h
theorem ZGd {P : Program} {w : World} {K : W.Frag} {tg : Expr} (a it : Addr) : ZKX P w K tg (Itt K a) [it] it (fun i h => h.IsTupleIter it a i) where
 mem := by simp
 obj := fun i h st b hb => by
  have e : b = it := by simpa using hb
  subst e
  obtain ⟨o, e, c, d⟩ := st
  exact ⟨o, e, fun v z => by rw [d] at z; cases z⟩
 keep := fun i h h' st k => st.at fun o e => k it (by simp) o e
 item := by
  intro X hP hw hK hc i pins s U H E I hf st hg
  subst hP hw hK
  obtain ⟨xs, x, hq, hx⟩ := hg
  obtain ⟨its, rv, p, hz⟩ := I.tuple hq
  obtain ⟨u, hu, ru⟩ := rv.get hx
  obtain ⟨f0, f1, f2, f3, f4, f5⟩ := hf it (by simp)
  refine wpAny_pyNext_tuple_item st (show s.heap.IsTuple a its.toArray from p) (x := u) (by simpa using hu) fun h' st' sb => ?_
  have I1 : Inv X pins U H { s with heap := h' } := I.turned (t' := s.toks) (fun b o hb e => (sb.2 b hb).trans e) f0 f1 f3 f4 f5
  obtain ⟨o, e, c, d⟩ := id st'
  exact ⟨u, rfl, ZKY (s := { s with heap := h' }) e c d (by decide) ⟨x, H, I1, ru, ⟨rfl, fun ys hy => by rw [I.tuple_inj hy hq]; exact hx⟩, st', fun b hb => (hf b hb).1⟩⟩
 done := by
  intro X hP hw hK hc i pins s U H E I hf st hg
  subst hP hw hK
  obtain ⟨xs, hq, hx⟩ := hg
  obtain ⟨its, rv, p, hz⟩ := I.tuple hq
  obtain ⟨f0, f1, f2, f3, f4, f5⟩ := hf it (by simp)
  have hl := rv.length
  exact wpAny_pyNext_tuple_end (I.ok.hd hc) st (show s.heap.IsTuple a its.toArray from p) (by simp; omega) fun h' eb => ⟨rfl, I.turned (t' := s.toks) (fun b o hb e => eb b o hb e) f0 f1 f3 f4 f5⟩
 self := fun _ _ _ _ _ st h => wpAny_pyIter_tupleiter st h
theorem ZKZ {P : Program} {w : World} {K : W.Frag} {tg : Expr} (it : Addr) (lo : Int) (n : Nat) : ZKX P w K tg (Itr lo n) [it] it (fun i h => IsRangeIter h it (lo + (i : Nat) * 1) ((n : Int) - (i : Nat)) 1) where
 mem := by simp
 obj := fun i h st b hb => by
  have e : b = it := by simpa using hb
  subst e
  exact ⟨_, st, fun v z => by
   have z' : Data.fields _ = Data.cell v := z
   cases z'⟩
 keep := fun i h h' st k => k it (by simp) _ st
 item := by
  intro X hP hw hK hc i pins s U H E I hf st hg
  subst hP hw hK
  obtain ⟨f0, f1, f2, f3, f4, f5⟩ := hf it (by simp)
  have W := Walks.range (prog := X.prog) (w := X.w) (I.ok.hd hc) it lo 1 n
  refine W.item i s _ _ hg st fun v h' tk hv st' kk => ?_
  obtain ⟨t, rfl⟩ := hv
  have I1 : Inv X pins U H { s with heap := h', toks := tk } := I.turned (fun b o hb e => kk b o (by simpa using hb) e) f0 f1 f3 f4 f5
  refine ⟨_, rfl, ZKY (s := { s with heap := h', toks := tk }) (n := "range_iterator") st' rfl rfl (by decide) ⟨.int (lo + i), H, I1, ⟨t, ?_⟩, ⟨rfl, rfl⟩, st', fun b hb => (hf b hb).1⟩⟩
  rw [Int.mul_one]
 done := by
  intro X hP hw hK hc i pins s U H E I hf st hg
  subst hP hw hK
  obtain ⟨f0, f1, f2, f3, f4, f5⟩ := hf it (by simp)
  exact wpAny_pyNext_range_end (I.ok.hd hc) st (by have : n <= i := hg; omega) fun h' eb => ⟨rfl, I.turned (t' := s.toks) (fun b o hb e => eb b o hb e) f0 f1 f3 f4 f5⟩
 self := fun _ _ _ _ _ st h => wpAny_pyIter_rangeiter st h
section
variable {X : Cx} {tg : Expr}
def ZID (K : W.Frag) (tl : TE) : TI := fun U H R => tl U H fun x H1 => ∃ a, x = .ref a /\ (∃ xs, SqL K H1 a xs) /\ R (Itl K a) H1
def ZKa (K : W.Frag) (tl : TE) : TI := fun U H R => tl U H fun x H1 => ∃ a, x = .ref a /\ (∃ xs, SqT K H1 a xs) /\ R (Itt K a) H1
theorem ZOi {l : Expr} {tl : TE} (hl : PE X l tl) : PI X tg l (ZID X.K tl) := by
 intro pins s U H R I h
 refine thn (hl pins s U H _ I h) fun v s1 ⟨x, H1, I1, r1, q1⟩ => ?_
 obtain ⟨a, e, ⟨xs, hq⟩, q⟩ := q1
 subst e
 cases r1
 obtain ⟨its, rv, p, hz⟩ := I1.list hq
 refine wpAny_pyIter_list p.isList ?_
 refine ⟨s1.heap.objs.size, [s1.heap.objs.size], _, _, H1, rfl, I1.kept (t' := s1.toks) fun b o e => Ub _ e, ZHX a _, ⟨_, Uk _ rfl, rfl, rfl⟩, fun b hb => ?_, q⟩
 have e : b = s1.heap.objs.size := by simpa using hb
 subst e
 exact I1.fpOk (Uc _) (I1.hok.fresh (Uc _))
theorem ZQK {l : Expr} {tl : TE} (hl : PE X l tl) : PI X tg l (ZKa X.K tl) := by
 intro pins s U H R I h
 refine thn (hl pins s U H _ I h) fun v s1 ⟨x, H1, I1, r1, q1⟩ => ?_
 obtain ⟨a, e, ⟨xs, hq⟩, q⟩ := q1
 subst e
 cases r1
 obtain ⟨its, rv, p, hz⟩ := I1.tuple hq
 refine wpAny_pyIter_tuple (show s1.heap.IsTuple a its.toArray from p) ?_
 refine ⟨s1.heap.objs.size, [s1.heap.objs.size], _, _, H1, rfl, I1.kept (t' := s1.toks) fun b o e => Ub _ e, ZGd a _, ⟨_, Uk _ rfl, rfl, rfl⟩, fun b hb => ?_, q⟩
 have e : b = s1.heap.objs.size := by simpa using hb
 subst e
 exact I1.fpOk (Uc _) (I1.hok.fresh (Uc _))
theorem ZIO {pins : List (Addr × Obj)} {U : St} {H : Hp} {s : Shared} {R : It -> Hp -> Prop} {E : Value -> Shared -> Prop} {lo hi : Int} {t u v : Tok} {tk : Nat} (I : Inv X pins U H s) (h1 : -(2 ^ 62) <= lo) (h2 : lo < 2 ^ 62) (h3 : -(2 ^ 62) <= hi) (h4 : hi < 2 ^ 62)
  (q : R (Itr lo (hi - lo).toNat) H) : wpAny (model X.prog X.w) X.A (pyIter (.ref s.heap.objs.size)) (PIE X pins U tg R) E { s with heap := s.heap.push { cls := .type "range", data := .fields #[.int lo t, .int hi u, .int 1 v] }, toks := tk } := by
 refine wpAny_pyIter_range (IsRange.new ..) (small_one h1 h2 h3 h4) ?_
 have I1 : Inv X pins U H { s with heap := s.heap.push { cls := .type "range", data := .fields #[.int lo t, .int hi u, .int 1 v] }, toks := tk } := I.kept fun b o e => Ub _ e
 refine ⟨(s.heap.push { cls := .type "range", data := .fields #[.int lo t, .int hi u, .int 1 v] }).objs.size, [(s.heap.push { cls := .type "range", data := .fields #[.int lo t, .int hi u, .int 1 v] }).objs.size], _, _, H, rfl,
  I1.kept (t' := tk) fun b o e => Ub _ e, ZKZ _ lo (hi - lo).toNat, ?_, fun b hb => ?_, q⟩
 ·have e1 : lo + ((0 : Nat) : Int) * 1 = lo := by simp
  have e2 : (((hi - lo).toNat : Nat) : Int) - ((0 : Nat) : Int) = Builtin.Range.rangeSize lo hi 1 := by rw [rangeSize_one]; split <;> omega
  show IsRangeIter _ _ (lo + ((0 : Nat) : Int) * 1) ((((hi - lo).toNat : Nat) : Int) - ((0 : Nat) : Int)) 1
  rw [e1, e2]
  exact Uk _ rfl
 ·have e : b = (s.heap.push { cls := .type "range", data := .fields #[.int lo t, .int hi u, .int 1 v] }).objs.size := by simpa using hb
  subst e
  exact I1.fpOk (Uc _) (I1.hok.fresh (Uc _))
def ZKb (ta : TA) : TI := fun U H R => ta U H fun vs H1 => ∃ j : Int, vs = [.int j] /\ -(2 ^ 62) <= j /\ j < 2 ^ 62 /\ R (Itr 0 j.toNat) H1
def ZKc (ta : TA) : TI := fun U H R => ta U H fun vs H1 => ∃ i j : Int, vs = [.int i, .int j] /\ (-(2 ^ 62) <= i /\ i < 2 ^ 62 /\ -(2 ^ 62) <= j /\ j < 2 ^ 62) /\ R (Itr i (j - i).toNat) H1
theorem ZLL {a : Expr} {ta : TA} {p pos : Pos} (hg : Gl X "range") (hm : X.mg "range" = none) (ha : PA X [a] ta) (hs : starEach [a] X.env = [(false, eval a X.env)] := by rfl) : PI X tg (.Call (.Name "range" p) [a] [] pos) (ZKb ta) := by
 intro pins s U H R I h
 refine Call_ (ZDs I hg hm boot_range (PyProof.Rows.callWith_type1 (thn (ha pos pins s U H _ I h) fun us s1 ⟨vs, H1, I1, r1, q1⟩ => ?_) hs rfl))
 obtain ⟨j, e, q1, q2, q⟩ := q1
 subst e
 cases r1 with
 | cons r rr =>
  cases rr
  obtain ⟨t, rfl⟩ := r
  exact call_range_1 (ZIO I1 (by omega) (by omega) q1 q2 (by simpa using q))
theorem ZLM {a b : Expr} {ta : TA} {p pos : Pos} (hg : Gl X "range") (hm : X.mg "range" = none) (ha : PA X [a, b] ta) (hs : starEach [a, b] X.env = [(false, eval a X.env), (false, eval b X.env)] := by rfl) (hs2 : starEach [b] X.env = [(false, eval b X.env)] := by rfl) :
  PI X tg (.Call (.Name "range" p) [a, b] [] pos) (ZKc ta) := by
 intro pins s U H R I h
 refine Call_ (ZDs I hg hm boot_range (PyProof.Rows.callWith_type1 (thn (ha pos pins s U H _ I h) fun us s1 ⟨vs, H1, I1, r1, q1⟩ => ?_) (by rw [hs, hs2]) (by rw [hs2]; rfl)))
 obtain ⟨i, j, e, ⟨q1, q2, q3, q4⟩, q⟩ := q1
 subst e
 cases r1 with
 | cons r rr =>
  cases rr with
  | cons r' rr =>
   cases rr
   obtain ⟨t, rfl⟩ := r
   obtain ⟨t', rfl⟩ := r'
   exact call_range_2 (ZIO I1 q1 q2 q3 q4 q)
def ZMn (wi : TI) (g : TG) (tb : TS) : TS := fun D U H => wi U H fun J H1 => ∃ W : Nat -> Nat -> St -> Hp -> Prop, (∃ m, W 0 m U H1) /\ ∀ i m U H, W i m U H ->
 (J.stop i H /\ D.nx U H) \/ (J.go i H /\ ∃ N : St -> Hp -> Prop, (∀ U' H', N U' H' -> ∃ m', m' < m /\ W (i + 1) m' U' H') /\ ∀ x H', J.yld i H x H' -> g x U H' fun U2 H2 => tb { D with nx := N, ct := N, bk := D.nx } U2 H2)
def ZFR (fp : List Addr) (h : Heap) : List (Addr × Obj) := fp.filterMap fun b => (h.get? b).map fun o => (b, o)
theorem ZD2 {fp : List Addr} {h : Heap} {b : Addr} {o : Obj} (hb : b ∈ fp) (e : h.get? b = some o) : (b, o) ∈ ZFR fp h := List.mem_filterMap.mpr ⟨b, hb, by rw [e]; rfl⟩
theorem ZLN {fp : List Addr} {h : Heap} {p : Addr × Obj} (hp : p ∈ ZFR fp h) : p.1 ∈ fp /\ h.get? p.1 = some p.2 := by
 obtain ⟨b, hb, e⟩ := List.mem_filterMap.mp hp
 cases q : h.get? b with
 | none => rw [q] at e; cases e
 | some o =>
  rw [q] at e
  have e' : (b, o) = p := Option.some.inj e
  subst e'
  exact ⟨hb, q⟩
theorem Inv.pinned {pins : List (Addr × Obj)} {U : St} {H : Hp} {s : Shared} {fp : List Addr} (I : Inv X pins U H s) (hf : ∀ b ∈ fp, ZDM X pins H b) (ho : ∀ b ∈ fp, ∃ o, s.heap.get? b = some o /\ ∀ v, o.data ≠ .cell v) : Inv X (pins ++ ZFR fp s.heap) U H s :=
 I.pins_of fun p hp => (UR.mp hp).elim (fun z => I.pin p (Ul _ z)) fun z => by
  obtain ⟨hb, e⟩ := ZLN z
  obtain ⟨f0, f1, f2, _⟩ := hf p.1 hb
  obtain ⟨o, e', d⟩ := ho p.1 hb
  rw [e] at e'; cases e'
  exact ⟨e, f0, f1, f2, d⟩
theorem Inv.unpinned {pins pl : List (Addr × Obj)} {U : St} {H : Hp} {s : Shared} (I : Inv X (pins ++ pl) U H s) : Inv X pins U H s := I.pins_of fun p hp => I.pin p (Ul _ (UX _ hp))
theorem ZQL {iter : Expr} {body : List Stmt} {wi : TI} {g : TG} {tb : TS} {pos : Pos} (hp : PassesOwn (model X.prog X.w) X.A X.env X.xe) (hc : X.calm = true) (hi : PI X tg iter wi) (hg : PG X tg g) (hb : PSs X body tb)
  (hs : ∀ x, foldedSetIterable iter X.env x = pure x := by intro _; rfl) : PS X (.For tg iter body [] pos) (ZMn wi g tb) := by
 intro pins s U H D I h
 refine wpAny_For (thn (hi pins s U H _ I h) fun v s1 h1 => thn h1 fun itv s2 h2 => ?_) hs
 obtain ⟨it, fp, tn, J, H2, e, I2, T, st2, f2, W, ⟨m0, w0⟩, turn⟩ := h2
 subst e
 -- what stays true of the iterator's objects through the loop
 have stat : ∀ {H' : Hp}, (∀ b ∈ fp, H' b = none) -> ∀ b ∈ fp, ZDM X pins H' b := fun hn b hb => ⟨hn b hb, (f2 b hb).2⟩
 refine codeAny_forLoop_any (fun n s' => ∃ i U' H', Inv X pins U' H' s' /\ tn i s'.heap /\ (∀ b ∈ fp, H' b = none) /\ W i n U' H') ?_ m0 ⟨0, U, H2, I2, st2, fun b hb => (f2 b hb).1, w0⟩
 rintro n s3 ⟨i, U3, H3, I3, st3, fr3, w3⟩
 rcases turn i n U3 H3 w3 with ⟨stop, qn⟩ | ⟨go, N, hN, step⟩
 ·refine wpAny_passesOwn hp (thn (T.done X rfl rfl rfl hc i pins s3 U3 H3 X.xe I3 (stat fr3) st3 stop) fun r s4 ⟨hr, I4⟩ => ?_)
  subst hr
  exact wpAny_execs_nil ⟨U3, H3, I4, qn⟩
 ·refine wpAny_passesOwn hp (thn (T.item X rfl rfl rfl hc i pins s3 U3 H3 X.xe I3 (stat fr3) st3 go) fun r s4 ⟨u, hr, h4⟩ => ?_)
  subst hr
  refine wpAny_passesOwn hp (thn h4 fun _ s5 ⟨x, H5, I5, r5, y5, st5, fr5⟩ => ?_)
  have I5' := I5.pinned (stat fr5) (T.obj _ _ st5)
  refine wpAny_passesOwn hp (thn (hg _ s5 U3 H5 x u _ I5' r5 (step x H5 y5)) fun _ s6 ⟨U6, H6, I6, q6⟩ => ?_)
  refine wpAny_passesOwn hp (thn (hb _ s6 U6 H6 _ I6 q6) fun f s7 q7 => ?_)
  have again : ∀ {U7 : St} {H7 : Hp}, Inv X (pins ++ ZFR fp s5.heap) U7 H7 s7 -> N U7 H7 -> ∃ m, m < n /\ ∃ i U' H', Inv X pins U' H' s7 /\ tn i s7.heap /\ (∀ b ∈ fp, H' b = none) /\ W i m U' H' := fun {U7 H7} I7 n7 => by
   obtain ⟨m', hm, w7⟩ := hN U7 H7 n7
   refine ⟨m', hm, i + 1, U7, H7, I7.unpinned, T.keep _ _ _ st5 fun b hb o e => (I7.pin (b, o) (Ul _ (Ul _ (ZD2 hb e)))).1, fun b hb => ?_, w7⟩
   obtain ⟨o, e, d⟩ := T.obj _ _ st5 b hb
   exact (I7.pin (b, o) (Ul _ (Ul _ (ZD2 hb e)))).2.1
  cases f with
  | next => obtain ⟨U7, H7, I7, n7⟩ := q7; exact again I7 n7
  | cont => obtain ⟨U7, H7, I7, n7⟩ := q7; exact again I7 n7
  | brk => obtain ⟨U7, H7, I7, q7⟩ := q7; exact ⟨U7, H7, I7.unpinned, q7⟩
  | ret v => obtain ⟨x7, U7, H7, I7, r7, q7⟩ := q7; exact ⟨x7, U7, H7, I7.unpinned, r7, q7⟩
end
theorem ZMo {K : W.Frag} {a : Addr} {xs : List V} {g : TG} {tb : TS} {D : ZCg} {U : St} {H : Hp} (Pv : Nat -> St -> Hp -> Prop) (h0 : Pv 0 U H) (hl : ∀ i U H, i <= xs.length -> Pv i U H -> SqL K H a xs)
  (hs : ∀ i x U H, xs[i]? = some x -> Pv i U H -> g x U H fun U2 H2 => tb { D with nx := Pv (i + 1), ct := Pv (i + 1), bk := D.nx } U2 H2) (hd : ∀ U H, Pv xs.length U H -> D.nx U H) :
  ∃ W : Nat -> Nat -> St -> Hp -> Prop, (∃ m, W 0 m U H) /\ ∀ i m U H, W i m U H ->
   ((Itl K a).stop i H /\ D.nx U H) \/ ((Itl K a).go i H /\ ∃ N : St -> Hp -> Prop, (∀ U' H', N U' H' -> ∃ m', m' < m /\ W (i + 1) m' U' H') /\ ∀ x H', (Itl K a).yld i H x H' -> g x U H' fun U2 H2 => tb { D with nx := N, ct := N, bk := D.nx } U2 H2) := by
 refine ⟨fun i m U H => m = xs.length - i /\ i <= xs.length /\ Pv i U H, ⟨xs.length, by simp, UJ _, h0⟩, ?_⟩
 rintro i m U H ⟨rfl, hi, p⟩
 have q := hl i U H hi p
 by_cases hlt : i < xs.length
 ·refine .inr ⟨⟨xs, xs[i], q, by simp [hlt]⟩, Pv (i + 1), fun U' H' p' => ⟨xs.length - (i + 1), by omega, rfl, hlt, p'⟩, fun x H' y => ?_⟩
  obtain ⟨e, y⟩ := y
  subst e
  exact hs i x U _ (y xs q) p
 ·have e : i = xs.length := by omega
  subst e
  exact .inl ⟨⟨xs, q, Uc _⟩, hd U H p⟩
theorem ZOj {K : W.Frag} {a : Addr} {xs : List V} {g : TG} {tb : TS} {D : ZCg} {U : St} {H : Hp} (Pv : Nat -> St -> Hp -> Prop) (h0 : Pv 0 U H) (hl : ∀ i U H, i <= xs.length -> Pv i U H -> SqT K H a xs)
  (hs : ∀ i x U H, xs[i]? = some x -> Pv i U H -> g x U H fun U2 H2 => tb { D with nx := Pv (i + 1), ct := Pv (i + 1), bk := D.nx } U2 H2) (hd : ∀ U H, Pv xs.length U H -> D.nx U H) :
  ∃ W : Nat -> Nat -> St -> Hp -> Prop, (∃ m, W 0 m U H) /\ ∀ i m U H, W i m U H ->
   ((Itt K a).stop i H /\ D.nx U H) \/ ((Itt K a).go i H /\ ∃ N : St -> Hp -> Prop, (∀ U' H', N U' H' -> ∃ m', m' < m /\ W (i + 1) m' U' H') /\ ∀ x H', (Itt K a).yld i H x H' -> g x U H' fun U2 H2 => tb { D with nx := N, ct := N, bk := D.nx } U2 H2) := by
 refine ⟨fun i m U H => m = xs.length - i /\ i <= xs.length /\ Pv i U H, ⟨xs.length, by simp, UJ _, h0⟩, ?_⟩
 rintro i m U H ⟨rfl, hi, p⟩
 have q := hl i U H hi p
 by_cases hlt : i < xs.length
 ·refine .inr ⟨⟨xs, xs[i], q, by simp [hlt]⟩, Pv (i + 1), fun U' H' p' => ⟨xs.length - (i + 1), by omega, rfl, hlt, p'⟩, fun x H' y => ?_⟩
  obtain ⟨e, y⟩ := y
  subst e
  exact hs i x U _ (y xs q) p
 ·have e : i = xs.length := by omega
  subst e
  exact .inl ⟨⟨xs, q, Uc _⟩, hd U H p⟩
theorem ZLO {lo : Int} {n : Nat} {g : TG} {tb : TS} {D : ZCg} {U : St} {H : Hp} (Pv : Nat -> St -> Hp -> Prop) (h0 : Pv 0 U H)
  (hs : ∀ i U H, i < n -> Pv i U H -> g (.int (lo + i)) U H fun U2 H2 => tb { D with nx := Pv (i + 1), ct := Pv (i + 1), bk := D.nx } U2 H2) (hd : ∀ U H, Pv n U H -> D.nx U H) :
  ∃ W : Nat -> Nat -> St -> Hp -> Prop, (∃ m, W 0 m U H) /\ ∀ i m U H, W i m U H ->
   ((Itr lo n).stop i H /\ D.nx U H) \/ ((Itr lo n).go i H /\ ∃ N : St -> Hp -> Prop, (∀ U' H', N U' H' -> ∃ m', m' < m /\ W (i + 1) m' U' H') /\ ∀ x H', (Itr lo n).yld i H x H' -> g x U H' fun U2 H2 => tb { D with nx := N, ct := N, bk := D.nx } U2 H2) := by
 refine ⟨fun i m U H => m = n - i /\ i <= n /\ Pv i U H, ⟨n, by simp, UJ _, h0⟩, ?_⟩
 rintro i m U H ⟨rfl, hi, p⟩
 by_cases hlt : i < n
 ·refine .inr ⟨hlt, Pv (i + 1), fun U' H' p' => ⟨n - (i + 1), by omega, rfl, hlt, p'⟩, fun x H' y => ?_⟩
  obtain ⟨e, y⟩ := y
  subst e y
  exact hs i U _ hlt p
 ·have e : i = n := by omega
  subst e
  exact .inl ⟨Uc _, hd U H p⟩
abbrev R2 := V -> V -> Hp -> VK -> Prop
def OpR (X : Cx) (f : Value -> Value -> Sem Value) (r : R2) : Prop :=
 ∀ (pins : List (Addr × Obj)) (s : Shared) (U : St) (H : Hp) (x y : V) (v u : Value) (Q : VK), Inv X pins U H s -> ZB3 x v -> ZB3 y u -> r x y H Q ->
  wpAny (model X.prog X.w) X.A (f v u) (EP X pins U Q) X.xe s
def UnR (X : Cx) (f : Value -> Sem Value) (r : V -> Hp -> VK -> Prop) : Prop :=
 ∀ (pins : List (Addr × Obj)) (s : Shared) (U : St) (H : Hp) (x : V) (v : Value) (Q : VK), Inv X pins U H s -> ZB3 x v -> r x H Q ->
  wpAny (model X.prog X.w) X.A (f v) (EP X pins U Q) X.xe s
def ZCe (X : Cx) (f : Value) (r : List V -> Hp -> VK -> Prop) : Prop :=
 ∀ (pins : List (Addr × Obj)) (s : Shared) (U : St) (H : Hp) (xs : List V) (us : List Value) (Q : VK), Inv X pins U H s -> ZB6 xs us -> r xs H Q ->
  wpAny (model X.prog X.w) X.A (call f us) (EP X pins U Q) X.xe s
def tOp (r : R2) (ta tb : TE) : TE := fun U H Q => ta U H fun x H1 => tb U H1 fun y H2 => r x y H2 Q
def tUn (r : V -> Hp -> VK -> Prop) (ta : TE) : TE := fun U H Q => ta U H fun x H1 => r x H1 Q
def rI (C : Int -> Int -> Prop) (g : Int -> Int -> V) : R2 := fun x y H Q => ∃ i j, x = .int i /\ y = .int j /\ C i j /\ Q (g i j) H
def rI0 (g : Int -> Int -> V) : R2 := fun x y H Q => ∃ i j, x = .int i /\ y = .int j /\ Q (g i j) H
def rU (g : Int -> V) : V -> Hp -> VK -> Prop := fun x H Q => ∃ i, x = .int i /\ Q (g i) H
section
variable {X : Cx} {a b c : Expr} {ta tb tc : TE} {pos : Pos}
theorem ZMp (ha : PE X a ta) (hb : PE X b tb) {pins : List (Addr × Obj)} {s : Shared} {U : St} {H : Hp} {R : V -> V -> Hp -> Prop} (I : Inv X pins U H s)
  (h : ta U H fun x H1 => tb U H1 fun y H2 => R x y H2) {Q : Value -> Shared -> Prop} {f : Value -> Value -> Sem Value}
  (hf : ∀ v u s2 x y H2, Inv X pins U H2 s2 -> ZB3 x v -> ZB3 y u -> R x y H2 -> wpAny (model X.prog X.w) X.A (f v u) Q X.xe s2) :
  wpAny (model X.prog X.w) X.A (eval a X.env) (fun v s₁ => wpAny (model X.prog X.w) X.A (eval b X.env) (fun u s₂ => wpAny (model X.prog X.w) X.A (f v u) Q X.xe s₂) X.xe s₁) X.xe s := by
 refine thn (ha pins s U H _ I h) fun v s1 ⟨x, H1, I1, r1, q1⟩ => ?_
 refine thn (hb pins s1 U H1 _ I1 q1) fun u s2 ⟨y, H2, I2, r2, q2⟩ => ?_
 exact hf v u s2 x y H2 I2 r1 r2 q2
theorem ZRS {op : Operator} {r : R2} (ho : OpR X (binaryOp op) r) (ha : PE X a ta) (hb : PE X b tb) : PE X (.BinOp a op b pos) (tOp r ta tb) := by
 intro pins s U H Q I h
 exact wpAny_BinOp (ZMp ha hb I h fun v u s2 x y H2 I2 rx ry q => ho pins s2 U H2 x y v u Q I2 rx ry q)
theorem ZRT {op : UnaryOp} {r : V -> Hp -> VK -> Prop} (ho : UnR X (unaryOp op) r) (ha : PE X a ta) : PE X (.UnaryOp op a pos) (tUn r ta) := by
 intro pins s U H Q I h
 exact UnaryOp_ (thn (ha pins s U H _ I h) fun v s1 ⟨x, H1, I1, r1, q1⟩ => ho pins s1 U H1 x v Q I1 r1 q1)
theorem opI {f : Value -> Value -> Sem Value} {C : Int -> Int -> Prop} {g : Int -> Int -> Int}
  (rule : ∀ (i j : Int) (t u : Tok) (s : Shared) (Q : Value -> Shared -> Prop) (E : Value -> Shared -> Prop), C i j -> Q (.int (g i j) s.toks) { s with toks := s.toks + 1 } -> wpAny (model X.prog X.w) X.A (f (.int i t) (.int j u)) Q E s) :
  OpR X f (rI C fun i j => .int (g i j)) := by
 intro pins s U H x y v u Q I rx ry h
 obtain ⟨i, j, rfl, rfl, hc, q⟩ := h
 obtain ⟨t, rfl⟩ := rx
 obtain ⟨t', rfl⟩ := ry
 exact rule i j t t' s _ _ hc ⟨.int (g i j), H, I.tok _, ⟨_, rfl⟩, q⟩
theorem ZQM {f : Value -> Value -> Sem Value} {g : Int -> Int -> Int}
  (rule : ∀ (i j : Int) (t u : Tok) (s : Shared) (Q : Value -> Shared -> Prop) (E : Value -> Shared -> Prop), Q (.int (g i j) s.toks) { s with toks := s.toks + 1 } -> wpAny (model X.prog X.w) X.A (f (.int i t) (.int j u)) Q E s) :
  OpR X f (rI0 fun i j => .int (g i j)) := by
 intro pins s U H x y v u Q I rx ry h
 obtain ⟨i, j, rfl, rfl, q⟩ := h
 obtain ⟨t, rfl⟩ := rx
 obtain ⟨t', rfl⟩ := ry
 exact rule i j t t' s _ _ ⟨.int (g i j), H, I.tok _, ⟨_, rfl⟩, q⟩
theorem ZKd {f : Value -> Value -> Sem Value} {g : Int -> Int -> Bool}
  (rule : ∀ (i j : Int) (t u : Tok) (s : Shared) (Q : Value -> Shared -> Prop) (E : Value -> Shared -> Prop), Q (.bool (g i j)) s -> wpAny (model X.prog X.w) X.A (f (.int i t) (.int j u)) Q E s) :
  OpR X f (rI0 fun i j => .bl (g i j)) := by
 intro pins s U H x y v u Q I rx ry h
 obtain ⟨i, j, rfl, rfl, q⟩ := h
 obtain ⟨t, rfl⟩ := rx
 obtain ⟨t', rfl⟩ := ry
 exact rule i j t t' s _ _ ⟨.bl (g i j), H, I, rfl, q⟩
def ZMq (i j : Int) : Prop := 0 <= j /\ j <= 1000000 /\ i.natAbs < 2 ^ 64
theorem ZEe : OpR X (binaryOp .Add) (rI0 fun i j => .int (i + j)) := ZQM fun _ _ _ _ _ _ _ q => add_int q
theorem ZFS : OpR X (binaryOp .Sub) (rI0 fun i j => .int (i - j)) := ZQM fun _ _ _ _ _ _ _ q => sub_int q
theorem ZFT : OpR X (binaryOp .Mod) (rI (fun _ j => 0 < j) fun i j => .int (i % j)) := opI fun i j _ _ _ _ _ hc q => by
 have h1 : (0 : Int) < j := hc
 exact mod_int' (by omega) (by rw [Int.fmod_eq_emod_of_nonneg i (by omega)]; exact q)
theorem ZEf : OpR X (binaryOp .Pow) (rI ZMq fun i j => .int (i ^ j.toNat)) := opI fun _ _ _ _ _ _ _ hc q => pow_int_small hc.1 hc.2.1 hc.2.2 q
theorem unI {f : Value -> Sem Value} {g : Int -> Int}
  (rule : ∀ (i : Int) (t : Tok) (s : Shared) (Q : Value -> Shared -> Prop) (E : Value -> Shared -> Prop), Q (.int (g i) s.toks) { s with toks := s.toks + 1 } -> wpAny (model X.prog X.w) X.A (f (.int i t)) Q E s) :
  UnR X f (rU fun i => .int (g i)) := by
 intro pins s U H x v Q I rx h
 obtain ⟨i, rfl, q⟩ := h
 obtain ⟨t, rfl⟩ := rx
 exact rule i t s _ _ ⟨.int (g i), H, I.tok _, ⟨_, rfl⟩, q⟩
theorem ZLP : UnR X (unaryOp .USub) (rU fun i => .int (-i)) := unI fun _ _ _ _ _ q => neg_int q
end
def ZRn : V -> V -> Bool
 | .non, .non => true | .non, .int _ => true | .int _, .non => true | .non, .bl _ => true | .bl _, .non => true | .non, .str _ => true | .str _, .non => true
 | .int _, .int _ => true | .bl _, .bl _ => true | .str _, .str _ => true | .byt _, .byt _ => true
 | .int _, .str _ => true | .str _, .int _ => true | .bl _, .str _ => true | .str _, .bl _ => true
 | _, _ => false
def rEq : R2 := fun x y H Q => ZRn x y = true /\ Q (.bl (decide (x = y))) H
theorem ZOk {i j : Int} : decide (V.int i = V.int j) = (i == j) := by
 rw [Bool.eq_iff_iff]
 simp
theorem ZQN {i j : Bool} : decide (V.bl i = V.bl j) = (i == j) := by
 rw [Bool.eq_iff_iff]
 simp
theorem ZOl {i j : Str} : decide (V.str i = V.str j) = (i == j) := by
 rw [Bool.eq_iff_iff]
 simp
theorem ZOm {i j : Array UInt8} : decide (V.byt i = V.byt j) = (i.toList == j.toList) := by
 rw [Bool.eq_iff_iff]
 cases i
 cases j
 simp
section
variable {X : Cx} {a b c : Expr} {ta tb tc : TE} {pos : Pos}
theorem ZCn {pins : List (Addr × Obj)} {U : St} {H : Hp} {s : Shared} {Q : VK} {k k' : Bool} (I : Inv X pins U H s) (q : Q (.bl k) H) (e : k = k') : EP X pins U Q (.bool k') s := by
 subst e
 exact ⟨.bl k, H, I, rfl, q⟩
theorem ZEN : OpR X (compareOp .Eq) rEq := by
 intro pins s U H x y v u Q I rx ry h
 obtain ⟨hs, q⟩ := h
 cases x with
 | non =>
  cases rx
  cases y with
  | non => cases ry; exact PySem.EqNone.eq_none_none (ZCn I q (by simp))
  | bl j => cases ry; exact PySem.EqNone.eq_none_bool (ZCn I q (by simp))
  | int j => obtain ⟨t', rfl⟩ := ry; exact PySem.EqNone.eq_none_int (ZCn I q (by simp))
  | str j => obtain ⟨t', rfl⟩ := ry; exact PySem.EqNone.eq_none_str (ZCn I q (by simp))
  | _ => exact absurd (show false = true from hs) UE
 | bl i =>
  cases rx
  cases y with
  | non => cases ry; exact PySem.EqNone.eq_bool_none (ZCn I q (by simp))
  | bl j => cases ry; exact eq_bool (ZCn I q ZQN)
  | str j => obtain ⟨t', rfl⟩ := ry; exact PySem.EqMixed.eq_bool_str (ZCn I q (by simp))
  | _ => exact absurd (show false = true from hs) UE
 | int i =>
  obtain ⟨t, rfl⟩ := rx
  cases y with
  | non => cases ry; exact PySem.EqNone.eq_int_none (ZCn I q (by simp))
  | int j => obtain ⟨t', rfl⟩ := ry; exact eq_int (ZCn I q ZOk)
  | str j => obtain ⟨t', rfl⟩ := ry; exact PySem.EqMixed.eq_int_str (ZCn I q (by simp))
  | _ => exact absurd (show false = true from hs) UE
 | str i =>
  obtain ⟨t, rfl⟩ := rx
  cases y with
  | non => cases ry; exact PySem.EqNone.eq_str_none (ZCn I q (by simp))
  | bl j => cases ry; exact PySem.EqMixed.eq_str_bool (ZCn I q (by simp))
  | int j => obtain ⟨t', rfl⟩ := ry; exact PySem.EqMixed.eq_str_int (ZCn I q (by simp))
  | str j => obtain ⟨t', rfl⟩ := ry; exact eq_str (ZCn I q ZOl)
  | _ => exact absurd (show false = true from hs) UE
 | byt i =>
  obtain ⟨t, rfl⟩ := rx
  cases y with
  | byt j => obtain ⟨t', rfl⟩ := ry; exact PySem.W.eq_bytes (ZCn I q ZOm)
  | _ => exact absurd (show false = true from hs) UE
 | _ => cases y <;> exact absurd (show false = true from hs) UE
theorem ZKe : OpR X (compareOp .Lt) (rI0 fun i j => .bl (decide (i < j))) := ZKd fun _ _ _ _ _ _ _ q => lt_int q
theorem ZKf : OpR X (compareOp .LtE) (rI0 fun i j => .bl (decide (i <= j))) := ZKd fun _ _ _ _ _ _ _ q => le_int q
theorem ZOG : OpR X (compareOp .Gt) (rI0 fun i j => .bl (decide (j < i))) := ZKd fun _ _ _ _ _ _ _ q => gt_int q
theorem ZOH : OpR X (compareOp .GtE) (rI0 fun i j => .bl (decide (j <= i))) := ZKd fun _ _ _ _ _ _ _ q => ge_int q
theorem ZQO : OpR X (compareOp .Is) (fun x y H Q => y = .non /\ Q (.bl (decide (x = .non))) H) := by
 intro pins s U H x y v u Q I rx ry h
 obtain ⟨rfl, q⟩ := h
 cases ry
 refine is_none_gen (ZCn I q ?_)
 cases x <;> first
  | (cases rx; rfl)
  | (obtain ⟨t, rfl⟩ := rx; rfl)
theorem ZOn : OpR X (compareOp .IsNot) (fun x y H Q => y = .non /\ Q (.bl (!decide (x = .non))) H) := by
 intro pins s U H x y v u Q I rx ry h
 obtain ⟨rfl, q⟩ := h
 cases ry
 refine isnot_none_gen (ZCn I q ?_)
 cases x <;> first
  | (cases rx; rfl)
  | (obtain ⟨t, rfl⟩ := rx; rfl)
theorem ZCH (b : Expr) {op : CmpOp} (h : op ≠ .In := by decide) (h2 : op ≠ .NotIn := by decide) : behindInMarks op b = false := by
 have e1 : (op == CmpOp.In) = false := by cases op <;> first | rfl | exact absurd rfl h
 have e2 : (op == CmpOp.NotIn) = false := by cases op <;> first | rfl | exact absurd rfl h2
 cases b <;> simp [behindInMarks, e1, e2]
theorem ZOo {op : CmpOp} {r : R2} (ho : OpR X (compareOp op) r) (ha : PE X a ta) (hb : PE X b tb) (hm : behindInMarks op b = false) : PE X (.Compare a [op] [b] pos) (tOp r ta tb) := by
 intro pins s U H Q I h
 exact wpAny_Compare1 (ZMp ha hb I h fun v u s2 x y H2 I2 rx ry q => ho pins s2 U H2 x y v u Q I2 rx ry q) hm
def ZKg (t : TE) : TT := fun U H Q => t U H fun x H' => ∃ k, x = .bl k /\ Q k H'
theorem ZOp {op : CmpOp} {r : R2} (ho : OpR X (compareOp op) r) (ha : PE X a ta) (hb : PE X b tb) (hm : behindInMarks op b = false) : PT X (.Compare a [op] [b] pos) (ZKg (tOp r ta tb)) := by
 intro pins s U H Q I h
 refine wpAny_isTrue_Compare1 (thn (ha pins s U H _ I h) fun v s1 ⟨x, H1, I1, r1, q1⟩ => thn (hb pins s1 U H1 _ I1 q1) fun u s2 ⟨y, H2, I2, r2, q2⟩ =>
  thn (ho pins s2 U H2 x y v u _ I2 r1 r2 q2) fun c s3 ⟨z, H3, I3, r3, k, e, q3⟩ => ?_) hm
 subst e
 cases r3
 exact wpAny_truthy_bool ⟨H3, I3, q3⟩
def ZIP (r r' : R2) (ta tb tc : TE) : TE := fun U H Q => ta U H fun x H1 => tb U H1 fun y H2 => r x y H2 fun z H3 => ∃ k, z = .bl k /\
 (if k = true then tc U H3 fun w' H4 => r' y w' H4 Q else Q (.bl false) H3)
theorem ZMr {op op' : CmpOp} {r r' : R2} (ho : OpR X (compareOp op) r) (ho' : OpR X (compareOp op') r') (ha : PE X a ta) (hb : PE X b tb) (hc : PE X c tc)
  (hm : lastMarks [op, op'] [b, c] = false := by with_unfolding_all rfl) : PE X (.Compare a [op, op'] [b, c] pos) (ZIP r r' ta tb tc) := by
 intro pins s U H Q I h
 refine Compare_chain (thn (ha pins s U H _ I h) fun v s1 ⟨x, H1, I1, r1, q1⟩ => chain_link (thn (hb pins s1 U H1 _ I1 q1) fun u s2 ⟨y, H2, I2, r2, q2⟩ =>
  thn (ho pins s2 U H2 x y v u _ I2 r1 r2 q2) fun d s3 ⟨z, H3, I3, r3, k, e, q3⟩ => ?_)) hm
 subst e
 cases r3
 refine wpAny_truthy_bool ?_
 cases k with
 | false => exact ite_ff ⟨.bl false, H3, I3, rfl, q3⟩
 | true => exact ite_tt (chain_last (thn (hc pins s3 U H3 _ I3 q3) fun w' s4 ⟨z', H4, I4, r4, q4⟩ => ho' pins s4 U H4 y z' u w' Q I4 r2 r4 q4))
theorem ZGe : (sizeLine : Nat) < 2 ^ 63 := by rw [sizeLine_eq]; decide
theorem ZGf {x : V} {us : List Value} (r : ZB6 [x] us) : ∃ u, us = [u] /\ ZB3 x u := by
 cases r with
 | cons r1 r2 => cases r2; exact ⟨_, rfl, r1⟩
theorem ZOI {x y : V} {us : List Value} (r : ZB6 [x, y] us) : ∃ u w', us = [u, w'] /\ ZB3 x u /\ ZB3 y w' := by
 cases r with
 | cons r1 r2 =>
  cases r2 with
  | cons r3 r4 => cases r4; exact ⟨_, _, rfl, r1, r3⟩
theorem ZMs : ZCe X (.builtin "abs") (fun xs H Q => ∃ i, xs = [.int i] /\ Q (.int (if i < 0 then -i else i)) H) := by
 intro pins s U H xs us Q I r h
 obtain ⟨i, rfl, q⟩ := h
 obtain ⟨u, rfl, t, rfl⟩ := ZGf r
 exact call_abs_int fun u tk => ⟨.int (if i < 0 then -i else i), H, I.tok _, ⟨_, rfl⟩, q⟩
theorem ZLQ (hc : X.calm = true) : ZCe X (.builtin "max") (fun xs H Q => ∃ i j, xs = [.int i, .int j] /\ Q (.int (if j > i then j else i)) H) := by
 intro pins s U H xs us Q I r h
 obtain ⟨i, j, rfl, q⟩ := h
 obtain ⟨u, w', rfl, ⟨t, rfl⟩, ⟨t', rfl⟩⟩ := ZOI r
 refine max_two_ints (I.ok.hd hc) fun h' tk k => ⟨_, H, I.kept k, ?_, q⟩
 by_cases hj : j > i
 ·rw [if_pos hj, if_pos hj]; exact ⟨_, rfl⟩
 ·rw [if_neg hj, if_neg hj]; exact ⟨_, rfl⟩
theorem ZLR (hc : X.calm = true) : ZCe X (.builtin "min") (fun xs H Q => ∃ i j, xs = [.int i, .int j] /\ Q (.int (if j < i then j else i)) H) := by
 intro pins s U H xs us Q I r h
 obtain ⟨i, j, rfl, q⟩ := h
 obtain ⟨u, w', rfl, ⟨t, rfl⟩, ⟨t', rfl⟩⟩ := ZOI r
 refine min_two_ints (I.ok.hd hc) fun h' tk k => ⟨_, H, I.kept k, ?_, q⟩
 by_cases hj : j < i
 ·rw [if_pos hj, if_pos hj]; exact ⟨_, rfl⟩
 ·rw [if_neg hj, if_neg hj]; exact ⟨_, rfl⟩
theorem ZLS : ZCe X (.type "int") (fun xs H Q => (∃ i, xs = [.int i] /\ Q (.int i) H) \/ ∃ k, xs = [.bl k] /\ Q (.int (if k then 1 else 0)) H) := by
 intro pins s U H xs us Q I r h
 rcases h with ⟨i, rfl, q⟩ | ⟨k, rfl, q⟩
 ·obtain ⟨u, rfl, t, rfl⟩ := ZGf r
  exact call_int_int ⟨.int i, H, I, ⟨_, rfl⟩, q⟩
 ·obtain ⟨u, rfl, r1⟩ := ZGf r
  cases r1
  exact call_int_bool ⟨.int (if k then 1 else 0), H, I.tok _, ⟨_, rfl⟩, q⟩
end
structure ZGJ (h : Heap) (x dx C : Addr) (mA : Str -> Option Value) : Prop where
 obj : h.get? x = some (PySem.W.instObj C dx)
 ns : h.Ns1 dx mA
 ne : dx ≠ x
theorem ZLT {h : Heap} {dx : Addr} {mA : Str -> Option Value} (n : h.Ns1 dx mA) : ∃ od, h.get? dx = some od /\ ∀ name, PySem.W.lookIn name od = some (mA name) := by
 obtain ⟨o, es, ep, ho, hd, hk, _, hm⟩ := n
 refine ⟨o, ho, fun name => ?_⟩
 have e := hm name
 unfold nsFind findBy at e
 rw [<- Array.find?_toList] at e
 unfold PySem.W.lookIn
 rw [hd]
 dsimp only
 split
 ·rename_i y q
  rw [q] at e
  exact congrArg some e
 ·rename_i q
  rw [q] at e
  have a : es.toList.any (·.refKey) = false := by
   rw [List.any_eq_false]
   intro y hy
   obtain ⟨z, t, hkey⟩ := hk y (Array.mem_toList_iff.mp hy)
   simp [DictEntry.refKey, hkey]
  have a' : ¬ es.toList.any (·.refKey) = true := by rw [a]; exact UE
  rw [if_neg a']
  exact congrArg some e
theorem ZGJ.look {h : Heap} {x dx C : Addr} {mA : Str -> Option Value} (I : ZGJ h x dx C mA) : ∃ od, PySem.W.InstAt h x (PySem.W.instObj C dx) C (some od) /\ ∀ name, PySem.W.lookIn name od = some (mA name) :=
 let ⟨od, ho, hl⟩ := ZLT I.ns
 ⟨od, ⟨I.obj, rfl, rfl, ho⟩, hl⟩
section
variable {prog : Program} {w : World} {A : Around} {E : Value -> Shared -> Prop} {s : Shared} {K : W.Frag} {x dx C f : Addr} {mA : Str -> Option Value} {name : Str} {v : Value}
theorem ZOq {expr : Bool} {Q : Value -> Shared -> Prop} (X : K.In s.heap) (I : ZGJ s.heap x dx C mA) (hg : PySem.W.plainGet K C name = true) (hh : PySem.W.hasDictIn K C = true)
  (ha : W.findIn K (.ref C) name = some none) (hv : mA name = some v) (hv' : PySem.W.handedIn v = true) (h : Q v { s with toks := s.toks + 1 }) :
  wpAny (model prog w) A (getAttr (.ref x) name expr) Q E s := by
 obtain ⟨od, J, hl⟩ := I.look
 exact PySem.W.get_value X J (PySem.W.plainGet_of hg).1 (PySem.W.findObj_own hh ha rfl (by rw [hl, hv])) hv' h
theorem ZMt {pl : Sem Bool} {Q : Value × List Value -> Shared -> Prop} (X : K.In s.heap) (I : ZGJ s.heap x dx C mA) (hg : PySem.W.plainGet K C name = true)
  (hf : W.findIn K (.ref C) name = some (some (.ref f))) (ht : PySem.W.isFn K (.ref f) = true) (hv : mA name = none) (h : Q (.ref f, [.ref x]) s) :
  wpAny (model prog w) A (getMethod (.ref x) name pl) Q E s := by
 obtain ⟨od, J, hl⟩ := I.look
 exact PySem.W.method_fn X J (PySem.W.plainGet_of hg).1 (PySem.W.plainGet_of hg).2 hf (beq_iff_eq.mp ht) (by show (PySem.W.lookIn name od).map (·.isSome) = some false; rw [hl, hv]; rfl) h
theorem ZOr {ns : List Str} {Q : Unit -> Shared -> Prop} (X : K.In s.heap) (I : ZGJ s.heap x dx C mA)
  (hs : W.findIn K (.ref C) "__setattr__" = some (some (.builtin "object.__setattr__"))) (hp : PySem.W.plainOver K C = true) (ht : PySem.W.takerIn K C name = some none) (hh : PySem.W.hasDictIn K C = true)
  (hw : PySem.Within mA ns) (hsz : ns.length <= sizeLine)
  (h : ∀ h', ZGJ h' x dx C (fun y => if y = name then some v else mA y) -> Heap.SameBut dx s.heap h' -> Q () { s with heap := h', toks := s.toks + 2 }) :
  wpAny (model prog w) A (setAttr (.ref x) name v) Q E s := by
 obtain ⟨od, J, hl⟩ := I.look
 refine PySem.W.set_plain X J hs (PySem.W.osa_open (s := { s with toks := s.toks + 1 }) (r := none) X J hp ht fun b => ?_)
 obtain ⟨cd, hc, hd'⟩ := PySem.W.any_some hh
 have hx : s.heap.get? x = some ⟨.ref C, some dx, .plain, #[]⟩ := I.obj
 refine Ua (Uh (Ua (Ua (wpAny_loadPart hx (Ua (PySem.W.Looks.here (s := { s with toks := s.toks + 1 }) (PySem.W.looks_clsIn X hc) ?_))))))
 rw [hd']
 refine Uh (a := some dx) (Ua (Uh (Ua ?_)))
 refine wpAny_nsSet1 (s := { s with toks := s.toks + 1 }) I.ns fun h' hn2 hs2 => ?_
 obtain ⟨oD, esD, epD, hoD, hdD, hcD⟩ := hn2.count (PySem.Within.cons name v hw)
 refine Ua (wpAny_lookBehind hoD (by rw [hdD]; exact pastItsLine_dict (UF hcD (by rw [UB]; omega))) ?_)
 exact Uh (h _ ⟨(hs2.2 _ (Ne.symm I.ne)).trans I.obj, hn2, I.ne⟩ hs2)
theorem ZMu {R : Result -> Shared -> Prop} {vs : List Value} {kw : List (Str × Value)} (X : K.In s.heap) (hm : PySem.W.makesIn K C = true)
  (hi : W.findIn K (.ref C) "__init__" = some (some (.ref f))) (hf : PySem.W.typeIn K (.ref f) = some (.type "function"))
  (h : codeAny (model prog w) (A.under (.builtin "type.__call__" ⟨.ref C :: vs, kw⟩)) (.call (.ref f) ⟨.ref (s.heap.objs.size + 1) :: vs, kw⟩) (PySem.W.InitBack (s.heap.objs.size + 1) R)
   { s with heap := (s.heap.push PySem.W.emptyDict).push (PySem.W.instObj C s.heap.objs.size) }) :
  codeAny (model prog w) A (.call (.ref C) ⟨vs, kw⟩) R s := by
 obtain ⟨hh, g, d, t, os⟩ := s
 exact PySem.W.make_core (PySem.W.makes_of X hm) (PySem.W.looks_findIn X hi) (fun self => PySem.W.bind_fn X self hf) (.inl rfl) h
end
def ZCM (f : Str) (v : V) : List (Str × V) -> List (Str × V)
 | [] => [(f, v)]
 | (g, x) :: r => if g = f then (g, v) :: r else (g, x) :: ZCM f v r
theorem ZF7 (f g : Str) (v : V) : ∀ fs : List (Str × V), (ZCM f v fs).lookup g = if g = f then some v else fs.lookup g
 | [] => by
  show UL g [(f, v)] = _
  by_cases h : g = f
  ·have hb : (g == f) = true := beq_iff_eq.mpr h
   simp only [UL, hb, if_pos h]
  ·have hb : (g == f) = false := beq_eq_false_iff_ne.mpr h
   simp only [UL, hb, if_neg h]
 | (k, x) :: r => by
  have ih := ZF7 f g v r
  rw [show ZCM f v ((k, x) :: r) = (if k = f then (k, v) :: r else (k, x) :: ZCM f v r) from rfl]
  by_cases hk : k = f
  ·rw [if_pos hk]
   by_cases h : g = k
   ·have hb : (g == k) = true := beq_iff_eq.mpr h
    simp only [UL, hb, if_pos (h.trans hk)]
   ·have hb : (g == k) = false := beq_eq_false_iff_ne.mpr h
    simp only [UL, hb, if_neg (fun e : g = f => h (e.trans hk.symm))]
  ·rw [if_neg hk]
   by_cases h : g = k
   ·have hb : (g == k) = true := beq_iff_eq.mpr h
    simp only [UL, hb, if_neg (fun e : g = f => hk (h.symm.trans e))]
   ·have hb : (g == k) = false := beq_eq_false_iff_ne.mpr h
    simp only [UL, hb]
    exact ih
theorem ZFU (f : Str) (v : V) : ∀ fs : List (Str × V), f ∈ (ZCM f v fs).map (·.1) /\ ∀ g, g ∈ fs.map (·.1) -> g ∈ (ZCM f v fs).map (·.1)
 | [] => ⟨by simp [ZCM], fun g h => by simp at h⟩
 | (k, x) :: r => by
  obtain ⟨i1, i2⟩ := ZFU f v r
  rw [show ZCM f v ((k, x) :: r) = (if k = f then (k, v) :: r else (k, x) :: ZCM f v r) from rfl]
  by_cases hk : k = f
  ·rw [if_pos hk]
   subst hk
   exact ⟨by simp, fun g h => by simpa using h⟩
  ·rw [if_neg hk]
   refine ⟨?_, fun g h => ?_⟩
   ·rw [Uw]
    exact Uu _ i1
   ·rw [Uw] at h ⊢
    rcases Uj.mp h with e | e
    ·exact Uj.mpr (.inl e)
    ·exact Uu _ (i2 g e)
theorem ZF8 (f : Str) (v : V) : ∀ fs : List (Str × V), (ZCM f v fs).length <= fs.length + 1
 | [] => by simp [ZCM]
 | (k, x) :: r => by
  have ih := ZF8 f v r
  rw [show ZCM f v ((k, x) :: r) = (if k = f then (k, v) :: r else (k, x) :: ZCM f v r) from rfl]
  by_cases hk : k = f
  ·rw [if_pos hk, UB, UB]; omega
  ·rw [if_neg hk, UB, UB]; omega
theorem ZDD.some_of {v : V} {o : Option Value} (r : ZDD (some v) o) : ∃ u, o = some u /\ ZB3 v u := by
 cases o with
 | none => exact (show False from r).elim
 | some u => exact ⟨u, rfl, r⟩
theorem ZDD.none_of {o : Option Value} (r : ZDD none o) : o = none := by
 cases o with
 | none => rfl
 | some u => exact (show False from r).elim
theorem ZLU {v : V} {u : Value} (r : ZB3 v u) : PySem.W.handedIn u = true := by
 cases v with
 | non => cases (show u = Value.none from r); rfl
 | bl b => cases (show u = Value.bool b from r); rfl
 | int i => obtain ⟨t, e⟩ := (show ∃ t, u = Value.int i t from r); cases e; rfl
 | str x => obtain ⟨t, e⟩ := (show ∃ t, u = Value.str x t from r); cases e; rfl
 | byt b => obtain ⟨t, e⟩ := (show ∃ t, u = Value.bytes b t from r); cases e; rfl
 | flt b => obtain ⟨t, e⟩ := (show ∃ t, u = Value.float b t from r); cases e; rfl
 | ref a => cases (show u = Value.ref a from r); rfl
 | ty n => cases (show u = Value.type n from r); rfl
section
variable {P : Program} {w : World} {H H' : Hp} {h h' : Heap} {a C dx : Addr} {fs fs' : List (Str × V)}
theorem ZFs (hok : HOk P w H h) (e : H a = some (.ins C dx fs)) : ∃ mA, ZGJ h a dx C mA /\ (∀ f, ZDD (fs.lookup f) (mA f)) /\ PySem.Within mA (fs.map (·.1)) /\ fs.length <= 1000 /\ H dx = some (.own a) := by
 obtain ⟨d, z, ne, ob, mA, n, r, q⟩ := (show ZCF P w H h a (.ins C dx fs) from hok a _ e)
 exact ⟨mA, ⟨ob, n, ne⟩, r, q, z, d⟩
end
structure Cls (K : W.Frag) (C : Addr) : Prop where
 pg : PySem.W.plainGet K C Str.empty = true
 hd : PySem.W.hasDictIn K C = true
 po : PySem.W.plainOver K C = true
 sa : W.findIn K (.ref C) "__setattr__" = some (some (.builtin "object.__setattr__"))
theorem Cls.get {K : W.Frag} {C : Addr} (c : Cls K C) (f : Str) : PySem.W.plainGet K C f = true := c.pg
def ZCo (K : W.Frag) (C : Addr) (f : Str) : Prop := W.findIn K (.ref C) f = some none
theorem ZCo.taker {K : W.Frag} {C : Addr} {f : Str} (n : ZCo K C f) : PySem.W.takerIn K C f = some none := by
 unfold PySem.W.takerIn
 rw [show W.findIn K (.ref C) f = some none from n]
 rfl
structure ZCr (K : W.Frag) (C : Addr) (m : Str) (f : Addr) : Prop where
 at_ : W.findIn K (.ref C) m = some (some (.ref f))
 fn : PySem.W.isFn K (.ref f) = true
 kp : W.keepIn K (.ref f) = true
section
variable {X : Cx} {pins : List (Addr × Obj)} {U : St} {H : Hp} {s : Shared} {a C dx : Addr} {fs : List (Str × V)} {f : Str} {v : V} {A : Around} {E : Value -> Shared -> Prop}
theorem ZKh {b : Bool} {Q : Value -> Shared -> Prop} (I : Inv X pins U H s) (e : H a = some (.ins C dx fs)) (c : Cls X.K C) (n : ZCo X.K C f) (l : fs.lookup f = some v)
  (h : ∀ u s', Inv X pins U H s' -> ZB3 v u -> Q u s') : wpAny (model X.prog X.w) A (getAttr (.ref a) f b) Q E s := by
 obtain ⟨mA, O, r, _, _, _⟩ := ZFs I.hok e
 obtain ⟨u, hu, ru⟩ := ZDD.some_of (v := v) (o := mA f) (by rw [<- l]; exact r f)
 exact ZOq I.kIn O (c.get f) c.hd n hu (ZLU ru) (h u _ (I.tok _) ru)
theorem ZEp {m : Str} {g : Addr} {pl : Sem Bool} {Q : Value × List Value -> Shared -> Prop} (I : Inv X pins U H s) (e : H a = some (.ins C dx fs)) (c : Cls X.K C) (k : ZCr X.K C m g) (l : fs.lookup m = none)
  (h : Q (.ref g, [.ref a]) s) : wpAny (model X.prog X.w) A (getMethod (.ref a) m pl) Q E s := by
 obtain ⟨mA, O, r, _, _, _⟩ := ZFs I.hok e
 have hn : mA m = none := ZDD.none_of (by rw [<- l]; exact r m)
 exact ZMt I.kIn O (c.get m) k.at_ k.fn hn h
theorem ZKi {y : V} {u : Value} {Q : Unit -> Shared -> Prop} (I : Inv X pins U H s) (e : H a = some (.ins C dx fs)) (c : Cls X.K C) (n : ZCo X.K C f) (hl : fs.length < 1000) (ry : ZB3 y u)
  (h : ∀ s', Inv X pins U (upd H a (.ins C dx (ZCM f y fs))) s' -> Q () s') : wpAny (model X.prog X.w) A (setAttr (.ref a) f u) Q E s := by
 obtain ⟨mA, O, r, wi, _, ho⟩ := ZFs I.hok e
 have hz : (fs.map (·.1)).length <= sizeLine := by rw [Ur, sizeLine_eq]; omega
 refine ZOr I.kIn O c.sa c.po n.taker c.hd wi hz fun h' O' sb => h _ ?_
 have hd : ∃ o, h'.get? dx = some o := let ⟨o, _, _, e', _⟩ := O'.ns; ⟨o, e'⟩
 refine I.write (x := a) (e := dx) (by rw [e]; exact True.intro) (.inr ho) (fun b q hb z => (sb.2 b hb).trans z) hd ?_
 refine ⟨by rw [ZB8 O.ne]; exact ho, ?_, O.ne, O'.obj, _, O'.ns, fun g => ?_, fun g hg => ?_⟩
 ·have := ZF8 f y fs; omega
 ·show ZDD ((ZCM f y fs).lookup g) (if g = f then some u else mA g)
  rw [ZF7]
  by_cases q : g = f
  ·rw [if_pos q, if_pos q]; exact ry
  ·rw [if_neg q, if_neg q]; exact r g
 ·by_cases q : g = f
  ·rw [q]; exact (ZFU f y fs).1
  ·refine (ZFU f y fs).2 g (wi g fun z => hg ?_)
   show (if g = f then some u else mA g) = none
   rw [if_neg q]; exact z
theorem Inv.made (I : Inv X pins U H s) : Inv X pins U (upd (upd H s.heap.objs.size (.own (s.heap.objs.size + 1))) (s.heap.objs.size + 1) (.ins C s.heap.objs.size []))
  { s with heap := (s.heap.push PySem.W.emptyDict).push (PySem.W.instObj C s.heap.objs.size) } := by
 have e1 : (s.heap.push PySem.W.emptyDict).get? s.heap.objs.size = some PySem.W.emptyDict := Uk s.heap rfl
 have e2 : ((s.heap.push PySem.W.emptyDict).push (PySem.W.instObj C s.heap.objs.size)).get? (s.heap.objs.size + 1) = some (PySem.W.instObj C s.heap.objs.size) := by
  have := Uk (s.heap.push PySem.W.emptyDict) (o := PySem.W.instObj C s.heap.objs.size) rfl
  rwa [Heap.size_push] at this
 have e3 : (s.heap.push PySem.W.emptyDict).Ns s.heap.objs.size (fun _ => none) := ⟨PySem.W.emptyDict, #[], _, e1, rfl, (fun e he => absurd he (by simp)), fun _ => rfl⟩
 have I1 := I.laid (a := s.heap.objs.size) (o := .own (s.heap.objs.size + 1)) (h' := s.heap.push PySem.W.emptyDict) (t' := s.toks) (fun b u q => Ub _ q) (Uc _) ⟨_, e1⟩
 refine I1.laid (a := s.heap.objs.size + 1) (o := .ins C s.heap.objs.size []) (t' := s.toks) (fun b u q => Ub _ q) (Nat.le_of_eq (Heap.size_push _ _)) ?_
 have ne : s.heap.objs.size ≠ s.heap.objs.size + 1 := Up (Nat.lt_succ_self _)
 refine ⟨by rw [ZB8 ne, ZCC], UJ _, ne, e2, fun _ => none, (Heap.Ns1.of_empty e3).at fun o q => Ub _ q, fun _ => True.intro, fun y hy => absurd rfl hy⟩
theorem ZOs {prog : Program} {w : World} {env : Env} {e : Expr} {f : Str} {pos : Pos} {s : Shared} {Q : Value -> Shared -> Prop} (hb : attributeBase e f env (eval e env) = eval e env)
  (h : wpAny (model prog w) A (eval e env) (fun o s₁ => wpAny (model prog w) A (getAttr o f true) Q E s₁) E s) : wpAny (model prog w) A (eval (.Attribute e f pos) env) Q E s :=
 Attribute_any_ h (by rw [arm_eval_Attribute, hb])
end
def ZMv (K : W.Frag) (ta : TE) (f : Str) : TE := fun U H Q => ta U H fun x H1 => ∃ a C dx fs v, x = .ref a /\ H1 a = some (.ins C dx fs) /\ Cls K C /\ ZCo K C f /\ fs.lookup f = some v /\ Q v H1
def ZMw (K : W.Frag) (ta tv : TE) (f : Str) : TS := fun D U H => tv U H fun y H1 => ta U H1 fun x H2 => ∃ a C dx fs, x = .ref a /\ H2 a = some (.ins C dx fs) /\ Cls K C /\ ZCo K C f /\ fs.length < 1000 /\
 D.nx U (upd H2 a (.ins C dx (ZCM f y fs)))
section
variable {X : Cx} {o e value : Expr} {f : Str} {pos pos' tpos : Pos} {ta tv : TE}
theorem ZQP (he : PE X e ta) (hb : attributeBase e f X.env (eval e X.env) = eval e X.env) : PE X (.Attribute e f pos) (ZMv X.K ta f) := by
 intro pins s U H Q I h
 refine ZOs hb (thn (he pins s U H _ I h) fun u s1 ⟨x, H1, I1, rx, a, C, dx, fs, v, ex, ea, c, n, l, q⟩ => ?_)
 subst ex
 obtain rfl : u = Value.ref a := rx
 exact ZKh I1 ea c n l fun u' s2 I2 ru => ⟨v, H1, I2, ru, q⟩
theorem ZQQ (ha : PE X o ta) (hv : PE X value tv) (hs : swapsWith value (some (.Attribute o f pos')) pos.line X.env = pure false) : PS X (.Assign [.Attribute o f pos'] value pos) (ZMw X.K ta tv f) := by
 intro pins s U H D I h
 refine plainObj_wpAny_Assign_Attribute (thn (hv pins s U H _ I h) fun u s1 ⟨y, H1, I1, ry, q⟩ => thn (ha pins s1 U H1 _ I1 q) fun ov s2 ⟨x, H2, I2, rx, a, C, dx, fs, ex, ea, c, n, l, q2⟩ => ?_) hs
 subst ex
 obtain rfl : ov = Value.ref a := rx
 exact ZKi I2 ea c n l ry fun s3 I3 => ⟨U, _, I3, q2⟩
end
section
variable {X : Cx} {pins : List (Addr × Obj)} {U : St} {H : Hp} {s : Shared} {A : Around} {E : Value -> Shared -> Prop} {Q : Value -> Shared -> Prop} {c : Value} {b : Bool}
inductive ZDf (K : W.Frag) (H : Hp) : V -> Value -> Prop where
 | non : ZDf K H .non (.type "NoneType")
 | bl (x : Bool) : ZDf K H (.bl x) (.type "bool")
 | int (i : Int) : ZDf K H (.int i) (.type "int")
 | str (x : Str) : ZDf K H (.str x) (.type "str")
 | flt (x : UInt64) : ZDf K H (.flt x) (.type "float")
 | lst {a : Addr} {xs : List V} (e : H a = some (.lst xs)) : ZDf K H (.ref a) (.type "list")
 | frz {a : Addr} {o : Obj} {xs : List V} (e : H a = some (.frz o (.lst xs))) : ZDf K H (.ref a) (.type "list")
 | tup {a : Addr} {xs : List V} (e : H a = some (.tup xs)) : ZDf K H (.ref a) (.type "tuple")
 | dK {a : Addr} {kvs : List (Key × V)} (e : H a = some (.dK kvs)) : ZDf K H (.ref a) (.type "dict")
 | dT {a : Addr} {kvs : List (List Key × V)} (e : H a = some (.dT kvs)) : ZDf K H (.ref a) (.type "dict")
 | ins {a C dx : Addr} {fs : List (Str × V)} (e : H a = some (.ins C dx fs)) (cl : Cls K C) (ha : W.findIn K (.ref C) "__class__" = some (some (.builtin "object.__class__")))
  (hn : PySem.W.specialIn K (.builtin "object.__class__") "__get__" = some (some (.builtin "getset_descriptor.__get__"))) (htk : PySem.W.takesIn K (.builtin "object.__class__") = some true)
  (hm : PySem.W.mroIn K C (.type "object") = some true) : ZDf K H (.ref a) (.ref C)
theorem ZLV {x : V} {u t : Value} (I : Inv X pins U H s) (rx : ZB3 x u) (ty : ZDf X.K H x t) (e : W.kitOne X.K t c = some b) (h : ∀ tk, Q (.bool b) { s with toks := tk }) :
  wpAny (model X.prog X.w) A (call (.builtin "isinstance") [u, c]) Q E s := by
 cases ty with
 | non => cases (show u = Value.none from rx); exact PySem.W.kia_one PySem.W.kitx_none I.kIn True.intro e (fun z => nomatch z) h
 | bl y => cases (show u = Value.bool y from rx); exact PySem.W.kia_one PySem.W.kitx_bool I.kIn True.intro e (fun z => nomatch z) h
 | int i => obtain ⟨t, q⟩ := (show ∃ t, u = Value.int i t from rx); cases q; exact PySem.W.kia_one PySem.W.kitx_int I.kIn True.intro e (fun z => nomatch z) h
 | str y => obtain ⟨t, q⟩ := (show ∃ t, u = Value.str y t from rx); cases q; exact PySem.W.kia_one PySem.W.kitx_str I.kIn True.intro e (fun z => nomatch z) h
 | flt y => obtain ⟨t, q⟩ := (show ∃ t, u = Value.float y t from rx); cases q; exact PySem.W.kia_one PySem.W.kitx_float I.kIn True.intro e (fun z => nomatch z) h
 | @lst a xs ea =>
  cases (show u = Value.ref a from rx)
  obtain ⟨_, _, n, _, h1⟩ := (show ZCF X.prog X.w H s.heap a (.lst xs) from I.hok a _ ea)
  exact PySem.W.kia_one PySem.W.kitx_list I.kIn ⟨_, h1, rfl⟩ e (fun z => nomatch z) h
 | @frz a ob xs ea =>
  cases (show u = Value.ref a from rx)
  obtain ⟨_, _, _, n, _, h1⟩ := (show ZCF X.prog X.w H s.heap a (.frz ob (.lst xs)) from I.hok a _ ea)
  exact PySem.W.kia_one PySem.W.kitx_list I.kIn ⟨_, h1, rfl⟩ e (fun z => nomatch z) h
 | @tup a xs ea =>
  cases (show u = Value.ref a from rx)
  obtain ⟨_, _, _, p⟩ := (show ZCF X.prog X.w H s.heap a (.tup xs) from I.hok a _ ea)
  obtain ⟨o, h1, h2, _⟩ := p
  exact PySem.W.kia_one PySem.W.kitx_tuple I.kIn ⟨o, h1, h2⟩ e (fun z => nomatch z) h
 | @dK a kvs ea =>
  cases (show u = Value.ref a from rx)
  obtain ⟨_, _, vs, _, p⟩ := (show ZCF X.prog X.w H s.heap a (.dK kvs) from I.hok a _ ea)
  obtain ⟨o, es, ep, h1, h2, _⟩ := p
  exact PySem.W.kia_one PySem.W.kitx_dict I.kIn ⟨o, h1, h2.1⟩ e (fun z => nomatch z) h
 | @dT a kvs ea =>
  cases (show u = Value.ref a from rx)
  obtain ⟨_, _, xs, _, o, es, ep, h1, h2, _⟩ := (show ZCF X.prog X.w H s.heap a (.dT kvs) from I.hok a _ ea)
  exact PySem.W.kia_one PySem.W.kitx_dict I.kIn ⟨o, h1, h2.1⟩ e (fun z => nomatch z) h
 | @ins a C dx fs ea cl ha hn htk hm =>
  cases (show u = Value.ref a from rx)
  obtain ⟨mA, O, _⟩ := ZFs I.hok ea
  obtain ⟨od, J, _⟩ := O.look
  exact PySem.W.kia_one (PySem.W.kitx_own (cl.get _) cl.hd ha hn htk hm) I.kIn J e (fun z => nomatch z) h
end
structure Room (k : Nat) (A : Around) : Prop where
 hd : A.handled = none
 dp : A.depth + 3 * k + 5 < recursionLimit
 un : A.units + 16 * k + 200 < cLine
 gd : A.guards = some []
theorem Room.mono {j k : Nat} {A : Around} (r : Room k A) (h : j <= k) : Room j A := ⟨r.hd, by have := r.dp; omega, by have := r.un; omega, r.gd⟩
theorem Room.deeper {k : Nat} {A : Around} (r : Room (k + 1) A) (env : Env) : Room k (A.deeper env) :=
 ⟨r.hd, by have := r.dp; show A.depth + 1 + 3 * k + 5 < _; omega, by have := r.un; show A.units + 3 + 16 * k + 200 < _; omega, r.gd⟩
theorem Room.in1 {k : Nat} {A : Around} (r : Room (k + 1) A) : Room k A.in1 :=
 ⟨r.hd, by have := r.dp; show A.depth + 3 * k + 5 < _; omega, by have := r.un; show A.units + 1 + 16 * k + 200 < _; omega, r.gd⟩
theorem ZKj {A : Around} {C : Addr} {us : List Value} {kw : List (Str × Value)} : (A.under (.builtin "type.__call__" ⟨.ref C :: us, kw⟩)).depth = A.depth + 1 := by
 first | rfl | simp [Around.under, Code.weight, Code.isCreation, Code.isGuard, Code.isCaller, Code.frames, Code.isFrame, guardIds]
theorem ZKk {A : Around} {C : Addr} {us : List Value} {kw : List (Str × Value)} : (A.under (.builtin "type.__call__" ⟨.ref C :: us, kw⟩)).units = A.units + 1 := by
 first | rfl | simp [Around.under, Code.cUnits, Code.frames, Code.isFrame]
theorem ZJa {A : Around} {C : Addr} {us : List Value} {kw : List (Str × Value)} : (A.under (.builtin "type.__call__" ⟨.ref C :: us, kw⟩)).guards = A.guards := by
 have e : pushGuards [] A.guards = A.guards := by cases A.guards <;> rfl
 first | exact e | rfl | simp [Around.under, Code.guards, Code.isGuard, guardIds, pushGuards]
theorem Room.make {k : Nat} {A : Around} (r : Room (k + 1) A) (C : Addr) (us : List Value) (kw : List (Str × Value)) : Room k (A.under (.builtin "type.__call__" ⟨.ref C :: us, kw⟩)) :=
 ⟨r.hd, by have := r.dp; rw [ZKj]; omega, by have := r.un; rw [ZKk]; omega, (ZJa).trans r.gd⟩
theorem Room.depth {k : Nat} {A : Around} (r : Room k A) : A.depth < recursionLimit := by have := r.dp; omega
theorem Room.units {k : Nat} {A : Around} (r : Room k A) : A.units + 64 < cLine := by have := r.un; omega
def ZGK : TA := fun _ H Q => Q [] H
def ZIE (ta : TE) (tr : TA) : TA := fun U H Q => ta U H fun x H1 => tr U H1 fun xs H2 => Q (x :: xs) H2
section
variable {X : Cx} {e : Expr} {es : List Expr} {te : TE} {t : TA} {pos : Pos}
theorem ZQR : PA X [] ZGK := fun _ _ _ _ H Q I h => Calls.spliced_nil ⟨[], H, I, .nil, h⟩
theorem ZOt (ha : PE X e te) (hr : PA X es t) (hs : starEach (e :: es) X.env = (false, eval e X.env) :: starEach es X.env := by rfl) : PA X (e :: es) (ZIE te t) := by
 intro pos pins s U H Q I h
 rw [hs]
 show wpAny _ _ (spliced ((false, eval e X.env) :: backTo pos (starEach es X.env))) _ _ s
 refine Calls.spliced_cons (thn (ha pins s U H _ I h) fun u s1 ⟨x, H1, I1, r1, q1⟩ => ?_)
 exact thn (hr pos pins s1 U H1 _ I1 q1) fun us s2 ⟨xs, H2, I2, r2, q2⟩ => ⟨x :: xs, H2, I2, .cons r1 r2, q2⟩
def ZMx (t : TA) : TE := fun U H Q => t U H fun xs H1 => xs.length <= sizeLine /\ ∀ p, H1 p = none -> Q (.ref p) (upd H1 p (.tup xs))
def ZMy (t : TA) : TE := fun U H Q => t U H fun xs H1 => xs.length <= sizeLine /\ ∀ p, H1 p = none -> Q (.ref p) (upd H1 p (.lst xs))
theorem ZQS {x1} (h : PA X es t) : PE X (.Tuple es x1 pos) (ZMx t) := by
 intro pins s U H Q I hq
 refine wpAny_Tuple_spliced (thn (h pos pins s U H _ I hq) fun us s1 ⟨xs, H1, I1, r, z, q⟩ => ⟨by rw [<- r.length]; exact z, ?_⟩)
 have hf : H1 s1.heap.objs.size = none := I1.hok.fresh (Uc _)
 refine ⟨.ref s1.heap.objs.size, upd H1 s1.heap.objs.size (.tup xs), I1.laid (t' := s1.toks) (fun b u e => Ub _ e) (Uc _) ?_, rfl, q _ hf⟩
 exact ⟨⟨z, fun _ => ⟨_, Uk _ rfl, rfl, rfl⟩⟩, us, r, ⟨_, Uk _ rfl, rfl, _, rfl⟩⟩
theorem ZQT (h : PA X es t) : PE X (.List es pos) (ZMy t) := by
 intro pins s U H Q I hq
 refine wpAny_List_spliced (thn (h pos pins s U H _ I hq) fun us s1 ⟨xs, H1, I1, r, z, q⟩ => ⟨by rw [<- r.length]; exact z, ?_⟩)
 have hf : H1 s1.heap.objs.size = none := I1.hok.fresh (Uc _)
 refine ⟨.ref s1.heap.objs.size, upd H1 s1.heap.objs.size (.lst xs), I1.laid (t' := s1.toks) (fun b u e => Ub _ e) (Uc _) ?_, rfl, q _ hf⟩
 exact ⟨z, us, 0, r, Uk _ rfl⟩
end
abbrev Sp := List V -> Hp -> VK -> XK -> Prop
abbrev CXT := List Env -> Hp -> Shared -> XK -> Value -> Shared -> Prop
structure ZET (P : Program) (w : World) (K : W.Frag) (mg : Str -> Option Value) (base : Heap) (A : Around) (outer : List Env) (s : Shared) (H : Hp) : Prop where
 frames : A.frames = some outer
 mod : Mod K mg base
 bs : ∀ b o, base.get? b = some o -> s.heap.get? b = some o /\ H b = none
 bsz : base.objs.size <= s.heap.objs.size
 funs : s.heap.FunFrames base outer
 frf : ∀ b ∈ frs outer, H b = none
 hok : HOk P w H s.heap
 bare : AllBare s.gens
def CE (outer : List Env) (P : Program) (w : World) (H : Hp) (s : Shared) (Q : VK) (u : Value) (s' : Shared) : Prop :=
 ∃ v H', s'.os = s.os /\ AllBare s'.gens /\ Un (frs outer) [] H H' s.heap s'.heap /\ HOk P w H' s'.heap /\ ZB3 v u /\ Q v H'
def CR (CX : CXT) (outer : List Env) (P : Program) (w : World) (H : Hp) (s : Shared) (Q : VK) (E : XK) (r : Result) (s' : Shared) : Prop :=
 match r with
 | .ok (.ret u) => CE outer P w H s Q u s'
 | .ok _ => False
 | .error e => CX outer H s E e s'
structure ZB2 (P : Program) (w : World) (K : W.Frag) (mg : Str -> Option Value) (base : Heap) (CX : CXT) (k : Nat) (f : Addr) (fd : FuncData) (ps : List Str) (sp : Sp) : Prop where
 len : ∀ vs H Q E, sp vs H Q E -> vs.length = ps.length
 run : ∀ (A : Around) (outer : List Env) (s : Shared) (H : Hp) (args : Args) (us : List Value) (vs : List V) (Q : VK) (E : XK), Room k A -> ZET P w K mg base A outer s H -> BindsTo s fd args (ps.zip us) -> ZB6 vs us -> sp vs H Q E ->
  codeAny (model P w) A (.call (.ref f) args) (CR CX outer P w H s Q E) s
theorem ZET.make {P : Program} {w : World} {K : W.Frag} {mg : Str -> Option Value} {base : Heap} {A : Around} {outer : List Env} {s : Shared} {H : Hp} (e : ZET P w K mg base A outer s H) (C : Addr) (us : List Value) (kw : List (Str × Value)) :
 ZET P w K mg base (A.under (.builtin "type.__call__" ⟨.ref C :: us, kw⟩)) outer s H := ⟨by first | exact e.frames | (simpa [Around.under, Code.envs, Code.isFrame, pushEnvs] using e.frames), e.mod, e.bs, e.bsz, e.funs, e.frf, e.hok, e.bare⟩
theorem ZET.in1 {P : Program} {w : World} {K : W.Frag} {mg : Str -> Option Value} {base : Heap} {A : Around} {outer : List Env} {s : Shared} {H : Hp} (e : ZET P w K mg base A outer s H) :
 ZET P w K mg base A.in1 outer s H := ⟨e.frames, e.mod, e.bs, e.bsz, e.funs, e.frf, e.hok, e.bare⟩
section
variable {X : Cx} {pins : List (Addr × Obj)} {U : St} {H : Hp} {s s' : Shared}
theorem Inv.env0 (I : Inv X pins U H s) : ZET X.prog X.w X.K X.mg X.base X.A X.stack s H :=
 ⟨I.ok.frames, I.ok.mod, I.bs, UF I.ok.bsz I.sz, I.stack, I.stkFree, I.hok, I.bare⟩
theorem Inv.after {Q : VK} {u : Value} (I : Inv X pins U H s) (h : CE X.stack X.prog X.w H s Q u s') : EP X pins U Q u s' := by
 obtain ⟨v, H', os, bare, un, hok, r, q⟩ := h
 obtain ⟨hh, g, d, t, os'⟩ := s'
 obtain rfl : os' = s.os := os
 exact ⟨v, H', I.call (h' := hh) (g' := g) (d' := d) (t' := t) (ch := []) un hok bare (fun b z => absurd z (by simp)), r, q⟩
end
def ZGg (sp : Sp) (dvs : List V) (E : XK) (t : TA) : TE := fun U H Q => t U H fun vs H1 => sp (vs ++ dvs) H1 Q E
def ZGh (C : Addr) (m : Str) (sp : Sp) (dvs : List V) (E : XK) (ta : TE) (t : TA) : TE := fun U H Q => ta U H fun x H1 => ∃ a dx fs, x = .ref a /\ H1 a = some (.ins C dx fs) /\ fs.lookup m = none /\
 t U H1 fun vs H2 => sp (x :: (vs ++ dvs)) H2 Q E
def ZGi (C : Addr) (sp : Sp) (dvs : List V) (E : XK) (t : TA) : TE := fun U H Q => t U H fun vs H1 => ∀ x dx, H1 x = none -> H1 dx = none -> dx ≠ x ->
 sp (.ref x :: (vs ++ dvs)) (upd (upd H1 dx (.own x)) x (.ins C dx [])) (fun v H2 => v = .non /\ Q (.ref x) H2) E
def ZBz (K : W.Frag) (fd : FuncData) (ps : List Str) (ds : List Value) : Prop :=
 ∀ (s : Shared) (us : List Value), K.In s.heap -> (us ++ ds).length = ps.length -> BindsTo s fd ⟨us, []⟩ (ps.zip (us ++ ds))
theorem ZBz.all {K : W.Frag} {fd : FuncData} {ps : List Str} (h : ∀ us : List Value, us.length = ps.length -> bindArgs fd ⟨us, []⟩ = pure (ps.zip us)) : ZBz K fd ps [] := fun s us _ hl => by
 rw [List.append_nil] at hl ⊢
 exact .of_eq (h us hl)
def ZCy (CX : CXT) (X : Cx) (E : XK) : Prop := ∀ (pins : List (Addr × Obj)) (U : St) (H : Hp) (s : Shared) (e : Value) (s' : Shared), Inv X pins U H s -> CX X.stack H s E e s' -> X.xe e s'
section
variable {X : Cx} {CX : CXT} {k : Nat} {f C : Addr} {fd : FuncData} {ps : List Str} {sp : Sp} {dvs : List V} {ds : List Value} {E : XK} {x m : Str} {p pos apos : Pos} {e o : Expr} {es : List Expr} {ta : TE} {t : TA}
theorem ZIQ {pins : List (Addr × Obj)} {U : St} {H : Hp} {s : Shared} {Q : VK} {us : List Value} {vs : List V} (F : ZB2 X.prog X.w X.K X.mg X.base CX k f fd ps sp) (hr : Room k X.A) (hb : ZBz X.K fd ps ds) (hd : ZB6 dvs ds) (hx : ZCy CX X E)
  (I : Inv X pins U H s) (r : ZB6 vs us) (h : sp (vs ++ dvs) H Q E) : wpAny (model X.prog X.w) X.A (call (.ref f) us) (EP X pins U Q) X.xe s := by
 have r2 : ZB6 (vs ++ dvs) (us ++ ds) := r.append hd
 have hl : (us ++ ds).length = ps.length := by rw [<- r2.length]; exact F.len _ _ _ _ h
 refine wpAny_call (codeAny_mono (F.run X.A X.stack s H ⟨us, []⟩ (us ++ ds) (vs ++ dvs) Q E hr I.env0 (hb s us I.kIn hl) r2 h) fun r s' hq => ?_)
 cases r with
 | error e => exact hx pins U H s e s' I hq
 | ok fl =>
  cases fl with
  | ret u => exact I.after hq
  | next => exact False.elim hq
  | brk => exact False.elim hq
  | cont => exact False.elim hq
theorem ZOu (F : ZB2 X.prog X.w X.K X.mg X.base CX k f fd ps sp) (hr : Room k X.A) (hg : Gl X x) (hm : X.mg x = some (.ref f)) (hk : W.keepIn X.K (.ref f) = true) (hb : ZBz X.K fd ps ds) (hd : ZB6 dvs ds) (hx : ZCy CX X E)
  (ha : PA X (e :: es) t) (hdb : (x == ("__debug__" : Str)) = false := by decide) (he : starEach (e :: es) X.env = (false, eval e X.env) :: starEach es X.env := by rfl) (hpl : (backTo pos (starEach es X.env)).any (·.1) = false := by rfl) :
  PE X (.Call (.Name x p) (e :: es) [] pos) (ZGg sp dvs E t) := by
 intro pins s U H Q I h
 refine wpAny_Call_Name_kw (ZDa I hg hm ?_ hdb)
 refine PySem.W.callWith_K (h₀ := X.base) I.ok.mod.kin hk (thn (ha pos pins s U H _ I h) fun us s1 ⟨vs, H1, I1, r, q⟩ => ⟨I1.kIn, ?_⟩) he hpl
 exact ZIQ F hr hb hd hx I1 r q
theorem ZOv {pl : Sem Bool} (he : PE X o ta) (c : Cls X.K C) (hm : ZCr X.K C m f) (F : ZB2 X.prog X.w X.K X.mg X.base CX k f fd ps sp) (hr : Room k X.A) (hb : ZBz X.K fd ps ds) (hd : ZB6 dvs ds) (hx : ZCy CX X E) (ha : PA X (e :: es) t)
  (hst : starEach (e :: es) X.env = (false, eval e X.env) :: starEach es X.env := by rfl) (hpl : (backTo pos (starEach es X.env)).any (·.1) = false := by rfl)
  (ht : eval (.Call (.Attribute o m apos) (e :: es) [] pos) X.env = (do
   let ov <- eval o X.env
   standAt apos.atName
   let (f, first) <- holding [ov] (getMethod ov m pl)
   callWith pos f first (backTo pos (starEach (e :: es) X.env)) (backToKw pos (keywordEach [] X.env))) := by rfl) :
  PE X (.Call (.Attribute o m apos) (e :: es) [] pos) (ZGh C m sp dvs E ta t) := by
 intro pins s U H Q I h
 refine PySem.W.methodCall_KW (pl := pl) (thn (he pins s U H _ I h) fun u s1 ⟨x, H1, I1, rx, a, dx, fs, ex, ea, l, q⟩ => ?_) ht
 subst ex
 obtain rfl : u = Value.ref a := rx
 refine ZEp I1 ea c hm l ?_
 refine PySem.W.callWith_K (first := [.ref a]) (h₀ := X.base) I.ok.mod.kin hm.kp (thn (ha pos pins s1 U H1 _ I1 q) fun us s2 ⟨vs, H2, I2, r, q2⟩ => ⟨I2.kIn, ?_⟩) hst hpl
 exact ZIQ (us := .ref a :: us) (vs := .ref a :: vs) F hr hb hd hx I2 (.cons rfl r) q2
theorem ZMz {pl : Sem Bool} (he : PE X o ta) (c : Cls X.K C) (hm : ZCr X.K C m f) (F : ZB2 X.prog X.w X.K X.mg X.base CX k f fd ps sp) (hr : Room k X.A) (hb : ZBz X.K fd ps ds) (hd : ZB6 dvs ds) (hx : ZCy CX X E)
  (ht : eval (.Call (.Attribute o m apos) [] [] pos) X.env = (do
   let ov <- eval o X.env
   standAt apos.atName
   let (f, first) <- holding [ov] (getMethod ov m pl)
   callWith pos f first (backTo pos (starEach [] X.env)) (backToKw pos (keywordEach [] X.env))) := by rfl) :
  PE X (.Call (.Attribute o m apos) [] [] pos) (ZGh C m sp dvs E ta ZGK) := by
 intro pins s U H Q I h
 refine PySem.W.methodCall_KW (pl := pl) (thn (he pins s U H _ I h) fun u s1 ⟨x, H1, I1, rx, a, dx, fs, ex, ea, l, q⟩ => ?_) ht
 subst ex
 obtain rfl : u = Value.ref a := rx
 refine ZEp I1 ea c hm l ?_
 exact PySem.W.callWith_K0 (first := [.ref a]) I1.kIn hm.kp (ZIQ (us := [.ref a]) (vs := [.ref a]) F hr hb hd hx I1 (.cons rfl .nil) q)
structure Mk (K : W.Frag) (C f : Addr) : Prop where
 makes : PySem.W.makesIn K C = true
 init : W.findIn K (.ref C) "__init__" = some (some (.ref f))
 fn : PySem.W.isFn K (.ref f) = true
 kp : W.keepIn K (.ref C) = true
theorem ZIR {pins : List (Addr × Obj)} {U : St} {H : Hp} {s : Shared} {Q : VK} {us : List Value} {vs : List V} (M : Mk X.K C f) (F : ZB2 X.prog X.w X.K X.mg X.base CX k f fd ps sp) (hr : Room (k + 1) X.A) (hb : ZBz X.K fd ps ds) (hd : ZB6 dvs ds)
  (hx : ZCy CX X E) (I : Inv X pins U H s) (r : ZB6 vs us)
  (h : ∀ x dx, H x = none -> H dx = none -> dx ≠ x -> sp (.ref x :: (vs ++ dvs)) (upd (upd H dx (.own x)) x (.ins C dx [])) (fun v H2 => v = .non /\ Q (.ref x) H2) E) :
  wpAny (model X.prog X.w) X.A (call (.ref C) us) (EP X pins U Q) X.xe s := by
 have hq := h (s.heap.objs.size + 1) s.heap.objs.size (I.hok.fresh (Nat.le_succ _)) (I.hok.fresh (Uc _)) (Up (Nat.lt_succ_self _))
 have I2 := Inv.made (C := C) I
 have r2 : ZB6 (V.ref (s.heap.objs.size + 1) :: (vs ++ dvs)) (Value.ref (s.heap.objs.size + 1) :: (us ++ ds)) := .cons rfl (r.append hd)
 have hl : (Value.ref (s.heap.objs.size + 1) :: us ++ ds).length = ps.length := by
  have e := r2.length
  rw [F.len _ _ _ _ hq] at e
  exact e.symm
 refine wpAny_call (ZMu (f := f) I.kIn M.makes M.init (beq_iff_eq.mp M.fn) (codeAny_mono (F.run _ X.stack _ _ ⟨Value.ref (s.heap.objs.size + 1) :: us, []⟩ (Value.ref (s.heap.objs.size + 1) :: (us ++ ds)) _ _ E (hr.make C us [])
  (I2.env0.make C us []) (hb _ (Value.ref (s.heap.objs.size + 1) :: us) I2.kIn hl) r2 hq) fun r s' hq' => ?_))
 cases r with
 | error e => exact hx pins U _ _ e s' I2 hq'
 | ok fl =>
  cases fl with
  | ret u =>
   obtain ⟨v, H', I3, rv, ev, q3⟩ := I2.after hq'
   subst ev
   exact ⟨rv, ⟨V.ref (s.heap.objs.size + 1), H', I3, rfl, q3⟩⟩
  | next => exact False.elim hq'
  | brk => exact False.elim hq'
  | cont => exact False.elim hq'
theorem ZOw (M : Mk X.K C f) (F : ZB2 X.prog X.w X.K X.mg X.base CX k f fd ps sp) (hr : Room (k + 1) X.A) (hg : Gl X x) (hm : X.mg x = some (.ref C)) (hb : ZBz X.K fd ps ds) (hd : ZB6 dvs ds) (hx : ZCy CX X E)
  (ha : PA X (e :: es) t) (hdb : (x == ("__debug__" : Str)) = false := by decide) (he : starEach (e :: es) X.env = (false, eval e X.env) :: starEach es X.env := by rfl) (hpl : (backTo pos (starEach es X.env)).any (·.1) = false := by rfl) :
  PE X (.Call (.Name x p) (e :: es) [] pos) (ZGi C sp dvs E t) := by
 intro pins s U H Q I h
 refine wpAny_Call_Name_kw (ZDa I hg hm ?_ hdb)
 refine PySem.W.callWith_K (h₀ := X.base) I.ok.mod.kin M.kp (thn (ha pos pins s U H _ I h) fun us s1 ⟨vs, H1, I1, r, q⟩ => ⟨I1.kIn, ?_⟩) he hpl
 exact ZIR M F hr hb hd hx I1 r q
theorem ZM0 (M : Mk X.K C f) (F : ZB2 X.prog X.w X.K X.mg X.base CX k f fd ps sp) (hr : Room (k + 1) X.A) (hg : Gl X x) (hm : X.mg x = some (.ref C)) (hb : ZBz X.K fd ps ds) (hd : ZB6 dvs ds) (hx : ZCy CX X E)
  (hdb : (x == ("__debug__" : Str)) = false := by decide) : PE X (.Call (.Name x p) [] [] pos) (ZGi C sp dvs E ZGK) := by
 intro pins s U H Q I h
 refine wpAny_Call_Name_kw (ZDa I hg hm ?_ hdb)
 exact PySem.W.callWith_K0 I.kIn M.kp (ZIR (us := []) M F hr hb hd hx I .nil h)
end
structure ZB4 (N P : List Str) (sc : Scope) : Prop where
 kind : sc.kind = .function
 co : sc.isCoroutine = false
 gen : sc.isGenerator = false
 nd : N.Nodup
 pre : N.take P.length = P
 par : ∀ x ∈ P, sc.names.lookup x = some .local \/ sc.names.lookup x = some .cell
 nofree : ∀ y ∈ sc.names, y.2 ≠ .free
theorem ZHY {kindOf : Str -> Option NameKind} {x : Str} : ∀ {binds : List (Str × Value)} {m : Str -> Option Value}, (∀ v, (x, v) ∉ binds) -> bindL kindOf binds m x = m x
 | [], _, _ => rfl
 | (n, v) :: r, m, h => by
  unfold bindL
  rw [ZHY fun w hw => h w (Uu _ hw)]
  split
  ·have : x ≠ n := by rintro rfl; exact h v Uy
   simp [this]
  ·rfl
theorem ZHZ {kindOf : Str -> Option NameKind} {x : Str} : ∀ {binds : List (Str × Value)} {m : Str -> Option Value}, (∀ v, (x, v) ∉ binds) -> bindC kindOf binds m x = m x
 | [], _, _ => rfl
 | (n, v) :: r, m, h => by
  unfold bindC
  rw [ZHZ fun w hw => h w (Uu _ hw)]
  split
  ·rfl
  ·have : x ≠ n := by rintro rfl; exact h v Uy
   simp [this]
theorem ZHa {kindOf : Str -> Option NameKind} {x : Str} {v : Value} : ∀ {P : List Str} {vs : List Value} {i : Nat} {m : Str -> Option Value}, P.Nodup -> P[i]? = some x -> vs[i]? = some v -> kindOf x = some .local ->
  bindL kindOf (P.zip vs) m x = some v
 | [], _, _, _, _, h, _, _ => by simp at h
 | _ :: _, [], _, _, _, _, h, _ => by simp at h
 | p :: P, w :: vs, 0, m, nd, h1, h2, hk => by
  simp at h1 h2; subst h1; subst h2
  show bindL kindOf ((p, w) :: P.zip vs) m p = _
  unfold bindL
  rw [ZHY fun v hv => (List.nodup_cons.mp nd).1 (List.of_mem_zip hv).1, if_pos hk]
  simp
 | p :: P, w :: vs, i + 1, m, nd, h1, h2, hk => by
  show bindL kindOf ((p, w) :: P.zip vs) m x = _
  unfold bindL
  exact ZHa (i := i) (List.nodup_cons.mp nd).2 (by simpa using h1) (by simpa using h2) hk
theorem ZHb {kindOf : Str -> Option NameKind} {x : Str} {v : Value} : ∀ {P : List Str} {vs : List Value} {i : Nat} {m : Str -> Option Value}, P.Nodup -> P[i]? = some x -> vs[i]? = some v -> kindOf x ≠ some .local ->
  bindC kindOf (P.zip vs) m x = some v
 | [], _, _, _, _, h, _, _ => by simp at h
 | _ :: _, [], _, _, _, _, h, _ => by simp at h
 | p :: P, w :: vs, 0, m, nd, h1, h2, hk => by
  simp at h1 h2; subst h1; subst h2
  show bindC kindOf ((p, w) :: P.zip vs) m p = _
  unfold bindC
  rw [ZHZ fun v hv => (List.nodup_cons.mp nd).1 (List.of_mem_zip hv).1, if_neg hk]
  simp
 | p :: P, w :: vs, i + 1, m, nd, h1, h2, hk => by
  show bindC kindOf ((p, w) :: P.zip vs) m x = _
  unfold bindC
  exact ZHb (i := i) (List.nodup_cons.mp nd).2 (by simpa using h1) (by simpa using h2) hk
def start (N : List Str) (vs : List V) : St := vs.map some ++ List.replicate (N.length - vs.length) none
def ZFV (CX : CXT) (P : Program) (w : World) (K : W.Frag) (mg : Str -> Option Value) (base : Heap) (N : List Str) (qual : Str) (scope : Scope) (f : Addr) (cd : Value) (A : Around) (outer : List Env) (s : Shared) (H : Hp) (E : XK) : Cx where
 prog := P
 w := w
 K := K
 mg := mg
 base := base
 A := A.deeper (envOfC qual scope s.heap.objs.size f cd)
 N := N
 s₀ := s
 H₀ := H
 env := envOfC qual scope s.heap.objs.size f cd
 outer := outer
 stack := envOfC qual scope s.heap.objs.size f cd :: outer
 ex := []
 calm := true
 fn := fun _ => true
 pn := []
 xe := fun e s' => wpAny (model P w) (A.deeper (envOfC qual scope s.heap.objs.size f cd)) (leaving (envOfC qual scope s.heap.objs.size f cd) e) (fun _ s'' => CX outer H s E e s'') (fun e' s'' => CX outer H s E e' s'') s'
theorem ZIS {sc : Scope} {n : Nat} {x : Str} (h : sc.names.lookup x = some .cell) : ∃ c, (cellsFrom n sc.names []).lookup x = some c := by
 have q := PySem.W.cellsFrom_some sc.names n [] (.inl h)
 exact Option.isSome_iff_exists.mp q
theorem ZLW {CX : CXT} {P : Program} {w : World} {K : W.Frag} {mg : Str -> Option Value} {base : Heap} {N ps : List Str} {qual : Str} {scope : Scope} {f : Addr} {cd : Value} {A : Around} {outer : List Env} {s s1 : Shared} {H : Hp} {E : XK} {us : List Value} {vs : List V}
  (S : ZB4 N ps scope) (hd : A.handled = none) (e0 : ZET P w K mg base A outer s H) (hl : vs.length = ps.length) (r : ZB6 vs us)
  (x : InCallC s s.heap.objs.size (bindL (envOfC qual scope s.heap.objs.size f cd).kindOf (ps.zip us) fun _ => none) (cellsFrom (s.heap.objs.size + 1) scope.names []) (bindC (envOfC qual scope s.heap.objs.size f cd).kindOf (ps.zip us) fun _ => none) s1) :
  Inv (ZFV CX P w K mg base N qual scope f cd A outer s H E) [] (start N vs) H s1 := by
 have hpl : ps.length <= N.length := by have := congrArg List.length S.pre; rw [UK] at this; omega
 obtain ⟨h1, tk, rfl, hk⟩ := x.done
 have noA : ∀ b : Addr, b ∉ (ZFV CX P w K mg base N qual scope f cd A outer s H E).ex := fun b z => absurd (show b ∈ ([] : List Addr) from z) (by simp)
 refine ⟨⟨e0.mod, S.kind, rfl, rfl, Uc _, fun y z c h1 h2 => ?_, fun y hy => ?_, fun y c _ h => ?_, fun _ => hd, Around.frames_deeper e0.frames, .inr ⟨rfl, rfl⟩, fun b z => absurd z (noA b), e0.bs, e0.bsz, fun b _ _ => noA b, fun b z => absurd z (noA b), e0.funs, e0.frf⟩,
  rfl, e0.bare, Un.kept hk, ⟨_, x.toInCall.ns, fun i y v h1 h2 h3 => ?_⟩, fun y c h => ⟨_, x.cell y c h⟩, e0.hok.fresh (Uc _), fun y c h => ?_, fun p hp => absurd (show p ∈ ([] : List (Addr × Obj)) from hp) (by simp), e0.hok.kept hk, ?_⟩
 ·exact name_of_addr x.apart (PySem.mem_of_lookup h1) (PySem.mem_of_lookup h2)
 ·have hy : scope.names.lookup y = some .cell \/ scope.names.lookup y = some .free := hy
  rcases hy with hy | hy
  ·exact ZIS hy
  ·exact absurd rfl (S.nofree _ (PySem.mem_of_lookup hy))
 ·exact Nat.le_of_lt (x.above y c (PySem.mem_of_lookup h))
 ·have hi : i < vs.length := by
   unfold start at h2
   by_cases hi : i < vs.length
   ·exact hi
   ·rw [UO (by simpa using hi)] at h2
    rw [List.getElem?_replicate] at h2
    split at h2 <;> cases h2
  have ha : vs[i]? = some v := by
   unfold start at h2
   rw [List.getElem?_append_left (by simpa using hi), UG] at h2
   cases e : vs[i]? with
   | none => rw [e] at h2; cases h2
   | some a => rw [e] at h2; cases h2; rfl
  obtain ⟨u, hu, rv⟩ := r.get ha
  have hp : ps[i]? = some y := by
   rw [<- S.pre, List.getElem?_take_of_lt (by omega)]; exact h1
  have ndP : ps.Nodup := by rw [<- S.pre]; exact S.nd.sublist (List.take_sublist _ _)
  refine ⟨u, rv, ?_⟩
  rcases S.par y (UA hp) with k | k
  ·exact .inl ⟨k, ZHa ndP hp hu k⟩
  ·obtain ⟨c, e⟩ := ZIS (n := s.heap.objs.size + 1) k
   refine .inr ⟨.inl k, c, e, ?_⟩
   have q := x.cell y c e
   rw [ZHb ndP hp hu (by show scope.names.lookup y ≠ _; rw [k]; decide)] at q
   exact q
 ·exact e0.hok.fresh (Nat.le_of_lt (x.above y c (PySem.mem_of_lookup h)))
 ·unfold start
  show _ = N.length
  rw [UD, Ur, List.length_replicate]
  omega
theorem ZKl {CX : CXT} {P : Program} {w : World} {K : W.Frag} {mg : Str -> Option Value} {base : Heap} {k : Nat} {f : Addr} {name qual : Str} {params : Arguments} {body : List Stmt} {scope : Scope} {dV kV doc pm cdv ct oc : Value} {an od : Option Addr}
  {osl : Array (Option Value)} {N ps : List Str} {sp : Sp} (lk : K.lookup f = some ⟨oc, od, .func (W.fnOf name qual params body scope dV kV doc pm an cdv ct), osl⟩) (hcd : W.codeIn K cdv qual = true) (S : ZB4 N ps scope)
  (len : ∀ vs H Q E, sp vs H Q E -> vs.length = ps.length)
  (hbody : ∀ (A : Around) (outer : List Env) (s : Shared) (H : Hp) (vs : List V) (Q : VK) (E : XK), Room k (A.deeper (envOfC qual scope s.heap.objs.size f cdv)) -> sp vs H Q E ->
   ∃ t, PSs (ZFV CX P w K mg base N qual scope f cdv A outer s H E) body t /\ t { nx := fun _ H' => Q .non H', rt := Q } (start N vs) H) :
  ZB2 P w K mg base CX (k + 1) f (W.fnOf name qual params body scope dV kV doc pm an cdv ct) ps sp := by
 refine ⟨len, fun A outer s H args us vs Q E hr e0 hb r hsp => ?_⟩
 have hl := len _ _ _ _ hsp
 have KX : K.In s.heap := e0.mod.kin.keeps fun b o e => (e0.bs b o e).1
 have lim : s.heap.NoLimit := e0.mod.nolimit.keeps fun b o e => (e0.bs b o e).1
 have hkind : ∀ y ∈ ps.zip us, scope.names.lookup y.1 = some .local \/ (scope.names.lookup y.1 = some .cell /\ ((cellsFrom (s.heap.objs.size + 1) scope.names []).lookup y.1).isSome = true) := fun ⟨n, v⟩ hy => by
  rcases S.par n (List.of_mem_zip hy).1 with q | q
  ·exact .inl q
  ·exact .inr ⟨q, PySem.W.cellsFrom_some _ _ _ (.inl q)⟩
 refine codeAny_call_function hr.depth (KX _ _ lk) rfl S.co S.gen rfl (PySem.W.codeRec_of KX hcd) (hb _ _ _ _ ?_)
 refine wpAny_newFunctionEnv_cells S.kind hkind fun env he s1 x => ?_
 subst he
 refine ⟨lim.keeps x.toInCall.keep, codeAny_func ?_⟩
 obtain ⟨t, ht, hq⟩ := hbody A outer s H vs Q E (hr.deeper _) hsp
 have I : Inv (ZFV CX P w K mg base N qual scope f cdv A outer s H E) [] (start N vs) H s1 := ZLW S hr.hd e0 hl r x
 refine Uv (ht [] s1 (start N vs) H _ I hq) (fun fl s' hs => ?_) fun e s' hs => hs
 have fin : ∀ {U' : St} {H' : Hp} {v : V} {u : Value}, Inv (ZFV CX P w K mg base N qual scope f cdv A outer s H E) [] U' H' s' -> ZB3 v u -> Q v H' -> CE outer P w H s Q u s' :=
  fun {U' H' v u} J rv q => ⟨v, H', J.os, J.bare, J.base, J.hok, rv, q⟩
 cases fl with
 | ret u =>
  obtain ⟨v, U', H', J, rv, q⟩ := hs
  exact fin J rv q
 | next =>
  obtain ⟨U', H', J, q⟩ := hs
  exact fin (v := V.non) (u := Value.none) J rfl q
 | brk =>
  obtain ⟨_, _, _, q⟩ := hs
  exact False.elim q
 | cont =>
  obtain ⟨_, _, _, q⟩ := hs
  exact False.elim q
section
variable {X : Cx} {x : Str} {p pos : Pos} {e : Expr} {es : List Expr} {t : TA} {id T : String} {r : List V -> Hp -> VK -> Prop}
def tCB (r : List V -> Hp -> VK -> Prop) (t : TA) : TE := fun U H Q => t U H fun vs H1 => r vs H1 Q
theorem ZM1 (hc : ZCe X (.builtin id) r) (hg : Gl X x) (hm : X.mg x = none) (hv : bootBuiltins x = some (.builtin id)) (ha : PA X (e :: es) t) (hn : x ≠ "__name__" := by decide) (hdb : (x == ("__debug__" : Str)) = false := by decide)
  (he : starEach (e :: es) X.env = (false, eval e X.env) :: starEach es X.env := by rfl) (hpl : (backTo pos (starEach es X.env)).any (·.1) = false := by rfl) : PE X (.Call (.Name x p) (e :: es) [] pos) (tCB r t) := by
 intro pins s U H Q I h
 refine wpAny_Call_Name_kw (ZDs I hg hm hv ?_ hn hdb)
 exact PyProof.Rows.callWith_builtin1 (thn (ha pos pins s U H _ I h) fun us s1 ⟨vs, H1, I1, r1, q1⟩ => hc pins s1 U H1 vs us Q I1 r1 q1) he hpl
theorem ZLX (hc : ZCe X (.type T) r) (hg : Gl X x) (hm : X.mg x = none) (hv : bootBuiltins x = some (.type T)) (ha : PA X (e :: es) t) (hn : x ≠ "__name__" := by decide) (hdb : (x == ("__debug__" : Str)) = false := by decide)
  (he : starEach (e :: es) X.env = (false, eval e X.env) :: starEach es X.env := by rfl) (hpl : (backTo pos (starEach es X.env)).any (·.1) = false := by rfl) : PE X (.Call (.Name x p) (e :: es) [] pos) (tCB r t) := by
 intro pins s U H Q I h
 refine wpAny_Call_Name_kw (ZDs I hg hm hv ?_ hn hdb)
 exact PyProof.Rows.callWith_type1 (thn (ha pos pins s U H _ I h) fun us s1 ⟨vs, H1, I1, r1, q1⟩ => hc pins s1 U H1 vs us Q I1 r1 q1) he hpl
end
end L2
namespace HT
open PySem PyProof.Rows
end HT
namespace L2
open PySem PySem.Spec PyProof.Rows
abbrev TO := St -> Hp -> (Option Int -> Hp -> Prop) -> Prop
def ixN (n : Nat) (i : Int) : Option Nat := if 0 <= i then (if i < n then some i.toNat else none) else if -(n : Int) <= i then some (i + n).toNat else none
def atI {α : Type} (xs : List α) (i : Int) : Option α := (ixN xs.length i).bind fun j => xs[j]?
theorem ZJq {n : Nat} {i : Int} {j : Nat} (h : ixN n i = some j) : seqIndex? i n = some j /\ j < n /\ -(n : Int) <= i /\ i < n := by
 unfold ixN at h
 by_cases h0 : 0 <= i
 ·rw [if_pos h0] at h
  by_cases h1 : i < n
  ·rw [if_pos h1] at h
   have e : i.toNat = j := Option.some.inj h
   exact ⟨by rw [seqIndex_of h0 h1, e], by omega, by omega, h1⟩
  ·rw [if_neg h1] at h; cases h
 ·rw [if_neg h0] at h
  by_cases h1 : -(n : Int) <= i
  ·rw [if_pos h1] at h
   have e : (i + n).toNat = j := Option.some.inj h
   exact ⟨by rw [seqIndex_neg (by omega) h1, e], by omega, h1, by omega⟩
  ·rw [if_neg h1] at h; cases h
theorem ZJr {α : Type} {xs : List α} {i : Int} {v : α} (h : atI xs i = some v) : ∃ j, seqIndex? i xs.length = some j /\ xs[j]? = some v /\ j < xs.length /\ -(xs.length : Int) <= i /\ i < xs.length := by
 unfold atI at h
 cases e : ixN xs.length i with
 | none => rw [e] at h; cases h
 | some j =>
  rw [e] at h
  obtain ⟨h1, h2, h3, h4⟩ := ZJq e
  exact ⟨j, h1, h, h2, h3, h4⟩
theorem ZHA {α : Type} {xs : List α} {j : Nat} {v : α} (h : xs[j]? = some v) : atI xs (j : Int) = some v := by
 have hj : j < xs.length := (Um.mp h).1
 have e : ixN xs.length (j : Int) = some j := by
  unfold ixN
  rw [if_pos (by omega), if_pos (by omega)]; simp
 unfold atI; rw [e]; exact h
def ZJs (b : Expr) : Prop := ∀ o i, subscripted b false o i = operate [o, i] (getItem o i)
def IxR (X : Cx) (r : R2) : Prop :=
 ∀ (value slice : Expr) (pins : List (Addr × Obj)) (s : Shared) (U : St) (H : Hp) (x y : V) (v u : Value) (Q : VK), Inv X pins U H s -> ZB3 x v -> ZB3 y u -> r x y H Q ->
  subscripted slice false v u = operate [v, u] (getItem v u) -> wpAny (model X.prog X.w) X.A (subscriptTail value slice v u) (EP X pins U Q) X.xe s
def MtR (X : Cx) (id : String) (r : V -> List V -> Hp -> VK -> Prop) : Prop :=
 ∀ (pins : List (Addr × Obj)) (s : Shared) (U : St) (H : Hp) (x : V) (xs : List V) (v : Value) (us : List Value) (Q : VK), Inv X pins U H s -> ZB3 x v -> ZB6 xs us -> r x xs H Q ->
  wpAny (model X.prog X.w) X.A (call (.builtin id) (v :: us)) (EP X pins U Q) X.xe s
section
variable {X : Cx} {a b : Expr} {ta tb : TE} {pos : Pos}
theorem ZRU {r : R2} (hr : IxR X r) (ha : PE X a ta) (hb : PE X b tb) (hs : ZJs b) : PE X (.Subscript a b pos) (tOp r ta tb) := by
 intro pins s U H Q I h
 exact Subscript_ (ZMp ha hb I h fun v u s2 x y H2 I2 rx ry q => hr a b pins s2 U H2 x y v u Q I2 rx ry q (hs _ _))
def ZM2 (K : W.Frag) : R2 := fun x y H Q => ∃ p xs i v, x = .ref p /\ y = .int i /\ SqL K H p xs /\ atI xs i = some v /\ Q v H
def ZM3 (K : W.Frag) : R2 := fun x y H Q => ∃ p xs i v, x = .ref p /\ y = .int i /\ SqT K H p xs /\ atI xs i = some v /\ Q v H
theorem ZOx : IxR X (ZM2 X.K) := by
 intro value slice pins s U H x y v u Q I rx ry h hs
 obtain ⟨p, xs, i, z, rfl, rfl, hq, he, q⟩ := h
 cases rx
 obtain ⟨t, rfl⟩ := ry
 obtain ⟨its, r, pl, hz⟩ := I.list hq
 obtain ⟨j, h1, h2, h3, h4, h5⟩ := ZJr he
 obtain ⟨w, ew, rw'⟩ := r.get h2
 have hl := r.length
 have hn := ZGe
 have fin : EP X pins U Q w s := ⟨z, H, I, rw', q⟩
 by_cases h0 : 0 <= i
 ·have hj : i.toNat = j := by
   rw [seqIndex_of h0 h5] at h1
   exact Option.some.inj h1
  exact item_listR pl.isList h0 (by omega) (by rw [hj]; simpa using ew) fin hs
 ·have hj : (i + (its.toArray.size : Int)).toNat = j := by
   rw [seqIndex_neg (by omega) h4] at h1
   rw [Ut, <- hl]
   exact Option.some.inj h1
  exact subscriptTail_builtinR (x := w) pl.isList.typeIs slot_list_getitem.lookup
   (wpAny_getItem_list_neg (Q := fun r s' => r = w /\ EP X pins U Q r s') pl.isList (by omega) (by rw [Ut] <;> omega) (by omega) (by rw [hj]; simpa using ew) ⟨rfl, fin⟩) hs
theorem ZQU : IxR X (ZM3 X.K) := by
 intro value slice pins s U H x y v u Q I rx ry h hs
 obtain ⟨p, xs, i, z, rfl, rfl, hq, he, q⟩ := h
 cases rx
 obtain ⟨t, rfl⟩ := ry
 obtain ⟨its, r, pl, hz⟩ := I.tuple hq
 obtain ⟨j, h1, h2, h3, h4, h5⟩ := ZJr he
 obtain ⟨w, ew, rw'⟩ := r.get h2
 have hl := r.length
 have hn := ZGe
 have fin : EP X pins U Q w s := ⟨z, H, I, rw', q⟩
 exact subscriptTail_builtinR (x := w) pl.typeIs slot_tuple_getitem.lookup
  (getItem_tuple (j := j) (Q := fun r s' => r = w /\ EP X pins U Q r s') pl (by omega) (by omega) (by rw [Ut, <- hl]; exact h1) (by simpa using ew) ⟨rfl, fin⟩) hs
theorem ZKm (its : List Value) (n j : Nat) (u : Value) : Obj.mapSeq (·.setIfInBounds j u) { cls := .type "list", data := .seq its.toArray n } = { cls := .type "list", data := .seq (its.set j u).toArray n } := by
 simp [Obj.mapSeq]
theorem Inv.lst {pins : List (Addr × Obj)} {U : St} {H : Hp} {s : Shared} {p : Addr} {xs : List V} (I : Inv X pins U H s) (h : H p = some (.lst xs)) :
  ∃ (its : List Value) (n : Nat), ZB6 xs its /\ s.heap.get? p = some { cls := .type "list", data := .seq its.toArray n } /\ xs.length <= sizeLine := by
 obtain ⟨z, its, n, r, e⟩ := I.hok p _ h
 exact ⟨its, n, r, e, z⟩
theorem Inv.lstUpd {pins : List (Addr × Obj)} {U : St} {H : Hp} {s : Shared} {p : Addr} {xs ys : List V} {its its' : List Value} {n n' : Nat} {f : Obj -> Obj} (I : Inv X pins U H s) (h : H p = some (.lst xs))
  (ho : s.heap.get? p = some { cls := .type "list", data := .seq its.toArray n }) (hf : f { cls := .type "list", data := .seq its.toArray n } = { cls := .type "list", data := .seq its'.toArray n' }) (r : ZB6 ys its') (hz : ys.length <= sizeLine) (t : Nat) :
  Inv X pins U (upd H p (.lst ys)) { s with heap := s.heap.update p f, toks := t } := by
 have e : (s.heap.update p f).get? p = some { cls := .type "list", data := .seq its'.toArray n' } := by
  rw [Heap.get?_update_self f ho (by rw [hf] <;> rfl), hf]
 refine I.write (x := p) (e := p) (by rw [h]; trivial) (.inl rfl) (fun b u hb q => (Uq _ _ (Ne.symm hb)).trans q) ⟨_, e⟩ ?_
 exact ⟨hz, its', n', r, e⟩
def ZOJ : V -> V -> V -> Hp -> (Hp -> Prop) -> Prop := fun o i v H Q => ∃ p xs k j, o = .ref p /\ i = .int k /\ H p = some (.lst xs) /\ ixN xs.length k = some j /\ Q (upd H p (.lst (xs.set j v)))
theorem ZIT : ZMj X ZOJ := by
 intro pins s U H o i v ov iv u Q I ro ri rv h
 obtain ⟨p, xs, k, j, rfl, rfl, hp, hj, q⟩ := h
 cases ro
 obtain ⟨t, rfl⟩ := ri
 obtain ⟨its, n, r, ho, hz⟩ := I.lst hp
 obtain ⟨h1, h2, h3, h4⟩ := ZJq hj
 have hl := r.length
 have hn := ZGe
 have I' : Inv X pins U (upd H p (.lst (xs.set j v))) { s with heap := s.heap.update p (Obj.mapSeq (·.setIfInBounds j u)) } :=
  I.lstUpd hp ho (ZKm its n j u) (r.set rv j) (by rw [List.length_set]; exact hz) s.toks
 by_cases h0 : 0 <= k
 ·have hk : k.toNat = j := by
   rw [seqIndex_of h0 h4] at h1
   exact Option.some.inj h1
  exact PySem.W.ki_setAt ho h0 (by omega) (by rw [Ut, <- hl]; exact h4) (by rw [hk]; exact ⟨_, I', q⟩)
 ·have hk : (k + (its.toArray.size : Int)).toNat = j := by
   rw [seqIndex_neg (by omega) h3] at h1
   rw [Ut, <- hl]
   exact Option.some.inj h1
  exact PySem.W.ki_setBack ho (by omega) (by rw [Ut, <- hl]; exact h3) (by omega) (by rw [hk]; exact ⟨_, I', q⟩)
theorem ZIU : ZCe X (.builtin "len") (fun xs H Q => ∃ p ys, xs = [.ref p] /\ (SqL X.K H p ys \/ SqT X.K H p ys) /\ Q (.int ys.length) H) := by
 intro pins s U H xs us Q I r h
 obtain ⟨p, ys, rfl, hq, q⟩ := h
 obtain ⟨u, rfl, rx⟩ := ZGf r
 cases rx
 have hn := ZGe
 rcases hq with hq | hq
 ·obtain ⟨its, r', pl, hz⟩ := I.list hq
  have hlen := r'.length
  exact Calls.call_len_list pl.isList (by simp only [Ut] <;> omega) ⟨.int ys.length, H, I.tok _, ⟨s.toks + 1, by rw [Ut, hlen]⟩, q⟩
 ·obtain ⟨its, r', pl, hz⟩ := I.tuple hq
  have hlen := r'.length
  exact len_tuple pl (by simp only [Ut] <;> omega) ⟨.int ys.length, H, I.tok _, ⟨s.toks + 1, by rw [Ut, hlen]⟩, q⟩
theorem ZH0 : ZCe X (.type "tuple") (fun xs H Q => ∃ p ys, xs = [.ref p] /\ ((SqL X.K H p ys /\ ∀ l, H l = none -> Q (.ref l) (upd H l (.tup ys))) \/ (SqT X.K H p ys /\ Q (.ref p) H))) := by
 intro pins s U H xs us Q I r h
 obtain ⟨p, ys, rfl, h⟩ := h
 obtain ⟨u, rfl, rx⟩ := ZGf r
 cases rx
 rcases h with ⟨hq, q⟩ | ⟨hq, q⟩
 ·obtain ⟨its, r', pl, hz⟩ := I.list hq
  have hlen := r'.length
  refine call_tuple_list pl.isList (fun h' kp => ?_) (by simp only [Ut] <;> omega)
  have I1 : Inv X pins U H { s with heap := h' } := I.kept (t' := s.toks) kp
  have I2 : Inv X pins U (upd H h'.objs.size (.tup ys)) { s with heap := h'.push { cls := .type "tuple", data := .seq its.toArray } } :=
   I1.laid (t' := s.toks) (fun b o e => Ub _ e) (Uc _) (show ZCF X.prog X.w _ _ _ (.tup ys) from ⟨⟨hz, fun _ => ⟨_, Uk _ rfl, rfl, rfl⟩⟩, its, r', IsTup.new _ _⟩)
  exact ⟨.ref h'.objs.size, _, I2, rfl, q _ (I1.hok.fresh (Uc _))⟩
 ·obtain ⟨its, r', pl, hz⟩ := I.tuple hq
  exact call_tuple_same pl ⟨.ref p, H, I, rfl, q⟩
def tyV (K : W.Frag) (T : String) (x : V) (H : Hp) : Prop := match x with
 | .str _ => T = "str"
 | .int _ => T = "int"
 | .ref p => (T = "list" /\ ∃ xs, SqL K H p xs) \/ (T = "tuple" /\ ∃ o, K.lookup p = some o /\ o.cls = .type "tuple" /\ o.dict = none) \/
  (T = "dict" /\ ((∃ kvs, H p = some (.dK kvs)) \/ ∃ kvs, H p = some (.dT kvs))) \/ (T = "set" /\ ∃ S n, H p = some (.set S n))
 | _ => False
theorem ZQV {pins : List (Addr × Obj)} {U : St} {H : Hp} {s : Shared} {T : String} {x : V} {v : Value} (I : Inv X pins U H s) (r : ZB3 x v) (ty : tyV X.K T x H) :
  s.TypeIs v T /\ ∀ a, v = .ref a -> ∃ ob, s.heap.get? a = some ob /\ ob.dict = none := by
 cases x with
 | str z =>
  obtain ⟨t, rfl⟩ := r
  cases (show T = "str" from ty)
  exact ⟨typeIs_str s z t, fun _ e => nomatch e⟩
 | int i =>
  obtain ⟨t, rfl⟩ := r
  cases (show T = "int" from ty)
  exact ⟨typeIs_int s i t, fun _ e => nomatch e⟩
 | ref p =>
  cases r
  rcases ty with ⟨rfl, xs, hq⟩ | ⟨rfl, o, hk, hc, hd⟩ | ⟨rfl, hk⟩ | ⟨rfl, S, n, hk⟩
  ·obtain ⟨its, _, pl, _⟩ := I.list hq
   refine ⟨pl.isList.typeIs, fun a e => ?_⟩
   cases e
   obtain ⟨o, n, e, c, hd, _⟩ := pl
   exact ⟨o, e, hd⟩
  ·refine ⟨⟨o, I.kIn p o hk, hc⟩, fun a e => ?_⟩
   cases e
   exact ⟨o, I.kIn _ o hk, hd⟩
  ·have z : ∃ o, s.heap.get? p = some o /\ o.ExactDict := by
    rcases hk with ⟨kvs, hk⟩ | ⟨kvs, hk⟩
    ·obtain ⟨_, _, _, _, o, _, _, e, ex, _⟩ := I.hok p _ hk
     exact ⟨o, e, ex⟩
    ·obtain ⟨_, _, _, _, o, _, _, e, ex, _⟩ := I.hok p _ hk
     exact ⟨o, e, ex⟩
   obtain ⟨o, e, ex⟩ := z
   refine ⟨⟨o, e, ex.1⟩, fun a e2 => ?_⟩
   cases e2
   exact ⟨o, e, ex.2.1⟩
  ·obtain ⟨o, _, _, _, e, ex, _⟩ := I.hok p _ hk
   refine ⟨⟨o, e, ex.1⟩, fun a e2 => ?_⟩
   cases e2
   exact ⟨o, e, ex.2.1⟩
 | _ => exact False.elim ty
def tBM (K : W.Frag) (T : String) (r : V -> List V -> Hp -> VK -> Prop) (to : TE) (t : TA) : TE := fun U H Q => to U H fun x H1 => tyV K T x H1 /\ t U H1 fun xs H2 => r x xs H2 Q
variable {o e : Expr} {es : List Expr} {to : TE} {t : TA} {name : Str} {apos cpos : Pos} {T id : String} {r : V -> List V -> Hp -> VK -> Prop}
theorem ZRV (pa : PlainAttrs T) (slot : Slot T name id) (hty : typeOf (.builtin id) = pure (.type "method_descriptor")) (hm : MtR X id r) (ho : PE X o to) (ha : PA X (e :: es) t)
  (hbase : attributeBase o name X.env (eval o X.env) = eval o X.env := by rfl)
  (hfew : ((backTo cpos (starEach (e :: es) X.env)).all (fun x => !x.1) && (backToKw cpos (keywordEach [] X.env)).all (fun x => x.1.isSome)
   && decide ((e :: es).length + ([] : List Keyword).length + (if ([] : List Keyword).isEmpty then 0 else 1) < 30)) = true := by rfl)
  (hline : (apos.endLine == cpos.line) = true := by rfl) (hs : starEach (e :: es) X.env = (false, eval e X.env) :: starEach es X.env := by rfl) (hplain : (backTo cpos (starEach es X.env)).any (·.1) = false := by rfl) :
  PE X (.Call (.Attribute o name apos) (e :: es) [] cpos) (tBM X.K T r to t) := by
 intro pins s U H Q I h
 refine wpAny_Call_method_late hbase hfew hline rfl (thn (ho pins s U H _ I h) fun v s1 ⟨x, H1, I1, r1, ty, q1⟩ => ?_)
 obtain ⟨h1, h2⟩ := ZQV I1 r1 ty
 refine ⟨T, id, pa, slot, hty, h1, h2, ?_⟩
 have hA := ha cpos pins s1 U H1 _ I1 q1
 rw [hs] at hA ⊢
 refine Calls.callWith_builtin (by show (false || (backTo cpos (starEach es X.env)).any (·.1)) = false; rw [hplain] <;> rfl) (Calls.evalArgs_plain ?_)
 exact thn hA fun us s2 ⟨vs, H2, I2, r2, q2⟩ => hm pins s2 U H2 x vs v us Q I2 r1 r2 q2
end
def MtM (X : Cx) (id : String) (r : V -> List V -> Hp -> VK -> Prop) : Prop :=
 ∀ (pins : List (Addr × Obj)) (s : Shared) (U : St) (H : Hp) (x : V) (xs : List V) (v : Value) (us : List Value) (Q : VK), Inv X pins U H s -> ZB3 x v -> ZB6 xs us -> r x xs H Q ->
  wpAny (model X.prog X.w) X.A (call (.builtin id) (v :: us)) (EP X pins U Q) X.xe s
theorem ZB6.one : ∀ {x : V} {us : List Value}, ZB6 [x] us -> ∃ u, us = [u] /\ ZB3 x u
 | _, _, .cons r .nil => ⟨_, rfl, r⟩
theorem ZB6.two : ∀ {x y : V} {us : List Value}, ZB6 [x, y] us -> ∃ u v, us = [u, v] /\ ZB3 x u /\ ZB3 y v
 | _, _, _, .cons r (.cons q .nil) => ⟨_, _, rfl, r, q⟩
section
variable {X : Cx} {pins : List (Addr × Obj)} {U : St} {H : Hp} {s : Shared} {l b : Addr} {xs ys zs : List V}
theorem Inv.lset {its its' : List Value} {n : Nat} {f : Array Value -> Array Value} {t' : Nat} (I : Inv X pins U H s) (hH : H l = some (.lst xs))
  (e : s.heap.get? l = some { cls := .type "list", data := .seq its.toArray n }) (hf : f its.toArray = its'.toArray) (hv : ZB6 ys its') (hz : ys.length <= sizeLine) :
  Inv X pins U (upd H l (.lst ys)) { s with heap := s.heap.update l (Obj.mapSeq f), toks := t' } := by
 have q := PySem.IsL.update e f
 rw [hf] at q
 refine I.write (x := l) (e := l) (by rw [hH]; exact trivial) (.inl rfl) (fun b' u hb hu => (Uq s.heap (Obj.mapSeq f) (Ne.symm hb)).trans hu) ⟨_, q⟩ ?_
 exact ⟨hz, its', _, hv, q⟩
theorem Inv.lstM (I : Inv X pins U H s) (hH : H l = some (.lst xs)) : xs.length <= sizeLine /\ ∃ (its : List Value) (n : Nat), ZB6 xs its /\ xs.length = its.length /\ s.heap.get? l = some { cls := .type "list", data := .seq its.toArray n } := by
 obtain ⟨z, its, n, r, e⟩ := I.hok l _ hH
 exact ⟨z, its, n, r, r.length, e⟩
end
section
variable {X : Cx}
def ZJt : V -> List V -> Hp -> VK -> Prop := fun x vs H Q => ∃ l xs y, x = .ref l /\ vs = [y] /\ H l = some (.lst xs) /\ xs.length < sizeLine /\ Q .non (upd H l (.lst (xs ++ [y])))
theorem ZDt : MtM X "list.append" ZJt := by
 intro pins s U H x vs v us Q I rx rv h
 obtain ⟨l, xs, y, rfl, rfl, hH, hz, q⟩ := h
 cases rx
 obtain ⟨u, rfl, ru⟩ := rv.one
 obtain ⟨z, its, n, r, hl, e⟩ := I.lstM hH
 refine call_meets F.slot_list_append ⟨_, e, rfl⟩ F.entry_list_append (F.args_list_append_2 _ _) (PySem.list_append l its.toArray n u (by rw [Ut]; omega)) ⟨e, ?_⟩
 refine ⟨.non, _, I.lset (its' := its ++ [u]) hH e (by simp) (r.append (.cons ru .nil)) ?_, rfl, q⟩
 rw [UD, List.length_singleton]
 omega
end
end L2
namespace Att
open PySem PySem.W PySem.Calls PyProof.Rows
theorem ZGj {P : Params} {h : Heap} : ∀ (ns : List Int) (vs : List Value), WellAll P h vs (ns.map WData.int) -> IntsAre vs ns := by
 intro ns
 induction ns with
 | nil =>
  intro vs w
  rw [List.map_nil] at w
  cases w
  exact .nil
 | cons n ns ih =>
  intro vs w
  rw [Uw] at w
  cases w with
  | cons a b =>
   cases a
   exact .cons _ _ (ih _ b)
theorem ZLY {l : OpenLaw} {n : Nat} (hn : l.most = some n) {P : Params} {h : Heap} {args : List WData} {vals : List Value}
  (hpre : l.row.toRowW.claim.pre args = true) (hwl : WellAll P h vals args) :
  ∃ a vs ns, vals = [Value.ref a] /\ args = [WData.list (ns.map WData.int)] /\ h.get? a = some { cls := .type "list", data := .seq vs.toArray } /\ IntsAre vs ns /\ ns.length <= n := by
 have hsh : WShape.hasAll [] args [.list .int] = true := (pre_splitW hpre).1
 have hc : l.pre.holds [] { args := args } = true := (pre_splitW hpre).2
 obtain ⟨d, r, rfl, h1, h2⟩ := hasAllW_cons hsh
 obtain rfl := hasAllW_nil h2
 obtain ⟨xs, rfl, h3⟩ := hasW_list h1
 obtain ⟨ns, rfl⟩ := items_int h3
 have hlen : ns.length <= n := by
  unfold OpenLaw.pre at hc
  have h4 : (WTm.not (.lt (.lit (.int (n : Int))) (.len (.arg 0)))).holds [] { args := [.list (ns.map .int)] } = true := by
   have h4 := (holds_andW hc).1
   rw [hn] at h4
   exact h4
  have h5 := condW_of h4 (w_not (w_lt w_lit (w_len_list (w_arg rfl))))
  rw [Ur] at h5
  refine Nat.le_of_not_lt fun q => ?_
  have q' : (n : Int) < ((ns.length : Nat) : Int) := by omega
  first
   | (rw [decide_eq_true q'] at h5; exact absurd h5 (by decide))
   | (simp at h5; omega)
 cases hwl with
 | cons w1 w2 =>
  cases w2
  cases w1 with
  | list ho hall => exact ⟨_, _, ns, rfl, rfl, ho, ZGj ns _ hall, hlen⟩
theorem ZLZ (l : OpenLaw) (args : List WData) : l.row.toRowW.claim.post args (.bool true) args = true :=
 postW_of (r := l.row.toRowW) (X := (true == true))
  (show WShape.has [] (.bool true) .bool = true by first | rfl | decide | simp [WShape.has, WShape.arms, WShape.armsAll])
  (show (WTm.eq .res (.lit (.bool true))).value [] { args := args, res := some (.bool true), after := args } = some (.bool (true == true)) from w_eq_bool (w_res rfl) w_lit) rfl
theorem attach_call {l : OpenLaw} {n : Nat} {q : Program} {loose : List Str} {XP : (Str -> Option Value) -> Heap -> Prop} {YP : World -> Heap -> Prop} {d : DefRec}
  (hn : l.most = some n) (hdf : d.params.defaults = [])
  (call : ∀ (w : World) (s₀ s₁ : Shared) (mg mb : Str -> Option Value) (fa : Addr) (o : Obj) (pm cd doc : Value) (a : Addr) (vs : List Value) (ns : List Int),
   Ground q loose [] XP w s₀ mg mb s₁.heap -> YP w s₁.heap ->
   s₁.heap.get? fa = some o -> o.data = .func (docDef d.name d.params d.body d.scope pm cd doc) -> s₁.heap.CodeRec cd d.name -> mg d.name = some (.ref fa) ->
   s₁.heap.get? a = some { cls := .type "list", data := .seq vs.toArray } -> IntsAre vs ns -> ns.length <= n -> s₁.gens = #[] ->
   codeAny (model l.prog w) callerA (.call (.ref fa) ⟨[.ref a], []⟩) (fun r s' => r = .ok (.ret (.bool true)) /\ OldK s₁.heap s'.heap /\ s'.os = s₁.os /\ AllBare s'.gens) s₁) :
  WalkO q loose XP YP l.row.toRowW d [] (fun f vs => PySem.call f vs) := by
 intro w s₀ s₁ mg mb G Y fa o pm cd doc dV kV ho hd hcd hD hmg hg args vals as hpre hlay hrd hwl hlo
 obtain rfl : dV = .none := Dflts.none hD hdf
 obtain rfl : kV = .none := Dflts.noKw hD
 obtain ⟨a, vs, ns, rfl, rfl, hobj, hints, hlen⟩ := ZLY hn hpre hwl
 refine enter_call (codeAny_mono (call w s₀ s₁ mg mb fa o pm cd doc a vs ns G Y ho (fd_plain hd) hcd hmg hobj hints hlen hg) fun r s' hq => ?_)
 obtain ⟨rfl, h2, h3, h4⟩ := hq
 exact ⟨.inl ⟨.bool true, .bool true, [], rfl, fun _ => rfl, .bool true, ZLZ l _, fun _ => ⟨List.Pairwise.nil, fun _ hm => (nomatch hm)⟩⟩, h2, h3, h4⟩
section
variable {prog : Program} {w : World} {A : Around} {E : Value -> Shared -> Prop} {s : Shared} {K : Frag}
def ZRy (h : Heap) (L d : Addr) : List (Addr × Obj) := (List.range h.objs.size).filterMap fun a => if a = L \/ a = d then none else (h.get? a).map fun o => (a, o)
end
end Att
namespace L2
open PySem PySem.Spec PyProof.Rows
theorem ZHc : ∀ {vs : List Value} {ns : List Int}, IntsAre vs ns -> ZB6 (ns.map V.int) vs
 | _, _, .nil => .nil
 | _, _, .cons n t h => .cons ⟨t, rfl⟩ (ZHc h)
def ZM4 (H : Hp) : Prop := ∀ b, H b = none \/ ∃ o xs, H b = some (.frz o (.lst xs))
theorem ZM5 {P : Program} {w : World} {K : W.Frag} {mg mb : Str -> Option Value} {CX : CXT} {k : Nat} {fa a : Addr} {fd : FuncData} {x : Str} {sp : Sp} {s₁ : Shared} {vs : List Value} {ns : List Int}
  (KX : K.In s₁.heap) (hns : s₁.heap.Ns mainGlobals mg) (hb : s₁.heap.Ns builtinsNs mb) (hbb : ∀ x : Str, x ≠ "__name__" -> mb x = bootBuiltins x) (hlim : s₁.heap.NoLimit) (hg : s₁.gens = #[])
  (ha : s₁.heap.get? a = some { cls := .type "list", data := .seq vs.toArray }) (hi : IntsAre vs ns) (hl : ns.length <= sizeLine) (hr : Room k callerA)
  (F : ∀ base : Heap, K.In base -> base.Ns mainGlobals mg -> ZB2 P w K mg base CX k fa fd [x] sp) (hbind : ∀ (s : Shared) (u : Value), BindsTo s fd ⟨[u], []⟩ [(x, u)])
  (hsp : ∀ H : Hp, ZM4 H -> SqL K H a (ns.map V.int) -> sp [.ref a] H (fun v _ => v = .bl true) fun _ _ _ => False)
  (hCX : ∀ H e s', CX [] H s₁ (fun _ _ _ => False) e s' -> False) :
  codeAny (model P w) callerA (.call (.ref fa) ⟨[.ref a], []⟩) (fun r s' => r = .ok (.ret (.bool true)) /\ OldK s₁.heap s'.heap /\ s'.os = s₁.os /\ AllBare s'.gens) s₁ := by
 have rv := ZHc hi
 have lenV := hi.length
 -- from an abstract heap in which nothing but the script may be tracked
 have core : ∀ H : Hp, ZM4 H -> SqL K H a (ns.map V.int) -> HOk P w H s₁.heap -> (∀ b, H b ≠ none -> b = a) -> (H a ≠ none -> K.lookup a = none) ->
   codeAny (model P w) callerA (.call (.ref fa) ⟨[.ref a], []⟩) (fun r s' => r = .ok (.ret (.bool true)) /\ OldK s₁.heap s'.heap /\ s'.os = s₁.os /\ AllBare s'.gens) s₁ := by
  intro H hO hS hok hA hK
  have base_of : ∀ {b : Addr} {o : Obj}, s₁.heap.get? b = some o -> H b = none -> (ZEn s₁.heap H).get? b = some o := fun e n => ZMa e n
  have noA : ∀ {b : Addr} {o : Obj} {es : Array DictEntry} {ep : Nat}, s₁.heap.get? b = some o -> o.data = .dict es ep -> H b = none := fun {b o es ep} e d => by
   cases q : H b with
   | none => rfl
   | some u =>
    have e' : b = a := hA b (by rw [q]; simp)
    subst e'
    rw [ha] at e; cases e
    have d' : Data.seq vs.toArray _ = Data.dict es ep := d
    cases d'
  have nsK : ∀ {b : Addr} {m : Str -> Option Value}, s₁.heap.Ns b m -> (ZEn s₁.heap H).Ns b m := fun {b m} ⟨o, es, ep, e, d, r⟩ => ⟨o, es, ep, base_of e (noA e d), d, r⟩
  have hKb : K.In (ZEn s₁.heap H) := fun b o e => base_of (KX b o e) (by
   cases q : H b with
   | none => rfl
   | some u =>
    have e' : b = a := hA b (by rw [q]; simp)
    subst e'
    rw [hK (by rw [q]; simp)] at e; cases e)
  have hM : Mod K mg (ZEn s₁.heap H) := ⟨hKb, nsK hns, ⟨mb, nsK hb, hbb⟩, let ⟨mc, h1, h2⟩ := hlim; ⟨mc, nsK h1, h2⟩⟩
  have e0 : ZET P w K mg (ZEn s₁.heap H) callerA [] s₁ H := ⟨rfl, hM, fun b o e => ZOY e, Nat.le_of_eq (ZLI _ _), trivial, fun b hb => absurd (show b ∈ ([] : List Addr) from hb) (by simp), hok, .of_eq hg⟩
  refine codeAny_mono ((F _ hKb (nsK hns)).run callerA [] s₁ H ⟨[.ref a], []⟩ [.ref a] [.ref a] _ _ hr e0 (hbind s₁ (.ref a)) (.cons rfl .nil) (hsp H hO hS)) fun r s' h => ?_
  cases r with
  | error e => exact (hCX H e s' h).elim
  | ok fl =>
   cases fl with
   | next => exact False.elim h
   | brk => exact False.elim h
   | cont => exact False.elim h
   | ret u =>
    obtain ⟨v, H', os, bare, un, hok', r', q⟩ := h
    have q' : v = .bl true := q
    subst q'
    obtain rfl : u = Value.bool true := r'
    refine ⟨rfl, OldK.of_keep fun b o e => ?_, os, bare⟩
    cases q : H b with
    | none => exact un.keep b o e q (by intro z; exact absurd (show b ∈ ([] : List Addr) from z) (by simp)) (by simp)
    | some u =>
     rcases hO b with z | ⟨ob, xs, z⟩
     ·rw [q] at z; cases z
     ·have z2 := un.frzs b ob _ z
      obtain ⟨e1, _⟩ := hok b _ z
      obtain ⟨e2, _⟩ := hok' b _ z2
      rw [e] at e1; cases e1
      exact e2
 cases hk : K.lookup a with
 | some o =>
  -- the script is one of the module's own objects
  have e := KX a o hk
  rw [ha] at e
  cases e
  refine core (fun _ => none) (fun _ => .inl rfl) (.inr ⟨_, vs.toArray, _, hk, rfl, rfl, rfl, by rw [Ut, lenV]; exact hl, by simpa using rv⟩) (fun b u z => by have z' : (none : Option HO) = some u := z; cases z') (fun b z => absurd rfl z) fun z => absurd rfl z
 | none =>
  refine core (fun b => if b = a then some (.frz { cls := .type "list", data := .seq vs.toArray } (.lst (ns.map V.int))) else none) (fun b => ?_) (.inl (.inr ⟨{ cls := .type "list", data := .seq vs.toArray }, if_pos rfl⟩)) (fun b u z => ?_) (fun b z => ?_) fun _ => hk
  ·by_cases hb : b = a
   ·exact .inr ⟨_, _, if_pos hb⟩
   ·exact .inl (if_neg hb)
  ·by_cases hb : b = a
   ·have z' := (if_pos hb).symm.trans z
    cases z'
    subst hb
    exact ⟨ha, by rw [Ur]; exact hl, vs, _, rv, ha⟩
   ·have z' := (if_neg hb).symm.trans z
    cases z'
  ·by_cases hb : b = a
   ·exact hb
   ·exact absurd (if_neg hb) z
theorem walk_of {l : PySem.W.OpenLaw} {n k : Nat} {q : Program} {loose : List Str} {XP : (Str -> Option Value) -> Heap -> Prop} {YP : World -> Heap -> Prop} {d : DefRec} {K : Params -> W.Frag} {CX : World -> CXT} {sp : World -> Sp} {x : Str}
  (hn : l.most = some n) (hn2 : n <= sizeLine) (hdf : d.params.defaults = []) (hr : Room k callerA)
  (hY : ∀ (w : World) (h : Heap), YP w h -> (K w.params).In h)
  (F : ∀ (w : World) (mg : Str -> Option Value) (fa : Addr) (h : Heap), (K w.params).In h -> h.Ns mainGlobals mg -> mg d.name = some (.ref fa) ->
   ∃ fd : FuncData, (∀ (s : Shared) (u : Value), BindsTo s fd ⟨[u], []⟩ [(x, u)]) /\
    ∀ base : Heap, (K w.params).In base -> base.Ns mainGlobals mg -> ZB2 l.prog w (K w.params) mg base (CX w) k fa fd [x] (sp w))
  (hsp : ∀ (w : World) (H : Hp) (a : Addr) (ns : List Int), ns.length <= n -> ZM4 H -> SqL (K w.params) H a (ns.map V.int) -> sp w [.ref a] H (fun v _ => v = .bl true) fun _ _ _ => False)
  (hCX : ∀ (w : World) (H : Hp) (s : Shared) (e : Value) (s' : Shared), CX w [] H s (fun _ _ _ => False) e s' -> False) :
  PySem.W.WalkO q loose XP YP l.row.toRowW d [] (fun f vs => PySem.call f vs) := by
 refine Att.attach_call hn hdf fun w s₀ s₁ mg mb fa o pm cd doc a vs ns G Y ho hd hcd hmg hobj hints hlen hg => ?_
 have KX := hY w _ Y
 obtain ⟨fd, hb, hF⟩ := F w mg fa _ KX G.T.g hmg
 exact ZM5 KX G.T.g G.T.b G.T.builtins G.T.nolimit hg hobj hints (UF hlen hn2) hr hF hb (fun H hO hS => hsp w H a ns hlen hO hS) fun H e s' => hCX w H s₁ e s'
end L2
namespace L2
open PySem PySem.Spec PyProof.Rows
def ZCO (s : Stmt) (j : Nat) : Stmt := match s with
 | .ClassDef _ _ _ body _ _ _ _ _ _ _ => body.getD j (.Pass ⟨0, 0, 0, 0⟩)
 | _ => .Pass ⟨0, 0, 0, 0⟩
def ZCa (s : Stmt) : Arguments := match s with
 | .FunctionDef _ a _ _ _ _ _ _ _ _ => a
 | _ => { posonlyargs := [], args := [], vararg := none, kwonlyargs := [], kw_defaults := [], kwarg := none, defaults := [] }
def ZCP (s : Stmt) : List Stmt := match s with
 | .FunctionDef _ _ b _ _ _ _ _ _ _ => b
 | _ => []
def ZBv (s : Stmt) : Scope := match s with
 | .FunctionDef _ _ _ _ _ _ sc _ _ _ => sc
 | _ => { kind := .function, names := [], isGenerator := false, isCoroutine := false }
abbrev CX0 : CXT := fun _ _ _ _ _ _ => False
abbrev E0 : XK := fun _ _ _ => False
theorem ZC1 {X : Cx} : ZCy CX0 X E0 := fun _ _ _ _ _ _ _ h => h.elim
structure Fun (K : W.Frag) (x qual : Str) (st : Stmt) (f : Addr) (fd : FuncData) : Prop where
 ex : ∃ (oc : Value) (od : Option Addr) (kV doc pm : Value) (an : Option Addr) (cdv ct : Value) (osl : Array (Option Value)),
  fd = W.fnOf x qual (ZCa st) (ZCP st) (ZBv st) .none kV doc pm an cdv ct /\ K.lookup f = some ⟨oc, od, .func fd, osl⟩ /\ W.codeIn K cdv qual = true
 kp : W.keepIn K (.ref f) = true
section
variable {P : Program} {w : World} {K : W.Frag} {mg : Str -> Option Value} {base : Heap}
theorem Fun.ok {x qual : Str} {st : Stmt} {f : Addr} {fd : FuncData} {N ps : List Str} {k : Nat} {sp : Sp} (F : Fun K x qual st f fd) (S : ZB4 N ps (ZBv st)) (len : ∀ vs H Q E, sp vs H Q E -> vs.length = ps.length)
  (hbody : ∀ (cdv : Value) (A : Around) (outer : List Env) (s : Shared) (H : Hp) (vs : List V) (Q : VK) (E : XK), Room k (A.deeper (envOfC qual (ZBv st) s.heap.objs.size f cdv)) -> sp vs H Q E ->
   ∃ t, PSs (ZFV CX0 P w K mg base N qual (ZBv st) f cdv A outer s H E).nox (ZCP st) t /\ t { nx := fun _ H' => Q .non H', rt := Q } (start N vs) H) : ZB2 P w K mg base CX0 (k + 1) f fd ps sp := by
 obtain ⟨oc, od, kV, doc, pm, an, cdv, ct, osl, rfl, lk, hcd⟩ := F.ex
 refine ZKl lk hcd S len fun A outer s H vs Q E hr hsp => ?_
 obtain ⟨t, h, q⟩ := hbody cdv A outer s H vs Q E hr hsp
 exact ⟨t, h.nox, q⟩
theorem Fun.binds {x qual : Str} {st : Stmt} {f : Addr} {fd : FuncData} {ps : List Str} (F : Fun K x qual st f fd)
  (h : ∀ (kV doc pm : Value) (an : Option Addr) (cdv ct : Value) (us : List Value), us.length = ps.length -> bindArgs (W.fnOf x qual (ZCa st) (ZCP st) (ZBv st) .none kV doc pm an cdv ct) ⟨us, []⟩ = pure (ps.zip us)) : ZBz K fd ps [] := by
 obtain ⟨oc, od, kV, doc, pm, an, cdv, ct, osl, rfl, lk, hcd⟩ := F.ex
 exact .all (h kV doc pm an cdv ct)
theorem fun_mk {x qual : Str} {st : Stmt} {f : Addr} {oc : Value} {od an : Option Addr} {osl : Array (Option Value)} {kV doc pm cdv ct : Value} (l : K.lookup f = some ⟨oc, od, .func (W.fnOf x qual (ZCa st) (ZCP st) (ZBv st) .none kV doc pm an cdv ct), osl⟩)
 (c : W.codeIn K cdv qual = true) (k : W.keepIn K (.ref f) = true) : Fun K x qual st f (W.fnOf x qual (ZCa st) (ZCP st) (ZBv st) .none kV doc pm an cdv ct) := ⟨⟨oc, od, kV, doc, pm, an, cdv, ct, osl, rfl, l, c⟩, k⟩
end
theorem ZC4 {A : Around} {k : Nat} (hr : Room k A) : A.units + 1 < cLine := Ux (Nat.add_le_add_left (by decide : 1 <= 64) _) hr.units
theorem ZDN {A B : Prop} (h : B) : if false = true then A else B := by
 rw [if_neg UE]
 exact h
theorem ZDW {A B : Prop} (h : A) : if true = true then A else B := by
 rw [if_pos rfl]
 exact h
def ZB1 (H H' : Hp) : Prop := ∀ b o, H b = some o -> H' b = some o
theorem ZB1.refl (H : Hp) : ZB1 H H := fun _ _ h => h
theorem ZB1.trans {H H1 H2 : Hp} (a : ZB1 H H1) (b : ZB1 H1 H2) : ZB1 H H2 := fun c o h => b c o (a c o h)
theorem ZB1.seq {K : W.Frag} {H H' : Hp} {a : Addr} {xs : List V} (e : ZB1 H H') (h : SqL K H a xs) : SqL K H' a xs := by
 rcases h with (h | ⟨o, h⟩) | h
 ·exact .inl (.inl (e _ _ h))
 ·exact .inl (.inr ⟨o, e _ _ h⟩)
 ·exact .inr h
end L2
namespace L2
open PySem PySem.Spec PyProof.Rows PySem.W
section
variable {X : Cx}
theorem ZDS : OpR X (binaryOp .Mult) (rI IntMulOk fun i j => .int (i * j)) := opI fun _ _ _ _ _ _ _ hc q => mul_int q hc
def ZFt (_ j : Int) : Prop := 0 < j /\ j.natAbs.log2 < 9000
theorem ZGL : OpR X (binaryOp .FloorDiv) (rI ZFt fun i j => .int (i / j)) := opI fun i j _ _ _ _ _ hc q => by
 have h1 : (0 : Int) < j := hc.1
 exact floordiv_int (by omega) (by rw [Int.fdiv_eq_ediv_of_nonneg i (by omega)]; exact q) (.inl (PyProof.noPylong_of_log2 hc.2))
theorem ZFt.of {i j : Int} (h : 0 < j) {k : Nat} (h2 : j < 2 ^ k) (hk : k <= 9000) : ZFt i j := by
 refine ⟨h, ?_⟩
 have h3 : j.natAbs < 2 ^ k := by
  have e : ((j.natAbs : Nat) : Int) = j := by omega
  have e2 : ((2 ^ k : Nat) : Int) = (2 : Int) ^ k := by simp
  have : ((j.natAbs : Nat) : Int) < ((2 ^ k : Nat) : Int) := by rw [e, e2]; exact h2
  exact Int.ofNat_lt.mp this
 have h4 : j.natAbs.log2 < k := (Nat.log2_lt (by omega)).mpr h3
 omega
theorem ZRo {i j : Int} (h1 : -(2 ^ 64) < i) (h2 : i < 2 ^ 64) : IntMulOk i j := .of_left (intBits_le_64 h1 h2)
theorem ZRp {i j : Int} (h1 : -(2 ^ 64) < j) (h2 : j < 2 ^ 64) : IntMulOk i j := .of_right (intBits_le_64 h1 h2)
theorem ZB3.bool_iff {x : V} {v : Value} {b : Bool} (r : ZB3 x v) : (v == Value.bool b) = decide (x = .bl b) := by
 cases x with
 | non => cases r; rfl
 | bl c => cases r; cases b <;> cases c <;> rfl
 | int _ => obtain ⟨t, rfl⟩ := r; rfl
 | str _ => obtain ⟨t, rfl⟩ := r; rfl
 | byt _ => obtain ⟨t, rfl⟩ := r; rfl
 | flt _ => obtain ⟨t, rfl⟩ := r; rfl
 | ref _ => cases r; rfl
 | ty _ => cases r; rfl
theorem ZB3.plainB {x : V} {v : Value} {b : Bool} (r : ZB3 x v) : plainIs v (.bool b) = true := by
 cases x with
 | non => cases r; rfl
 | bl c => cases r; rfl
 | int _ => obtain ⟨t, rfl⟩ := r; rfl
 | str _ => obtain ⟨t, rfl⟩ := r; rfl
 | byt _ => obtain ⟨t, rfl⟩ := r; rfl
 | flt _ => obtain ⟨t, rfl⟩ := r; rfl
 | ref _ => cases r; rfl
 | ty _ => cases r; rfl
theorem ZQW : OpR X (compareOp .Is) (fun x y H Q => ∃ b, y = .bl b /\ Q (.bl (decide (x = .bl b))) H) := by
 intro pins s U H x y v u Q I rx ry h
 obtain ⟨b, rfl, q⟩ := h
 obtain rfl : u = Value.bool b := ry
 exact wpAny_is_plain rx.plainB ⟨.bl _, H, I, by rw [rx.bool_iff]; rfl, q⟩
def ZM6 (K : W.Frag) : List V -> Hp -> VK -> Prop := fun xs H Q => ∃ x n t b, xs = [x, .ty n] /\ ZDf K H x t /\ W.kitOne K t (.type n) = some b /\ Q (.bl b) H
theorem ZM7 : ZCe X (.builtin "isinstance") (ZM6 X.K) := by
 intro pins s U H xs us Q I r h
 obtain ⟨x, n, t, b, rfl, ty, e, q⟩ := h
 obtain ⟨u, v, rfl, ru, rv⟩ := r.two
 obtain rfl : v = Value.type n := rv
 exact ZLV I ru ty e fun tk => ⟨.bl b, H, I.tok _, rfl, q⟩
end
theorem ZH1 {l : List (Str × Addr)} {x : Str} {c : Addr} (h : (x, c) ∈ l) : ∃ d, l.lookup x = some d := by
 induction l with
 | nil => cases h
 | cons p r ih =>
  obtain ⟨y, d⟩ := p
  cases hx : x == y with
  | true => exact ⟨d, by simp [Ui, hx]⟩
  | false =>
   have hr : (x, c) ∈ r := by
    rcases Uj.mp h with e | e
    ·cases e
     simp at hx
    ·exact e
   obtain ⟨d', e⟩ := ih hr
   exact ⟨d', by simp only [Ui, hx]; exact e⟩
theorem ZEB {env : Env} : ∀ (names : List (Str × NameKind)) (acc : List (Str × Addr)), (∀ y ∈ names, y.2 = NameKind.free -> ∃ c, env.cells.lookup y.1 = some c) -> (∀ p ∈ acc, env.cells.lookup p.1 = some p.2) ->
  ∃ cl : List (Str × Addr), (forIn names acc fun (x : Str × NameKind) (r : List (Str × Addr)) => (match x with | (name, kind) => if (kind == NameKind.free) = true then (do let a <- cellOf env name; pure (ForInStep.yield ((name, a) :: r))) else pure (ForInStep.yield r) : Sem (ForInStep (List (Str × Addr))))) = pure cl
   /\ (∀ p ∈ cl, env.cells.lookup p.1 = some p.2) /\ (∀ p ∈ acc, p ∈ cl) /\ ∀ y ∈ names, y.2 = NameKind.free -> ∃ c, (y.1, c) ∈ cl
 | [], acc, _, ha => ⟨acc, by simp, ha, fun _ h => h, fun y h => by cases h⟩
 | (n, k) :: r, acc, h, ha => by
  by_cases hk : k = NameKind.free
  ·subst hk
   obtain ⟨c, hc⟩ := h (n, .free) Uy rfl
   obtain ⟨cl, e, h1, h2, h3⟩ := ZEB r ((n, c) :: acc) (fun y hy => h y (Uu _ hy)) (fun p hp => by
    rcases Uj.mp hp with rfl | hp
    ·exact hc
    ·exact ha p hp)
   refine ⟨cl, ?_, h1, fun p hp => h2 p (Uu _ hp), fun y hy hf => ?_⟩
   ·rw [List.forIn_cons]
    simp only [beq_self_eq_true, if_true, cellOf, hc, pure_bind]
    exact e
   ·rcases Uj.mp hy with rfl | hy
    ·exact ⟨c, h2 _ Uy⟩
    ·exact h3 y hy hf
  ·obtain ⟨cl, e, h1, h2, h3⟩ := ZEB r acc (fun y hy => h y (Uu _ hy)) ha
   have hb : (k == NameKind.free) = false := by simpa using hk
   refine ⟨cl, ?_, h1, h2, fun y hy hf => ?_⟩
   ·rw [List.forIn_cons]
    simp only [hb, Uo, if_false, pure_bind]
    exact e
   ·rcases Uj.mp hy with rfl | hy
    ·exact absurd hf hk
    ·exact h3 y hy hf
theorem ZKn {scope : Scope} {env : Env} (h : ∀ y ∈ scope.names, y.2 = NameKind.free -> ∃ c, env.cells.lookup y.1 = some c) :
  ∃ cl, closureFor scope env = pure cl /\ (∀ x c, cl.lookup x = some c -> env.cells.lookup x = some c) /\ ∀ y ∈ scope.names, y.2 = .free -> ∃ c, cl.lookup y.1 = some c := by
 obtain ⟨cl, e, h1, _, h3⟩ := ZEB scope.names [] h (fun p hp => by cases hp)
 refine ⟨cl, ?_, fun x c hx => h1 (x, c) (PySem.mem_of_lookup hx), fun y hy hf => ?_⟩
 ·simp only [closureFor]
  rw [e]
  rfl
 ·obtain ⟨c, hc⟩ := h3 y hy hf
  exact ZH1 hc
theorem ZEg {env : Env} : ∀ (names : List (Str × NameKind)) (x : Str),
  (names.map fun (n, k) => if (k == NameKind.free && env.scope.kind == .function && env.kindOf n == some .cell) then (n, NameKind.cell) else (n, k)).lookup x =
   (names.lookup x).map fun k => if (k == NameKind.free && env.scope.kind == .function && env.kindOf x == some .cell) then NameKind.cell else k
 | [], _ => rfl
 | (n, k) :: r, x => by
  have ih := ZEg (env := env) r x
  show UL x ((if (k == NameKind.free && env.scope.kind == .function && env.kindOf n == some .cell) = true then (n, NameKind.cell) else (n, k)) :: _) = _
  cases hx : x == n with
  | true =>
   have e : x = n := eq_of_beq hx
   subst e
   by_cases hc : (k == NameKind.free && env.scope.kind == .function && env.kindOf x == some .cell) = true
   ·rw [if_pos hc]
    simp only [Ui, beq_self_eq_true, Va]
    rw [if_pos hc]
   ·rw [if_neg hc]
    simp only [Ui, beq_self_eq_true, Va]
    rw [if_neg hc]
  | false =>
   by_cases hc : (k == NameKind.free && env.scope.kind == .function && env.kindOf n == some .cell) = true
   ·rw [if_pos hc]; simp only [Ui, hx]; exact ih
   ·rw [if_neg hc]; simp only [Ui, hx]; exact ih
structure ZLa (N : List Str) (sc : Scope) (own caps : List Str) (ks : List Nat) (scope : Scope) : Prop where
 kind : scope.kind = .function
 nocell : ∀ y ∈ scope.names, y.2 ≠ .cell
 names : ∀ y ∈ scope.names, y.2 = .local -> scope.names.lookup y.1 = some .local
 free : ∀ y ∈ scope.names, y.2 = .free -> sc.names.lookup y.1 = some .cell
 nd : (own ++ caps).Nodup
 cap : ks.map (fun k => N[k]?) = caps.map some
 fr : ∀ x ∈ caps, scope.names.lookup x = some .free
def ZCu (X : Cx) (N' : List Str) (scope : Scope) (cl : List (Str × Addr)) (C : Addr) (s₂ : Shared) (H₂ : Hp) (fp : List Addr) : Cx :=
 { X with N := N', s₀ := s₂, H₀ := H₂, env := compEnvC scope cl C X.env, outer := X.stack, stack := X.stack, ex := fp, fn := fun _ => false, pn := [], xe := fun _ _ => False }
def ZEq (own : Nat) (ks : List Nat) (U : St) : St := List.replicate own none ++ ks.map fun k => (U[k]?).join
section
variable {prog : Program} {w : World} {A : Around} {R : Result -> Shared -> Prop} {s : Shared}
theorem ZEr {elt target iter : Expr} {ifs : List Expr} {scope : Scope} {pos : Pos} {it acc : Value} {env : Env} (I : Nat -> Shared -> Prop)
  (turn : ∀ n s, I n s -> wpAny (model prog w) A (pyNext it) (fun r s₁ => match r with
   | none => R (.ok .next) s₁
   | some v => wpAny (model prog w) A (letOwnedTupleGo target it v) (fun _ s₁' => wpAny (model prog w) A (assign target env v) (fun _ s₂ =>
    wpAny (model prog w) A (forIn ifs true fun c r => if r = true then do let ok <- isTrue c env (eval c env); pure (ForInStep.yield ok) else pure (ForInStep.yield r)) (fun ok s₃ =>
     if ok = true then wpAny (model prog w) A (eval elt env) (fun x s₄ =>
      wpAny (model prog w) A (call (.builtin "list.append") [acc, x]) (fun _ s₅ => ∃ m, m < n /\ I m s₅) (notedBy (model prog w) A env fun e s' => R (.error e) s') s₄) (notedBy (model prog w) A env fun e s' => R (.error e) s') s₃
     else ∃ m, m < n /\ I m s₃) (notedBy (model prog w) A env fun e s' => R (.error e) s') s₂) (notedBy (model prog w) A env fun e s' => R (.error e) s') s₁') (notedBy (model prog w) A env fun e s' => R (.error e) s') s₁) (notedBy (model prog w) A env fun e s' => R (.error e) s') s)
  (n : Nat) (h : I n s) :
  codeAny (model prog w) A (.compLoop (.ListComp elt [⟨target, iter, ifs, 0⟩] scope pos) 0 it acc env) R s := by
 refine codeAny_loop rfl I (fun n s hI => ?_) n h
 show wpAny _ A ((compTurn (.ListComp elt [⟨target, iter, ifs, 0⟩] scope pos) 0 it acc env).onRaise (fun x => do noteFrame x env; theTreesLotGoes x)) _ _ s
 refine wpAny_noted ?_
 rw [compTurn_list]
 refine Ua (wpAny_standAt (Ua (Uv (turn n s hI) (fun r s₁ h₁ => ?_) fun _ _ h' => h')))
 cases r with
 | none => exact Uh h₁
 | some v =>
  refine Ua (Uv h₁ (fun _ s₁' h₁' => ?_) fun _ _ h' => h')
  refine Ua (Uv h₁' (fun _ s₂ h₂ => Ua (Uv h₂ (fun ok s₃ h₃ => ?_) fun _ _ h' => h')) fun _ _ h' => h')
  cases ok with
  | false => exact Uh ⟨rfl, h₃⟩
  | true =>
   exact Ua (Ua (Uv h₃ (fun x s₄ h₄ => Ua (Uv h₄ (fun _ s₅ h₅ => Uh (Uh ⟨rfl, h₅⟩)) fun _ _ h' => h')) fun _ _ h' => h'))
end
def ZM8 (X : Cx) (ifs : List Expr) (t : TT) : Prop :=
 ∀ (pins : List (Addr × Obj)) (s : Shared) (U : St) (H : Hp) (Q : Bool -> Hp -> Prop), Inv X pins U H s -> t U H Q ->
  wpAny (model X.prog X.w) X.A (forIn ifs true fun c r => if r = true then do let ok <- isTrue c X.env (eval c X.env); pure (ForInStep.yield ok) else pure (ForInStep.yield r)) (TP X pins U Q) X.xe s
def ZKo : TT := fun _ H Q => Q true H
section
variable {X : Cx}
theorem ZM9 : ZM8 X [] ZKo := fun _ _ _ H _ I h => wpAny_tests_nil ⟨H, I, h⟩
def ZKp (own : Nat) (ks : List Nat) (wi : TI) (g : TG) (tt : TT) (te : TE) : TE := fun U H Q => wi U H fun J H1 => ∀ l, H1 l = none ->
 ∃ W : Nat -> Nat -> St -> Hp -> Prop, (∃ m, W 0 m (ZEq own ks U) (upd H1 l (.lst []))) /\ ∀ i m U' H', W i m U' H' ->
  (J.stop i H' /\ Q (.ref l) H') \/ (J.go i H' /\ ∃ N : St -> Hp -> Prop, (∀ U2 H2, N U2 H2 -> ∃ m', m' < m /\ W (i + 1) m' U2 H2) /\
   ∀ x H'', J.yld i H' x H'' -> g x U' H'' fun U2 H2 => tt U2 H2 fun b H3 =>
    if b = true then te U2 H3 fun v H4 => ∃ xs, H4 l = some (.lst xs) /\ xs.length < sizeLine /\ N U2 (upd H4 l (.lst (xs ++ [v]))) else N U2 H3)
theorem ZLb {α : Type} {o : Option (Option α)} {v : α} (h : o.join = some v) : o = some (some v) := by
 cases o with
 | none => cases h
 | some x => exact congrArg some h
theorem ZOy {N : List Str} {sc : Scope} {own caps : List Str} {ks : List Nat} {elt tg iter : Expr} {ifs : List Expr} {scope : Scope} {pos : Pos} {wi : TI} {g : TG} {tt : TT} {te : TE}
  (hN : X.N = N) (hsc : X.env.scope = sc) (hc : X.calm = true) (S : ZLa N sc own caps ks scope) (hi : PI X tg iter wi)
  (hg : ∀ cl C s₂ H₂ fp, PG (ZCu X (own ++ caps) scope cl C s₂ H₂ fp) tg g)
  (ht : ∀ cl C s₂ H₂ fp, ZM8 (ZCu X (own ++ caps) scope cl C s₂ H₂ fp) ifs tt)
  (he : ∀ cl C s₂ H₂ fp, PE (ZCu X (own ++ caps) scope cl C s₂ H₂ fp) elt te)
  (hs : ∀ x, foldedSetIterable iter X.env x = pure x := by intro _; rfl) :
  PE X (.ListComp elt [⟨tg, iter, ifs, 0⟩] scope pos) (ZKp own.length ks wi g tt te) := by
 intro pins s U H Q I h
 subst hN hsc
 rw [eval_ListComp]
 obtain ⟨cl, hclos, hcl, hclf⟩ := ZKn (scope := scope) (env := X.env) fun y hy hf => I.ok.has y.1 (.inl (S.free y hy hf))
 refine wpAny_comprehension_free (use := none) rfl hs hclos S.kind S.names (Uv (hi pins s U H _ I h) (fun xv s₁ h₁ => Uv h₁ (fun it s₂ h₂ => ?_) fun _ _ e => e) fun _ _ e => e)
 obtain ⟨it, fp, tn, J, H2, e, I2, T, st2, f2, q⟩ := h₂
 subst e
 refine wpAny_newObj_type (wpAny_newFunctionEnv S.nocell (by intro y hy; simp at hy) (fun h₁ hns₁ hsb₁ => ?_) S.kind)
 dsimp only at hns₁ hsb₁ ⊢
 generalize hH2 : s₂.heap.push { cls := .type "list", dict := none, data := .seq ([] : List Value).toArray } = HP at hns₁ hsb₁ ⊢
 have hC : HP.objs.size = s₂.heap.objs.size + 1 := by rw [<- hH2, Heap.size_push]
 have hDC : s₂.heap.objs.size ≠ HP.objs.size := by rw [hC]; exact Up (Nat.lt_succ_self _)
 have hCle : s₂.heap.objs.size <= HP.objs.size := by rw [hC]; exact Nat.le_succ _
 have old : ∀ b o, s₂.heap.get? b = some o -> h₁.get? b = some o := fun b o e => by
  have hb : b < s₂.heap.objs.size := Ug e
  exact hsb₁.extBut b o (by rw [hC]; exact Up (Nat.lt_succ_of_lt hb)) (Ub _ (hH2 ▸ Ub _ e))
 have hacc : h₁.get? s₂.heap.objs.size = some { cls := .type "list", dict := none, data := .seq ([] : List Value).toArray } := hsb₁.extBut _ _ hDC (Ub _ (hH2 ▸ Uk _ rfl))
 have fpl : ∀ b ∈ fp, b < s₂.heap.objs.size := fun b hb => by
  obtain ⟨o, e, _⟩ := T.obj _ _ st2 b hb
  exact Ug e
 have hfD : H2 s₂.heap.objs.size = none := I2.hok.fresh (Uc _)
 obtain ⟨W, ⟨m0, w0⟩, turn⟩ := q s₂.heap.objs.size hfD
 have hkr : ∀ x, (compEnvC scope cl HP.objs.size X.env).kindOf x = (scope.names.lookup x).map fun k => if (k == NameKind.free && X.env.scope.kind == .function && X.env.kindOf x == some .cell) then NameKind.cell else k := fun x => ZEg (env := X.env) scope.names x
 have cellOfN : ∀ x, scope.names.lookup x = some .free -> X.env.kindOf x = some .cell := fun x e => S.free (x, .free) (PySem.mem_of_lookup e) rfl
 -- the context within
 have ok : (ZCu X (own ++ caps) scope cl HP.objs.size s₂ H2 fp).Ok := by
  refine ⟨I2.ok.mod, S.kind, I2.ok.glob, I2.ok.blt, hCle, fun x y c e1 e2 => I2.ok.inj x y c (hcl x c e1) (hcl y c e2), fun x hx => ?_, fun x c z => (by cases z), I2.ok.hd, I2.ok.frames, .inl rfl, fun b hb => ⟨?_, fun x c e => (f2 b hb).2.2.2.2.1 x c (hcl x c e)⟩,
   I2.bs, UF I2.ok.bsz I2.sz, fun b o e hb => ?_, fun b hb z => ?_, I2.stack, I2.stkFree⟩
  ·have hx' : (scope.names.lookup x).map (fun k => if (k == NameKind.free && X.env.scope.kind == .function && X.env.kindOf x == some .cell) then NameKind.cell else k) = some .cell \/
     (scope.names.lookup x).map (fun k => if (k == NameKind.free && X.env.scope.kind == .function && X.env.kindOf x == some .cell) then NameKind.cell else k) = some .free := by rw [<- hkr x]; exact hx
   cases e : scope.names.lookup x with
   | none => rw [e] at hx'; rcases hx' with z | z <;> cases z
   | some k =>
    have hm := PySem.mem_of_lookup e
    have hk : k = .free := by
     by_cases hkf : k = .free
     ·exact hkf
     ·have hb : (k == NameKind.free) = false := by simpa using hkf
      rw [e] at hx'
      simp only [Va, hb, Bool.false_and, Uo, if_false, Option.some.injEq] at hx'
      rcases hx' with z | z
      ·exact absurd z (S.nocell _ hm)
      ·exact z
    exact hclf _ hm hk
  ·exact Up (Ue (fpl b hb) hCle)
  ·rcases (f2 b hb).2.2.2.1 with z | z
   ·exact I2.ok.noex b o e z
   ·exact absurd (Ue (Ug e) (UF I2.ok.bsz z)) (UW _)
  ·rcases Uj.mp (I2.stkSub b z) with r | r
   ·exact (f2 b hb).2.1 r
   ·exact (f2 b hb).2.2.1 r
 have hlen : (ZEq own.length ks U).length = (own ++ caps).length := by
  have := congrArg List.length S.cap
  simp only [Ur] at this
  simp [ZEq, this]
 have I4 : Inv (ZCu X (own ++ caps) scope cl HP.objs.size s₂ H2 fp) [] (ZEq own.length ks U) (upd H2 s₂.heap.objs.size (.lst [])) { s₂ with heap := h₁, toks := s₂.toks + ([] : List (Str × Value)).length } := by
  obtain ⟨mX, hnX, hlX⟩ := I2.loc
  refine ⟨ok, rfl, I2.bare, Un.laid old (Uc _) hfD, ⟨_, hns₁, fun i x v e1 e2 e3 => ?_⟩, fun x c e => ?_, ?_, fun x c e => ?_, fun p hp => (by cases hp), I2.hok.laid old (Uc _) ⟨UJ _, [], 0, .nil, hacc⟩, hlen⟩
  ·have e1 : (own ++ caps)[i]? = some x := e1
   by_cases hio : i < own.length
   ·unfold ZEq at e2
    rw [List.getElem?_append_left (by simpa using hio), List.getElem?_replicate] at e2
    rw [if_pos hio] at e2
    cases e2
   ·unfold ZEq at e2
    rw [UO (by simpa using hio), List.length_replicate, UG] at e2
    rw [UO (by simpa using hio)] at e1
    cases ek : ks[i - own.length]? with
    | none => rw [ek] at e2; cases e2
    | some k =>
     rw [ek] at e2
     have e2' := ZLb (Option.some.inj e2)
     have hcap := congrArg (fun l => l[i - own.length]?) S.cap
     simp only [UG, ek, e1, Va] at hcap
     have hNk : X.N[k]? = some x := Option.some.inj hcap
     have hfx := S.fr x (UA e1)
     have hkX := cellOfN x hfx
     obtain ⟨u, ru, lk⟩ := hlX k x v hNk e2' (.inr (.inl hkX))
     refine ⟨u, ru, .inr ⟨.inl ?_, ?_⟩⟩
     ·show (compEnvC scope cl HP.objs.size X.env).kindOf x = some .cell
      rw [hkr x, hfx]
      simp [I2.ok.kind, hkX]
     ·rcases lk with ⟨z, _⟩ | ⟨_, c, ec, o, ho, hd⟩
      ·rw [hkX] at z; cases z
      ·obtain ⟨c', ec'⟩ := hclf (x, .free) (PySem.mem_of_lookup hfx) rfl
       have := hcl _ _ ec'
       rw [ec] at this
       cases this
       exact ⟨c, ec', o, old _ _ ho, hd⟩
  ·obtain ⟨v, o, ho, hd⟩ := I2.cell x c (hcl x c e)
   exact ⟨v, o, old _ _ ho, hd⟩
  ·show upd H2 s₂.heap.objs.size (.lst []) HP.objs.size = none
   rw [ZB8 (Ne.symm hDC)]
   exact I2.hok.fresh hCle
  ·obtain ⟨v, o, ho, hd⟩ := I2.cell x c (hcl x c e)
   show upd H2 s₂.heap.objs.size (.lst []) c = none
   rw [ZB8 (Up (Ug ho))]
   exact I2.freeC x c (hcl x c e)
 -- the way out
 have out : ∀ {U' : St} {H' : Hp} {s' : Shared}, Inv (ZCu X (own ++ caps) scope cl HP.objs.size s₂ H2 fp) [] U' H' s' -> Q (.ref s₂.heap.objs.size) H' ->
   ∃ m, s'.heap.Ns HP.objs.size m /\ ∀ h', Heap.SameBut HP.objs.size s'.heap h' -> EP X pins U Q (.ref s₂.heap.objs.size) { s' with heap := h' } := fun {U' H' s'} I' q' => by
  obtain ⟨m, hn, _⟩ := I'.loc
  refine ⟨m, hn, fun h' hs' => ⟨.ref s₂.heap.objs.size, H', ?_, rfl, q'⟩⟩
  have hfree : H' HP.objs.size = none := I'.free
  have neC : ∀ {b : Addr} {o : Obj}, s₂.heap.get? b = some o -> b ≠ HP.objs.size := fun e => Up (Ue (Ug e) hCle)
  refine I2.call' (ch := fp) (s' := { s' with heap := h' }) I'.os ⟨fun b o e n hb hx => ?_, fun b o e n hb hx => ?_, I'.base.free, fun b o e hx => ?_, I'.base.tups, I'.base.frzs, I'.base.tbls⟩ (fun b ob e => ?_) I'.bare fun b hb => ⟨(f2 b hb).2.2.2.1, (f2 b hb).2.1, (f2 b hb).2.2.2.2.1, (f2 b hb).2.2.2.2.2⟩
  ·exact (hs'.2 b (neC e)).trans (I'.base.keep b o e n hb hx)
  ·obtain ⟨sl, e1⟩ := I'.base.slot b o e n hb hx
   exact ⟨sl, (hs'.2 b (neC e)).trans e1⟩
  ·obtain ⟨o', e1⟩ := I'.base.there b o e hx
   exact ⟨o', (hs'.2 b (neC e)).trans e1⟩
  ·refine (I'.hok b ob e).stay (fun c w' hc q => (hs'.2 c ?_).trans q) (fun _ q => q) fun _ _ q => q
   rintro rfl
   rcases hc with rfl | hc
   ·rw [hfree] at e; cases e
   ·rw [hfree] at hc; cases hc
 have stat : ∀ {H' : Hp}, (∀ b ∈ fp, H' b = none) -> ∀ b ∈ fp, ZDM (ZCu X (own ++ caps) scope cl HP.objs.size s₂ H2 fp) [] H' b := fun hn b hb =>
  ⟨hn b hb, Up (Ue (fpl b hb) hCle), ok.exfs b hb, .inl hb, (ok.exf b hb).2, fun p hp => by cases hp⟩
 have fr4 : ∀ b ∈ fp, upd H2 s₂.heap.objs.size (.lst []) b = none := fun b hb => by
  rw [ZB8 (Up (fpl b hb))]
  exact (f2 b hb).1
 have tn4 : tn 0 h₁ := T.keep _ _ _ st2 fun b _ o e => old b o e
 have loop : ∀ s4 : Shared, s4 = { s₂ with heap := h₁, toks := s₂.toks + ([] : List (Str × Value)).length } ->
   codeAny (model X.prog X.w) X.A (.compLoop (.ListComp elt [⟨tg, iter, ifs, 0⟩] scope pos) 0 (.ref it) (.ref s₂.heap.objs.size) (compEnvC scope cl HP.objs.size X.env))
    (compPost (model X.prog X.w) X.A X.xe none (EP X pins U Q) (.ref s₂.heap.objs.size) HP.objs.size) s4 := by
  rintro s4 rfl
  refine ZEr (fun n s' => ∃ i U' H', Inv (ZCu X (own ++ caps) scope cl HP.objs.size s₂ H2 fp) [] U' H' s' /\ tn i s'.heap /\ (∀ b ∈ fp, H' b = none) /\ W i n U' H') ?_ m0 ⟨0, _, _, I4, tn4, fr4, w0⟩
  rintro n s3 ⟨i, U3, H3, I3, st3, fr3, w3⟩
  rcases turn i n U3 H3 w3 with ⟨stop, qn⟩ | ⟨go, N, hN, step⟩
  ·refine Uv (T.done (ZCu X (own ++ caps) scope cl HP.objs.size s₂ H2 fp) rfl rfl rfl hc i [] s3 U3 H3 (fun _ _ => False) I3 (stat fr3) st3 stop) (fun r s4 ⟨hr, I4'⟩ => ?_) fun _ _ z => False.elim z
   subst hr
   exact out I4' qn
  ·refine Uv (T.item (ZCu X (own ++ caps) scope cl HP.objs.size s₂ H2 fp) rfl rfl rfl hc i [] s3 U3 H3 (fun _ _ => False) I3 (stat fr3) st3 go) (fun r s4 ⟨u, hr, h4⟩ => ?_) fun _ _ z => False.elim z
   subst hr
   refine Uv h4 (fun _ s5 ⟨x, H5, I5, r5, y5, st5, fr5⟩ => ?_) fun _ _ z => False.elim z
   have I5' := I5.pinned (stat fr5) (T.obj _ _ st5)
   have back : ∀ {s7 : Shared} {U7 : St} {H7 : Hp}, Inv (ZCu X (own ++ caps) scope cl HP.objs.size s₂ H2 fp) ([] ++ ZFR fp s5.heap) U7 H7 s7 -> N U7 H7 ->
     ∃ m, m < n /\ ∃ i U' H', Inv (ZCu X (own ++ caps) scope cl HP.objs.size s₂ H2 fp) [] U' H' s7 /\ tn i s7.heap /\ (∀ b ∈ fp, H' b = none) /\ W i m U' H' := fun {s7 U7 H7} I7 n7 => by
    obtain ⟨m', hm, w7⟩ := hN U7 H7 n7
    refine ⟨m', hm, i + 1, U7, H7, I7.unpinned, T.keep _ _ _ st5 fun b hb o e => (I7.pin (b, o) (Ul _ (Ul _ (ZD2 hb e)))).1, fun b hb => ?_, w7⟩
    obtain ⟨o, e, d⟩ := T.obj _ _ st5 b hb
    exact (I7.pin (b, o) (Ul _ (Ul _ (ZD2 hb e)))).2.1
   refine Uv (hg _ _ _ _ _ _ s5 U3 H5 x u _ I5' r5 (step x H5 y5)) (fun _ s6 ⟨U6, H6, I6, q6⟩ => ?_) fun _ _ z => False.elim z
   refine Uv (ht _ _ _ _ _ _ s6 U6 H6 _ I6 q6) (fun b s7 ⟨H7, I7, q7⟩ => ?_) fun _ _ z => False.elim z
   cases b with
   | false =>
    rw [if_neg UE]
    rw [if_neg UE] at q7
    exact back I7 q7
   | true =>
    rw [if_pos rfl]
    rw [if_pos rfl] at q7
    refine Uv (he _ _ _ _ _ _ s7 U6 H7 _ I7 q7) (fun y s8 ⟨v, H8, I8, r8, xs, hx8, hz8, n8⟩ => ?_) fun _ _ z => False.elim z
    refine Uv (ZDt (X := ZCu X (own ++ caps) scope cl HP.objs.size s₂ H2 fp) _ s8 U6 H8 (.ref s₂.heap.objs.size) [v] (.ref s₂.heap.objs.size) [y] (fun _ H' => N U6 H') I8 rfl (.cons r8 .nil) ⟨_, xs, v, rfl, rfl, hx8, hz8, n8⟩) (fun _ s9 ⟨_, H9, I9, _, n9⟩ => ?_) fun _ _ z => False.elim z
    exact back I9 n9
 exact codeAny_compStart_list (loop _ rfl) (T.self _ 0 _ _ _ tn4 (loop _ rfl))
end
theorem ZGk : bootBuiltins "int" = some (.type "int") := by decide +kernel
theorem ZJu : bootBuiltins "bool" = some (.type "bool") := by decide +kernel
theorem ZEs : bootBuiltins "tuple" = some (.type "tuple") := by decide +kernel
theorem ZOz : bootBuiltins "list" = some (.type "list") := by decide +kernel
theorem ZGl : bootBuiltins "len" = some (.builtin "len") := by decide +kernel
theorem ZQX : bootBuiltins "abs" = some (.builtin "abs") := by decide +kernel
theorem ZLc : bootBuiltins "max" = some (.builtin "max") := by decide +kernel
theorem ZLd : bootBuiltins "min" = some (.builtin "min") := by decide +kernel
theorem ZFW : bootBuiltins "sorted" = some (.builtin "sorted") := by decide +kernel
theorem ZC3 : bootBuiltins "isinstance" = some (.builtin "isinstance") := by decide +kernel
def ZDQ : Expr -> Bool
 | .Starred _ _ => true
 | _ => false
def ZCT (es : List Expr) : Bool := es.all fun e => !ZDQ e
theorem ZDB {e : Expr} {es : List Expr} {env : Env} (h : ZDQ e = false) : starEach (e :: es) env = (false, eval e env) :: starEach es env := by
 cases e <;> first | rfl | cases h
theorem ZDT {e : Expr} {es : List Expr} {env : Env} (h : ZCT (e :: es) = true) : starEach (e :: es) env = (false, eval e env) :: starEach es env := by
 refine ZDB ?_
 unfold ZCT at h
 rw [List.all_cons, Bool.and_eq_true] at h
 simpa using h.1
theorem ZDE {pos : Pos} {env : Env} : ∀ {es : List Expr}, ZCT es = true -> (backTo pos (starEach es env)).any (·.1) = false
 | [], _ => rfl
 | e :: es, h => by
  rw [ZDT h]
  have h2 : ZCT es = true := by
   unfold ZCT at h ⊢
   rw [List.all_cons, Bool.and_eq_true] at h
   exact h.2
  exact ZDE h2
theorem ZDC {e : Expr} {es : List Expr} (h : ZCT (e :: es) = true) : ZCT es = true := by
 unfold ZCT at h ⊢
 rw [List.all_cons, Bool.and_eq_true] at h
 exact h.2
section
variable {X : Cx} {CX : CXT} {k : Nat} {f : Addr} {fd : FuncData} {ps : List Str} {sp : Sp} {dvs : List V} {ds : List Value} {E : XK} {x : Str} {p pos : Pos} {e : Expr} {es : List Expr} {te : TE} {t : TA} {id T : String} {r : List V -> Hp -> VK -> Prop}
theorem ZRq (ha : PE X e te) (hr : PA X es t) (hs : ZDQ e = false := by rfl) : PA X (e :: es) (ZIE te t) := ZOt ha hr (ZDB hs)
theorem ZNA (F : ZB2 X.prog X.w X.K X.mg X.base CX k f fd ps sp) (hr : Room k X.A) (hg : Gl X x) (hm : X.mg x = some (.ref f)) (hk : W.keepIn X.K (.ref f) = true) (hb : ZBz X.K fd ps ds) (hd : ZB6 dvs ds) (hx : ZCy CX X E)
  (ha : PA X (e :: es) t) (hns : ZCT (e :: es) = true := by rfl) (hdb : (x == ("__debug__" : Str)) = false := by decide) : PE X (.Call (.Name x p) (e :: es) [] pos) (ZGg sp dvs E t) :=
 ZOu F hr hg hm hk hb hd hx ha hdb (ZDT hns) (ZDE (ZDC hns))
theorem ZLe (hc : ZCe X (.builtin id) r) (hg : Gl X x) (hm : X.mg x = none) (hv : bootBuiltins x = some (.builtin id)) (ha : PA X (e :: es) t) (hns : ZCT (e :: es) = true := by rfl) (hn : x ≠ "__name__" := by decide) (hdb : (x == ("__debug__" : Str)) = false := by decide) :
 PE X (.Call (.Name x p) (e :: es) [] pos) (tCB r t) := ZM1 hc hg hm hv ha hn hdb (ZDT hns) (ZDE (ZDC hns))
theorem ZKq (hc : ZCe X (.type T) r) (hg : Gl X x) (hm : X.mg x = none) (hv : bootBuiltins x = some (.type T)) (ha : PA X (e :: es) t) (hns : ZCT (e :: es) = true := by rfl) (hn : x ≠ "__name__" := by decide) (hdb : (x == ("__debug__" : Str)) = false := by decide) :
 PE X (.Call (.Name x p) (e :: es) [] pos) (tCB r t) := ZLX hc hg hm hv ha hn hdb (ZDT hns) (ZDE (ZDC hns))
end
def ZDL : Expr -> Bool
 | .ListComp _ _ _ _ => true
 | .SetComp _ _ _ _ => true
 | .DictComp _ _ _ _ _ => true
 | _ => false
theorem ZDj {e : Expr} {tg : Option Expr} {n : Nat} {env : Env} (h : ZDL e = false) : swapsWith e tg n env = pure false := by
 cases e <;> first | rfl | cases h
section
variable {X : Cx} {e : Expr} {te : TE} {pos : Pos}
theorem ZNB (he : PE X e te) (hs : ZDL e = false := by rfl) : PS X (.Expr e pos) (ZIC te) := ZOf he (ZDj hs)
theorem ZO0 {i : Nat} {x : Str} {pos' : Pos} (hN : X.N.Nodup) (hi : X.N[i]? = some x) (hx : Loc X.env.scope x) (he : PE X e te) (hs : ZDL e = false := by rfl) (hf : X.fn x = true \/ X.env.scope.names.lookup x = some .local := by first | exact .inl rfl | exact .inr rfl | assumption) :
 PS X (.Assign [.Name x pos'] e pos) (ZGI te (ZEM i)) := ZQJ hN hi hx he (ZDj hs) hf
end
def ZKr (K : W.Frag) : List V -> Hp -> VK -> Prop := fun xs H Q => ∃ p ys, xs = [.ref p] /\ (SqL K H p ys \/ SqT K H p ys) /\ Q (.int ys.length) H
def ZOK : List V -> Hp -> VK -> Prop := fun xs H Q => (∃ i, xs = [.int i] /\ Q (.int i) H) \/ ∃ k, xs = [.bl k] /\ Q (.int (if k then 1 else 0)) H
def ZQY : List V -> Hp -> VK -> Prop := fun xs H Q => ∃ i, xs = [.int i] /\ Q (.int (if i < 0 then -i else i)) H
def ZQZ : List V -> Hp -> VK -> Prop := fun xs H Q => ∃ i j, xs = [.int i, .int j] /\ Q (.int (if j > i then j else i)) H
def ZQa : List V -> Hp -> VK -> Prop := fun xs H Q => ∃ i j, xs = [.int i, .int j] /\ Q (.int (if j < i then j else i)) H
def ZIV (K : W.Frag) : List V -> Hp -> VK -> Prop := fun xs H Q => ∃ p ys, xs = [.ref p] /\ ((SqL K H p ys /\ ∀ l, H l = none -> Q (.ref l) (upd H l (.tup ys))) \/ (SqT K H p ys /\ Q (.ref p) H))
def ZQb : R2 := fun x y H Q => ∃ b, y = .bl b /\ Q (.bl (decide (x = .bl b))) H
def ZQc : R2 := fun x y H Q => y = .non /\ Q (.bl (decide (x = .non))) H
def ZOL : R2 := fun x y H Q => y = .non /\ Q (.bl (!decide (x = .non))) H
section
variable {X : Cx}
theorem ZQd : ZCe X (.builtin "len") (ZKr X.K) := ZIU
theorem ZLf : ZCe X (.type "int") ZOK := ZLS
theorem ZQe : ZCe X (.builtin "abs") ZQY := ZMs
theorem ZQf (hc : X.calm = true) : ZCe X (.builtin "max") ZQZ := ZLQ hc
theorem ZQg (hc : X.calm = true) : ZCe X (.builtin "min") ZQa := ZLR hc
theorem ZNC : ZCe X (.type "tuple") (ZIV X.K) := ZH0
theorem ZLg : OpR X (compareOp .Is) ZQb := ZQW
theorem ZFX : OpR X (compareOp .Is) ZQc := ZQO
theorem ZO1 : OpR X (compareOp .IsNot) ZOL := ZOn
end
section
variable {K : W.Frag} {U : St} {H : Hp} {Q : VK} {D : ZCg}
theorem ZQh {t u : TS} (h : t { D with nx := u D } U H) : ZMf t u D U H := h
theorem ZQi {te : TE} (h : te U H D.rt) : ZMh te D U H := h
theorem ZO2 {te : TE} (h : te U H fun _ H1 => D.nx U H1) : ZIC te D U H := h
theorem ZO3 (h : D.nx U H) : ZKU D U H := h
theorem ZQj {te : TE} {g : TG} (h : te U H fun x H1 => g x U H1 D.nx) : ZGI te g D U H := h
theorem ZND {i : Nat} {v : V} {R : St -> Hp -> Prop} (h : R (U.set i (some v)) H) : ZEM i v U H R := h
theorem ZO4 {R : St -> Hp -> Prop} (h : R U H) : ZMk [] U H R := ⟨rfl, h⟩
theorem ZNE {t : TG} {u : TGs} {v : V} {r : List V} {R : St -> Hp -> Prop} (h : t v U H fun U' H' => u r U' H' R) : ZKV t u (v :: r) U H R := ⟨v, r, rfl, h⟩
theorem ZO5 {to ti : TE} {t : ZIN} {v : V} {R : St -> Hp -> Prop} (h : to U H fun o H1 => ti U H1 fun i H2 => t o i v H2 fun H3 => R U H3) : ZMm to ti t v U H R := h
theorem ZQk {c : TT} {t u : TS} (h : c U H fun b H1 => if b = true then t D U H1 else u D U H1) : ZIM c t u D U H := h
theorem ZO6 {t : TE} {R : Bool -> Hp -> Prop} (h : t U H fun x H' => ∃ k, x = .bl k /\ R k H') : ZKg t U H R := h
theorem ZRr {t : TE} {R : Bool -> Hp -> Prop} (h : t U H fun x H' => ∃ k, x = .bl k /\ R k H') : tB t U H R := h
theorem ZNF {b : Bool} {R : Bool -> Prop} (h : R b) : ∃ k, V.bl b = .bl k /\ R k := ⟨b, rfl, h⟩
theorem ZQl {t u : TT} {R : Bool -> Hp -> Prop} (h : t U H fun c H1 => if c = true then u U H1 R else R false H1) : ZMc t u U H R := h
theorem ZRW {t u : TT} {R : Bool -> Hp -> Prop} (h : t U H fun c H1 => if c = true then R true H1 else u U H1 R) : tOr t u U H R := h
theorem ZQm {t : TT} {R : Bool -> Hp -> Prop} (h : t U H fun c H1 => R (!c) H1) : ZMd t U H R := h
theorem ZO7 {t u : TE} (h : t U H fun x H1 => ∃ c, x = .bl c /\ if c = true then u U H1 Q else Q (.bl false) H1) : ZKS t u U H Q := h
theorem ZO8 {t : TE} (h : t U H fun x H1 => ∃ c, x = .bl c /\ Q (.bl (!c)) H1) : ZKT t U H Q := h
theorem ZRX {t : TT} {ta tb : TE} (h : t U H fun c H1 => if c = true then ta U H1 Q else tb U H1 Q) : tIf t ta tb U H Q := h
theorem ZQn {i : Nat} {v : V} (e : U[i]? = some (some v)) (h : Q v H) : ZMb i U H Q := ⟨v, e, h⟩
theorem ZIW {i j : Int} (h1 : 0 <= j) (h2 : j <= 1000000) (h3 : i.natAbs < 2 ^ 64) : ZMq i j := ⟨h1, h2, h3⟩
theorem ZRs {v : V} (h : Q v H) : tC v U H Q := h
theorem ZRY {r : R2} {ta tb : TE} (h : ta U H fun x H1 => tb U H1 fun y H2 => r x y H2 Q) : tOp r ta tb U H Q := h
theorem ZRZ {r : V -> Hp -> VK -> Prop} {ta : TE} (h : ta U H fun x H1 => r x H1 Q) : tUn r ta U H Q := h
theorem ZRa {g : Int -> Int -> V} {i j : Int} (h : Q (g i j) H) : rI0 g (.int i) (.int j) H Q := ⟨i, j, rfl, rfl, h⟩
theorem ZQo {C : Int -> Int -> Prop} {g : Int -> Int -> V} {i j : Int} (c : C i j) (h : Q (g i j) H) : rI C g (.int i) (.int j) H Q := ⟨i, j, rfl, rfl, c, h⟩
theorem ZRt {g : Int -> V} {i : Int} (h : Q (g i) H) : rU g (.int i) H Q := ⟨i, rfl, h⟩
theorem ZQp {i j : Int} (h : Q (.bl (decide (V.int i = V.int j))) H) : rEq (.int i) (.int j) H Q := ⟨rfl, h⟩
theorem ZRb {r : List V -> Hp -> VK -> Prop} {t : TA} (h : t U H fun vs H1 => r vs H1 Q) : tCB r t U H Q := h
theorem ZO9 {sp : Sp} {dvs : List V} {E : XK} {t : TA} (h : t U H fun vs H1 => sp (vs ++ dvs) H1 Q E) : ZGg sp dvs E t U H Q := h
theorem ZPA {ta : TE} {tr : TA} {R : List V -> Hp -> Prop} (h : ta U H fun x H1 => tr U H1 fun xs H2 => R (x :: xs) H2) : ZIE ta tr U H R := h
theorem ZQq {R : List V -> Hp -> Prop} (h : R [] H) : ZGK U H R := h
def ZNG (n : Nat) (o : HO) (H : Hp) (Q : VK) : Prop := n <= sizeLine /\ ∀ p, H p = none -> Q (.ref p) (upd H p o)
theorem ZQr {t : TA} (h : t U H fun xs H1 => ZNG xs.length (.tup xs) H1 Q) : ZMx t U H Q := h
theorem ZQs {t : TA} (h : t U H fun xs H1 => ZNG xs.length (.lst xs) H1 Q) : ZMy t U H Q := h
theorem ZCc {n : Nat} {o : HO} (hz : n <= sizeLine) (h : ∀ p H2, H p = none -> H2 p = some o -> ZB1 H H2 -> Q (.ref p) H2) : ZNG n o H Q :=
 ⟨hz, fun p hp => h p _ hp ZCC (fun b u e => by rw [ZB8 (ZCA e hp)]; exact e)⟩
theorem ZNH {r r' : R2} {ta tb tc : TE} (h : ta U H fun x H1 => tb U H1 fun y H2 => r x y H2 fun z H3 => ∃ k, z = .bl k /\ (if k = true then tc U H3 fun w' H4 => r' y w' H4 Q else Q (.bl false) H3)) : ZIP r r' ta tb tc U H Q := h
theorem ZIX {p : Addr} {xs : List V} {i : Int} {v : V} (h1 : SqL K H p xs) (h2 : atI xs i = some v) (h : Q v H) : ZM2 K (.ref p) (.int i) H Q := ⟨p, xs, i, v, rfl, rfl, h1, h2, h⟩
theorem ZIY {p : Addr} {xs : List V} {i : Int} {v : V} (h1 : SqT K H p xs) (h2 : atI xs i = some v) (h : Q v H) : ZM3 K (.ref p) (.int i) H Q := ⟨p, xs, i, v, rfl, rfl, h1, h2, h⟩
theorem ZJv {p : Addr} {xs : List V} {k : Int} {j : Nat} {v : V} {R : Hp -> Prop} (h1 : H p = some (.lst xs)) (h2 : ixN xs.length k = some j) (h : R (upd H p (.lst (xs.set j v)))) : ZOJ (.ref p) (.int k) v H R := ⟨p, xs, k, j, rfl, rfl, h1, h2, h⟩
def rFor (J : It) (g : TG) (tb : TS) (D : ZCg) (U : St) (H : Hp) : Prop := ∃ W : Nat -> Nat -> St -> Hp -> Prop, (∃ m, W 0 m U H) /\ ∀ i m U H, W i m U H ->
 (J.stop i H /\ D.nx U H) \/ (J.go i H /\ ∃ N : St -> Hp -> Prop, (∀ U' H', N U' H' -> ∃ m', m' < m /\ W (i + 1) m' U' H') /\ ∀ x H', J.yld i H x H' -> g x U H' fun U2 H2 => tb { D with nx := N, ct := N, bk := D.nx } U2 H2)
theorem ZQt {wi : TI} {g : TG} {tb : TS} (h : wi U H fun J H1 => rFor J g tb D U H1) : ZMn wi g tb D U H := h
def ZOM (vs : List V) (H : Hp) (R : It -> Hp -> Prop) : Prop := ∃ j : Int, vs = [.int j] /\ -(2 ^ 62) <= j /\ j < 2 ^ 62 /\ R (Itr 0 j.toNat) H
theorem ZPB {ta : TA} {R : It -> Hp -> Prop} (h : ta U H fun vs H1 => ZOM vs H1 R) : ZKb ta U H R := h
theorem ZLh {j : Int} {R : It -> Hp -> Prop} (h1 : -(2 ^ 62) <= j) (h2 : j < 2 ^ 62) (h : R (Itr 0 j.toNat) H) : ZOM [.int j] H R := ⟨j, rfl, h1, h2, h⟩
def ZRc (vs : List V) (H : Hp) (R : It -> Hp -> Prop) : Prop := ∃ i j : Int, vs = [.int i, .int j] /\ (-(2 ^ 62) <= i /\ i < 2 ^ 62 /\ -(2 ^ 62) <= j /\ j < 2 ^ 62) /\ R (Itr i (j - i).toNat) H
theorem ZPC {ta : TA} {R : It -> Hp -> Prop} (h : ta U H fun vs H1 => ZRc vs H1 R) : ZKc ta U H R := h
theorem ZPD {b : Bool} (h : Q (.int (if b then 1 else 0)) H) : ZOK [.bl b] H Q := .inr ⟨b, rfl, h⟩
theorem ZQu {i : Int} (h : Q (.int (if i < 0 then -i else i)) H) : ZQY [.int i] H Q := ⟨i, rfl, h⟩
theorem ZQv {i j : Int} (h : Q (.int (if j > i then j else i)) H) : ZQZ [.int i, .int j] H Q := ⟨i, j, rfl, h⟩
theorem ZQw {i j : Int} (h : Q (.int (if j < i then j else i)) H) : ZQa [.int i, .int j] H Q := ⟨i, j, rfl, h⟩
theorem ZPE {p : Addr} {ys : List V} (h1 : SqL K H p ys) (h : Q (.int ys.length) H) : ZKr K [.ref p] H Q := ⟨p, ys, rfl, .inl h1, h⟩
theorem ZPF {p : Addr} {ys : List V} (h1 : SqT K H p ys) (h : Q (.int ys.length) H) : ZKr K [.ref p] H Q := ⟨p, ys, rfl, .inr h1, h⟩
theorem ZGm {x : V} {n : String} {t : Value} {b : Bool} (ty : ZDf K H x t) (e : W.kitOne K t (.type n) = some b) (h : Q (.bl b) H) : ZM6 K [x, .ty n] H Q := ⟨x, n, t, b, rfl, ty, e, h⟩
theorem ZQx {x : V} {b : Bool} (h : Q (.bl (decide (x = .bl b))) H) : ZQb x (.bl b) H Q := ⟨b, rfl, h⟩
theorem ZQy {x : V} (h : Q (.bl (decide (x = .non))) H) : ZQc x .non H Q := ⟨rfl, h⟩
theorem ZPG {x : V} (h : Q (.bl (!decide (x = .non))) H) : ZOL x .non H Q := ⟨rfl, h⟩
theorem ZPH {n : Nat} {t : TGs} {p : Addr} {xs : List V} {R : St -> Hp -> Prop} (h1 : SqT K H p xs) (h2 : xs.length = n) (h : t xs U H R) : ZKW K n t (.ref p) U H R := ⟨p, xs, rfl, h1, h2, h⟩
theorem ZFu {p : Addr} {ys : List V} (h1 : SqL K H p ys) (h : ∀ l H2, H l = none -> H2 l = some (.tup ys) -> ZB1 H H2 -> Q (.ref l) H2) :
  ZIV K [.ref p] H Q :=
 ⟨p, ys, rfl, .inl ⟨h1, fun l hl => h l _ hl ZCC (fun b u e => by rw [ZB8 (ZCA e hl)]; exact e)⟩⟩
theorem ZC6 {c A B : Prop} [Decidable c] (h1 : c -> A) (h2 : ¬ c -> B) : if decide c = true then A else B := by
 by_cases h : c
 ·rw [decide_eq_true h]; exact ZDW (h1 h)
 ·rw [decide_eq_false h]; exact ZDN (h2 h)
theorem ZON {c A B : Prop} [Decidable c] (h1 : ¬ c -> A) (h2 : c -> B) : if (!decide c) = true then A else B := by
 by_cases h : c
 ·rw [decide_eq_true h]; exact ZDN (h2 h)
 ·rw [decide_eq_false h]; exact ZDW (h1 h)
theorem ZFv {i j : Int} : decide (V.int i = V.int j) = decide (i = j) := by
 by_cases h : i = j
 ·subst h; simp
 ·rw [decide_eq_false h, decide_eq_false (fun z => h (V.int.inj z))]
theorem ZHB {lo : Int} {n : Nat} {g : TG} {tb : TS} (Pv : Nat -> St -> Hp -> Prop) (h0 : Pv 0 U H)
 (hs : ∀ i U H, i < n -> Pv i U H -> g (.int (lo + i)) U H fun U2 H2 => tb { D with nx := Pv (i + 1), ct := Pv (i + 1), bk := D.nx } U2 H2) (hd : ∀ U H, Pv n U H -> D.nx U H) :
 rFor (Itr lo n) g tb D U H := ZLO Pv h0 hs hd
theorem ZPI {a : Addr} {xs : List V} {g : TG} {tb : TS} (Pv : Nat -> St -> Hp -> Prop) (h0 : Pv 0 U H) (hl : ∀ i U H, i <= xs.length -> Pv i U H -> SqL K H a xs)
 (hs : ∀ i x U H, xs[i]? = some x -> Pv i U H -> g x U H fun U2 H2 => tb { D with nx := Pv (i + 1), ct := Pv (i + 1), bk := D.nx } U2 H2) (hd : ∀ U H, Pv xs.length U H -> D.nx U H) :
 rFor (Itl K a) g tb D U H := ZMo Pv h0 hl hs hd
theorem ZJw {a : Addr} {xs : List V} {g : TG} {tb : TS} (Pv : Nat -> St -> Hp -> Prop) (h0 : Pv 0 U H) (hl : ∀ i U H, i <= xs.length -> Pv i U H -> SqT K H a xs)
 (hs : ∀ i x U H, xs[i]? = some x -> Pv i U H -> g x U H fun U2 H2 => tb { D with nx := Pv (i + 1), ct := Pv (i + 1), bk := D.nx } U2 H2) (hd : ∀ U H, Pv xs.length U H -> D.nx U H) :
 rFor (Itt K a) g tb D U H := ZOj Pv h0 hl hs hd
def ZOO (J : It) (g : TG) (tt : TT) (te : TE) (l : Addr) (U0 : St) (H : Hp) (Q : VK) : Prop :=
 ∃ W : Nat -> Nat -> St -> Hp -> Prop, (∃ m, W 0 m U0 (upd H l (.lst []))) /\ ∀ i m U' H', W i m U' H' ->
  (J.stop i H' /\ Q (.ref l) H') \/ (J.go i H' /\ ∃ N : St -> Hp -> Prop, (∀ U2 H2, N U2 H2 -> ∃ m', m' < m /\ W (i + 1) m' U2 H2) /\
   ∀ x H'', J.yld i H' x H'' -> g x U' H'' fun U2 H2 => tt U2 H2 fun b H3 =>
    if b = true then te U2 H3 fun v H4 => ∃ xs, H4 l = some (.lst xs) /\ xs.length < sizeLine /\ N U2 (upd H4 l (.lst (xs ++ [v]))) else N U2 H3)
theorem ZJx {J : It} {g : TG} {tt : TT} {te : TE} {U0 : St} {l : Addr} (n : Nat) (Pv : Nat -> St -> Hp -> Prop) (h0 : Pv 0 U0 (upd H l (.lst [])))
  (stop : ∀ U H, Pv n U H -> J.stop n H /\ Q (.ref l) H)
  (go : ∀ i U H, i < n -> Pv i U H -> J.go i H /\ ∀ x H', J.yld i H x H' -> g x U H' fun U2 H2 => tt U2 H2 fun b H3 =>
   if b = true then te U2 H3 fun v H4 => ∃ xs, H4 l = some (.lst xs) /\ xs.length < sizeLine /\ Pv (i + 1) U2 (upd H4 l (.lst (xs ++ [v]))) else Pv (i + 1) U2 H3) :
  ZOO J g tt te l U0 H Q := by
 refine ⟨fun i m U H => m = n - i /\ i <= n /\ Pv i U H, ⟨n, by simp, UJ _, h0⟩, ?_⟩
 rintro i m U H ⟨rfl, hi, p⟩
 by_cases hlt : i < n
 ·obtain ⟨hgo, h⟩ := go i U H hlt p
  exact .inr ⟨hgo, Pv (i + 1), fun U' H' p' => ⟨n - (i + 1), by omega, rfl, hlt, p'⟩, h⟩
 ·have e : i = n := by omega
  subst e
  exact .inl (stop U H p)
theorem ZPJ {own : Nat} {ks : List Nat} {wi : TI} {g : TG} {tt : TT} {te : TE} (h : wi U H fun J H1 => ∀ l, H1 l = none -> ZOO J g tt te l (ZEq own ks U) H1 Q) : ZKp own ks wi g tt te U H Q := h
def ZQz (K : W.Frag) (x : V) (H : Hp) (R : It -> Hp -> Prop) : Prop := ∃ a, x = .ref a /\ (∃ xs, SqT K H a xs) /\ R (Itt K a) H
def ZQ0 (K : W.Frag) (x : V) (H : Hp) (R : It -> Hp -> Prop) : Prop := ∃ a, x = .ref a /\ (∃ xs, SqL K H a xs) /\ R (Itl K a) H
theorem ZPK {tl : TE} {R : It -> Hp -> Prop} (h : tl U H fun x H1 => ZQz K x H1 R) : ZKa K tl U H R := h
theorem ZNI {tl : TE} {R : It -> Hp -> Prop} (h : tl U H fun x H1 => ZQ0 K x H1 R) : ZID K tl U H R := h
theorem ZQ1 {p : Addr} {xs : List V} {R : It -> Hp -> Prop} (h1 : SqT K H p xs) (h : R (Itt K p) H) : ZQz K (.ref p) H R := ⟨p, rfl, ⟨xs, h1⟩, h⟩
theorem ZQ2 {p : Addr} {xs : List V} {R : It -> Hp -> Prop} (h1 : SqL K H p xs) (h : R (Itl K p) H) : ZQ0 K (.ref p) H R := ⟨p, rfl, ⟨xs, h1⟩, h⟩
theorem ZPL {R : Bool -> Hp -> Prop} (h : R true H) : ZKo U H R := h
end
theorem ZB1.seqT {K : W.Frag} {H H' : Hp} {a : Addr} {xs : List V} (e : ZB1 H H') (h : SqT K H a xs) : SqT K H' a xs := by
 rcases h with (h | ⟨o, h⟩) | h
 ·exact .inl (.inl (e _ _ h))
 ·exact .inl (.inr ⟨o, e _ _ h⟩)
 ·exact .inr h
def Kp (p : Addr) (H H' : Hp) : Prop := ∀ q o, H q = some o -> q ≠ p -> H' q = some o
theorem Kp.trans {p : Addr} {H H1 H2 : Hp} (a : Kp p H H1) (b : Kp p H1 H2) : Kp p H H2 := fun q o h n => b q o (a q o h n) n
theorem Kp.upd {p : Addr} {H : Hp} {o : HO} : Kp p H (upd H p o) := fun q u h n => by rw [ZB8 n]; exact h
theorem Kp.same {p : Addr} {H H' : Hp} (a : ZB1 H H') : Kp p H H' := fun q o h _ => a q o h
theorem ZB1.new {H : Hp} {l : Addr} {o : HO} (h : H l = none) : ZB1 H (upd H l o) := fun b u e => by rw [ZB8 (ZCA e h)]; exact e
def Pot (H : Hp) (p : Addr) : Prop := ∃ a b : Int, H p = some (.lst [.int a, .int b]) /\ 0 <= a /\ 0 <= b /\ b < 2147483648
theorem Pot.same {H H' : Hp} {p : Addr} (h : Pot H p) (s : ZB1 H H') : Pot H' p := by
 obtain ⟨x, y, h, r⟩ := h
 exact ⟨x, y, s _ _ h, r⟩
theorem Pot.neN {H : Hp} {p l : Addr} (h : Pot H p) (hl : H l = none) : l ≠ p := by
 obtain ⟨x, y, h, r⟩ := h
 exact (ZCA h hl).symm
theorem Kp.then {H H1 H2 : Hp} {p : Addr} (h : Kp p H H1) (s : ZB1 H1 H2) : Kp p H H2 := h.trans (Kp.same s)
theorem Kp.fresh {H H1 : Hp} {p : Addr} (h : Kp p H H1) (hp : H p = none) : ZB1 H H1 := fun q o e => h q o e (ZCA e hp)
structure QE (X : Cx) (e : Expr) (t : TE) : Prop where
 h : PE X e t
structure QT (X : Cx) (e : Expr) (t : TT) : Prop where
 h : PT X e t
structure QW (X : Cx) (e : Expr) (t : TT) : Prop where
 h : PW X e t
structure QA (X : Cx) (es : List Expr) (t : TA) : Prop where
 h : PA X es t
structure QS (X : Cx) (st : Stmt) (t : TS) : Prop where
 h : PS X st t
structure QB (X : Cx) (st : List Stmt) (t : TS) : Prop where
 h : PSs X st t
structure QG (X : Cx) (e : Expr) (t : TG) : Prop where
 h : PG X e t
structure QGs (X : Cx) (es : List Expr) (t : TGs) : Prop where
 h : PGs X es t
structure QI (X : Cx) (tg e : Expr) (t : TI) : Prop where
 h : PI X tg e t
structure QF (X : Cx) (es : List Expr) (t : TT) : Prop where
 h : ZM8 X es t
def ZIF : Expr -> Bool
 | .Slice _ _ _ _ => true
 | _ => false
theorem ZPM {b : Expr} (h : ZIF b = false) : ZJs b := by
 intro o i
 cases b <;> first | rfl | cases h
def ZIZ : Expr -> Bool
 | .UnaryOp _ _ _ => false
 | .BoolOp _ _ _ => false
 | .IfExp _ _ _ _ => false
 | .Compare _ _ _ _ => false
 | _ => true
theorem ZQ3 {e : Expr} {env : Env} (h : ZIZ e = true) : ∀ whole, isTrue e env whole = (do let v <- whole; standAt e.pos; holding [v] (truthy v)) := by
 intro whole
 cases e <;> first | rfl | cases h
section
variable {X : Cx} {a b c e o : Expr} {es ZCm : List Expr} {ta tb tc te to ti : TE} {tA tB' : TT} {t tr : TA} {pos p p2 pos' : Pos} {x : Str}
theorem qv (i : Nat) {x : Str} {pos : Pos} (hN : X.N[i]? = some x := by rfl) (hv : Vis X.env.scope x := by first | exact Or.inl rfl | exact Or.inr (Or.inl rfl) | exact Or.inr (Or.inr rfl)) (hd : (x == ("__debug__" : Str)) = false := by decide)
 (hcd : (x == ("__classdict__" : Str)) = false := by decide) : QE X (.Name x pos) (ZMb i) := ⟨ZP4 hN hv hd hcd⟩
theorem ZBy {i j pos} : QE X (.Constant (.int i) j pos) (tC (.int i)) := ⟨ZP5⟩
theorem ZEt {b j pos} : QE X (.Constant (.bool b) j pos) (tC (.bl b)) := ⟨ZRP⟩
theorem ZDg {j pos} : QE X (.Constant .none j pos) (tC .non) := ⟨ZP6⟩
theorem ZQ4 {x j pos} : QE X (.Constant (.str x) j pos) (tC (.str x)) := ⟨ZP7⟩
theorem ZD6 {v : V} {u : Value} (hg : Gl X x) (hm : X.mg x = some u) (r : ZB3 v u) (hd : (x == ("__debug__" : Str)) = false := by decide) : QE X (.Name x pos) (tC v) := ⟨ZOa hg hm r hd⟩
theorem ZFw {v : V} {u : Value} (hg : Gl X x) (hm : X.mg x = none) (hv : bootBuiltins x = some u) (r : ZB3 v u) (hn : x ≠ "__name__" := by decide) (hd : (x == ("__debug__" : Str)) = false := by decide) : QE X (.Name x pos) (tC v) := ⟨ZOb hg hm hv r hn hd⟩
theorem ZCG {op : Operator} {r : R2} (ho : OpR X (binaryOp op) r) (ha : QE X a ta) (hb : QE X b tb) : QE X (.BinOp a op b pos) (tOp r ta tb) := ⟨ZRS ho ha.h hb.h⟩
theorem ZOP {op : UnaryOp} {r : V -> Hp -> VK -> Prop} (ho : UnR X (unaryOp op) r) (ha : QE X a ta) : QE X (.UnaryOp op a pos) (tUn r ta) := ⟨ZRT ho ha.h⟩
theorem ZLi (ha : QE X a ta) : QE X (.UnaryOp .Not a pos) (ZKT ta) := ⟨ZQE ha.h⟩
theorem ZIa {op} (h : QE X a ta) : QE X (.BoolOp op [a] pos) ta := ⟨ZQC h.h⟩
theorem ZGn (ha : QE X a ta) (hb : QE X (.BoolOp .And (b :: ZCm) pos) tb) : QE X (.BoolOp .And (a :: b :: ZCm) pos) (ZKS ta tb) := ⟨ZQD ha.h hb.h⟩
theorem ZGM (hc : QT X c tA) (ha : QE X a ta) (hb : QE X b tb) : QE X (.IfExp c a b pos) (tIf tA ta tb) := ⟨ZMe hc.h ha.h hb.h⟩
theorem ZD7 {op : CmpOp} {r : R2} (ho : OpR X (compareOp op) r) (ha : QE X a ta) (hb : QE X b tb) (hm : behindInMarks op b = false) : QE X (.Compare a [op] [b] pos) (tOp r ta tb) := ⟨ZOo ho ha.h hb.h hm⟩
theorem ZCD {op : CmpOp} {r : R2} (ho : OpR X (compareOp op) r) (ha : QE X a ta) (hb : QE X b tb) (hm : behindInMarks op b = false) : QT X (.Compare a [op] [b] pos) (ZKg (tOp r ta tb)) := ⟨ZOp ho ha.h hb.h hm⟩
theorem ZNJ {op op' : CmpOp} {r r' : R2} (ho : OpR X (compareOp op) r) (ho' : OpR X (compareOp op') r') (ha : QE X a ta) (hb : QE X b tb) (hc : QE X c tc)
 (hm : lastMarks [op, op'] [b, c] = false := by with_unfolding_all rfl) : QE X (.Compare a [op, op'] [b, c] pos) (ZIP r r' ta tb tc) := ⟨ZMr ho ho' ha.h hb.h hc.h hm⟩
theorem ZFY (h : QE X e te) (he : ZIZ e = true := by rfl) : QT X e (tB te) := ⟨ZP8 h.h (ZQ3 he)⟩
theorem QW.pt (h : QW X e tA) : QT X e tA := ⟨h.h.pt⟩
theorem ZHC (ha : QT X a tA) : QW X (.BoolOp .And [a] pos) tA := ⟨ZOc ha.h⟩
theorem ZGo (ha : QT X a tA) : QW X (.BoolOp .Or [a] pos) tA := ⟨ZP9 ha.h⟩
theorem ZIb (ha : QT X a tA) (hb : QW X (.BoolOp .And (b :: ZCm) pos) tB') : QW X (.BoolOp .And (a :: b :: ZCm) pos) (ZMc tA tB') := ⟨ZQA ha.h hb.h⟩
theorem ZIG (ha : QT X a tA) (hb : QW X (.BoolOp .Or (b :: ZCm) pos) tB') : QW X (.BoolOp .Or (a :: b :: ZCm) pos) (tOr tA tB') := ⟨ZRQ ha.h hb.h⟩
theorem ZFZ (ha : QT X a tA) : QT X (.UnaryOp .Not a pos) (ZMd tA) := ⟨ZQB ha.h⟩
theorem ZBt : QA X [] ZGK := ⟨ZQR⟩
theorem ZBu (ha : QE X e te) (hr : QA X es t) (hs : ZDQ e = false := by rfl) : QA X (e :: es) (ZIE te t) := ⟨ZRq ha.h hr.h hs⟩
theorem ZDJ {x1} (h : QA X es t) : QE X (.Tuple es x1 pos) (ZMx t) := ⟨ZQS h.h⟩
theorem ZEh (h : QA X es t) : QE X (.List es pos) (ZMy t) := ⟨ZQT h.h⟩
theorem ZCi {r : R2} (hr : IxR X r) (ha : QE X a ta) (hb : QE X b tb) (hs : ZIF b = false := by rfl) : QE X (.Subscript a b pos) (tOp r ta tb) := ⟨ZRU hr ha.h hb.h (ZPM hs)⟩
theorem ZNK {CX : CXT} {k : Nat} {f : Addr} {fd : FuncData} {ps : List Str} {sp : Sp} {dvs : List V} {ds : List Value} {E : XK} (F : ZB2 X.prog X.w X.K X.mg X.base CX k f fd ps sp) (hr : Room k X.A) (hg : Gl X x) (hm : X.mg x = some (.ref f)) (hk : W.keepIn X.K (.ref f) = true) (hb : ZBz X.K fd ps ds) (hd : ZB6 dvs ds) (hx : ZCy CX X E)
 (ha : QA X (e :: es) t) (hns : ZCT (e :: es) = true := by rfl) (hdb : (x == ("__debug__" : Str)) = false := by decide) : QE X (.Call (.Name x p) (e :: es) [] pos) (ZGg sp dvs E t) := ⟨ZNA F hr hg hm hk hb hd hx ha.h hns hdb⟩
theorem ZCQ {id : String} {r : List V -> Hp -> VK -> Prop} (hc : ZCe X (.builtin id) r) (hg : Gl X x) (hm : X.mg x = none) (hv : bootBuiltins x = some (.builtin id)) (ha : QA X (e :: es) t) (hns : ZCT (e :: es) = true := by rfl) (hn : x ≠ "__name__" := by decide) (hdb : (x == ("__debug__" : Str)) = false := by decide) :
 QE X (.Call (.Name x p) (e :: es) [] pos) (tCB r t) := ⟨ZLe hc hg hm hv ha.h hns hn hdb⟩
theorem ZDU {T : String} {r : List V -> Hp -> VK -> Prop} (hc : ZCe X (.type T) r) (hg : Gl X x) (hm : X.mg x = none) (hv : bootBuiltins x = some (.type T)) (ha : QA X (e :: es) t) (hns : ZCT (e :: es) = true := by rfl) (hn : x ≠ "__name__" := by decide) (hdb : (x == ("__debug__" : Str)) = false := by decide) :
 QE X (.Call (.Name x p) (e :: es) [] pos) (tCB r t) := ⟨ZKq hc hg hm hv ha.h hns hn hdb⟩
theorem ZIc : QF X [] ZKo := ⟨ZM9⟩
theorem ZPN {tg : Expr} (hl : QE X e te) : QI X tg e (ZID X.K te) := ⟨ZOi hl.h⟩
theorem ZQ5 {tg : Expr} (hl : QE X e te) : QI X tg e (ZKa X.K te) := ⟨ZQK hl.h⟩
theorem ZHd {tg : Expr} (hg : Gl X "range") (hm : X.mg "range" = none) (ha : QA X [a] t) (hs : ZDQ a = false := by rfl) : QI X tg (.Call (.Name "range" p) [a] [] pos) (ZKb t) := ⟨ZLL hg hm ha.h (ZDB hs)⟩
theorem ZLj {tg : Expr} (hg : Gl X "range") (hm : X.mg "range" = none) (ha : QA X [a, b] t) (hs : ZDQ a = false := by rfl) (hs2 : ZDQ b = false := by rfl) : QI X tg (.Call (.Name "range" p) [a, b] [] pos) (ZKc t) := ⟨ZLM hg hm ha.h (by rw [ZDB hs, ZDB hs2]; rfl) (ZDB hs2)⟩
theorem ZHD {i : Nat} (hN : X.N.Nodup) (hi : X.N[i]? = some x) (hx : Loc X.env.scope x) (hf : X.fn x = true \/ X.env.scope.names.lookup x = some .local := by first | exact .inl rfl | exact .inr rfl | assumption) : QG X (.Name x pos) (ZEM i) := ⟨ZOg hN hi hx hf⟩
theorem ZJy : QGs X [] ZMk := ⟨ZOh⟩
theorem ZLk {e : Expr} {es : List Expr} {env : Env} (h : ZDQ e = false) : (assignEach (e :: es) env).map (·.2) = assign e env :: (assignEach es env).map (·.2) := by
 cases e <;> first | rfl | cases h
theorem ZEu {g : TG} {u : TGs} (h1 : QG X e g) (h2 : QGs X es u) (hs : ZDQ e = false := by rfl) : QGs X (e :: es) (ZKV g u) := ⟨ZMl h1.h h2.h (ZLk hs)⟩
theorem ZQ6 {k : Nat} {u : TGs} {n : Nat} (hc : X.calm = true) (h : QGs X es u) (hn : (assignEach es X.env).length = n := by rfl) (hst : (assignEach es X.env).findIdx? (·.1) = none := by rfl) : QG X (.Tuple es k pos) (ZKW X.K n u) := ⟨ZQG hc h.h hn hst⟩
theorem ZLl {s : ZIN} (ho : QE X o to) (hi : QE X e ti) (hs : ZMj X s)
 (ha : ∀ v, assign (.Subscript o e pos) X.env v = (do
  let ov <- holding [v] (eval o X.env)
  let iv <- holding [v, ov] (eval e X.env)
  standAt pos
  holding [v, ov, iv] (setItem ov iv v)
  release [v, ov, iv] []) := by intro _; rfl) : QG X (.Subscript o e pos) (ZMm to ti s) := ⟨ZQH ho.h hi.h hs ha⟩
theorem ZJz {N : List Str} {sc : Scope} {own caps : List Str} {ks : List Nat} {elt tg iter : Expr} {ifs : List Expr} {scope : Scope} {wi : TI} {g : TG} {tt : TT}
  (hN : X.N = N) (hsc : X.env.scope = sc) (hc : X.calm = true) (S : ZLa N sc own caps ks scope) (hi : QI X tg iter wi)
  (hg : ∀ cl C s₂ H₂ fp, QG (ZCu X (own ++ caps) scope cl C s₂ H₂ fp) tg g)
  (ht : ∀ cl C s₂ H₂ fp, QF (ZCu X (own ++ caps) scope cl C s₂ H₂ fp) ifs tt)
  (he : ∀ cl C s₂ H₂ fp, QE (ZCu X (own ++ caps) scope cl C s₂ H₂ fp) elt te)
  (hs : ∀ x, foldedSetIterable iter X.env x = pure x := by intro _; rfl) :
  QE X (.ListComp elt [⟨tg, iter, ifs, 0⟩] scope pos) (ZKp own.length ks wi g tt te) :=
 ⟨ZOy hN hsc hc S hi.h (fun cl C s₂ H₂ fp => (hg cl C s₂ H₂ fp).h) (fun cl C s₂ H₂ fp => (ht cl C s₂ H₂ fp).h) (fun cl C s₂ H₂ fp => (he cl C s₂ H₂ fp).h) hs⟩
theorem ZIH {T : String} {name : Str} {id : String} {r : V -> List V -> Hp -> VK -> Prop} {apos cpos : Pos} (pa : PlainAttrs T) (slot : Slot T name id) (hty : typeOf (.builtin id) = pure (.type "method_descriptor")) (hm : MtR X id r) (ho : QE X o to) (ha : QA X (e :: es) t)
  (hst : ZCT (e :: es) = true := by rfl) (hbase : attributeBase o name X.env (eval o X.env) = eval o X.env := by rfl)
  (hfew : ((backTo cpos (starEach (e :: es) X.env)).all (fun x => !x.1) && (backToKw cpos (keywordEach [] X.env)).all (fun x => x.1.isSome)
   && decide ((e :: es).length + ([] : List Keyword).length + (if ([] : List Keyword).isEmpty then 0 else 1) < 30)) = true := by rfl)
  (hline : (apos.endLine == cpos.line) = true := by rfl) : QE X (.Call (.Attribute o name apos) (e :: es) [] cpos) (tBM X.K T r to t) :=
 ⟨ZRV pa slot hty hm ho.h ha.h hbase hfew hline (ZDT hst) (ZDE (ZDC hst))⟩
end
section
variable {X : Cx} {st : Stmt} {ZCm sa sb : List Stmt} {t u : TS} {e c : Expr} {te : TE} {tA : TT} {pos pos' : Pos} {x : Str}
theorem ZCU : QB X [] ZKU := ⟨ZOd⟩
theorem ZBw (h1 : QS X st t) (h2 : QB X ZCm u) : QB X (st :: ZCm) (ZMf t u) := ⟨ZMg h1.h h2.h⟩
theorem ZBx (h1 : QS X st t) : QB X [st] t := ⟨ZOe h1.h⟩
theorem ZCW (he : QE X e te) (hs : ZDL e = false := by rfl) : QS X (.Expr e pos) (ZIC te) := ⟨ZNB he.h hs⟩
theorem ZB7 (he : QE X e te) : QS X (.Return (some e) pos) (ZMh te) := ⟨ZQF he.h⟩
theorem ZCk (hc : QT X c tA) (ha : QB X sa t) (hb : QB X sb u) : QS X (.If c sa sb pos) (ZIM tA t u) := ⟨ZRR hc.h ha.h hb.h⟩
theorem ZEv : QS X st ZLK := ⟨ZMi⟩
theorem ZPO {i : Nat} (hN : X.N.Nodup) (hi : X.N[i]? = some x) (hx : Loc X.env.scope x) (he : QE X e te) (hs : ZDL e = false := by rfl) (hf : X.fn x = true \/ X.env.scope.names.lookup x = some .local := by first | exact .inl rfl | exact .inr rfl | assumption) :
 QS X (.Assign [.Name x pos'] e pos) (ZGI te (ZEM i)) := ⟨ZO0 hN hi hx he.h hs hf⟩
theorem ZLm {tg : Expr} {g : TG} (he : QE X e te) (hg : QG X tg g) (hs : ZDL e = false := by rfl) (hw : swappedStores [tg] e X.env = pure none := by rfl)
 (h1 : (assignEach [tg] X.env).map (·.2) = [assign tg X.env] := by rfl) : QS X (.Assign [tg] e pos) (ZGI te g) := ⟨ZQI he.h hg.h (ZDj hs) hw h1⟩
theorem ZFa {tg iter : Expr} {wi : TI} {g : TG} (hp : PassesOwn (model X.prog X.w) X.A X.env X.xe) (hc : X.calm = true) (hi : QI X tg iter wi) (hg : QG X tg g) (hb : QB X sa t)
 (hs : ∀ x, foldedSetIterable iter X.env x = pure x := by intro _; rfl) : QS X (.For tg iter sa [] pos) (ZMn wi g t) := ⟨ZQL hp hc hi.h hg.h hb.h hs⟩
end
section
variable {X : Cx} {e : Expr} {es : List Expr} {te : TE} {pos : Pos} (K : W.Frag) (h : X.K = K)
include h
theorem ZGp : ZCe X (.builtin "len") (ZKr K) := h ▸ ZQd
theorem ZEw : ZCe X (.type "tuple") (ZIV K) := h ▸ ZNC
theorem ZGq : ZCe X (.builtin "isinstance") (ZM6 K) := h ▸ ZM7
theorem ZDb : IxR X (ZM2 K) := h ▸ ZOx
theorem ZCz : IxR X (ZM3 K) := h ▸ ZQU
theorem ZJ0 {tg : Expr} (hl : QE X e te) : QI X tg e (ZID K te) := h ▸ ZPN hl
theorem ZQ7 {tg : Expr} (hl : QE X e te) : QI X tg e (ZKa K te) := h ▸ ZQ5 hl
theorem ZLn {k : Nat} {u : TGs} {n : Nat} (hc : X.calm = true) (hg : QGs X es u) (hn : (assignEach es X.env).length = n := by rfl) (hst : (assignEach es X.env).findIdx? (·.1) = none := by rfl) : QG X (.Tuple es k pos) (ZKW K n u) := h ▸ ZQ6 hc hg hn hst
end
mutual
inductive Dat (K : W.Frag) (H : Hp) : V -> PyData -> Prop
 | non : Dat K H .non .none
 | bl (b : Bool) : Dat K H (.bl b) (.bool b)
 | int (i : Int) : Dat K H (.int i) (.int i)
 | str (x : Str) : Dat K H (.str x) (.str x)
 | tup {a : Addr} {xs : List V} {ds : List PyData} (h : SqT K H a xs) (r : ZDO K H xs ds) : Dat K H (.ref a) (.tuple ds)
 | lst {a : Addr} {xs : List V} {ds : List PyData} (h : SqL K H a xs) (r : ZDO K H xs ds) : Dat K H (.ref a) (.list ds)
inductive ZDO (K : W.Frag) (H : Hp) : List V -> List PyData -> Prop
 | nil : ZDO K H [] []
 | cons {x : V} {d : PyData} {xs : List V} {ds : List PyData} (h : Dat K H x d) (r : ZDO K H xs ds) : ZDO K H (x :: xs) (d :: ds)
end
section
variable {X : Cx} {pins : List (Addr × Obj)} {U : St} {H : Hp} {s : Shared}
mutual
theorem Dat.reads (I : Inv X pins U H s) : ∀ {x : V} {d : PyData} {u : Value}, Dat X.K H x d -> ZB3 x u -> ∃ as, Reads s.heap u d as
 | _, _, u, .non, r => by cases (show u = Value.none from r); exact ⟨_, .none⟩
 | _, _, u, .bl b, r => by cases (show u = Value.bool b from r); exact ⟨_, .bool b⟩
 | _, _, u, .int i, r => by obtain ⟨t, rfl⟩ := (show ∃ t, u = Value.int i t from r); exact ⟨_, .int i t⟩
 | _, _, u, .str x, r => by obtain ⟨t, rfl⟩ := (show ∃ t, u = Value.str x t from r); exact ⟨_, .str x t⟩
 | _, _, u, @Dat.tup _ _ a xs ds h rs, r => by
  cases (show u = Value.ref a from r)
  obtain ⟨its, rv, ⟨o, ho, hc, n, hd⟩, _⟩ := I.tuple h
  obtain ⟨as, ra⟩ := ZDO.reads I rs rv
  exact ⟨_, .tuple ho hc hd (by simpa using ra)⟩
 | _, _, u, @Dat.lst _ _ a xs ds h rs, r => by
  cases (show u = Value.ref a from r)
  obtain ⟨its, rv, ⟨o, n, ho, hc, _, hd⟩, _⟩ := I.list h
  obtain ⟨as, ra⟩ := ZDO.reads I rs rv
  exact ⟨_, .list ho hc hd (by simpa using ra)⟩
theorem ZDO.reads (I : Inv X pins U H s) : ∀ {xs : List V} {ds : List PyData} {us : List Value}, ZDO X.K H xs ds -> ZB6 xs us -> ∃ as, ReadsAll s.heap us ds as
 | _, _, _, .nil, .nil => ⟨_, .nil⟩
 | _, _, _, .cons h r, .cons r1 r2 => by
  obtain ⟨as, ra⟩ := Dat.reads I h r1
  obtain ⟨bs, rb⟩ := ZDO.reads I r r2
  exact ⟨_, .cons ra rb⟩
end
end
section
variable {X : Cx}
def ZId (K : W.Frag) : R2 := fun x y H Q => ∃ d e, Dat K H x d /\ Dat K H y e /\ d.canLay0 = true /\ e.canLay0 = true /\ d.depth <= 60 /\ Q (.bl (!PyData.eqv d e)) H
theorem ZLo (K : W.Frag) (hK : X.K = K) (hu : X.A.units + 64 < cLine) : OpR X (compareOp .NotEq) (ZId K) := by
 subst hK
 intro pins s U H x y v u Q I rx ry h
 obtain ⟨d, e, h1, h2, c1, c2, hd, q⟩ := h
 obtain ⟨as, ra⟩ := h1.reads I rx
 obtain ⟨bs, rb⟩ := h2.reads I ry
 exact SeqAt.compareNe_reads ra rb c1 c2 (by have := Nat.min_le_left d.depth e.depth; omega) ⟨.bl _, H, I, rfl, q⟩
theorem ZLp {K : W.Frag} {H : Hp} {Q : VK} {x y : V} {d e : PyData} (h1 : Dat K H x d) (h2 : Dat K H y e) (c1 : d.canLay0 = true) (c2 : e.canLay0 = true) (hd : d.depth <= 60) (h : Q (.bl (!PyData.eqv d e)) H) : ZId K x y H Q := ⟨d, e, h1, h2, c1, c2, hd, h⟩
theorem ZRd {K : W.Frag} {T : String} {r : V -> List V -> Hp -> VK -> Prop} {to : TE} {t : TA} {U : St} {H : Hp} {Q : VK} (h : to U H fun x H1 => tyV K T x H1 /\ t U H1 fun xs H2 => r x xs H2 Q) : tBM K T r to t U H Q := h
theorem tyL {K : W.Frag} {H : Hp} {p : Addr} {xs : List V} (h : H p = some (.lst xs)) : tyV K "list" (.ref p) H := .inl ⟨rfl, xs, SqL.of h⟩
theorem ZDu {H : Hp} {Q : VK} {p : Addr} {xs : List V} {y : V} (h1 : H p = some (.lst xs)) (hz : xs.length < sizeLine) (h : ∀ H2, H2 p = some (.lst (xs ++ [y])) -> Kp p H H2 -> Q .non H2) : ZJt (.ref p) [y] H Q :=
 ⟨p, xs, y, rfl, rfl, h1, hz, h _ ZCC Kp.upd⟩
end
def ZCl (p : Int × Int) : PyData := .tuple [.int p.1, .int p.2]
def ZB5 (H : Hp) (vs : List V) (l : PL) : Prop := Paired (fun v (p : Int × Int) => ∃ a, v = V.ref a /\ H a = some (.tup [.int p.1, .int p.2])) vs l
theorem ZB5.same {H H' : Hp} {vs : List V} {l : PL} (h : ZB5 H vs l) (s : ZB1 H H') : ZB5 H' vs l := Paired.mapP h fun _ _ ⟨a, e, z⟩ => ⟨a, e, s _ _ z⟩
theorem ZB5.dats {K : W.Frag} {H : Hp} : ∀ {vs : List V} {l : PL}, ZB5 H vs l -> ZDO K H vs (l.map ZCl)
 | _, _, .nil => .nil
 | _, _, .cons ⟨a, e, z⟩ t => by
  subst e
  exact .cons (.tup (SqT.of z) (.cons (.int _) (.cons (.int _) .nil))) (ZB5.dats t)
theorem ZFb : ∀ l : PL, PyData.canLayAll0 (l.map ZCl) = true
 | [] => rfl
 | p :: l => by
  show (PyData.canLay0 (ZCl p) && PyData.canLayAll0 (l.map ZCl)) = true
  rw [ZFb l]
  rfl
section
variable {κ : Type} [DecidableEq κ]
def ZCf (kvs : List (κ × V)) (k : κ) : Option V := (kvs.find? fun kv => decide (kv.1 = k)).map (·.2)
def ZC7 (kvs : List (κ × V)) (k : κ) (v : V) : List (κ × V) :=
 if (kvs.any fun kv => decide (kv.1 = k)) = true then kvs.map (fun kv => if kv.1 = k then (kv.1, v) else kv) else kvs ++ [(k, v)]
def ZEO (kvs : List (κ × V)) (k : κ) : List (κ × V) := kvs.filter fun kv => decide (kv.1 ≠ k)
theorem ZCs {p : κ × V} {r : List (κ × V)} {k : κ} (e : p.1 = k) : ZCf (p :: r) k = some p.2 := by simp [ZCf, UC, e]
theorem ZCt {p : κ × V} {r : List (κ × V)} {k : κ} (e : ¬ p.1 = k) : ZCf (p :: r) k = ZCf r k := by simp [ZCf, UC, e]
theorem ZEx (k : κ) : ∀ kvs : List (κ × V), (kvs.any fun kv => decide (kv.1 = k)) = (ZCf kvs k).isSome
 | [] => rfl
 | p :: r => by
  rw [List.any_cons]
  by_cases e : p.1 = k
  ·simp only [ZCs e, decide_eq_true e, Bool.true_or, Option.isSome_some]
  ·rw [ZCt e, decide_eq_false e, Bool.false_or]; exact ZEx k r
theorem ZIe (k j : κ) (y : V) : ∀ kvs : List (κ × V), ZCf (kvs.map fun kv => if kv.1 = k then (kv.1, y) else kv) j = (ZCf kvs j).map fun x => if j = k then y else x
 | [] => rfl
 | p :: r => by
  have ih := ZIe k j y r
  rw [Uw]
  by_cases h : p.1 = k
  ·rw [if_pos h]
   by_cases e : p.1 = j
   ·rw [ZCs (p := (p.1, y)) e, ZCs e, Va, if_pos (e.symm.trans h)]
   ·rw [ZCt (p := (p.1, y)) e, ZCt e, ih]
  ·rw [if_neg h]
   by_cases e : p.1 = j
   ·rw [ZCs (p := p) e, ZCs e, Va, if_neg (fun z => h (e.trans z))]
   ·rw [ZCt (p := p) e, ZCt e, ih]
theorem ZHe (k j : κ) (y : V) : ∀ kvs : List (κ × V), ZCf kvs k = none -> ZCf (kvs ++ [(k, y)]) j = if j = k then some y else ZCf kvs j
 | [], _ => by
  by_cases e : k = j
  ·rw [if_pos e.symm]; exact ZCs (p := (k, y)) e
  ·rw [if_neg (fun z => e z.symm)]; exact ZCt (p := (k, y)) e
 | p :: r, hn => by
  rw [List.cons_append]
  have hk : ¬ p.1 = k := fun z => by rw [ZCs z] at hn; cases hn
  rw [ZCt hk] at hn
  have ih := ZHe k j y r hn
  by_cases e : p.1 = j
  ·rw [ZCs e, ZCs e, if_neg (fun z => hk (e.trans z))]
  ·rw [ZCt e, ZCt e, ih]
theorem ZGN (kvs : List (κ × V)) (k j : κ) (y : V) : ZCf (ZC7 kvs k y) j = if j = k then some y else ZCf kvs j := by
 unfold ZC7
 by_cases a : (kvs.any fun kv => decide (kv.1 = k)) = true
 ·rw [if_pos a, ZIe]
  rw [ZEx] at a
  by_cases e : j = k
  ·obtain ⟨x, hx⟩ := Option.isSome_iff_exists.mp a
   rw [if_pos e, e, hx, Va, if_pos rfl]
  ·rw [if_neg e]
   cases ZCf kvs j with
   | none => rfl
   | some x => rw [Va, if_neg e]
 ·rw [if_neg a]
  refine ZHe k j y kvs ?_
  rw [ZEx] at a
  cases q : ZCf kvs k with
  | none => rfl
  | some x => rw [q] at a; exact (a rfl).elim
theorem ZDn (kvs : List (κ × V)) (k : κ) (v : V) : (ZC7 kvs k v).length <= kvs.length + 1 := by
 unfold ZC7
 split
 ·rw [Ur]; omega
 ·rw [UD, UB, List.length_nil]; omega
theorem ZDD.isSome_eq {o : Option V} {u : Option Value} (r : ZDD o u) : o.isSome = u.isSome := by
 cases o with
 | none => cases u with
  | none => rfl
  | some _ => exact (show False from r).elim
 | some _ => cases u with
  | none => exact (show False from r).elim
  | some _ => rfl
theorem ZDD.getD {o : Option V} {u : Option Value} {d : V} {d' : Value} (r : ZDD o u) (rd : ZB3 d d') : ZB3 (o.getD d) (u.getD d') := by
 cases o with
 | none => cases u with
  | none => exact rd
  | some _ => exact (show False from r).elim
 | some _ => cases u with
  | none => exact (show False from r).elim
  | some _ => exact r
theorem KV.val {kvs : List (κ × V)} {vs : List (κ × Value)} (r : KV kvs vs) (k : κ) : ZDD (ZCf kvs k) (valueAt vs k) := by
 unfold KV at r
 induction r with
 | nil => exact True.intro
 | @cons p q ps qs h t ih =>
  obtain ⟨h1, h2⟩ := h
  by_cases e : p.1 = k
  ·have e' : q.1 = k := h1.symm.trans e
   have b : valueAt (q :: qs) k = some q.2 := by simp [valueAt, UC, e']
   rw [ZCs e, b]; exact h2
  ·have e' : ¬ q.1 = k := fun z => e (h1.trans z)
   have b : valueAt (q :: qs) k = valueAt qs k := by simp [valueAt, UC, e']
   rw [ZCt e, b]; exact ih
theorem KV.any {kvs : List (κ × V)} {vs : List (κ × Value)} (r : KV kvs vs) (k : κ) : (kvs.any fun kv => decide (kv.1 = k)) = vs.any fun kv => decide (kv.1 = k) := by
 unfold KV at r
 induction r with
 | nil => rfl
 | cons h t ih => rw [List.any_cons, List.any_cons, ih, h.1]
theorem KV.repl {kvs : List (κ × V)} {vs : List (κ × Value)} (r : KV kvs vs) (k : κ) {y : V} {u : Value} (ry : ZB3 y u) :
  KV (kvs.map fun kv => if kv.1 = k then (kv.1, y) else kv) (vs.map fun kv => if kv.1 = k then (kv.1, u) else kv) := by
 unfold KV at r ⊢
 induction r with
 | nil => exact .nil
 | @cons p q ps qs h t ih =>
  rw [Uw, Uw]
  refine .cons ?_ ih
  obtain ⟨h1, h2⟩ := h
  by_cases e : p.1 = k
  ·rw [if_pos e, if_pos (h1.symm.trans e)]; exact ⟨h1, ry⟩
  ·rw [if_neg e, if_neg (fun z => e (h1.trans z))]; exact ⟨h1, h2⟩
theorem KV.put {kvs : List (κ × V)} {vs : List (κ × Value)} (r : KV kvs vs) (k : κ) {y : V} {u : Value} (ry : ZB3 y u) : KV (ZC7 kvs k y) (stored vs k u) := by
 unfold ZC7 stored
 rw [r.any k]
 by_cases e : (vs.any fun kv => decide (kv.1 = k)) = true
 ·rw [if_pos e, if_pos e]; exact r.repl k ry
 ·rw [if_neg e, if_neg e]; exact Paired.snoc r ⟨rfl, ry⟩
theorem KV.drop {kvs : List (κ × V)} {vs : List (κ × Value)} (r : KV kvs vs) (k : κ) : KV (ZEO kvs k) (without vs k) := by
 unfold KV at r ⊢
 unfold ZEO without
 induction r with
 | nil => exact .nil
 | @cons p q ps qs h t ih =>
  obtain ⟨h1, h2⟩ := h
  rw [List.filter_cons, List.filter_cons]
  by_cases e : p.1 = k
  ·have a : ¬ decide (p.1 ≠ k) = true := by simp [e]
   have b : ¬ decide (q.1 ≠ k) = true := by simp [h1.symm.trans e]
   rw [if_neg a, if_neg b]; exact ih
  ·have e' : ¬ q.1 = k := fun z => e (h1.trans z)
   have a : decide (p.1 ≠ k) = true := by simp [e]
   have b : decide (q.1 ≠ k) = true := by simp [e']
   rw [if_pos a, if_pos b]; exact .cons ⟨h1, h2⟩ ih
theorem KV.length {kvs : List (κ × V)} {vs : List (κ × Value)} (r : KV kvs vs) : kvs.length = vs.length := Paired.length r
theorem ZNL (kvs : List (κ × V)) (k : κ) : (ZEO kvs k).length <= kvs.length := List.length_filter_le _ _
end
theorem ZFx {P : Program} {w : World} {k : Key} {u : Value} (r : ZB3 (kV k) u) : (ZCY P w).is k u = true := by
 cases k with
 | inl i => obtain ⟨t, e⟩ := (show ∃ t, u = Value.int i t from r); subst e; exact ZJY P w i t
 | inr x => obtain ⟨t, e⟩ := (show ∃ t, u = Value.str x t from r); subst e; exact ZJZ P w x t
theorem ZHf {P : Program} {w : World} : ∀ {ks : List Key} {us : List Value}, ZB6 (ks.map kV) us -> ItemsAre (ZCY P w) ks us
 | [], _, r => by rw [List.map_nil] at r; cases r; exact .nil
 | k :: ks, _, r => by
  rw [Uw] at r
  cases r with
  | cons h t => exact .cons (ZFx h) (ZHf t)
abbrev KT (H : Hp) : List (List Key × V) -> List (List Key × Addr × Value) -> Prop := Paired fun p q => p.1 = q.1 /\ H q.2.1 = some (.tup (p.1.map kV)) /\ ZB3 p.2 q.2.2
theorem KT.val {H : Hp} {kvs : List (List Key × V)} {xs : List (List Key × Addr × Value)} (r : KT H kvs xs) (k : List Key) : ZDD (ZCf kvs k) ((atKey xs k).map (·.2)) := by
 induction r with
 | nil => exact True.intro
 | @cons p q ps qs h t ih =>
  obtain ⟨h1, _, h2⟩ := h
  by_cases e : p.1 = k
  ·have e' : q.1 = k := h1.symm.trans e
   have b : atKey (q :: qs) k = some q.2 := by simp [atKey, UC, e']
   rw [ZCs e, b]; exact h2
  ·have e' : ¬ q.1 = k := fun z => e (h1.trans z)
   have b : atKey (q :: qs) k = atKey qs k := by simp [atKey, UC, e']
   rw [ZCt e, b]; exact ih
theorem KT.repl {H : Hp} {kvs : List (List Key × V)} {xs : List (List Key × Addr × Value)} (r : KT H kvs xs) (k : List Key) {y : V} {u : Value} (ry : ZB3 y u) :
  KT H (kvs.map fun kv => if kv.1 = k then (kv.1, y) else kv) (xs.map (putAt k u)) := by
 induction r with
 | nil => exact .nil
 | @cons p q ps qs h t ih =>
  rw [Uw, Uw]
  refine .cons ?_ ih
  obtain ⟨h1, h2, h3⟩ := h
  unfold putAt
  by_cases e : p.1 = k
  ·rw [if_pos e, if_pos (h1.symm.trans e)]; exact ⟨h1, h2, ry⟩
  ·rw [if_neg e, if_neg (fun z => e (h1.trans z))]; exact ⟨h1, h2, h3⟩
theorem KT.put {H : Hp} {kvs : List (List Key × V)} {xs : List (List Key × Addr × Value)} (r : KT H kvs xs) (k : List Key) {b : Addr} {y : V} {u : Value} (hb : H b = some (.tup (k.map kV))) (ry : ZB3 y u) :
  KT H (ZC7 kvs k y) (storedH xs k b u) := by
 have e : (kvs.any fun kv => decide (kv.1 = k)) = (atKey xs k).isSome := by
  rw [ZEx, (r.val k).isSome_eq, Option.isSome_map]
 unfold ZC7 storedH
 rw [e]
 by_cases q : (atKey xs k).isSome = true
 ·rw [if_pos q, if_pos q]; exact r.repl k ry
 ·rw [if_neg q, if_neg q]; exact Paired.snoc r ⟨rfl, hb, ry⟩
theorem KT.keeps {H H' : Hp} {kvs : List (List Key × V)} {xs : List (List Key × Addr × Value)} (r : KT H kvs xs) (ht : ∀ b ys, H b = some (.tup ys) -> H' b = some (.tup ys)) : KT H' kvs xs :=
 Paired.mapP r fun _ _ z => ⟨z.1, ht _ _ z.2.1, z.2.2⟩
section
variable {P : Program} {w : World} {H : Hp} {h : Heap} {a : Addr}
theorem ZOQ {u : HO} (ok : HOk P w H h) (e : Rd H a u) : ZCF P w H h a u := e.ok ok
theorem ZDo {kvs : List (Key × V)} (ok : HOk P w H h) (e : Rd H a (.dK kvs)) : kvs.length <= sizeLine /\ (a == sysModules) = false /\ ∃ vs, KV kvs vs /\ h.DictOf (ZCY P w) a vs :=
 show ZCF P w H h a (.dK kvs) from ZOQ ok e
theorem ZII {kvs : List (Key × V)} (ok : HOk P w H h) (e : H a = some (.dK kvs)) : kvs.length <= sizeLine /\ (a == sysModules) = false /\ ∃ vs, KV kvs vs /\ h.DictOf (ZCY P w) a vs := ZDo ok (.inl e)
theorem ZFc {ks : List Key} (ok : HOk P w H h) (e : H a = some (.tup (ks.map kV))) : (tupleKind (ZCY P w)).is h ks a := by
 obtain ⟨_, its, r, o, h1, h2, n, h3⟩ := (show ZCF P w H h a (.tup (ks.map kV)) from ok a _ e)
 exact ⟨o, its.toArray, n, h1, h2, h3, by simpa using ZHf r⟩
theorem ZEy {kvs : List (List Key × V)} (ok : HOk P w H h) (e : Rd H a (.dT kvs)) : kvs.length <= sizeLine /\ (a == sysModules) = false /\
  ∃ xs, KT H kvs xs /\ h.DictOfH (tupleKind (ZCY P w)) a xs := by
 obtain ⟨z, y, xs, r, o, es, ep, h1, h2, h3, h4, h5⟩ := (show ZCF P w H h a (.dT kvs) from ZOQ ok e)
 refine ⟨z, y, xs, r, o, es, ep, h1, h2, h3, h4, fun x hx => ?_, h5⟩
 have all : ∀ {l : List (List Key × V)} {m : List (List Key × Addr × Value)}, KT H l m -> ∀ x ∈ m, (tupleKind (ZCY P w)).is h x.1 x.2.1 := by
  intro l m q
  induction q with
  | nil => intro x hx; exact nomatch hx
  | @cons p q ps qs hq t ih =>
   intro x hx
   rcases Uj.mp hx with e | hx
   ·subst e
    exact ZFc ok (by rw [<- hq.1]; exact hq.2.1)
   ·exact ih x hx
 exact all r x hx
theorem ZRe {kvs : List (List Key × V)} (ok : HOk P w H h) (e : H a = some (.dT kvs)) : kvs.length <= sizeLine /\ (a == sysModules) = false /\
 ∃ xs, KT H kvs xs /\ h.DictOfH (tupleKind (ZCY P w)) a xs := ZEy ok (.inl e)
end
def ZDF (H : Hp) (a : Addr) (y : V) (r : Option V) : Prop :=
 (∃ kvs k, Rd H a (.dK kvs) /\ y = kV k /\ r = ZCf kvs k) \/ ∃ kvs k b, Rd H a (.dT kvs) /\ y = .ref b /\ H b = some (.tup (k.map kV)) /\ r = ZCf kvs k
def ZEz (H : Hp) (a : Addr) (y v : V) (H' : Hp) : Prop :=
 (∃ kvs k, H a = some (.dK kvs) /\ y = kV k /\ kvs.length < sizeLine /\ H' = upd H a (.dK (ZC7 kvs k v))) \/
 ∃ kvs k b, H a = some (.dT kvs) /\ y = .ref b /\ H b = some (.tup (k.map kV)) /\ kvs.length < sizeLine /\ H' = upd H a (.dT (ZC7 kvs k v))
theorem ZDF.k {H : Hp} {a : Addr} {kvs : List (Key × V)} {k : Key} (e : H a = some (.dK kvs)) : ZDF H a (kV k) (ZCf kvs k) := .inl ⟨kvs, k, .inl e, rfl, rfl⟩
theorem ZDF.t {H : Hp} {a b : Addr} {kvs : List (List Key × V)} {k : List Key} (e : H a = some (.dT kvs)) (eb : H b = some (.tup (k.map kV))) : ZDF H a (.ref b) (ZCf kvs k) := .inr ⟨kvs, k, b, .inl e, rfl, eb, rfl⟩
theorem ZEz.k {H : Hp} {a : Addr} {kvs : List (Key × V)} {k : Key} {v : V} (e : H a = some (.dK kvs)) (hl : kvs.length < sizeLine) : ZEz H a (kV k) v (upd H a (.dK (ZC7 kvs k v))) := .inl ⟨kvs, k, e, rfl, hl, rfl⟩
theorem ZEz.t {H : Hp} {a b : Addr} {kvs : List (List Key × V)} {k : List Key} {v : V} (e : H a = some (.dT kvs)) (eb : H b = some (.tup (k.map kV))) (hl : kvs.length < sizeLine) :
 ZEz H a (.ref b) v (upd H a (.dT (ZC7 kvs k v))) := .inr ⟨kvs, k, b, e, rfl, eb, hl, rfl⟩
section
variable {X : Cx} {pins : List (Addr × Obj)} {U : St} {H : Hp} {s : Shared} {a : Addr} {y v : V} {u r : Value} {o : Option V} {A : Around} {E : Value -> Shared -> Prop}
theorem Inv.big (I : Inv X pins U H s) : sysModules < s.heap.objs.size := by
 have h : mainGlobals < s.heap.objs.size := (I.mod.glob.keeps I.bk).lt
 exact Nat.lt_trans (by decide) h
theorem ZLq {Q : Value -> Shared -> Prop} (hu : A.units + 1 < cLine) (I : Inv X pins U H s) (g : ZDF H a y (some v)) (ry : ZB3 y u) (h : ∀ w' s', Inv X pins U H s' -> ZB3 v w' -> Q w' s') :
  wpAny (model X.prog X.w) A (getItem (.ref a) u) Q E s := by
 rcases g with ⟨kvs, k, e, ey, l⟩ | ⟨kvs, k, b, e, ey, eb, l⟩
 ·subst ey
  obtain ⟨z, hd, vs, rel, dd⟩ := ZDo I.hok e
  obtain ⟨w', hw, rw'⟩ := ZDD.some_of (v := v) (o := valueAt vs k) (by rw [l]; exact rel.val k)
  exact wpAny_getItem_of (ZFx ry) dd.mapOf hw (h w' _ (I.tok _) rw')
 ·subst ey
  cases (show u = Value.ref b from ry)
  obtain ⟨z, hd, xs, rel, dd⟩ := ZEy I.hok e
  obtain ⟨w', hw, rw'⟩ := ZDD.some_of (v := v) (o := (atKey xs k).map (·.2)) (by rw [l]; exact rel.val k)
  obtain ⟨p, hp, hp2⟩ := Option.map_eq_some_iff.mp hw
  refine wpAny_getItem_heap (tupleKind_room_in1 hu) (ZFc I.hok eb) dd hp ?_
  rw [hp2]
  exact h w' _ (I.tok _) rw'
theorem ZPP {Q : Value -> Shared -> Prop} (hu : A.units + 1 < cLine) (I : Inv X pins U H s) (g : ZDF H a y o) (ry : ZB3 y u) (h : ∀ s', Inv X pins U H s' -> Q (.bool (!o.isSome)) s') :
  wpAny (model X.prog X.w) A (compareOp .NotIn u (.ref a)) Q E s := by
 rcases g with ⟨kvs, k, e, ey, l⟩ | ⟨kvs, k, b, e, ey, eb, l⟩
 ·subst ey
  obtain ⟨z, hd, vs, rel, dd⟩ := ZDo I.hok e
  refine wpAny_notIn_of (ZFx ry) hd dd.mapOf ?_
  rw [<- (rel.val k).isSome_eq, <- l]
  exact h _ (I.tok _)
 ·subst ey
  cases (show u = Value.ref b from ry)
  obtain ⟨z, hd, xs, rel, dd⟩ := ZEy I.hok e
  refine wpAny_notIn_heap (tupleKind_room_in1 hu) (ZFc I.hok eb) hd dd ?_
  have q := (rel.val k).isSome_eq
  rw [Option.isSome_map] at q
  rw [<- q, <- l]
  exact h _ (I.tok _)
theorem ZHE {h' : Heap} {t' : Nat} {ob : HO} (I : Inv X pins U H s) (mu : Mut (H a)) (hs : Heap.SameBut a s.heap h') (he : ∃ q, h'.get? a = some q) (new : ZCF X.prog X.w (upd H a ob) h' a ob) :
  Inv X pins U (upd H a ob) { s with heap := h', toks := t' } :=
 I.write (x := a) (e := a) mu (.inl rfl) (fun b q hb z => (hs.2 b hb).trans z) he new
theorem ZLr {P : Program} {w : World} {H' : Hp} {h' : Heap} {kvs : List (Key × V)} {vs : List (Key × Value)} (z : kvs.length <= sizeLine) (hd : (a == sysModules) = false) (rel : KV kvs vs) (dd : h'.DictOf (ZCY P w) a vs) :
 ZCF P w H' h' a (.dK kvs) := ⟨z, hd, vs, rel, dd⟩
theorem ZLs {H' : Hp} {Q : Unit -> Shared -> Prop} (hu : A.units + 1 < cLine) (I : Inv X pins U H s) (g : ZEz H a y v H') (ry : ZB3 y u) (rv : ZB3 v r) (h : ∀ s', Inv X pins U H' s' -> Q () s') :
  wpAny (model X.prog X.w) A (setItem (.ref a) u r) Q E s := by
 rcases g with ⟨kvs, k, e, ey, l, eH⟩ | ⟨kvs, k, b, e, ey, eb, l, eH⟩
 ·subst ey eH
  obtain ⟨z, hd, vs, rel, dd⟩ := ZII I.hok e
  have hz : vs.length <= sizeLine := by rw [<- rel.length]; exact z
  have hl : (ZC7 kvs k v).length <= sizeLine := by have := ZDn kvs k v; omega
  refine wpAny_setItem_pairs (hsz := hz) (ZFx ry) dd fun h' dd' hs => h _ ?_
  have he : ∃ q, h'.get? a = some q := let ⟨q, _, _, hq, _⟩ := dd'; ⟨q, hq⟩
  exact ZHE I (by rw [e]; exact True.intro) hs he (ZLr hl hd (rel.put k rv) dd')
 ·subst ey eH
  cases (show u = Value.ref b from ry)
  obtain ⟨z, hd, xs, rel, dd⟩ := ZRe I.hok e
  have hz : xs.length <= sizeLine := by rw [<- Paired.length rel]; exact z
  have hl : (ZC7 kvs k v).length <= sizeLine := by have := ZDn kvs k v; omega
  refine wpAny_setItem_heap (hsz := hz) (tupleKind_room_in1 hu) (ZFc I.hok eb) dd fun h' dd' hs => h _ ?_
  obtain ⟨q, es, ep, hq, h2, h3, h4, _, h5⟩ := dd'
  refine ZHE I (by rw [e]; exact True.intro) hs ⟨q, hq⟩ ⟨hl, hd, _, (rel.put k eb rv).keeps fun c ys ec => ?_, q, es, ep, hq, h2, h3, h4, h5⟩
  rw [ZB8 (ZRO ec e (fun z => nomatch z))]
  exact ec
end
section
variable {X : Cx} {pins : List (Addr × Obj)} {U : St} {H : Hp} {s : Shared} {a : Addr} {kvs : List (Key × V)} {k : Key} {u : Value} {A : Around} {E : Value -> Shared -> Prop}
theorem ZRf {v : V} {more : List Value} {Q : Value -> Shared -> Prop} (I : Inv X pins U H s) (e : H a = some (.dK kvs)) (ry : ZB3 (kV k) u) (l : ZCf kvs k = some v) (hm : more = [] \/ ∃ x, more = [x])
  (h : ∀ w' s', Inv X pins U (upd H a (.dK (ZEO kvs k))) s' -> ZB3 v w' -> Q w' s') : wpAny (model X.prog X.w) A (call (.builtin "dict.pop") (.ref a :: u :: more)) Q E s := by
 obtain ⟨z, hd, vs, rel, dd⟩ := ZII I.hok e
 obtain ⟨w', hw, rw'⟩ := ZDD.some_of (v := v) (o := valueAt vs k) (by rw [<- l]; exact rel.val k)
 have hp : (keyPart u).isSome = true := by
  cases k with
  | inl i => obtain ⟨t, q⟩ := (show ∃ t, u = Value.int i t from ry); subst q; rfl
  | inr x => obtain ⟨t, q⟩ := (show ∃ t, u = Value.str x t from ry); subst q; rfl
 have ha : argsOk "dict.pop" ⟨.ref a :: u :: more, []⟩ := by
  rcases hm with q | ⟨x, q⟩
  ·subst q; exact PySem.F.args_dict_pop_2 _ _
  ·subst q; exact PySem.F.args_dict_pop_3 _ _ _
 refine call_meetsIn PySem.F.slot_dict_pop dd.typeIs PySem.F.entry_dict_pop ha (meets_dict_pop_there (ZCY X.prog X.w) a (ZFx ry) more hm hp)
  ⟨vs, w', dd, by rw [<- rel.length]; exact z, hw, fun h' dd' hs => h w' _ ?_ rw'⟩
 have he : ∃ q, h'.get? a = some q := let ⟨q, _, _, hq, _⟩ := dd'; ⟨q, hq⟩
 exact ZHE I (by rw [e]; exact True.intro) hs he (ZLr (UF (ZNL kvs k) z) hd (rel.drop k) dd')
end
def ZNM (i : Expr) : Prop := ∀ ov iv, subscripted i false ov iv = operate [ov, iv] (getItem ov iv)
theorem ZPQ {prog : Program} {w : World} {A : Around} {E : Value -> Shared -> Prop} {s : Shared} {env : Env} {value slice : Expr} {pos : Pos} {T id : String} {Q : Value -> Shared -> Prop}
  (hl : typeLookup (.type T) "__getitem__" = pure (some (.builtin id))) (hs : ZNM slice)
  (h : wpAny (model prog w) A (eval value env) (fun o s₁ => wpAny (model prog w) A (eval slice env) (fun i s₂ => s₂.TypeIs o T /\ wpAny (model prog w) A (getItem o i) Q E s₂) E s₁) E s) :
  wpAny (model prog w) A (eval (.Subscript value slice pos) env) Q E s := by
 refine Subscript_ (Uv h (fun o s₁ h₁ => Uv h₁ (fun i s₂ h₂ => ?_) fun _ _ x => x) fun _ _ x => x)
 obtain ⟨hT, h₂⟩ := h₂
 unfold subscriptTail
 refine Ua ?_
 rw [getitemInPython_of_ne hT.not_modules]
 refine Ua (wpAny_specialOf hT hl ?_)
 have fin : wpAny (model prog w) A (subscripted slice false o i) (fun r s₃ => wpAny (model prog w) A (letTemporaryGo value o r >>= fun _ => pure r) Q E s₃) E s₂ := by
  rw [hs o i]
  exact wpAny_operating (Uv h₂ (fun r s₃ h₃ => Ua (wpAny_letTemporaryGo (Uh h₃))) fun _ _ x => x)
 first
  | exact Uh (Ua fin)
  | exact Ua (Uh (Ua fin))
  | exact Ua fin
theorem ZJb {X : Cx} {pins : List (Addr × Obj)} {U : St} {H : Hp} {s : Shared} {a : Addr} {y : V} {o : Option V} (I : Inv X pins U H s) (g : ZDF H a y o) : s.TypeIs (.ref a) "dict" := by
 rcases g with ⟨kvs, k, e, _, _⟩ | ⟨kvs, k, b, e, _, _, _⟩
 ·obtain ⟨_, _, vs, _, dd⟩ := ZDo I.hok e
  exact dd.typeIs
 ·obtain ⟨_, _, xs, _, dd⟩ := ZEy I.hok e
  exact dd.typeIs
theorem ZJc {X : Cx} {pins : List (Addr × Obj)} {U : St} {H : Hp} {s : Shared} {a : Addr} {y : V} {o : Option V} (I : Inv X pins U H s) (g : ZDF H a y o) :
  ∀ b, Value.ref a = .ref b -> ∃ ob, s.heap.get? b = some ob /\ ob.dict = none := fun b q => by
 cases q
 rcases g with ⟨kvs, k, e, _, _⟩ | ⟨kvs, k, b, e, _, _, _⟩
 ·obtain ⟨_, _, vs, _, ob, _, _, h1, h2, _⟩ := ZDo I.hok e
  exact ⟨ob, h1, h2.2.1⟩
 ·obtain ⟨_, _, xs, _, ob, _, _, h1, h2, _⟩ := ZEy I.hok e
  exact ⟨ob, h1, h2.2.1⟩
def ZKs (td ty : TE) : TE := fun U H Q => td U H fun x H1 => ty U H1 fun y H2 => ∃ a v, x = .ref a /\ ZDF H2 a y (some v) /\ Q v H2
def ZKt (td ty tv : TE) : TS := fun D U H => tv U H fun v H1 => td U H1 fun x H2 => ty U H2 fun y H3 => ∃ a H4, x = .ref a /\ ZEz H3 a y v H4 /\ D.nx U H4
section
variable {X : Cx} {o i e value : Expr} {pos pos' tpos : Pos} {td ty tv : TE}
theorem ZPR (hu : X.A.units + 1 < cLine) (ho : PE X o td) (hi : PE X i ty) (hs : ZNM i) : PE X (.Subscript o i pos) (ZKs td ty) := by
 intro pins s U H Q I h
 refine ZPQ PySem.F.slot_dict_getitem.lookup hs (thn (ho pins s U H _ I h) fun u s1 ⟨x, H1, I1, rx, q1⟩ => thn (hi pins s1 U H1 _ I1 q1) fun iv s2 ⟨y, H2, I2, ry, a, v, ex, g, q2⟩ => ?_)
 subst ex
 obtain rfl : u = Value.ref a := rx
 exact ⟨ZJb I2 g, ZLq hu I2 g ry fun w' s3 I3 rw' => ⟨v, H2, I3, rw', q2⟩⟩
theorem ZPS (hu : X.A.units + 1 < cLine) (ho : PE X o td) (hi : PE X i ty) (hv : PE X value tv) (hs : swapsWith value (some (.Subscript o i pos')) pos.line X.env = pure false) :
  PS X (.Assign [.Subscript o i pos'] value pos) (ZKt td ty tv) := by
 intro pins s U H D I h
 refine wpAny_Assign_Subscript (thn (hv pins s U H _ I h) fun r s1 ⟨v, H1, I1, rv, q1⟩ => thn (ho pins s1 U H1 _ I1 q1) fun u s2 ⟨x, H2, I2, rx, q2⟩ => thn (hi pins s2 U H2 _ I2 q2) fun iv s3 ⟨y, H3, I3, ry, a, H4, ex, g, q3⟩ => ?_) hs
 subst ex
 obtain rfl : u = Value.ref a := rx
 exact ZLs hu I3 g ry rv fun s4 I4 => ⟨U, H4, I4, q3⟩
end
theorem ZNN {P : Program} {w : World} {H : Hp} (h : Heap) (hb : sysModules < h.objs.size) : ZCF P w H (h.push { cls := .type "dict", data := .dict #[] }) h.objs.size (.dK []) :=
 ⟨UJ _, beq_eq_false_iff_ne.mpr (Ne.symm (Up hb)), [], .nil, Heap.DictOf.new h⟩
theorem ZNO {P : Program} {w : World} {H : Hp} (h : Heap) (hb : sysModules < h.objs.size) : ZCF P w H (h.push { cls := .type "dict", data := .dict #[] }) h.objs.size (.dT []) :=
 ⟨UJ _, beq_eq_false_iff_ne.mpr (Ne.symm (Up hb)), [], .nil, _, #[], 0, Uk _ rfl, ⟨rfl, rfl, rfl⟩, rfl, rfl, List.nodup_nil⟩
def ZIf : TE := fun _ H Q => ∀ p, H p = none -> Q (.ref p) (upd H p (.dK []))
def ZIg : TE := fun _ H Q => ∀ p, H p = none -> Q (.ref p) (upd H p (.dT []))
section
variable {X : Cx} {pos : Pos}
theorem ZNP : PE X (.Dict [] [] pos) ZIf := fun pins s U H Q I h =>
 wpAny_Dict_empty ⟨.ref s.heap.objs.size, _, I.laid (a := s.heap.objs.size) (o := .dK []) (t' := s.toks) (fun _ _ q => Ub _ q) (Uc _) (ZNN s.heap I.big), rfl, h _ (I.hok.fresh (Uc _))⟩
theorem ZNQ : PE X (.Dict [] [] pos) ZIg := fun pins s U H Q I h =>
 wpAny_Dict_empty ⟨.ref s.heap.objs.size, _, I.laid (a := s.heap.objs.size) (o := .dT []) (t' := s.toks) (fun _ _ q => Ub _ q) (Uc _) (ZNO s.heap I.big), rfl, h _ (I.hok.fresh (Uc _))⟩
end
structure M1 (X : Cx) (o : Expr) (m : Str) (apos : Pos) (e : Expr) (cpos : Pos) : Prop where
 base : attributeBase o m X.env (eval o X.env) = eval o X.env
 few : ((backTo cpos (starEach [e] X.env)).all (fun x => !x.1) && (backToKw cpos (keywordEach [] X.env)).all (fun x => x.1.isSome)
  && decide (([e] : List Expr).length + ([] : List Keyword).length + (if ([] : List Keyword).isEmpty then 0 else 1) < 30)) = true
 line : (apos.endLine == cpos.line) = true
 trees : backTo cpos (starEach [e] X.env) = [(false, eval e X.env)]
def IsD (H : Hp) (a : Addr) : Prop := (∃ kvs, Rd H a (.dK kvs)) \/ ∃ kvs, Rd H a (.dT kvs)
theorem ZLt {X : Cx} {pins : List (Addr × Obj)} {U : St} {H : Hp} {s : Shared} {a : Addr} (I : Inv X pins U H s) (d : IsD H a) :
  s.TypeIs (.ref a) "dict" /\ (∀ b, Value.ref a = .ref b -> ∃ ob, s.heap.get? b = some ob /\ ob.dict = none) /\ (a == sysModules) = false := by
 rcases d with ⟨kvs, e⟩ | ⟨kvs, e⟩
 ·obtain ⟨_, hd, vs, _, dd⟩ := ZDo I.hok e
  refine ⟨dd.typeIs, fun b q => ?_, hd⟩
  cases q
  obtain ⟨ob, _, _, h1, h2, _⟩ := dd
  exact ⟨ob, h1, h2.2.1⟩
 ·obtain ⟨_, hd, xs, _, dd⟩ := ZEy I.hok e
  refine ⟨dd.typeIs, fun b q => ?_, hd⟩
  cases q
  obtain ⟨ob, _, _, h1, h2, _⟩ := dd
  exact ⟨ob, h1, h2.2.1⟩
section
variable {X : Cx} {pins : List (Addr × Obj)} {U : St} {H : Hp} {s : Shared} {a : Addr} {y d : V} {u r : Value} {o : Option V} {A : Around} {E : Value -> Shared -> Prop}
theorem ZQ8 {Q : Value -> Shared -> Prop} (hu : A.units + 1 < cLine) (I : Inv X pins U H s) (g : ZDF H a y o) (ry : ZB3 y u) (h : ∀ w' s', Inv X pins U H s' -> ZB3 (o.getD .non) w' -> Q w' s') :
  wpAny (model X.prog X.w) A (call (.builtin "dict.get") [.ref a, u]) Q E s := by
 rcases g with ⟨kvs, k, e, ey, l⟩ | ⟨kvs, k, b, e, ey, eb, l⟩
 ·subst ey
  obtain ⟨z, hd, vs, rel, dd⟩ := ZDo I.hok e
  refine call_meetsIn PySem.F.slot_dict_get dd.typeIs PySem.F.entry_dict_get (PySem.F.args_dict_get_2 _ _) (meets_dict_get (ZCY X.prog X.w) a (ZFx ry) hd) ⟨_, dd.mapOf, h _ _ (I.tok _) ?_⟩
  rw [l]
  exact (rel.val k).getD rfl
 ·subst ey
  cases (show u = Value.ref b from ry)
  obtain ⟨z, hd, xs, rel, dd⟩ := ZEy I.hok e
  refine call_meetsIn PySem.F.slot_dict_get dd.typeIs PySem.F.entry_dict_get (PySem.F.args_dict_get_2 _ _) (meetsH_dict_get (tupleKind (ZCY X.prog X.w)) a b hd) ⟨tupleKind_room_in1 hu, k, xs, ZFc I.hok eb, dd, h _ _ (I.tok _) ?_⟩
  rw [l]
  exact (rel.val k).getD rfl
end
def ZIh (td ty : TE) : TE := fun U H Q => td U H fun x H1 => ∃ a, x = .ref a /\ IsD H1 a /\ ty U H1 fun y H2 => ∃ o, ZDF H2 a y o /\ Q (o.getD .non) H2
def ZIi (td ty : TE) : TE := fun U H Q => td U H fun x H1 => ∃ a, x = .ref a /\ IsD H1 a /\ ty U H1 fun y H2 => ∃ kvs k v, H2 a = some (.dK kvs) /\ y = kV k /\ ZCf kvs k = some v /\ Q v (upd H2 a (.dK (ZEO kvs k)))
section
variable {X : Cx} {o e f : Expr} {apos cpos : Pos} {td ty tx : TE}
theorem ZNR (hu : X.A.units + 1 < cLine) (ho : PE X o td) (he : PE X e ty) (m : M1 X o "get" apos e cpos) : PE X (.Call (.Attribute o "get" apos) [e] [] cpos) (ZIh td ty) := by
 intro pins s U H Q I h
 refine wpAny_Call_method m.base m.few m.line PySem.F.plainAttrs_dict PySem.F.slot_dict_get PySem.F.type_dict_get (thn (ho pins s U H _ I h) fun u s1 ⟨x, H1, I1, rx, a, ex, d, q1⟩ => ?_)
 subst ex
 obtain rfl : u = Value.ref a := rx
 obtain ⟨t1, t2, _⟩ := ZLt I1 d
 refine ⟨t1, t2, ?_⟩
 rw [m.trees]
 refine Calls.callWith_builtin rfl (Calls.evalArgs_plain (Calls.spliced_cons (thn (he pins s1 U H1 _ I1 q1) fun iv s2 ⟨y, H2, I2, ry, ov, g, q2⟩ => Calls.spliced_nil ?_)))
 exact ZQ8 hu I2 g ry fun w' s3 I3 rw' => ⟨_, H2, I3, rw', q2⟩
theorem ZNS (ho : PE X o td) (he : PE X e ty) (m : M1 X o "pop" apos e cpos) : PE X (.Call (.Attribute o "pop" apos) [e] [] cpos) (ZIi td ty) := by
 intro pins s U H Q I h
 refine wpAny_Call_method m.base m.few m.line PySem.F.plainAttrs_dict PySem.F.slot_dict_pop PySem.F.type_dict_pop (thn (ho pins s U H _ I h) fun u s1 ⟨x, H1, I1, rx, a, ex, d, q1⟩ => ?_)
 subst ex
 obtain rfl : u = Value.ref a := rx
 obtain ⟨t1, t2, _⟩ := ZLt I1 d
 refine ⟨t1, t2, ?_⟩
 rw [m.trees]
 refine Calls.callWith_builtin rfl (Calls.evalArgs_plain (Calls.spliced_cons (thn (he pins s1 U H1 _ I1 q1) fun iv s2 ⟨y, H2, I2, ry, kvs, k, v, ea, ey, l, q2⟩ => Calls.spliced_nil ?_)))
 subst ey
 exact ZRf I2 ea ry l (.inl rfl) fun w' s3 I3 rw' => ⟨v, _, I3, rw', q2⟩
end
def ZRu (H : Hp) (vs : List V) (prs : List (Key × V)) : Prop := Paired (fun v (p : Key × V) => ∃ a, v = V.ref a /\ H a = some (.tup [kV p.1, p.2])) vs prs
section
variable {prog : Program} {w : World} {A : Around} {E : Value -> Shared -> Prop} {s : Shared} {κ : Type} [DecidableEq κ] {knd : KeyKind prog w κ}
theorem ZIj {d : Addr} {kvs : List (κ × Value)} {ep : Nat} {Q : List Value -> Shared -> Prop} (hh : A.handled = none) (hd : (d == sysModules) = false) (hm : s.heap.DictAt knd d kvs ep) (hn : kvs.length <= sizeLine)
  (hQ : ∀ s' acc, (∀ b o, s.heap.get? b = some o -> s'.heap.get? b = some o) -> s'.gens = s.gens -> s'.drawn = s.drawn -> s'.os = s.os -> s.heap.objs.size < s'.heap.objs.size -> ItemsOf (fun i v => ∃ k x, kvs[i]? = some (k, x) /\ knd.is k v = true) acc kvs.length -> Q acc.toList s') :
  wpAny (model prog w) A (collect (.ref d)) Q E s := by
 have hdl : d < s.heap.objs.size := let ⟨_, _, ho, _⟩ := hm; Ug ho
 unfold collect
 refine Ua (wpAny_runValue (UQ F.entry_proto_collect ?_))
 rw [Around.under_plainId F.plain_proto_collect _]
 show wpAny _ A.in1 (newList [] >>= fun l => again (.builtin "list.__iadd__" ⟨[l, .ref d], []⟩)) _ _ s
 refine Ua (wpAny_newObj_type ?_)
 refine Uh ⟨plainId_quiet F.plain_list_iadd _, UQ F.entry_list_iadd ?_⟩
 rw [Around.under_plainId F.plain_list_iadd _]
 generalize hH : s.heap.push { cls := .type "list", data := .seq ([] : List Value).toArray } = H
 have hHs : H.objs.size = s.heap.objs.size + 1 := by rw [<- hH, Heap.size_push]
 have hm1 : H.DictAt knd d kvs ep := hm.at' fun o e => hH ▸ Ub _ e
 have hT1 : (⟨H, s.gens, s.drawn, s.toks, s.os⟩ : Shared).TypeIs (.ref d) "dict" := hm1.dictOf.typeIs
 show wpAny _ A.in1 (Builtin.List.listExtendWith (.ref s.heap.objs.size) (.ref d) (.ref s.heap.objs.size)) _ _ (⟨H, s.gens, s.drawn, s.toks, s.os⟩ : Shared)
 unfold Builtin.List.listExtendWith
 refine Ua (wpAny_typeOf hT1 ?_)
 have h1 : Builtin.List.listSameRef (.ref s.heap.objs.size) (.ref d) = false := by
  simp only [Builtin.List.listSameRef]
  exact beq_eq_false_iff_ne.mpr (Nat.ne_of_gt hdl)
 have h2 : (Value.type "dict" == Value.type "list") = false := by decide
 have h3 : (Value.type "dict" == Value.type "tuple") = false := by decide
 simp only [h1, h2, h3, Bool.or_false, Uo, if_false]
 refine Ua (wpAny_pyIter_dict hd hm1 ?_)
 generalize hO : ({ cls := .type "dict_keyiterator", data := .fields #[.ref d, .int 0 0, .int kvs.length 0, .int ep 0] } : Obj) = O
 have hm2 : (H.push O).DictAt knd d kvs ep := hm1.at' fun o e => Ub _ e
 have hT2 : (⟨H.push O, s.gens, s.drawn, s.toks, s.os⟩ : Shared).TypeIs (.ref d) "dict" := hm2.dictOf.typeIs
 refine Ua (UI ?_)
 unfold Builtin.List.listLengthHint
 refine Ua (wpAny_specialOf hT2 PySem.F.slot_dict_len.lookup ?_)
 wp_delta
 refine Ua (wpAny_isInstance (b := true) hT2 (by rw [isSubtype_type]; kernel_rfl) ?_)
 show wpAny _ A.in1 (typeOf (Value.ref d) >>= _) _ _ _
 refine Ua (wpAny_typeOf hT2 ?_)
 refine Uh ?_
 show wpAny _ A.in1 (rule "list.extend.makes-room" >>= fun _ => Builtin.List.listTouch (.ref s.heap.objs.size) >>= fun _ =>
  again (.builtin "list.extend.loop" ⟨[.ref s.heap.objs.size, .ref H.objs.size, .ref s.heap.objs.size], []⟩)) _ _ _
 refine Ua (wpAny_rule ?_)
 have hS₁ : (H.push O).get? s.heap.objs.size = some { cls := .type "list", data := .seq ([] : List Value).toArray } := Ub _ (hH ▸ Uk _ rfl)
 refine Ua ?_
 show wpAny _ A.in1 (updateSeq s.heap.objs.size (·.push .none) >>= fun _ => updateSeq s.heap.objs.size (·.pop)) _ _ _
 refine Ua (wpAny_updateSeq hS₁ rfl ?_)
 have hS₂ := Heap.get?_update_self (Obj.mapSeq (·.push Value.none)) hS₁ rfl
 refine wpAny_updateSeq hS₂ rfl ?_
 have hS₃ := Heap.get?_update_self (Obj.mapSeq (·.pop)) hS₂ rfl
 have oth : ∀ b o, b ≠ s.heap.objs.size -> (H.push O).get? b = some o -> (((H.push O).update s.heap.objs.size (Obj.mapSeq (·.push Value.none))).update s.heap.objs.size (Obj.mapSeq (·.pop))).get? b = some o :=
  fun b o hb e => (Uq _ _ (Ne.symm hb)).trans ((Uq _ _ (Ne.symm hb)).trans e)
 have hdH : d < H.objs.size := by rw [hHs]; exact Nat.lt_succ_of_lt hdl
 have hHne : H.objs.size ≠ s.heap.objs.size := by rw [hHs]; exact Nat.succ_ne_self _
 have hSf : s.heap.objs.size ∉ [H.objs.size, d] := fun z => by
  simp only [Uj, UU, or_false] at z
  rcases z with z | z
  ·exact hHne z.symm
  ·exact Nat.ne_of_gt hdl z
 have W := (Walks.dictKeys (knd := knd) (A := A.in1) hh H.objs.size d (Up hdH) kvs ep).toS
 refine Uh ⟨plainId_quiet F.plain_extend_loop _, codeAny_extend_loopS (A := A) W hn _ hSf _ kvs.length 0 _ _ _ rfl (UJ _) ⟨?_, ?_⟩ hS₃ (ItemsOf.nil _) fun s' acc' c' hmv hS' hacc => ?_⟩
 ·exact ⟨_, oth _ _ hHne (Uk _ (by rw [<- hO]; rfl)), by rw [<- hO], by rw [<- hO]; rfl⟩
 ·exact hm2.at' fun o e => oth _ _ (Up hdl) e
 ·show wpAny _ A (load s.heap.objs.size >>= _) _ _ s'
  refine Ua (wpAny_load hS' ?_)
  refine Uh (hQ s' acc' (fun b ob e => hmv.heap b ob (fun hb => ?_) (oth _ _ (Up (Ug e)) (Ub _ (hH ▸ Ub _ e)))) hmv.gens hmv.drawn hmv.os (Ug hS') hacc)
  have hlt := Ug e
  simp only [Uj, UU, or_false] at hb
  rcases hb with h | h
  ·exact Up hlt h
  ·rw [h, hHs] at hlt; exact absurd hlt (Nat.not_lt.mpr (Nat.le_succ _))
end
theorem ZHg : ∀ (vs : List (Key × Value)) (ns : List Int) (l : List Value), vs.map (·.1) = ns.map Sum.inl -> l.length = vs.length -> (∀ (j : Nat) (v : Value), l[j]? = some v -> ∃ k x, vs[j]? = some (k, x) /\ ZEm k v = true) -> IntsAre l ns
 | [], [], [], _, _, _ => .nil
 | [], [], _ :: _, _, h, _ => by simp at h
 | [], _ :: _, _, h, _, _ => by simp at h
 | _ :: _, [], _, h, _, _ => by simp at h
 | _ :: _, _ :: _, [], _, h, _ => by simp at h
 | (k, x) :: vs, n :: ns, v :: l, h1, h2, h3 => by
  simp only [Uw, List.cons.injEq] at h1
  obtain ⟨rfl, h1⟩ := h1
  obtain ⟨k', x', e, hk⟩ := h3 0 v rfl
  simp only [List.getElem?_cons_zero, Option.some.injEq, Prod.mk.injEq] at e
  obtain ⟨rfl, rfl⟩ := e
  rcases ZCb hk with ⟨i, t, e1, e2⟩ | ⟨y, t, e1, e2⟩
  ·cases e1; cases e2
   refine .cons _ _ (ZHg vs ns l h1 (by simpa using h2) fun j v e => ?_)
   have := h3 (j + 1) v (by simpa using e)
   simpa using this
  ·cases e1
theorem KV.keysEq {κ : Type} : ∀ {kvs : List (κ × V)} {us : List (κ × Value)}, KV kvs us -> us.map (·.1) = kvs.map (·.1)
 | _, _, .nil => rfl
 | _, _, .cons h t => by rw [Uw, Uw, h.1, KV.keysEq t]
theorem IntsAre.vals : ∀ {vs : List Value} {ns : List Int}, IntsAre vs ns -> ZB6 (ns.map V.int) vs
 | _, _, .nil => .nil
 | _, _, .cons _ t h => .cons ⟨t, rfl⟩ (IntsAre.vals h)
section
variable {X : Cx} {o i value : Expr} {pos pos' : Pos} {td ty tv : TE}
theorem ZRv {b : Expr} (h : ZIF b = false) : ZNM b := by
 intro ov iv
 cases b <;> first | rfl | cases h
theorem ZFy (hu : X.A.units + 1 < cLine) (ho : QE X o td) (hi : QE X i ty) (hs : ZIF i = false := by rfl) : QE X (.Subscript o i pos) (ZKs td ty) := ⟨ZPR hu ho.h hi.h (ZRv hs)⟩
theorem ZD8 (hu : X.A.units + 1 < cLine) (hv : QE X value tv) (ho : QE X o td) (hi : QE X i ty) (hs : ZDL value = false := by rfl) : QS X (.Assign [.Subscript o i pos'] value pos) (ZKt td ty tv) := ⟨ZPS hu ho.h hi.h hv.h (ZDj hs)⟩
theorem ZE0 : QE X (.Dict [] [] pos) ZIf := ⟨ZNP⟩
end
section
variable {U : St} {H : Hp} {Q : VK} {D : ZCg}
def ZOR (x y : V) (H : Hp) (Q : VK) : Prop := ∃ a v, x = .ref a /\ ZDF H a y (some v) /\ Q v H
theorem ZNT {td ty : TE} (h : td U H fun x H1 => ty U H1 fun y H2 => ZOR x y H2 Q) : ZKs td ty U H Q := h
def ZKu (v x y : V) (H : Hp) (R : Hp -> Prop) : Prop := ∃ a H4, x = .ref a /\ ZEz H a y v H4 /\ R H4
theorem ZNU {td ty tv : TE} (h : tv U H fun v H1 => td U H1 fun x H2 => ty U H2 fun y H3 => ZKu v x y H3 (D.nx U)) : ZKt td ty tv D U H := h
def ZKv (H : Hp) (Q : VK) : Prop := ∀ p, H p = none -> Q (.ref p) (upd H p (.dK []))
theorem ZNV (h : ZKv H Q) : ZIf U H Q := h
theorem ZPT (h : ∀ p H2, H p = none -> H2 p = some (.dK []) -> ZB1 H H2 -> Q (.ref p) H2) : ZKv H Q := fun p hp => h p _ hp ZCC (ZB1.new hp)
end
def ZCB (m : PL) (t : Int) : Option Int := (m.find? fun kv => decide (kv.1 = t)).map (·.2)
def ZCh (m : PL) (t h : Int) : PL := if (m.any fun kv => decide (kv.1 = t)) = true then m.map fun kv => if kv.1 = t then (kv.1, h) else kv else m ++ [(t, h)]
def dkE (p : Int × Int) : Key × V := (.inl p.1, .int p.2)
def ZCE (m : PL) : List (Key × V) := m.map dkE
theorem ZIk {a b : Int} : ((Sum.inl a : Key) = Sum.inl b) ↔ a = b := ⟨fun h => Sum.inl.inj h, fun h => h ▸ rfl⟩
theorem ZQ9 (m : PL) (t : Int) : ((ZCE m).any fun kv => decide (kv.1 = Sum.inl t)) = m.any fun kv => decide (kv.1 = t) := by
 unfold ZCE
 rw [List.any_map]
 congr 1
 funext p
 simp only [Function.comp, dkE, ZIk]
theorem ZLu (m : PL) (t h : Int) : ZC7 (ZCE m) (.inl t) (.int h) = ZCE (ZCh m t h) := by
 unfold ZC7 ZCh
 rw [ZQ9]
 by_cases c : (m.any fun kv => decide (kv.1 = t)) = true
 ·rw [if_pos c, if_pos c]
  unfold ZCE
  rw [List.map_map, List.map_map]
  refine List.map_congr_left fun p _ => ?_
  simp only [Function.comp, dkE, ZIk]
  split <;> simp
 ·rw [if_neg c, if_neg c]
  simp [ZCE, dkE]
theorem ZEC (t : Int) : ∀ m : PL, ZCf (ZCE m) (.inl t) = (ZCB m t).map V.int
 | [] => rfl
 | p :: m => by
  have ih := ZEC t m
  by_cases e : p.1 = t
  ·have : ZCf (ZCE (p :: m)) (.inl t) = some (.int p.2) := ZCs (p := dkE p) (by simp [dkE, e])
   rw [this]
   simp [ZCB, UC, e]
  ·have : ZCf (ZCE (p :: m)) (.inl t) = ZCf (ZCE m) (.inl t) := ZCt (p := dkE p) (by simp [dkE, e])
   rw [this, ih]
   simp [ZCB, UC, e]
theorem ZE1 {H : Hp} {Q : VK} {p : Addr} {m : PL} {t v : Int} (h1 : H p = some (.dK (ZCE m))) (h2 : ZCB m t = some v) (h : Q (.int v) H) : ZOR (.ref p) (.int t) H Q :=
 ⟨p, .int v, rfl, by
  have := ZDF.k (k := Sum.inl t) h1
  rw [ZEC, h2] at this
  exact this, h⟩
theorem ZE2 {H : Hp} {R : Hp -> Prop} {p : Addr} {m : PL} {t v : Int} (h1 : H p = some (.dK (ZCE m))) (hz : m.length < sizeLine) (h : ∀ H2, H2 p = some (.dK (ZCE (ZCh m t v))) -> Kp p H H2 -> R H2) : ZKu (.int v) (.ref p) (.int t) H R :=
 ⟨p, _, rfl, ZEz.k (k := Sum.inl t) h1 (by simpa [ZCE] using hz), by
  rw [ZLu]
  exact h _ ZCC Kp.upd⟩
theorem ZE3 {H : Hp} {Q : VK} (h : ∀ p H2, H p = none -> H2 p = some (.dK (ZCE [])) -> ZB1 H H2 -> Q (.ref p) H2) : ZKv H Q := ZPT h
theorem ZNW (m : PL) (t h j : Int) : ZCB (ZCh m t h) j = if j = t then some h else ZCB m j := by
 have e1 := ZEC j (ZCh m t h)
 rw [<- ZLu, ZGN] at e1
 have e2 := ZEC j m
 rw [e2] at e1
 simp only [ZIk] at e1
 by_cases e : j = t
 ·rw [if_pos e] at e1 ⊢
  cases hg : ZCB (ZCh m t h) j with
  | none => rw [hg] at e1; cases e1
  | some x => rw [hg] at e1; simp at e1; rw [e1]
 ·rw [if_neg e] at e1 ⊢
  cases hg : ZCB (ZCh m t h) j <;> cases hm : ZCB m j <;> rw [hg, hm] at e1 <;> simp_all
theorem ZE4 (m : PL) (t h : Int) : (ZCh m t h).length <= m.length + 1 := by
 unfold ZCh
 split <;> simp
theorem ZDv {t : Int} : ∀ {m : PL}, ZCB m t = none ↔ t ∉ m.map (·.1)
 | [] => by simp [ZCB]
 | p :: m => by
  have ih := ZDv (t := t) (m := m)
  by_cases e : p.1 = t
  ·simp [ZCB, UC, e]
  ·have e' : ¬ t = p.1 := fun z => e z.symm
   have : ZCB (p :: m) t = ZCB m t := by simp [ZCB, UC, e]
   rw [this, ih]
   simp [e']
theorem ZLv (m : PL) (t h : Int) : (ZCh m t h).map (·.1) = if t ∈ m.map (·.1) then m.map (·.1) else m.map (·.1) ++ [t] := by
 have ha : (m.any fun kv => decide (kv.1 = t)) = true ↔ t ∈ m.map (·.1) := by simp
 unfold ZCh
 by_cases c : (m.any fun kv => decide (kv.1 = t)) = true
 ·rw [if_pos c, if_pos (ha.mp c), List.map_map]
  refine List.map_congr_left fun p _ => ?_
  simp only [Function.comp]
  split <;> rfl
 ·rw [if_neg c, if_neg (fun z => c (ha.mpr z))]
  simp
theorem ZDh {m : PL} {t h : Int} (n : (m.map (·.1)).Nodup) : ((ZCh m t h).map (·.1)).Nodup := by
 rw [ZLv]
 split
 ·exact n
 ·rename_i c
  rw [List.nodup_append]
  exact ⟨n, by simp, fun a ha b hb e => c (by simp at hb; subst hb; subst e; exact ha)⟩
theorem ZDG {t h : Int} : ∀ {m : PL}, (m.map (·.1)).Nodup -> (ZCB m t = some h ↔ (t, h) ∈ m)
 | [], _ => by simp [ZCB]
 | p :: m, n => by
  simp only [Uw, List.nodup_cons] at n
  have ih := ZDG (t := t) (h := h) n.2
  by_cases e : p.1 = t
  ·have : ZCB (p :: m) t = some p.2 := by simp [ZCB, UC, e]
   rw [this]
   constructor
   ·intro z; cases z; rw [<- e]; exact Uy
   ·intro z
    rcases Uj.mp z with z | z
    ·rw [<- z]
    ·exact absurd (List.mem_map.mpr ⟨_, z, rfl⟩) (by rw [<- e] at *; exact n.1)
  ·have : ZCB (p :: m) t = ZCB m t := by simp [ZCB, UC, e]
   rw [this, ih]
   constructor
   ·exact fun z => Uu _ z
   ·intro z
    rcases Uj.mp z with z | z
    ·exact absurd (by rw [<- z]) e
    ·exact z
def ZDH (prs : PL) : PL := prs.foldl (fun m p => ZCh m p.1 p.2) []
theorem ZF9 : ∀ (prs acc : PL), (acc.map (·.1)).Nodup -> ((prs.foldl (fun m p => ZCh m p.1 p.2) acc).map (·.1)).Nodup
 | [], _, h => h
 | p :: prs, acc, h => ZF9 prs _ (ZDh h)
theorem ZE5 (prs : PL) : ((ZDH prs).map (·.1)).Nodup := ZF9 prs [] List.nodup_nil
theorem ZHh : ∀ (prs acc : PL), (prs.foldl (fun m p => ZCh m p.1 p.2) acc).length <= acc.length + prs.length
 | [], acc => Uc _
 | p :: prs, acc => by
  have h1 := ZHh prs (ZCh acc p.1 p.2)
  have h2 := ZE4 acc p.1 p.2
  show (prs.foldl (fun m p => ZCh m p.1 p.2) (ZCh acc p.1 p.2)).length <= acc.length + (prs.length + 1)
  omega
theorem ZIl (prs : PL) : (ZDH prs).length <= prs.length := by
 have := ZHh prs []
 simpa [ZDH] using this
theorem ZB5.prs {H : Hp} : ∀ {vs : List V} {l : PL}, ZB5 H vs l -> ZRu H vs (l.map dkE)
 | _, _, .nil => .nil
 | _, _, .cons ⟨a, e, z⟩ t => .cons ⟨a, e, z⟩ (ZB5.prs t)
theorem ZB5.length {H : Hp} {vs : List V} {l : PL} (h : ZB5 H vs l) : vs.length = l.length := Paired.length h
theorem ZB5.snoc {H : Hp} : ∀ {vs : List V} {l : PL}, ZB5 H vs l -> ∀ {a : Addr} {p : Int × Int}, H a = some (.tup [.int p.1, .int p.2]) -> ZB5 H (vs ++ [.ref a]) (l ++ [p])
 | _, _, .nil, a, p, z => .cons ⟨a, rfl, z⟩ .nil
 | _, _, .cons h t, a, p, z => .cons h (ZB5.snoc t z)
theorem ZB5.at {H : Hp} : ∀ {vs : List V} {l : PL}, ZB5 H vs l -> ∀ {i : Nat} {v : V}, vs[i]? = some v -> ∃ a p, v = .ref a /\ l[i]? = some p /\ H a = some (.tup [.int p.1, .int p.2])
 | _, _, .nil, i, v, e => by simp at e
 | _, _, @Paired.cons _ _ _ _ p _ _ ⟨a, e1, z⟩ t, 0, v, e => by
  simp at e; subst e
  exact ⟨a, p, e1, rfl, z⟩
 | _, _, .cons _ t, i + 1, v, e => by
  obtain ⟨a, p, h1, h2, h3⟩ := ZB5.at t (by simpa using e)
  exact ⟨a, p, h1, by simpa using h2, h3⟩
theorem ZB5.kp {p : Addr} {H H' : Hp} (k : Kp p H H') {n : Nat} {xs : List V} (hp : H p = some (.lst xs)) : ∀ {vs : List V} {l : PL}, ZB5 H vs l -> ZB5 H' vs l
 | _, _, .nil => .nil
 | _, _, .cons ⟨a, e, z⟩ t => .cons ⟨a, e, k _ _ z (fun c => by subst c; rw [hp] at z; cases z)⟩ (ZB5.kp k (n := n) hp t)
def Asc (cv : PL) : Prop := cv.Pairwise fun a b => a.1 < b.1
def ZJ1 (m cv : PL) : Prop := Asc cv /\ ∀ t h, (t, h) ∈ cv ↔ ZCB m t = some h
theorem ZJ2 : ∀ {a b : PL}, Asc a -> Asc b -> (∀ p, p ∈ a ↔ p ∈ b) -> a = b
 | [], [], _, _, _ => rfl
 | [], q :: b, _, _, h => by have := (h q).mpr Uy; simp at this
 | p :: a, [], _, _, h => by have := (h p).mp Uy; simp at this
 | p :: a, q :: b, ha, hb, h => by
  unfold Asc at ha hb
  rw [List.pairwise_cons] at ha hb
  have e : p = q := by
   rcases Uj.mp ((h p).mp Uy) with e | e
   ·exact e
   ·rcases Uj.mp ((h q).mpr Uy) with e2 | e2
    ·exact e2.symm
    ·have h1 := hb.1 _ e
     have h2 := ha.1 _ e2
     omega
  subst e
  rw [ZJ2 ha.2 hb.2 fun r => ?_]
  constructor
  ·intro hr
   rcases Uj.mp ((h r).mp (Uu _ hr)) with e | e
   ·subst e; have := ha.1 _ hr; omega
   ·exact e
  ·intro hr
   rcases Uj.mp ((h r).mpr (Uu _ hr)) with e | e
   ·subst e; have := hb.1 _ hr; omega
   ·exact e
def ZCV (m : PL) (ns : List Int) : PL := ns.map fun t => (t, (ZCB m t).getD 0)
theorem ZGr {m : PL} {ns : List Int} (nd : (m.map (·.1)).Nodup) (hp : ns.Perm (m.map (·.1))) (hs : ns.Pairwise (· <= ·)) : ZJ1 m (ZCV m ns) := by
 have hn : ns.Nodup := hp.nodup_iff.mpr nd
 refine ⟨?_, fun t h => ?_⟩
 ·unfold Asc ZCV
  rw [UM]
  exact (hs.and hn).imp fun ⟨a, b⟩ => by
   show _ < _
   omega
 ·unfold ZCV
  rw [List.mem_map]
  constructor
  ·rintro ⟨u, hu, e⟩
   have hu' := hp.mem_iff.mp hu
   cases hg : ZCB m u with
   | none => exact absurd hu' (ZDv.mp hg)
   | some x =>
    rw [hg] at e
    cases e
    exact hg
  ·intro hg
   refine ⟨t, hp.mem_iff.mpr ?_, by rw [hg]; rfl⟩
   by_cases c : t ∈ m.map (·.1)
   ·exact c
   ·rw [ZDv.mpr c] at hg; cases hg
theorem ZJd {m : PL} {ns : List Int} (hp : ns.Perm (m.map (·.1))) : (ZCV m ns).length = m.length := by
 have := hp.length_eq
 simpa [ZCV] using this
theorem ZLw (p q : Int × Int) : PyData.eqv (ZCl p) (ZCl q) = decide (p = q) := by
 have e : PyData.eqv (ZCl p) (ZCl q) = ((p.1 == q.1) && ((p.2 == q.2) && true)) := rfl
 rw [e]
 obtain ⟨a, b⟩ := p
 obtain ⟨c, d⟩ := q
 by_cases h1 : a = c <;> by_cases h2 : b = d <;> simp [h1, h2]
theorem ZGs : ∀ l m : PL, PyData.eqvAll (l.map ZCl) (m.map ZCl) = decide (l = m)
 | [], [] => rfl
 | [], q :: m => by simp [PyData.eqvAll]
 | p :: l, [] => by simp [PyData.eqvAll]
 | p :: l, q :: m => by
  show (PyData.eqv (ZCl p) (ZCl q) && PyData.eqvAll (l.map ZCl) (m.map ZCl)) = _
  rw [ZLw, ZGs l m]
  by_cases h1 : p = q <;> by_cases h2 : l = m <;> simp [h1, h2]
theorem ZFd : ∀ l : PL, PyData.depthAll (l.map ZCl) <= 50
 | [] => by decide
 | p :: l => by
  have ih := ZFd l
  have h0 : PyData.depth (ZCl p) <= 50 := by
   show PyData.depth (.tuple [.int p.1, .int p.2]) <= 50
   simp only [PyData.depth, PyData.depthAll]
   decide
  show PyData.depthAll (ZCl p :: l.map ZCl) <= 50
  simp only [PyData.depthAll]
  omega
section
variable {K : W.Frag} {H : Hp} {Q : VK} {a b : Addr} {vs ws : List V} {l m : PL}
theorem ZIm (l : PL) : (PyData.tuple (l.map ZCl)).depth <= 60 := by
 have := ZFd l
 simp only [PyData.depth]
 omega
theorem ZPU (h1 : SqT K H a vs) (p1 : ZB5 H vs l) (h2 : SqT K H b ws) (p2 : ZB5 H ws m) (h : Q (.bl (!decide (l = m))) H) : ZId K (.ref a) (.ref b) H Q := by
 refine ZLp (.tup h1 p1.dats) (.tup h2 p2.dats) (ZFb l) (ZFb m) (ZIm l) ?_
 have e : PyData.eqv (.tuple (l.map ZCl)) (.tuple (m.map ZCl)) = decide (l = m) := ZGs l m
 rw [e]
 exact h
end
theorem ZB1.kpN {H H1 H2 : Hp} {l : Addr} (s : ZB1 H H1) (hl : H l = none) (k : Kp l H1 H2) : ZB1 H H2 := fun q o e => k q o (s q o e) (ZCA e hl)
theorem ZB5.kpL {p : Addr} {H H' : Hp} (k : Kp p H H') {xs : List V} (hp : H p = some (.lst xs)) {vs : List V} {l : PL} (h : ZB5 H vs l) : ZB5 H' vs l := ZB5.kp k (n := 0) hp h
section
variable {K : W.Frag} {H H' : Hp} {Q : VK} {a b : Addr} {xs ys : List V} {cv l m : PL}
def PrT (H : Hp) (a : Addr) (cv : PL) : Prop := ∃ vs, H a = some (.tup vs) /\ ZB5 H vs cv
def PrL (H : Hp) (a : Addr) (cv : PL) : Prop := ∃ vs, H a = some (.lst vs) /\ ZB5 H vs cv
theorem PrT.same (h : PrT H a cv) (s : ZB1 H H') : PrT H' a cv := by
 obtain ⟨vs, h1, h2⟩ := h
 exact ⟨vs, s _ _ h1, h2.same s⟩
theorem ZPV (h1 : PrT H a l) (h2 : PrT H b m) (h : Q (.bl (!decide (l = m))) H) : ZId K (.ref a) (.ref b) H Q := by
 obtain ⟨vs, g1, p1⟩ := h1
 obtain ⟨ws, g2, p2⟩ := h2
 exact ZPU (SqT.of g1) p1 (SqT.of g2) p2 h
end
def ZNX (K : W.Frag) (x : V) (H : Hp) (R : It -> Hp -> Prop) : Prop := (∃ a, x = .ref a /\ (∃ xs, SqL K H a xs) /\ R (Itl K a) H) \/ (∃ a, x = .ref a /\ (∃ xs, SqT K H a xs) /\ R (Itt K a) H)
def ZRA (K : W.Frag) (tl : TE) : TI := fun U H R => tl U H fun x H1 => ZNX K x H1 R
theorem ZRB {X : Cx} {tg e : Expr} {te : TE} (K : W.Frag) (hK : X.K = K) (hl : QE X e te) : QI X tg e (ZRA K te) := by
 subst hK
 refine ⟨?_⟩
 intro pins s U H R I h
 refine thn (hl.h pins s U H _ I h) fun v s1 ⟨x, H1, I1, r1, q1⟩ => ?_
 rcases q1 with ⟨a, e, ⟨xs, hq⟩, q⟩ | ⟨a, e, ⟨xs, hq⟩, q⟩
 ·subst e
  cases r1
  obtain ⟨its, rv, p, hz⟩ := I1.list hq
  refine wpAny_pyIter_list p.isList ?_
  refine ⟨s1.heap.objs.size, [s1.heap.objs.size], _, _, H1, rfl, I1.kept (t' := s1.toks) fun b o e => Ub _ e, ZHX a _, ⟨_, Uk _ rfl, rfl, rfl⟩, fun b hb => ?_, q⟩
  have e : b = s1.heap.objs.size := by simpa using hb
  subst e
  exact I1.fpOk (Uc _) (I1.hok.fresh (Uc _))
 ·subst e
  cases r1
  obtain ⟨its, rv, p, hz⟩ := I1.tuple hq
  refine wpAny_pyIter_tuple (show s1.heap.IsTuple a its.toArray from p) ?_
  refine ⟨s1.heap.objs.size, [s1.heap.objs.size], _, _, H1, rfl, I1.kept (t' := s1.toks) fun b o e => Ub _ e, ZGd a _, ⟨_, Uk _ rfl, rfl, rfl⟩, fun b hb => ?_, q⟩
  have e : b = s1.heap.objs.size := by simpa using hb
  subst e
  exact I1.fpOk (Uc _) (I1.hok.fresh (Uc _))
def SQ (b : Bool) (H : Hp) (a : Addr) (vs : List V) : Prop := H a = some (if b then .lst vs else .tup vs)
section
variable {K : W.Frag} {U : St} {H : Hp} {D : ZCg}
theorem ZPW {tl : TE} {R : It -> Hp -> Prop} (h : tl U H fun x H1 => ZNX K x H1 R) : ZRA K tl U H R := h
theorem ZPX {b : Bool} {a : Addr} {xs : List V} {g : TG} {tb : TS} (Pv : Nat -> St -> Hp -> Prop) (hq : SQ b H a xs) (h0 : Pv 0 U H) (hl : ∀ i U H, i <= xs.length -> Pv i U H -> SQ b H a xs)
  (hs : ∀ i x U H, xs[i]? = some x -> Pv i U H -> g x U H fun U2 H2 => tb { D with nx := Pv (i + 1), ct := Pv (i + 1), bk := D.nx } U2 H2) (hd : ∀ U H, Pv xs.length U H -> D.nx U H) :
  ZNX K (.ref a) H (fun J H1 => rFor J g tb D U H1) := by
 cases b with
 | true => exact .inl ⟨a, rfl, ⟨xs, SqL.of hq⟩, ZPI Pv h0 (fun i U H hi p => SqL.of (hl i U H hi p)) hs hd⟩
 | false => exact .inr ⟨a, rfl, ⟨xs, SqT.of hq⟩, ZJw Pv h0 (fun i U H hi p => SqT.of (hl i U H hi p)) hs hd⟩
end
theorem SQ.same {b : Bool} {H H' : Hp} {a : Addr} {vs : List V} (h : SQ b H a vs) (s : ZB1 H H') : SQ b H' a vs := s _ _ h
def ZKw (h : Heap) (a : Addr) (v : Value) (p : Int × Int) : Prop := ∃ b t u, v = .ref b /\ b ≠ a /\ IsTup h b #[.int p.1 t, .int p.2 u]
def ZFe (h : Heap) (a : Addr) (vs : List Value) (l : PL) : Prop := Paired (ZKw h a) vs l
theorem ZFe.get {h : Heap} {a : Addr} : ∀ {vs : List Value} {l : PL}, ZFe h a vs l -> ∀ {i : Nat}, i < l.length -> ZKw h a (vs.getD i .none) (l.getD i (0, 0))
 | _, _, .nil, i, hi => absurd hi (Nat.not_lt_zero _)
 | _, _, .cons g t, 0, _ => g
 | _, _, .cons g t, i + 1, hi => by
  have := ZFe.get t (i := i) (by simpa using hi)
  simpa using this
section
variable {X : Cx} {pins : List (Addr × Obj)} {U : St} {H H' : Hp} {s : Shared} {h' : Heap}
theorem Inv.old (I : Inv X pins U H s) {b : Addr} {o : HO} (e : H b = some o) : b < s.heap.objs.size := by
 by_cases h : b < s.heap.objs.size
 ·exact h
 ·rw [I.hok.fresh (Nat.le_of_not_lt h)] at e
  cases e
theorem Inv.many {t' : Nat} (I : Inv X pins U H s) (k : ∀ b u, s.heap.get? b = some u -> h'.get? b = some u) (hs : ∀ b, b < s.heap.objs.size -> H' b = H b) (new : ∀ b o, s.heap.objs.size <= b -> H' b = some o -> ZCF X.prog X.w H' h' b o) :
  Inv X pins U H' { s with heap := h', toks := t' } := by
 have old : ∀ b o, H b = some o -> H' b = some o := fun b o e => (hs b (I.old e)).trans e
 refine I.un ⟨fun b u q _ _ _ => k b u q, fun b u q _ _ _ => ⟨u.slots, k b u q⟩, fun b u q n _ => (hs b (Ug q)).trans n, fun b u q _ => ⟨u, k b u q⟩, fun b xs q => old _ _ q, fun b u xs q => old _ _ q, fun b ps q => ⟨#[], by rw [old _ _ q]; simp⟩⟩ fun b u e => ?_
 by_cases hb : b < s.heap.objs.size
 ·rw [hs b hb] at e
  exact (I.hok b u e).stay (fun c v _ q => k c v q) (fun c q => old _ _ q) fun c xs q => old _ _ q
 ·exact new b u (Nat.le_of_not_lt hb) e
end
section
variable {X : Cx} {o : Expr} {to : TE} {apos cpos : Pos}
def ZIn (to : TE) : (U : St) -> Hp -> (Addr -> PL -> Hp -> Prop) -> Prop := fun U H R => to U H fun x H1 => ∃ a m, x = .ref a /\ H1 a = some (.dK (ZCE m)) /\ R a m H1
theorem ZKx {pins : List (Addr × Obj)} {s : Shared} {U : St} {H : Hp} {R : Addr -> PL -> Hp -> Prop} (ho : PE X o to) (I : Inv X pins U H s) (h : ZIn to U H R)
  (hbase : attributeBase o "items" X.env (eval o X.env) = eval o X.env) (hline : (apos.endLine == cpos.line) = true) :
  wpAny (model X.prog X.w) X.A (eval (.Call (.Attribute o "items" apos) [] [] cpos) X.env) (fun u s1 => ∃ r a m H1, u = .ref r /\ s1.heap.objs.size = r + 1 /\ s1.heap.IsItemsView r a /\ H1 a = some (.dK (ZCE m)) /\ Inv X pins U H1 s1 /\ R a m H1) X.xe s := by
 refine wpAny_Call_method0_late hbase hline (thn (ho pins s U H _ I h) fun v s1 ⟨x, H1, I1, r1, a, m, ex, hd, q1⟩ => ?_)
 subst ex
 cases r1
 obtain ⟨z, hsm, vs, rel, dd⟩ := ZII I1.hok hd
 refine ⟨"dict", "dict.items", PySem.F.plainAttrs_dict, PySem.F.slot_dict_items, PySem.F.type_dict_items, dd.typeIs, ZJc I1 (ZDF.k (k := Sum.inl 0) hd), ?_⟩
 refine Calls.callWith_builtin rfl (PySem.evalArgs_none ?_)
 refine call_meetsIn PySem.F.slot_dict_items dd.typeIs PySem.F.entry_dict_items (PySem.F.args_dict_items_1 _) (meets_dict_items (ZCY X.prog X.w) a hsm) ⟨⟨vs, dd⟩, ?_⟩
 exact ⟨_, a, m, H1, rfl, by rw [Heap.size_push], ⟨_, Uk _ rfl, rfl, rfl⟩, hd, I1.kept (t' := s1.toks) fun b o e => Ub _ e, q1⟩
end
theorem ZLx {m : PL} {vs : List (Key × Value)} (rel : KV (ZCE m) vs) : vs.length = m.length /\ ∀ (j : Nat) (k : Key) (x : Value), vs[j]? = some (k, x) -> ∃ (p : Int × Int) (t : Tok), m[j]? = some p /\ k = Sum.inl p.1 /\ x = Value.int p.2 t := by
 have hl : vs.length = m.length := by
  have := rel.length
  simp [ZCE] at this
  omega
 refine ⟨hl, ?_⟩
 induction m generalizing vs with
 | nil => intro j k x e; cases rel; simp at e
 | cons p m ih =>
  cases rel with
  | cons h t =>
   rename_i q vs'
   intro j k x e
   cases j with
   | zero =>
    simp at e
    obtain ⟨h1, h2⟩ := h
    rw [e] at h1 h2
    obtain ⟨t', rfl⟩ := h2
    exact ⟨p, t', rfl, h1.symm, rfl⟩
   | succ j =>
    obtain ⟨p', t', g1, g2, g3⟩ := ih t (by simpa using hl) j k x (by simpa using e)
    exact ⟨p', t', by simpa using g1, g2, g3⟩
theorem ZE6 {α β : Type} {F : α -> β -> Prop} : ∀ {l₁ : List α} {l₂ : List β}, l₁.length = l₂.length -> (∀ (i : Nat) a b, l₁[i]? = some a -> l₂[i]? = some b -> F a b) -> Paired F l₁ l₂
 | [], [], _, _ => .nil
 | [], _ :: _, h, _ => by simp at h
 | _ :: _, [], h, _ => by simp at h
 | a :: l₁, b :: l₂, h, f => .cons (f 0 a b rfl rfl) (ZE6 (by simpa using h) fun i x y e1 e2 => f (i + 1) x y (by simpa using e1) (by simpa using e2))
theorem ZPY {P : Program} {w : World} {m : PL} {vs : List (Key × Value)} {lo : Addr} {h : Heap} {as : List Addr} (rel : KV (ZCE m) vs) (hl : as.length = vs.length) (g : KdxG (ZCY P w) vs lo h as) (a : Addr) (hna : ∀ b ∈ as, b ≠ a) :
  ZFe h a (as.map Value.ref) m := by
 obtain ⟨hvl, hv⟩ := ZLx rel
 refine ZE6 (by rw [Ur]; omega) fun i v p e1 e2 => ?_
 rw [UG] at e1
 cases hb : as[i]? with
 | none => rw [hb] at e1; cases e1
 | some b =>
  rw [hb] at e1
  cases e1
  obtain ⟨key, k, x, g1, g2, g3⟩ := g.pairs i b hb
  obtain ⟨p', t', e3, e4, e5⟩ := hv i k x g1
  rw [e2] at e3
  cases e3
  subst e4 e5
  rcases ZCb (k := Sum.inl p.1) (v := key) g2 with ⟨y, t, z1, z2⟩ | ⟨y, t, z1, z2⟩
  ·cases z1
   subst z2
   exact ⟨b, t, t', rfl, hna b (UA hb), _, g3, rfl, _, rfl⟩
  ·cases z1
theorem ZLy {P : Program} {w : World} {h : Heap} {a b : Addr} {p : Int × Int} {Hn : Hp} (e : ZKw h a (.ref b) p) : ZCF P w Hn h b (.tup [.int p.1, .int p.2]) := by
 obtain ⟨b', t, u, e1, _, ht⟩ := e
 cases e1
 exact ⟨⟨by show 2 <= sizeLine; decide, fun z => absurd rfl (z p.1)⟩, [.int p.1 t, .int p.2 u], .cons ⟨t, rfl⟩ (.cons ⟨u, rfl⟩ .nil), ht⟩
def ZFf (H : Hp) (as : List Addr) (ps : PL) (l : Addr) (vs : List V) (n : Nat) : Hp := fun b => if b < n then H b else if b = l then some (.lst vs) else ((as.zip ps).lookup b).map fun p => .tup [.int p.1, .int p.2]
theorem ZKy {as : List Addr} {ps : PL} (hn : as.Nodup) : ∀ {i : Nat} {b : Addr} {p : Int × Int}, as[i]? = some b -> ps[i]? = some p -> (as.zip ps).lookup b = some p := by
 induction as generalizing ps with
 | nil => intro i b p e; simp at e
 | cons a as ih =>
  intro i b p e1 e2
  rw [List.nodup_cons] at hn
  cases ps with
  | nil => simp at e2
  | cons q ps =>
   cases i with
   | zero => simp at e1 e2; subst e1 e2; simp [UL]
   | succ i =>
    have e1 : as[i]? = some b := by simpa using e1
    have hb : b ≠ a := fun z => hn.1 (z ▸ UA e1)
    have hb' : (b == a) = false := by simpa using hb
    have := ih hn.2 (ps := ps) e1 (by simpa using e2)
    simpa [UL, hb'] using this
theorem ZHF {as : List Addr} {ps : PL} : ∀ {b : Addr} {p : Int × Int}, (as.zip ps).lookup b = some p -> ∃ i : Nat, as[i]? = some b /\ ps[i]? = some p := by
 induction as generalizing ps with
 | nil => intro b p e; simp [UL] at e
 | cons a as ih =>
  intro b p e
  cases ps with
  | nil => simp [UL] at e
  | cons q ps =>
   by_cases hb : b = a
   ·subst hb
    simp [UL] at e
    subst e
    exact ⟨0, rfl, rfl⟩
   ·have hb' : (b == a) = false := by simpa using hb
    have e : (as.zip ps).lookup b = some p := by simpa [UL, hb'] using e
    obtain ⟨i, h1, h2⟩ := ih e
    exact ⟨i + 1, by simpa using h1, by simpa using h2⟩
section
variable {U : St} {H : Hp} {Q : VK} {to : TE}
theorem ZFK {m : PL} (h : (m.map (·.1)).Nodup) : m.Nodup := by
 rw [UN, UM] at h
 exact UN.mpr (h.imp fun hab e => hab (by rw [e]))
end
inductive ZCv (H : Hp) : V -> Option (PL) -> Prop where
 | non : ZCv H .non Option.none
 | pr {c : Addr} {qs : PL} (h : PrT H c qs) (hl : qs.length = 4) : ZCv H (.ref c) (Option.some qs)
theorem ZCv.same {H H' : Hp} {v : V} {o : Option (PL)} (h : ZCv H v o) (s : ZB1 H H') : ZCv H' v o := by
 cases h with
 | non => exact .non
 | pr e hl => exact .pr (e.same s) hl
section
variable {X : Cx}
mutual
theorem Dat.same {K : W.Frag} {H H' : Hp} (s : ZB1 H H') : ∀ {x : V} {d : PyData}, Dat K H x d -> Dat K H' x d
 | _, _, .non => .non
 | _, _, .bl b => .bl b
 | _, _, .int i => .int i
 | _, _, .str x => .str x
 | _, _, .tup h r => .tup (s.seqT h) (ZDO.same s r)
 | _, _, .lst h r => .lst (s.seq h) (ZDO.same s r)
theorem ZDO.same {K : W.Frag} {H H' : Hp} (s : ZB1 H H') : ∀ {x : List V} {d : List PyData}, ZDO K H x d -> ZDO K H' x d
 | _, _, .nil => .nil
 | _, _, .cons h r => .cons (Dat.same s h) (ZDO.same s r)
end
end
section
variable {X : Cx} {k : Nat} {f : Addr} {fd : FuncData} {ps : List Str} {sp : Sp}
theorem ZFz {pins : List (Addr × Obj)} {U : St} {H : Hp} {s : Shared} {Q : VK} {us : List Value} {vs : List V} {E1 : Value -> Shared -> Prop} (F : ZB2 X.prog X.w X.K X.mg X.base CX0 k f fd ps sp) (hr : Room k X.A.in1) (hb : ZBz X.K fd ps [])
  (I : Inv X pins U H s) (r : ZB6 vs us) (h : sp vs H Q E0) : wpAny (model X.prog X.w) X.A.in1 (call (.ref f) us) (EP X pins U Q) E1 s := by
 have hl : (us ++ []).length = ps.length := by rw [List.append_nil, <- r.length]; exact F.len _ _ _ _ h
 refine wpAny_call (codeAny_mono (F.run X.A.in1 X.stack s H ⟨us, []⟩ (us ++ []) vs Q E0 hr I.env0.in1 (hb s us I.kIn hl) (by rw [List.append_nil]; exact r) h) fun r s' hq => ?_)
 cases r with
 | error e => exact False.elim hq
 | ok fl =>
  cases fl with
  | ret u => exact I.after hq
  | next => exact False.elim hq
  | brk => exact False.elim hq
  | cont => exact False.elim hq
theorem Inv.pin2 {pins : List (Addr × Obj)} {U : St} {H : Hp} {s : Shared} {a b : Addr} {oa ob : Obj} (I : Inv X pins U H s) (fa : ZDM X pins H a) (fb : ZDM X pins H b) (ha : s.heap.get? a = some oa) (hb : s.heap.get? b = some ob) (ca : ∀ v, oa.data ≠ .cell v) (cb : ∀ v, ob.data ≠ .cell v) :
  Inv X ((a, oa) :: (b, ob) :: pins) U H s := I.pins_of fun p hp => by
 rcases Uj.mp hp with rfl | hp
 ·exact ⟨ha, fa.1, fa.2.1, fa.2.2.1, ca⟩
 ·rcases Uj.mp hp with rfl | hp
  ·exact ⟨hb, fb.1, fb.2.1, fb.2.2.1, cb⟩
  ·exact I.pin p (Ul _ hp)
theorem Inv.unpin2 {pins : List (Addr × Obj)} {U : St} {H : Hp} {s : Shared} {a b : Addr} {oa ob : Obj} (I : Inv X ((a, oa) :: (b, ob) :: pins) U H s) : s.heap.get? a = some oa /\ s.heap.get? b = some ob /\ Inv X pins U H s :=
 ⟨(I.pin (a, oa) (Ul _ (.head _))).1, (I.pin (b, ob) (Ul _ (.tail _ (.head _)))).1, I.pins_of fun p hp => I.pin p (Ul _ (.tail _ (.tail _ hp)))⟩
theorem Inv.turnedAt {pins : List (Addr × Obj)} {U : St} {H : Hp} {s : Shared} {h' : Heap} {t' : Nat} {it : Addr} (I : Inv X pins U H s) (fa : ZDM X pins H it) (k : ∀ b o, b ≠ it -> s.heap.get? b = some o -> h'.get? b = some o) : Inv X pins U H { s with heap := h', toks := t' } := by
 obtain ⟨f0, f1, f2, f3, f4, f5⟩ := fa
 exact I.turned k f0 f1 f3 f4 f5
theorem ZH2 {pins : List (Addr × Obj)} {U : St} {H : Hp} (hc : X.calm = true) (F : ZB2 X.prog X.w X.K X.mg X.base CX0 k f fd ps sp) (hr : Room k X.A.in1) (hb : ZBz X.K fd ps []) {l I S : Addr} {us : List V} (kf : Nat -> Int) (hSI : S ≠ I) (hS : SqT X.K H l us)
  (fI : ZDM X pins H I) (fS : ZDM X pins H S) (turn : ∀ i v, us[i]? = some v -> ∀ Q : VK, Q (.int (kf i)) H -> sp [v] H Q E0) {R : Result -> Shared -> Prop}
  (hR : ∀ i v u s', us[i]? = some v -> ZB3 v u -> (∀ j, j < us.length -> kf i <= kf j /\ (j < i -> kf i < kf j)) -> Inv X pins U H s' -> R (.ok (.ret u)) s') :
  ∀ (r j i : Nat) (s : Shared) (v : V) (vb : Value) (tb : Tok) (c : Nat), us.length - (j + 1) = r -> j + 1 <= us.length -> Inv X pins U H s -> s.heap.get? S = some (seqObj "list" #[vb, .int (kf i) tb] c) -> s.heap.IsTupleIter I l (j + 1) ->
   us[i]? = some v -> ZB3 v vb -> i <= j -> (∀ j', j' <= j -> kf i <= kf j' /\ (j' < i -> kf i < kf j')) ->
   codeAny (model X.prog X.w) X.A (.builtin "min.loop" ⟨[.ref I, .ref f, .ref S], []⟩) R s := by
 have hname : (toString "min" ++ toString ".loop" : String) = "min.loop" := by decide
 intro r
 induction r with
 | zero =>
  intro j i s v vb tb c hr' hj J nS hit hv rv hij hbest
  have hin : j + 1 = us.length := by omega
  obtain ⟨its, rvs, p, hz⟩ := J.tuple hS
  have hl := rvs.length
  refine UQ PySem.F.entry_min_loop ?_
  rw [Around.under_plainId PySem.F.plain_min_loop _]
  show wpAny _ X.A.in1 (seqItems? (.ref S) >>= _) _ _ _
  refine Ua (wpAny_seqItems nS rfl ?_)
  show wpAny _ X.A.in1 (tryCatch (pyNext (.ref I)) _ >>= _) _ _ _
  refine Ua (wpAny_tryCatch (wpAny_pyNext_tuple_end (J.ok.hd hc) hit (show s.heap.IsTuple l its.toArray from p) (by simp; omega) fun h' eb => ?_))
  have J1 : Inv X pins U H { s with heap := h' } := J.turnedAt (t' := s.toks) fI fun b o hb e => eb b o hb e
  have hS' : h'.get? S = some (seqObj "list" #[vb, .int (kf i) tb] c) := eb S _ hSI nS
  show wpAny _ X.A.in1 (updateSeq S (fun _ => #[]) >>= _) _ _ _
  refine Ua ?_
  refine wpAny_updateSeq hS' rfl (Ua (wpAny_letGo (Uh ?_)))
  exact hR i v vb _ hv rv (fun j' hj' => hbest j' (by omega)) (J1.turnedAt (t' := s.toks) fS fun b o hb e => (Uq _ _ (Ne.symm hb)).trans e)
 | succ r ih =>
  intro j i s v vb tb c hr' hj J nS hit hv rv hij hbest
  have hlt : j + 1 < us.length := by omega
  obtain ⟨its, rvs, p, hz⟩ := J.tuple hS
  have hx : us[j + 1]? = some us[j + 1] := Ud hlt
  obtain ⟨u, hu, ru⟩ := rvs.get hx
  refine UQ PySem.F.entry_min_loop ?_
  rw [Around.under_plainId PySem.F.plain_min_loop _]
  show wpAny _ X.A.in1 (seqItems? (.ref S) >>= _) _ _ _
  refine Ua (wpAny_seqItems nS rfl ?_)
  show wpAny _ X.A.in1 (tryCatch (pyNext (.ref I)) _ >>= _) _ _ _
  refine Ua (wpAny_tryCatch (wpAny_pyNext_tuple_item hit (show s.heap.IsTuple l its.toArray from p) (x := u) (by simpa using hu) fun h' st' sb => ?_))
  have J1 : Inv X pins U H { s with heap := h' } := J.turnedAt (t' := s.toks) fI fun b o hb e => (sb.2 b hb).trans e
  have hS' : h'.get? S = some (seqObj "list" #[vb, .int (kf i) tb] c) := (sb.2 S hSI).trans nS
  obtain ⟨oI, hoI, hoc, hod⟩ := id st'
  have J2 := J1.pin2 (s := { s with heap := h' }) fS fI hS' hoI (fun v z => by cases z) (fun v z => by rw [hod] at z; cases z)
  show wpAny _ X.A.in1 (tryCatch (holding [u] (call (.ref f) [u])) _ >>= _) _ _ _
  refine Ua (wpAny_tryCatch (UI (Uv (ZFz (E1 := fun _ _ => False) F hr hb J2 (.cons ru .nil) (turn (j + 1) _ hx (fun v H' => v = .int (kf (j + 1)) /\ H' = H) ⟨rfl, rfl⟩)) (fun x s'' he => ?_) fun _ _ hF => hF.elim)))
  obtain ⟨v2, H2, J3, r2, e2, e3⟩ := he
  subst e2 e3
  obtain ⟨t2, rfl⟩ := r2
  obtain ⟨nS2, nI2, J4⟩ := J3.unpin2
  have hit2 : s''.heap.IsTupleIter I l (j + 1 + 1) := ⟨oI, nI2, hoc, hod⟩
  show wpAny _ X.A.in1 (tryCatch (holding [u, .int (kf (j + 1)) t2] (richCompare .Lt (.int (kf (j + 1)) t2) (.int (kf i) tb) >>= _)) _ >>= _) _ _ _
  refine Ua (wpAny_tryCatch (UI (Ua (CmpOf.ints_lt (prog := X.prog) (w := X.w) (A := X.A.in1) (P := fun i v => ∃ t, v = .int (kf i) t) kf (fun i v h => h) (j + 1) i _ _ _ _ _ ⟨t2, rfl⟩ ⟨tb, rfl⟩ ?_))))
  refine Ua (UI (wpAny_truthy_bool ?_))
  refine Ua (wpAny_letGo (Uh ?_))
  by_cases hb' : kf (j + 1) < kf i
  ·obtain ⟨c2, hc2⟩ : ∃ c2, (s''.heap.update S (Obj.mapSeq fun _ => #[u, .int (kf (j + 1)) t2])).get? S = some (seqObj "list" #[u, .int (kf (j + 1)) t2] c2) := ⟨_, get?_update_seq nS2 fun _ => #[u, .int (kf (j + 1)) t2]⟩
   simp only [hb', decide_true, if_true]
   refine Ua ?_
   refine wpAny_updateSeq nS2 rfl (Ua (wpAny_letGo ?_))
   rw [hname]
   refine Uh ⟨plainId_quiet PySem.F.plain_min_loop _, ih (j + 1) (j + 1) _ _ u t2 c2 (by omega) hlt (J4.turnedAt (t' := s''.toks) fS fun b o hb e => (Uq _ _ (Ne.symm hb)).trans e) hc2 ⟨oI, (Uq _ _ hSI).trans nI2, hoc, hod⟩ hx ru (Uc _) fun j' hj' => ?_⟩
   by_cases e : j' = j + 1
   ·subst e
    exact ⟨by omega, fun _ => by omega⟩
   ·have hb1 := hbest j' (by omega)
    have hb2 := hb1.1
    exact ⟨by omega, fun _ => by omega⟩
  ·simp only [hb', decide_false, Uo, if_false]
   refine Ua (wpAny_letGo ?_)
   rw [hname]
   refine Uh ⟨plainId_quiet PySem.F.plain_min_loop _, ih (j + 1) i _ v vb tb c (by omega) hlt J4 nS2 hit2 hv rv (by omega) fun j' hj' => ?_⟩
   by_cases e : j' = j + 1
   ·subst e
    exact ⟨by omega, fun _ => by omega⟩
   ·exact hbest j' (by omega)
theorem ZH3 {pins : List (Addr × Obj)} {U : St} {H : Hp} {s : Shared} {Q : VK} {E1 : Value -> Shared -> Prop} (hc : X.calm = true) (F : ZB2 X.prog X.w X.K X.mg X.base CX0 k f fd ps sp) (hr : Room k X.A.in1) (hb : ZBz X.K fd ps []) {l : Addr} {us : List V} (kf : Nat -> Int) (J : Inv X pins U H s) (hS : SqT X.K H l us) (hne : us ≠ [])
  (turn : ∀ i v, us[i]? = some v -> ∀ Q : VK, Q (.int (kf i)) H -> sp [v] H Q E0) (hQ : ∀ i v, us[i]? = some v -> (∀ j, j < us.length -> kf i <= kf j /\ (j < i -> kf i < kf j)) -> Q v H) :
  wpAny (model X.prog X.w) X.A (call (.builtin "min") [.ref l] [(Str.ofString "key", .ref f)]) (EP X pins U Q) E1 s := by
 have hname : (toString "min" ++ toString ".loop" : String) = "min.loop" := by decide
 have hpos : 0 < us.length := List.length_pos_iff.mpr hne
 obtain ⟨its, rvs, p, hz⟩ := J.tuple hS
 have hls : s.heap.IsTuple l its.toArray := p
 refine kmk_tree PySem.F.kind_min PySem.F.plain_min PySem.F.entry_min (kmk_min_key _ _) ?_
 show wpAny _ X.A.in1 (Builtin.Builtins.bindParams "min" ["key", "default"] 0 ⟨[], [(Str.ofString "key", .ref f)]⟩ >>= _) _ _ s
 refine Ua (wpAny_of_eq (show Builtin.Builtins.bindParams "min" ["key", "default"] 0 ⟨[], [(Str.ofString "key", .ref f)]⟩ = pure [some (.ref f), none] from rfl) ?_)
 refine Ua (Uh ?_)
 refine Ua (wpAny_pyIter_tuple hls ?_)
 refine Ua (wpAny_newList ?_ (UJ _))
 rw [hname]
 refine Uh ⟨plainId_quiet PySem.F.plain_min_loop _, ?_⟩
 generalize hO : ({ cls := .type "tuple_iterator", data := .fields #[.ref l, .int 0 0] } : Obj) = O
 have hSs : (s.heap.push O).objs.size = s.heap.objs.size + 1 := size_push' ..
 have hSI : (s.heap.push O).objs.size ≠ s.heap.objs.size := by rw [hSs]; exact Nat.ne_of_gt (Nat.lt_succ_self _)
 have gI : ((s.heap.push O).push (seqObj "list" #[] 0)).get? s.heap.objs.size = some O := Ub _ (Uk _ (by rw [<- hO]; rfl))
 have gS : ((s.heap.push O).push (seqObj "list" #[] 0)).get? (s.heap.push O).objs.size = some (seqObj "list" #[] 0) := Uk _ rfl
 have fI : ZDM X pins H s.heap.objs.size := J.fpOk (Uc _) (J.hok.fresh (Uc _))
 have fS : ZDM X pins H (s.heap.push O).objs.size := J.fpOk (by rw [hSs]; exact Nat.le_succ _) (J.hok.fresh (by rw [hSs]; exact Nat.le_succ _))
 have J0 : Inv X pins U H { s with heap := (s.heap.push O).push (seqObj "list" #[] 0) } := J.kept (t' := s.toks) fun b o e => Ub _ (Ub _ e)
 obtain ⟨its0, rvs0, p0, hz0⟩ := J0.tuple hS
 have hx : us[0]? = some us[0] := Ud hpos
 obtain ⟨u, hu, ru⟩ := rvs0.get hx
 refine UQ PySem.F.entry_min_loop ?_
 rw [Around.under_plainId PySem.F.plain_min_loop _]
 show wpAny _ X.A.in1 (seqItems? (.ref _) >>= _) _ _ _
 refine Ua (wpAny_seqItems gS rfl ?_)
 show wpAny _ X.A.in1 (tryCatch (pyNext (.ref s.heap.objs.size)) _ >>= _) _ _ _
 refine Ua (wpAny_tryCatch (wpAny_pyNext_tuple_item (s := { s with heap := (s.heap.push O).push (seqObj "list" #[] 0) }) (i := 0) ⟨O, gI, by rw [<- hO], by rw [<- hO]; rfl⟩ (show ((s.heap.push O).push (seqObj "list" #[] 0)).IsTuple l its0.toArray from p0) (x := u) (by simpa using hu) fun h' st' sb => ?_))
 have J1 : Inv X pins U H { s with heap := h' } := J0.turnedAt (t' := s.toks) fI fun b o hb e => (sb.2 b hb).trans e
 have hS' : h'.get? (s.heap.push O).objs.size = some (seqObj "list" #[] 0) := (sb.2 _ hSI).trans gS
 obtain ⟨oI, hoI, hoc, hod⟩ := id st'
 have J2 := J1.pin2 (s := { s with heap := h' }) fS fI hS' hoI (fun v z => by cases z) (fun v z => by rw [hod] at z; cases z)
 show wpAny _ X.A.in1 (tryCatch (holding [u] (call (.ref f) [u])) _ >>= _) _ _ _
 refine Ua (wpAny_tryCatch (UI (Uv (ZFz (E1 := fun _ _ => False) F hr hb J2 (.cons ru .nil) (turn 0 _ hx (fun v H' => v = .int (kf 0) /\ H' = H) ⟨rfl, rfl⟩)) (fun x s'' he => ?_) fun _ _ hF => hF.elim)))
 obtain ⟨v2, H2, J3, r2, e2, e3⟩ := he
 subst e2 e3
 obtain ⟨t2, rfl⟩ := r2
 obtain ⟨nS2, nI2, J4⟩ := J3.unpin2
 obtain ⟨c2, hc2⟩ : ∃ c2, (s''.heap.update (s.heap.push O).objs.size (Obj.mapSeq fun _ => #[u, .int (kf 0) t2])).get? (s.heap.push O).objs.size = some (seqObj "list" #[u, .int (kf 0) t2] c2) := ⟨_, get?_update_seq nS2 fun _ => #[u, .int (kf 0) t2]⟩
 show wpAny _ X.A.in1 (updateSeq (s.heap.push O).objs.size (fun _ => #[u, .int (kf 0) t2]) >>= _) _ _ _
 refine Ua ?_
 refine wpAny_updateSeq nS2 rfl ?_
 rw [hname]
 refine Uh ⟨plainId_quiet PySem.F.plain_min_loop _, ZH2 hc F hr hb kf hSI hS fI fS turn (fun i v u s' hv rv hbest J' => ⟨v, _, J', rv, hQ i v hv hbest⟩) _ 0 0 _ _ u t2 c2 rfl hpos (J4.turnedAt (t' := s''.toks) fS fun b o hb e => (Uq _ _ (Ne.symm hb)).trans e) hc2 ⟨oI, (Uq _ _ hSI).trans nI2, hoc, hod⟩ hx ru (Uc _) fun j' hj' => ?_⟩
 have e : j' = 0 := by omega
 subst e
 exact ⟨by omega, fun h => absurd h (UW _)⟩
def ZGO (K : W.Frag) (sp : Sp) (vs : List V) (H : Hp) (Q : VK) : Prop := ∃ (l : Addr) (us : List V) (kf : Nat -> Int), vs = [.ref l] /\ SqT K H l us /\ us ≠ [] /\ (∀ i v, us[i]? = some v -> ∀ Q : VK, Q (.int (kf i)) H -> sp [v] H Q E0) /\
 ∀ i v, us[i]? = some v -> (∀ j, j < us.length -> kf i <= kf j /\ (j < i -> kf i < kf j)) -> Q v H
def ZIo (K : W.Frag) (sp : Sp) (t : TA) : TE := fun U H Q => t U H fun vs H1 => ZGO K sp vs H1 Q
theorem ZKz {x : Str} {e : Expr} {t : TA} {p kp kpos pos : Pos} (K : W.Frag) (hK : X.K = K) (hc : X.calm = true) (F : ZB2 X.prog X.w X.K X.mg X.base CX0 k f fd ps sp) (hr : Room (k + 1) X.A) (hgm : Gl X "min") (hmm : X.mg "min" = none) (hg : Gl X x) (hm : X.mg x = some (.ref f)) (hb : ZBz X.K fd ps []) (ha : QA X [e] t)
  (hs : ZDQ e = false := by rfl) (hd : (x == ("__debug__" : Str)) = false := by decide) : QE X (.Call (.Name "min" p) [e] [⟨some "key", .Name x kp, kpos⟩] pos) (ZIo K sp t) := by
 subst hK
 refine ⟨?_⟩
 intro pins s U H Q I h
 refine wpAny_Call_Name_kw (ZDs I hgm hmm ZLd ?_ (by decide) (by decide))
 have hse := ZDB (e := e) (es := []) (env := X.env) hs
 refine PyProof.Rows.callWith_kw (thn (ha.h pos pins s U H _ I h) fun us s1 ⟨vs, H1, I1, r1, q1⟩ => PyProof.Rows.kws_cons (ZDa I1 hg hm (PyProof.Rows.kws_nil ?_) hd)) (by rw [hse]; rfl) (by rw [hse]; rfl)
 obtain ⟨l, ws, kf, e1, g1, g2, g3, g4⟩ := q1
 subst e1
 obtain ⟨u, rfl, ru⟩ := r1.one
 cases ru
 exact ZH3 hc F hr.in1 hb kf I1 g1 g2 g3 g4
theorem ZK0 {K : W.Frag} {H : Hp} {Q : VK} {sp : Sp} {l : Addr} {us : List V} (kf : Nat -> Int) (h1 : SqT K H l us) (h2 : us ≠ []) (h3 : ∀ i v, us[i]? = some v -> ∀ Q : VK, Q (.int (kf i)) H -> sp [v] H Q E0)
 (h : ∀ i v, us[i]? = some v -> (∀ j, j < us.length -> kf i <= kf j /\ (j < i -> kf i < kf j)) -> Q v H) : ZGO K sp [.ref l] H Q := ⟨l, us, kf, rfl, h1, h2, h3, h⟩
theorem ZJe {K : W.Frag} {sp : Sp} {t : TA} {U : St} {H : Hp} {Q : VK} (h : t U H fun vs H1 => ZGO K sp vs H1 Q) : ZIo K sp t U H Q := h
theorem ZH4 {pins : List (Addr × Obj)} {U : St} {H : Hp} (hc : X.calm = true) (F : ZB2 X.prog X.w X.K X.mg X.base CX0 k f fd ps sp) (hr : Room k X.A.in1) (hb : ZBz X.K fd ps []) {l I S : Addr} {us : List V} (kf : Nat -> Int) (hSI : S ≠ I) (hS : SqT X.K H l us)
  (fI : ZDM X pins H I) (fS : ZDM X pins H S) (turn : ∀ i v, us[i]? = some v -> ∀ Q : VK, Q (.int (kf i)) H -> sp [v] H Q E0) {R : Result -> Shared -> Prop}
  (hR : ∀ i v u s', us[i]? = some v -> ZB3 v u -> (∀ j, j < us.length -> kf i >= kf j /\ (j < i -> kf i > kf j)) -> Inv X pins U H s' -> R (.ok (.ret u)) s') :
  ∀ (r j i : Nat) (s : Shared) (v : V) (vb : Value) (tb : Tok) (c : Nat), us.length - (j + 1) = r -> j + 1 <= us.length -> Inv X pins U H s -> s.heap.get? S = some (seqObj "list" #[vb, .int (kf i) tb] c) -> s.heap.IsTupleIter I l (j + 1) ->
   us[i]? = some v -> ZB3 v vb -> i <= j -> (∀ j', j' <= j -> kf i >= kf j' /\ (j' < i -> kf i > kf j')) ->
   codeAny (model X.prog X.w) X.A (.builtin "max.loop" ⟨[.ref I, .ref f, .ref S], []⟩) R s := by
 have hname : (toString "max" ++ toString ".loop" : String) = "max.loop" := by decide
 intro r
 induction r with
 | zero =>
  intro j i s v vb tb c hr' hj J nS hit hv rv hij hbest
  have hin : j + 1 = us.length := by omega
  obtain ⟨its, rvs, p, hz⟩ := J.tuple hS
  have hl := rvs.length
  refine UQ PySem.F.entry_max_loop ?_
  rw [Around.under_plainId PySem.F.plain_max_loop _]
  show wpAny _ X.A.in1 (seqItems? (.ref S) >>= _) _ _ _
  refine Ua (wpAny_seqItems nS rfl ?_)
  show wpAny _ X.A.in1 (tryCatch (pyNext (.ref I)) _ >>= _) _ _ _
  refine Ua (wpAny_tryCatch (wpAny_pyNext_tuple_end (J.ok.hd hc) hit (show s.heap.IsTuple l its.toArray from p) (by simp; omega) fun h' eb => ?_))
  have J1 : Inv X pins U H { s with heap := h' } := J.turnedAt (t' := s.toks) fI fun b o hb e => eb b o hb e
  have hS' : h'.get? S = some (seqObj "list" #[vb, .int (kf i) tb] c) := eb S _ hSI nS
  show wpAny _ X.A.in1 (updateSeq S (fun _ => #[]) >>= _) _ _ _
  refine Ua ?_
  refine wpAny_updateSeq hS' rfl (Ua (wpAny_letGo (Uh ?_)))
  exact hR i v vb _ hv rv (fun j' hj' => hbest j' (by omega)) (J1.turnedAt (t' := s.toks) fS fun b o hb e => (Uq _ _ (Ne.symm hb)).trans e)
 | succ r ih =>
  intro j i s v vb tb c hr' hj J nS hit hv rv hij hbest
  have hlt : j + 1 < us.length := by omega
  obtain ⟨its, rvs, p, hz⟩ := J.tuple hS
  have hx : us[j + 1]? = some us[j + 1] := Ud hlt
  obtain ⟨u, hu, ru⟩ := rvs.get hx
  refine UQ PySem.F.entry_max_loop ?_
  rw [Around.under_plainId PySem.F.plain_max_loop _]
  show wpAny _ X.A.in1 (seqItems? (.ref S) >>= _) _ _ _
  refine Ua (wpAny_seqItems nS rfl ?_)
  show wpAny _ X.A.in1 (tryCatch (pyNext (.ref I)) _ >>= _) _ _ _
  refine Ua (wpAny_tryCatch (wpAny_pyNext_tuple_item hit (show s.heap.IsTuple l its.toArray from p) (x := u) (by simpa using hu) fun h' st' sb => ?_))
  have J1 : Inv X pins U H { s with heap := h' } := J.turnedAt (t' := s.toks) fI fun b o hb e => (sb.2 b hb).trans e
  have hS' : h'.get? S = some (seqObj "list" #[vb, .int (kf i) tb] c) := (sb.2 S hSI).trans nS
  obtain ⟨oI, hoI, hoc, hod⟩ := id st'
  have J2 := J1.pin2 (s := { s with heap := h' }) fS fI hS' hoI (fun v z => by cases z) (fun v z => by rw [hod] at z; cases z)
  show wpAny _ X.A.in1 (tryCatch (holding [u] (call (.ref f) [u])) _ >>= _) _ _ _
  refine Ua (wpAny_tryCatch (UI (Uv (ZFz (E1 := fun _ _ => False) F hr hb J2 (.cons ru .nil) (turn (j + 1) _ hx (fun v H' => v = .int (kf (j + 1)) /\ H' = H) ⟨rfl, rfl⟩)) (fun x s'' he => ?_) fun _ _ hF => hF.elim)))
  obtain ⟨v2, H2, J3, r2, e2, e3⟩ := he
  subst e2 e3
  obtain ⟨t2, rfl⟩ := r2
  obtain ⟨nS2, nI2, J4⟩ := J3.unpin2
  have hit2 : s''.heap.IsTupleIter I l (j + 1 + 1) := ⟨oI, nI2, hoc, hod⟩
  show wpAny _ X.A.in1 (tryCatch (holding [u, .int (kf (j + 1)) t2] (richCompare .Gt (.int (kf (j + 1)) t2) (.int (kf i) tb) >>= _)) _ >>= _) _ _ _
  refine Ua (wpAny_tryCatch (UI (Ua (CmpOf.ints_gt (prog := X.prog) (w := X.w) (A := X.A.in1) (P := fun i v => ∃ t, v = .int (kf i) t) kf (fun i v h => h) (j + 1) i _ _ _ _ _ ⟨t2, rfl⟩ ⟨tb, rfl⟩ ?_))))
  refine Ua (UI (wpAny_truthy_bool ?_))
  refine Ua (wpAny_letGo (Uh ?_))
  by_cases hb' : kf (j + 1) > kf i
  ·obtain ⟨c2, hc2⟩ : ∃ c2, (s''.heap.update S (Obj.mapSeq fun _ => #[u, .int (kf (j + 1)) t2])).get? S = some (seqObj "list" #[u, .int (kf (j + 1)) t2] c2) := ⟨_, get?_update_seq nS2 fun _ => #[u, .int (kf (j + 1)) t2]⟩
   simp only [hb', decide_true, if_true]
   refine Ua ?_
   refine wpAny_updateSeq nS2 rfl (Ua (wpAny_letGo ?_))
   rw [hname]
   refine Uh ⟨plainId_quiet PySem.F.plain_max_loop _, ih (j + 1) (j + 1) _ _ u t2 c2 (by omega) hlt (J4.turnedAt (t' := s''.toks) fS fun b o hb e => (Uq _ _ (Ne.symm hb)).trans e) hc2 ⟨oI, (Uq _ _ hSI).trans nI2, hoc, hod⟩ hx ru (Uc _) fun j' hj' => ?_⟩
   by_cases e : j' = j + 1
   ·subst e
    exact ⟨by omega, fun _ => by omega⟩
   ·have hb1 := hbest j' (by omega)
    have hb2 := hb1.1
    exact ⟨by omega, fun _ => by omega⟩
  ·simp only [hb', decide_false, Uo, if_false]
   refine Ua (wpAny_letGo ?_)
   rw [hname]
   refine Uh ⟨plainId_quiet PySem.F.plain_max_loop _, ih (j + 1) i _ v vb tb c (by omega) hlt J4 nS2 hit2 hv rv (by omega) fun j' hj' => ?_⟩
   by_cases e : j' = j + 1
   ·subst e
    exact ⟨by omega, fun _ => by omega⟩
   ·exact hbest j' (by omega)
theorem ZH5 {pins : List (Addr × Obj)} {U : St} {H : Hp} {s : Shared} {Q : VK} {E1 : Value -> Shared -> Prop} (hc : X.calm = true) (F : ZB2 X.prog X.w X.K X.mg X.base CX0 k f fd ps sp) (hr : Room k X.A.in1) (hb : ZBz X.K fd ps []) {l : Addr} {us : List V} (kf : Nat -> Int) (J : Inv X pins U H s) (hS : SqT X.K H l us) (hne : us ≠ [])
  (turn : ∀ i v, us[i]? = some v -> ∀ Q : VK, Q (.int (kf i)) H -> sp [v] H Q E0) (hQ : ∀ i v, us[i]? = some v -> (∀ j, j < us.length -> kf i >= kf j /\ (j < i -> kf i > kf j)) -> Q v H) :
  wpAny (model X.prog X.w) X.A (call (.builtin "max") [.ref l] [(Str.ofString "key", .ref f)]) (EP X pins U Q) E1 s := by
 have hname : (toString "max" ++ toString ".loop" : String) = "max.loop" := by decide
 have hpos : 0 < us.length := List.length_pos_iff.mpr hne
 obtain ⟨its, rvs, p, hz⟩ := J.tuple hS
 have hls : s.heap.IsTuple l its.toArray := p
 refine kmk_tree PySem.F.kind_max PySem.F.plain_max PySem.F.entry_max (kmk_max_key _ _) ?_
 show wpAny _ X.A.in1 (Builtin.Builtins.bindParams "max" ["key", "default"] 0 ⟨[], [(Str.ofString "key", .ref f)]⟩ >>= _) _ _ s
 refine Ua (wpAny_of_eq (show Builtin.Builtins.bindParams "max" ["key", "default"] 0 ⟨[], [(Str.ofString "key", .ref f)]⟩ = pure [some (.ref f), none] from rfl) ?_)
 refine Ua (Uh ?_)
 refine Ua (wpAny_pyIter_tuple hls ?_)
 refine Ua (wpAny_newList ?_ (UJ _))
 rw [hname]
 refine Uh ⟨plainId_quiet PySem.F.plain_max_loop _, ?_⟩
 generalize hO : ({ cls := .type "tuple_iterator", data := .fields #[.ref l, .int 0 0] } : Obj) = O
 have hSs : (s.heap.push O).objs.size = s.heap.objs.size + 1 := size_push' ..
 have hSI : (s.heap.push O).objs.size ≠ s.heap.objs.size := by rw [hSs]; exact Nat.ne_of_gt (Nat.lt_succ_self _)
 have gI : ((s.heap.push O).push (seqObj "list" #[] 0)).get? s.heap.objs.size = some O := Ub _ (Uk _ (by rw [<- hO]; rfl))
 have gS : ((s.heap.push O).push (seqObj "list" #[] 0)).get? (s.heap.push O).objs.size = some (seqObj "list" #[] 0) := Uk _ rfl
 have fI : ZDM X pins H s.heap.objs.size := J.fpOk (Uc _) (J.hok.fresh (Uc _))
 have fS : ZDM X pins H (s.heap.push O).objs.size := J.fpOk (by rw [hSs]; exact Nat.le_succ _) (J.hok.fresh (by rw [hSs]; exact Nat.le_succ _))
 have J0 : Inv X pins U H { s with heap := (s.heap.push O).push (seqObj "list" #[] 0) } := J.kept (t' := s.toks) fun b o e => Ub _ (Ub _ e)
 obtain ⟨its0, rvs0, p0, hz0⟩ := J0.tuple hS
 have hx : us[0]? = some us[0] := Ud hpos
 obtain ⟨u, hu, ru⟩ := rvs0.get hx
 refine UQ PySem.F.entry_max_loop ?_
 rw [Around.under_plainId PySem.F.plain_max_loop _]
 show wpAny _ X.A.in1 (seqItems? (.ref _) >>= _) _ _ _
 refine Ua (wpAny_seqItems gS rfl ?_)
 show wpAny _ X.A.in1 (tryCatch (pyNext (.ref s.heap.objs.size)) _ >>= _) _ _ _
 refine Ua (wpAny_tryCatch (wpAny_pyNext_tuple_item (s := { s with heap := (s.heap.push O).push (seqObj "list" #[] 0) }) (i := 0) ⟨O, gI, by rw [<- hO], by rw [<- hO]; rfl⟩ (show ((s.heap.push O).push (seqObj "list" #[] 0)).IsTuple l its0.toArray from p0) (x := u) (by simpa using hu) fun h' st' sb => ?_))
 have J1 : Inv X pins U H { s with heap := h' } := J0.turnedAt (t' := s.toks) fI fun b o hb e => (sb.2 b hb).trans e
 have hS' : h'.get? (s.heap.push O).objs.size = some (seqObj "list" #[] 0) := (sb.2 _ hSI).trans gS
 obtain ⟨oI, hoI, hoc, hod⟩ := id st'
 have J2 := J1.pin2 (s := { s with heap := h' }) fS fI hS' hoI (fun v z => by cases z) (fun v z => by rw [hod] at z; cases z)
 show wpAny _ X.A.in1 (tryCatch (holding [u] (call (.ref f) [u])) _ >>= _) _ _ _
 refine Ua (wpAny_tryCatch (UI (Uv (ZFz (E1 := fun _ _ => False) F hr hb J2 (.cons ru .nil) (turn 0 _ hx (fun v H' => v = .int (kf 0) /\ H' = H) ⟨rfl, rfl⟩)) (fun x s'' he => ?_) fun _ _ hF => hF.elim)))
 obtain ⟨v2, H2, J3, r2, e2, e3⟩ := he
 subst e2 e3
 obtain ⟨t2, rfl⟩ := r2
 obtain ⟨nS2, nI2, J4⟩ := J3.unpin2
 obtain ⟨c2, hc2⟩ : ∃ c2, (s''.heap.update (s.heap.push O).objs.size (Obj.mapSeq fun _ => #[u, .int (kf 0) t2])).get? (s.heap.push O).objs.size = some (seqObj "list" #[u, .int (kf 0) t2] c2) := ⟨_, get?_update_seq nS2 fun _ => #[u, .int (kf 0) t2]⟩
 show wpAny _ X.A.in1 (updateSeq (s.heap.push O).objs.size (fun _ => #[u, .int (kf 0) t2]) >>= _) _ _ _
 refine Ua ?_
 refine wpAny_updateSeq nS2 rfl ?_
 rw [hname]
 refine Uh ⟨plainId_quiet PySem.F.plain_max_loop _, ZH4 hc F hr hb kf hSI hS fI fS turn (fun i v u s' hv rv hbest J' => ⟨v, _, J', rv, hQ i v hv hbest⟩) _ 0 0 _ _ u t2 c2 rfl hpos (J4.turnedAt (t' := s''.toks) fS fun b o hb e => (Uq _ _ (Ne.symm hb)).trans e) hc2 ⟨oI, (Uq _ _ hSI).trans nI2, hoc, hod⟩ hx ru (Uc _) fun j' hj' => ?_⟩
 have e : j' = 0 := by omega
 subst e
 exact ⟨by omega, fun h => absurd h (UW _)⟩
def ZGP (K : W.Frag) (sp : Sp) (vs : List V) (H : Hp) (Q : VK) : Prop := ∃ (l : Addr) (us : List V) (kf : Nat -> Int), vs = [.ref l] /\ SqT K H l us /\ us ≠ [] /\ (∀ i v, us[i]? = some v -> ∀ Q : VK, Q (.int (kf i)) H -> sp [v] H Q E0) /\
 ∀ i v, us[i]? = some v -> (∀ j, j < us.length -> kf i >= kf j /\ (j < i -> kf i > kf j)) -> Q v H
def ZIp (K : W.Frag) (sp : Sp) (t : TA) : TE := fun U H Q => t U H fun vs H1 => ZGP K sp vs H1 Q
theorem ZK1 {x : Str} {e : Expr} {t : TA} {p kp kpos pos : Pos} (K : W.Frag) (hK : X.K = K) (hc : X.calm = true) (F : ZB2 X.prog X.w X.K X.mg X.base CX0 k f fd ps sp) (hr : Room (k + 1) X.A) (hgm : Gl X "max") (hmm : X.mg "max" = none) (hg : Gl X x) (hm : X.mg x = some (.ref f)) (hb : ZBz X.K fd ps []) (ha : QA X [e] t)
  (hs : ZDQ e = false := by rfl) (hd : (x == ("__debug__" : Str)) = false := by decide) : QE X (.Call (.Name "max" p) [e] [⟨some "key", .Name x kp, kpos⟩] pos) (ZIp K sp t) := by
 subst hK
 refine ⟨?_⟩
 intro pins s U H Q I h
 refine wpAny_Call_Name_kw (ZDs I hgm hmm ZLc ?_ (by decide) (by decide))
 have hse := ZDB (e := e) (es := []) (env := X.env) hs
 refine PyProof.Rows.callWith_kw (thn (ha.h pos pins s U H _ I h) fun us s1 ⟨vs, H1, I1, r1, q1⟩ => PyProof.Rows.kws_cons (ZDa I1 hg hm (PyProof.Rows.kws_nil ?_) hd)) (by rw [hse]; rfl) (by rw [hse]; rfl)
 obtain ⟨l, ws, kf, e1, g1, g2, g3, g4⟩ := q1
 subst e1
 obtain ⟨u, rfl, ru⟩ := r1.one
 cases ru
 exact ZH5 hc F hr.in1 hb kf I1 g1 g2 g3 g4
theorem ZK2 {K : W.Frag} {H : Hp} {Q : VK} {sp : Sp} {l : Addr} {us : List V} (kf : Nat -> Int) (h1 : SqT K H l us) (h2 : us ≠ []) (h3 : ∀ i v, us[i]? = some v -> ∀ Q : VK, Q (.int (kf i)) H -> sp [v] H Q E0)
 (h : ∀ i v, us[i]? = some v -> (∀ j, j < us.length -> kf i >= kf j /\ (j < i -> kf i > kf j)) -> Q v H) : ZGP K sp [.ref l] H Q := ⟨l, us, kf, rfl, h1, h2, h3, h⟩
theorem ZJf {K : W.Frag} {sp : Sp} {t : TA} {U : St} {H : Hp} {Q : VK} (h : t U H fun vs H1 => ZGP K sp vs H1 Q) : ZIp K sp t U H Q := h
end
section
variable {X : Cx} {o e value : Expr} {f m : Str} {pos pos' tpos apos : Pos} {ta tv : TE} {t : TA}
def ZRC (K : W.Frag) (f : Str) (x : V) (H : Hp) (Q : VK) : Prop := ∃ a C dx fs v, x = .ref a /\ H a = some (.ins C dx fs) /\ Cls K C /\ ZCo K C f /\ fs.lookup f = some v /\ Q v H
def ZOS (K : W.Frag) (f : Str) (y x : V) (H : Hp) (R : Hp -> Prop) : Prop := ∃ a C dx fs, x = .ref a /\ H a = some (.ins C dx fs) /\ Cls K C /\ ZCo K C f /\ fs.length < 1000 /\ R (upd H a (.ins C dx (ZCM f y fs)))
theorem ZCd (K : W.Frag) (hK : X.K = K) (he : QE X e ta) (hb : attributeBase e f X.env (eval e X.env) = eval e X.env := by rfl) : QE X (.Attribute e f pos) (ZMv K ta f) := by
 subst hK
 exact ⟨ZQP he.h hb⟩
theorem ZED (K : W.Frag) (hK : X.K = K) (ho : QE X o ta) (hv : QE X value tv) (hs : ZDL value = false := by rfl) : QS X (.Assign [.Attribute o f pos'] value pos) (ZMw K ta tv f) := by
 subst hK
 exact ⟨ZQQ ho.h hv.h (ZDj hs)⟩
section
variable {CX : CXT} {k : Nat} {fa C : Addr} {fd : FuncData} {ps : List Str} {sp : Sp} {dvs : List V} {ds : List Value} {E : XK} {es : List Expr} {x : Str} {p : Pos}
theorem ZCx {pl : Sem Bool} (he : QE X o ta) (c : Cls X.K C) (hm : ZCr X.K C m fa) (F : ZB2 X.prog X.w X.K X.mg X.base CX k fa fd ps sp) (hr : Room k X.A) (hb : ZBz X.K fd ps ds) (hd : ZB6 dvs ds) (hx : ZCy CX X E) (ha : QA X (e :: es) t) (hns : ZCT (e :: es) = true := by rfl)
 (ht : eval (.Call (.Attribute o m apos) (e :: es) [] pos) X.env = (do
  let ov <- eval o X.env
  standAt apos.atName
  let (f, first) <- holding [ov] (getMethod ov m pl)
  callWith pos f first (backTo pos (starEach (e :: es) X.env)) (backToKw pos (keywordEach [] X.env))) := by rfl) :
 QE X (.Call (.Attribute o m apos) (e :: es) [] pos) (ZGh C m sp dvs E ta t) := ⟨ZOv he.h c hm F hr hb hd hx ha.h (ZDT hns) (ZDE (ZDC hns)) ht⟩
theorem ZGQ {pl : Sem Bool} (he : QE X o ta) (c : Cls X.K C) (hm : ZCr X.K C m fa) (F : ZB2 X.prog X.w X.K X.mg X.base CX k fa fd ps sp) (hr : Room k X.A) (hb : ZBz X.K fd ps ds) (hd : ZB6 dvs ds) (hx : ZCy CX X E)
 (ht : eval (.Call (.Attribute o m apos) [] [] pos) X.env = (do
  let ov <- eval o X.env
  standAt apos.atName
  let (f, first) <- holding [ov] (getMethod ov m pl)
  callWith pos f first (backTo pos (starEach [] X.env)) (backToKw pos (keywordEach [] X.env))) := by rfl) :
 QE X (.Call (.Attribute o m apos) [] [] pos) (ZGh C m sp dvs E ta ZGK) := ⟨ZMz he.h c hm F hr hb hd hx ht⟩
theorem ZJ3 (M : Mk X.K C fa) (F : ZB2 X.prog X.w X.K X.mg X.base CX k fa fd ps sp) (hr : Room (k + 1) X.A) (hg : Gl X x) (hm : X.mg x = some (.ref C)) (hb : ZBz X.K fd ps ds) (hd : ZB6 dvs ds) (hx : ZCy CX X E) (ha : QA X (e :: es) t)
 (hns : ZCT (e :: es) = true := by rfl) (hdb : (x == ("__debug__" : Str)) = false := by decide) : QE X (.Call (.Name x p) (e :: es) [] pos) (ZGi C sp dvs E t) := ⟨ZOw M F hr hg hm hb hd hx ha.h hdb (ZDT hns) (ZDE (ZDC hns))⟩
theorem ZNY (M : Mk X.K C fa) (F : ZB2 X.prog X.w X.K X.mg X.base CX k fa fd ps sp) (hr : Room (k + 1) X.A) (hg : Gl X x) (hm : X.mg x = some (.ref C)) (hb : ZBz X.K fd ps ds) (hd : ZB6 dvs ds) (hx : ZCy CX X E)
 (hdb : (x == ("__debug__" : Str)) = false := by decide) : QE X (.Call (.Name x p) [] [] pos) (ZGi C sp dvs E ZGK) := ⟨ZM0 M F hr hg hm hb hd hx hdb⟩
end
end
section
variable {K : W.Frag} {U : St} {H : Hp} {Q : VK} {D : ZCg} {f m : Str} {ta tv : TE} {t : TA} {C : Addr} {sp : Sp} {dvs : List V} {E : XK}
theorem ZPZ (h : ta U H fun x H1 => ZRC K f x H1 Q) : ZMv K ta f U H Q := h
theorem ZC0 {a dx : Addr} {fs : List (Str × V)} {v : V} (h1 : H a = some (.ins C dx fs)) (c : Cls K C) (n : ZCo K C f) (l : fs.lookup f = some v) (q : Q v H) : ZRC K f (.ref a) H Q := ⟨a, C, dx, fs, v, rfl, h1, c, n, l, q⟩
theorem ZNZ (h : tv U H fun y H1 => ta U H1 fun x H2 => ZOS K f y x H2 (D.nx U)) : ZMw K ta tv f D U H := h
theorem ZDk {a dx : Addr} {fs : List (Str × V)} {y : V} {R : Hp -> Prop} (h1 : H a = some (.ins C dx fs)) (c : Cls K C) (n : ZCo K C f) (l : fs.length < 1000) (q : ∀ H2, H2 a = some (.ins C dx (ZCM f y fs)) -> Kp a H H2 -> R H2) : ZOS K f y (.ref a) H R := ⟨a, C, dx, fs, rfl, h1, c, n, l, q _ ZCC Kp.upd⟩
def ZGt (C : Addr) (m : Str) (x : V) (H : Hp) (R : Prop) : Prop := ∃ a dx fs, x = .ref a /\ H a = some (.ins C dx fs) /\ fs.lookup m = none /\ R
theorem ZNa (h : ta U H fun x H1 => ZGt C m x H1 (t U H1 fun vs H2 => sp (x :: (vs ++ dvs)) H2 Q E)) : ZGh C m sp dvs E ta t U H Q := h
theorem ZCJ {a dx : Addr} {fs : List (Str × V)} {R : Prop} (h1 : H a = some (.ins C dx fs)) (l : fs.lookup m = none) (q : R) : ZGt C m (.ref a) H R := ⟨a, dx, fs, rfl, h1, l, q⟩
def ZOT (C : Addr) (sp : Sp) (dvs : List V) (E : XK) (vs : List V) (H : Hp) (Q : VK) : Prop := ∀ x dx, H x = none -> H dx = none -> dx ≠ x -> sp (.ref x :: (vs ++ dvs)) (upd (upd H dx (.own x)) x (.ins C dx [])) (fun v H2 => v = .non /\ Q (.ref x) H2) E
theorem ZNb (h : t U H fun vs H1 => ZOT C sp dvs E vs H1 Q) : ZGi C sp dvs E t U H Q := h
theorem ZHG {vs : List V} (h : ∀ x dx H2, H x = none -> H2 x = some (.ins C dx []) -> ZB1 H H2 -> sp (.ref x :: (vs ++ dvs)) H2 (fun v H3 => v = .non /\ Q (.ref x) H3) E) : ZOT C sp dvs E vs H Q := fun x dx hx hdx hne =>
 h x dx _ hx ZCC fun b o e => by rw [ZB8 (ZCA e hx), ZB8 (ZCA e hdx)]; exact e
end
structure ZIq (K : W.Frag) (x qual : Str) (st : Stmt) (f : Addr) (fd : FuncData) : Prop where
 ex : ∃ (oc : Value) (od : Option Addr) (dV kV doc pm : Value) (an : Option Addr) (cdv ct : Value) (osl : Array (Option Value)),
  fd = W.fnOf x qual (ZCa st) (ZCP st) (ZBv st) dV kV doc pm an cdv ct /\ K.lookup f = some ⟨oc, od, .func fd, osl⟩ /\ W.codeIn K cdv qual = true
 kp : W.keepIn K (.ref f) = true
theorem ZIq.ok {P : Program} {w : World} {K : W.Frag} {mg : Str -> Option Value} {base : Heap} {x qual : Str} {st : Stmt} {f : Addr} {fd : FuncData} {N ps : List Str} {k : Nat} {sp : Sp} (F : ZIq K x qual st f fd) (S : ZB4 N ps (ZBv st)) (len : ∀ vs H Q E, sp vs H Q E -> vs.length = ps.length)
  (hbody : ∀ (cdv : Value) (A : Around) (outer : List Env) (s : Shared) (H : Hp) (vs : List V) (Q : VK) (E : XK), Room k (A.deeper (envOfC qual (ZBv st) s.heap.objs.size f cdv)) -> sp vs H Q E ->
   ∃ t, PSs (ZFV CX0 P w K mg base N qual (ZBv st) f cdv A outer s H E).nox (ZCP st) t /\ t { nx := fun _ H' => Q .non H', rt := Q } (start N vs) H) : ZB2 P w K mg base CX0 (k + 1) f fd ps sp := by
 obtain ⟨oc, od, dV, kV, doc, pm, an, cdv, ct, osl, rfl, lk, hcd⟩ := F.ex
 refine ZKl lk hcd S len fun A outer s H vs Q E hr hsp => ?_
 obtain ⟨t, h, q⟩ := hbody cdv A outer s H vs Q E hr hsp
 exact ⟨t, h.nox, q⟩
section
variable {K : W.Frag} {U : St} {H : Hp} {Q : VK} {f : Str} {tv td ty : TE} {C : Addr}
def ZFg (a : Addr) (y : V) (H : Hp) (Q : VK) : Prop := ∃ o, ZDF H a y o /\ Q (o.getD .non) H
def ZIr (ty : TE) (U : St) (Q : VK) (x : V) (H : Hp) : Prop := ∃ a, x = .ref a /\ IsD H a /\ ty U H fun y H2 => ZFg a y H2 Q
theorem ZLz (h : td U H fun x H1 => ZIr ty U Q x H1) : ZIh td ty U H Q := h
theorem ZHi {a : Addr} {kvs : List (List Key × V)} (h1 : H a = some (.dT kvs)) (q : ty U H fun y H2 => ZFg a y H2 Q) : ZIr ty U Q (.ref a) H := ⟨a, rfl, .inr ⟨kvs, .inl h1⟩, q⟩
theorem ZIs {a b : Addr} {kvs : List (List Key × V)} {k : List Key} (h1 : H a = some (.dT kvs)) (hb : H b = some (.tup (k.map kV))) (q : Q ((ZCf kvs k).getD .non) H) : ZFg a (.ref b) H Q := ⟨_, ZDF.t h1 hb, q⟩
theorem ZHj {a : Addr} {kvs : List (Key × V)} (h1 : H a = some (.dK kvs)) (q : ty U H fun y H2 => ZFg a y H2 Q) : ZIr ty U Q (.ref a) H := ⟨a, rfl, .inl ⟨kvs, .inl h1⟩, q⟩
theorem ZIt {a : Addr} {m : PL} {i : Int} (h1 : H a = some (.dK (ZCE m))) (q : Q (((ZCB m i).map V.int).getD .non) H) : ZFg a (.int i) H Q := ⟨_, ZDF.k (k := Sum.inl i) h1, by rw [ZEC]; exact q⟩
theorem ZIu {a b : Addr} {kvs : List (List Key × V)} {k : List Key} {v : V} {R : Hp -> Prop} (h1 : H a = some (.dT kvs)) (hb : H b = some (.tup (k.map kV))) (hz : kvs.length < sizeLine) (h : ∀ H2, H2 a = some (.dT (ZC7 kvs k v)) -> Kp a H H2 -> R H2) : ZKu v (.ref a) (.ref b) H R :=
 ⟨a, _, rfl, ZEz.t h1 hb hz, h _ ZCC Kp.upd⟩
end
section
variable {X : Cx} {o e : Expr} {apos cpos pos p : Pos} {td ty to : TE}
theorem ZE7 (hu : X.A.units + 1 < cLine) (ho : QE X o td) (he : QE X e ty) (m : M1 X o "get" apos e cpos := by exact ⟨rfl, rfl, rfl, rfl⟩) : QE X (.Call (.Attribute o "get" apos) [e] [] cpos) (ZIh td ty) := ⟨ZNR hu ho.h he.h m⟩
theorem ZNc : QE X (.Dict [] [] pos) ZIg := ⟨ZNQ⟩
def ZL0 (H : Hp) (Q : VK) : Prop := ∀ p, H p = none -> Q (.ref p) (upd H p (.dT []))
theorem ZL1 {U : St} {H : Hp} {Q : VK} (h : ZL0 H Q) : ZIg U H Q := h
theorem ZNd {H : Hp} {Q : VK} (h : ∀ p H2, H p = none -> H2 p = some (.dT []) -> ZB1 H H2 -> Q (.ref p) H2) : ZL0 H Q := fun p hp => h p _ hp ZCC (ZB1.new hp)
theorem ZK3 {pins : List (Addr × Obj)} {s : Shared} {U : St} {H : Hp} {Q : VK} {a r : Addr} {m : PL} (hc : X.calm = true) (I : Inv X pins U H s) (hd : H a = some (.dK (ZCE m))) (hv : s.heap.IsItemsView r a) (hz : m.length <= 1000)
  (q : ∀ (l : Addr) (vs : List V) (H' : Hp), H l = none -> H' l = some (.lst vs) -> ZB5 H' vs m -> ZB1 H H' -> Q (.ref l) H') :
  wpAny (model X.prog X.w) X.A (call (.type "list") [.ref r]) (EP X pins U Q) X.xe s := by
 obtain ⟨z, hsm, kvs, rel, dd⟩ := ZII I.hok hd
 obtain ⟨ep, dd⟩ := dd.dictAt
 obtain ⟨hkl, _⟩ := ZLx rel
 refine kdx_call (knd := ZCY X.prog X.w) (I.ok.hd hc) hv dd (by rw [sizeLine_eq]; omega) fun h' tk acc c as hk hS hl hG hacc => ?_
 have hasn : as.Nodup := UN.mpr (hG.rise.imp fun hab e => Up hab e)
 have hlm : as.length = m.length := by omega
 have hT : ZFe h' s.heap.objs.size (as.map Value.ref) m := ZPY rel hl hG s.heap.objs.size fun b hb => Nat.ne_of_gt (hG.above b hb)
 have hat : ∀ (i : Nat) b p, as[i]? = some b -> m[i]? = some p -> ZFf H as m s.heap.objs.size (as.map V.ref) s.heap.objs.size b = some (.tup [.int p.1, .int p.2]) := fun i b p e1 e2 => by
  have hbl := hG.above b (UA e1)
  unfold ZFf
  rw [if_neg (Nat.not_lt.mpr (Nat.le_of_lt hbl)), if_neg (Nat.ne_of_gt hbl), ZKy hasn e1 e2]
  rfl
 have hil : ZFf H as m s.heap.objs.size (as.map V.ref) s.heap.objs.size s.heap.objs.size = some (.lst (as.map V.ref)) := by
  unfold ZFf
  rw [if_neg (UW _), if_pos rfl]
 have hSame : ZB1 H (ZFf H as m s.heap.objs.size (as.map V.ref) s.heap.objs.size) := fun b u e => by
  unfold ZFf
  rw [if_pos (I.old e)]
  exact e
 refine ⟨.ref s.heap.objs.size, _, I.many (t' := tk) (h' := h') hk (fun b hb => by unfold ZFf; rw [if_pos hb]) (fun b ob hb e => ?_), rfl, q _ (as.map V.ref) _ (I.hok.fresh (Uc _)) hil ?_ hSame⟩
 ·by_cases hbl : b = s.heap.objs.size
  ·subst hbl
   rw [hil] at e
   cases e
   refine ⟨by rw [Ur, sizeLine_eq]; omega, acc.toList, c, ?_, by rw [hS]⟩
   rw [hacc]
   clear hil hat hSame hT hacc hG hasn hlm hl
   induction as with
   | nil => exact .nil
   | cons b bs ih => exact .cons rfl ih
  ·unfold ZFf at e
   rw [if_neg (Nat.not_lt.mpr hb), if_neg hbl] at e
   cases hlk : (as.zip m).lookup b with
   | none => rw [hlk] at e; cases e
   | some p =>
    rw [hlk] at e
    cases e
    obtain ⟨i, e1, e2⟩ := ZHF hlk
    have hi : i < m.length := (Um.mp e2).1
    have g := hT.get (i := i) hi
    have e3 : (as.map Value.ref).getD i Value.none = .ref b := by simp [e1]
    have e4 : m.getD i (0, 0) = p := by simp [e2]
    rw [e3, e4] at g
    exact ZLy g
 ·refine ZE6 (by rw [Ur]; exact hlm) fun i v p e1 e2 => ?_
  rw [UG] at e1
  cases hi : as[i]? with
  | none => rw [hi] at e1; cases e1
  | some b =>
   rw [hi] at e1
   cases e1
   exact ⟨b, rfl, hat i b p hi e2⟩
def ZJ4 (a : Addr) (m : PL) (H : Hp) (Q : VK) : Prop := m.length <= 1000 /\ ∀ (l : Addr) (vs : List V) (H' : Hp), H l = none -> H' l = some (.lst vs) -> ZB5 H' vs m -> ZB1 H H' -> Q (.ref l) H'
def ZJ5 (to : TE) : TE := fun U H Q => ZIn to U H fun a m H1 => ZJ4 a m H1 Q
theorem ZL2 (hc : X.calm = true) (hg : Gl X "list") (hm : X.mg "list" = none) (ho : QE X o to)
  (hbase : attributeBase o "items" X.env (eval o X.env) = eval o X.env := by rfl) (hline : (apos.endLine == cpos.line) = true := by rfl) :
  QE X (.Call (.Name "list" p) [.Call (.Attribute o "items" apos) [] [] cpos] [] pos) (ZJ5 to) := by
 refine ⟨?_⟩
 intro pins s U H Q I h
 refine wpAny_Call_Name_kw (ZDs I hg hm ZOz ?_ (by decide) (by decide))
 refine PyProof.Rows.callWith_type1 ?_ rfl rfl
 show wpAny _ _ (spliced ((false, eval (.Call (.Attribute o "items" apos) [] [] cpos) X.env) :: backTo pos (starEach [] X.env))) _ _ s
 refine Calls.spliced_cons (thn (ZKx ho.h I h hbase hline) fun u s1 ⟨r, a, m, H1, eu, hsz, hv, hd, I1, q⟩ => ?_)
 subst eu
 refine Calls.spliced_nil ?_
 exact ZK3 hc I1 hd hv q.1 q.2
def ZJ6 (x : V) (H : Hp) (Q : VK) : Prop := ∃ a m, x = .ref a /\ H a = some (.dK (ZCE m)) /\ ZJ4 a m H Q
theorem ZK4 {U : St} {H : Hp} {Q : VK} (h : to U H fun x H1 => ZJ6 x H1 Q) : ZJ5 to U H Q := h
theorem ZL3 {H : Hp} {Q : VK} {a : Addr} {m : PL} (h1 : H a = some (.dK (ZCE m))) (hz : m.length <= 1000) (h : ∀ l H2, H l = none -> PrL H2 l m -> ZB1 H H2 -> Q (.ref l) H2) : ZJ6 (.ref a) H Q :=
 ⟨a, m, rfl, h1, hz, fun l vs H' n f hP S => h l H' n ⟨vs, f, hP⟩ S⟩
end
theorem ZJ7 {K : W.Frag} {x qual : Str} {st : Stmt} {f : Addr} {oc : Value} {od an : Option Addr} {osl : Array (Option Value)} {dV kV doc pm cdv ct : Value} (l : K.lookup f = some ⟨oc, od, .func (W.fnOf x qual (ZCa st) (ZCP st) (ZBv st) dV kV doc pm an cdv ct), osl⟩)
 (c : W.codeIn K cdv qual = true) (k : W.keepIn K (.ref f) = true) : ZIq K x qual st f (W.fnOf x qual (ZCa st) (ZCP st) (ZBv st) dV kV doc pm an cdv ct) := ⟨⟨oc, od, dV, kV, doc, pm, an, cdv, ct, osl, rfl, l, c⟩, k⟩
def ZJ8 (K : W.Frag) (fd : FuncData) (ps : List Str) (x : Str) : Prop := ∀ (s : Shared) (u v : Value), K.In s.heap -> BindsTo s fd ⟨[u], [(x, v)]⟩ (ps.zip [u, v])
theorem ZCF.there {P : Program} {w : World} {H : Hp} {h : Heap} {a : Addr} {o : HO} (x : ZCF P w H h a o) : ∃ ob, h.get? a = some ob := by
 cases o with
 | lst xs => obtain ⟨_, _, _, _, e⟩ := x; exact ⟨_, e⟩
 | tup xs => obtain ⟨_, _, _, p⟩ := x; obtain ⟨o, e, _⟩ := p; exact ⟨_, e⟩
 | dK kvs => obtain ⟨_, _, _, _, o, _, _, e, _⟩ := x; exact ⟨_, e⟩
 | dT kvs => obtain ⟨_, _, _, _, o, _, _, e, _⟩ := x; exact ⟨_, e⟩
 | set S n => obtain ⟨o, _, _, _, e, _⟩ := x; exact ⟨_, e⟩
 | ins C dx fs => obtain ⟨_, _, _, e, _⟩ := x; exact ⟨_, e⟩
 | own y => exact x
 | xd fs => obtain ⟨_, ⟨_, _, _, e, _⟩, _⟩ := x; exact ⟨_, e⟩
 | rng lo hi => obtain ⟨_, _, _, e⟩ := x; exact ⟨_, e⟩
 | frz ob u => obtain ⟨e, _⟩ := x; exact ⟨_, e⟩
 | tbl ps => exact ⟨_, (show h.get? a = some _ from x)⟩
 | met f y => exact ⟨_, (show h.get? a = some _ from x)⟩
 | ext φ => obtain ⟨_, e, _⟩ := x; exact e
def Cov (B : Heap) (H' : Hp) (h0 h' : Heap) (fs : List Addr) : Prop := ∀ b o, h'.get? b = some o -> b ∉ fs -> ((∃ u, H' b = some u) \/ ∃ o0, h0.get? b = some o0) -> B.get? b = some o
def CX1 (P : Program) (w : World) : CXT := fun l H s E ev s' => ∃ (e : Addr) (C a0 : Value) (B : Heap) (H' : Hp), ev = .ref e /\ s'.os = s.os /\ AllBare s'.gens /\ Un (frs l) [] H H' s.heap s'.heap /\ HOk P w H' s'.heap /\
 s.heap.get? e = none /\ H' e = none /\ Heap.FlyingW B l e C a0 s'.heap /\ Cov B H' s.heap s'.heap (frs l) /\ E C none H'
section
variable {P : Program} {w : World} {H H' : Hp} {h0 h' h'' B : Heap} {fs : List Addr}
theorem ZE8 (hok : HOk P w H' h') (un : Un fs [] H H' h0 h') (cov : Cov B H' h0 h' fs) (st : B.StaysIn h'') (up : h'.UpToSlots h'') (fr : ∀ b ∈ fs, H' b = none /\ ∃ o, h'.get? b = some o /\ ∀ vs, o.data ≠ .fields vs) :
  HOk P w H' h'' /\ Un fs [] H H' h0 h'' /\ Cov B H' h0 h'' fs := by
 have trk : ∀ b u, H' b = some u -> b ∉ fs := fun b u e hb => by rw [(fr b hb).1] at e; cases e
 have old : ∀ b o0, h0.get? b = some o0 -> ∃ o', h''.get? b = some o' := fun b o0 e => by
  obtain ⟨o', e'⟩ := un.there b o0 e (by simp)
  by_cases hb : b ∈ fs
  ·obtain ⟨_, o, ho, hd⟩ := fr b hb
   obtain ⟨sl, q⟩ := up b o ho hd
   exact ⟨_, q⟩
  ·exact ⟨o', st _ _ (cov b o' e' hb (.inr ⟨o0, e⟩))⟩
 refine ⟨fun b u e => (hok b u e).stay (fun c v hc q => ?_) (fun _ q => q) fun _ _ q => q, ⟨fun b o e n hb hx => ?_, fun b o e n hb hx => ?_, un.free, fun b o e _ => old b o e, un.tups, un.frzs, un.tbls⟩, fun b o e hb ht => ?_⟩
 ·have hc' : ∃ u, H' c = some u := by
   rcases hc with rfl | hc
   ·exact ⟨_, e⟩
   ·exact ⟨_, hc⟩
  obtain ⟨u', hu'⟩ := hc'
  exact st _ _ (cov c v q (trk c u' hu') (.inl ⟨u', hu'⟩))
 ·exact st _ _ (cov b o (un.keep b o e n hb hx) hb (.inr ⟨o, e⟩))
 ·obtain ⟨sl, q⟩ := un.slot b o e n hb hx
  obtain ⟨_, o2, ho2, hd⟩ := fr b hb
  rw [q] at ho2
  cases ho2
  obtain ⟨sl2, q2⟩ := up b _ q hd
  exact ⟨sl2, q2⟩
 ·have : ∃ o1, h'.get? b = some o1 := by
   rcases ht with ⟨u, hu⟩ | ⟨o0, ho0⟩
   ·exact (hok b u hu).there
   ·exact un.there b o0 ho0 (by simp)
  obtain ⟨o1, h1⟩ := this
  have hB := cov b o1 h1 hb ht
  have := st _ _ hB
  rw [e] at this
  cases this
  exact hB
end
section
variable {P : Program} {w : World} {K : W.Frag} {mg : Str -> Option Value} {base : Heap} {N : List Str} {qual : Str} {scope : Scope} {f : Addr} {cd : Value} {A : Around} {outer : List Env} {s : Shared} {H : Hp} {E : XK}
abbrev cxE (P : Program) (w : World) (K : W.Frag) (mg : Str -> Option Value) (base : Heap) (N : List Str) (qual : Str) (scope : Scope) (f : Addr) (cd : Value) (A : Around) (outer : List Env) (s : Shared) (H : Hp) (E : XK) : Cx := ZFV (CX1 P w) P w K mg base N qual scope f cd A outer s H E
theorem ZGR {env : Env} {l : List Env} {L : Addr} (h : env.frame = some L) : frs (env :: l) = L :: frs l := by
 unfold frs
 rw [List.filterMap_cons, h]
theorem ZF0 {X : Cx} {pins : List (Addr × Obj)} {U : St} {H1 : Hp} {s1 : Shared} (I : Inv X pins U H1 s1) {B h : Heap} {l : List Env} (hl : h.FunFrames B l) (hs : ∀ b ∈ frs l, b ∈ frs X.stack) : ∀ b ∈ frs l, H1 b = none /\ ∃ o, h.get? b = some o /\ ∀ vs, o.data ≠ .fields vs :=
 fun b hb => ⟨I.stkFree b (hs b hb), (hl.mem hb).2⟩
theorem ZOU : ZCy (CX1 P w) (cxE P w K mg base N qual scope f cd A outer s H E) E := by
 intro pins U H1 s1 ev s' I hc
 obtain ⟨e, C, a0, B, H', rfl, os, bare, un, hok, hen, heH, fl, cov, q⟩ := hc
 have I2 := I.call' (ch := []) os un hok bare (fun b z => absurd z (by simp))
 have hfr : (cxE P w K mg base N qual scope f cd A outer s H E).A.frames = some ((cxE P w K mg base N qual scope f cd A outer s H E).env :: outer) := I.ok.frames
 show wpAny (model P w) _ (leaving _ (.ref e)) _ _ s'
 refine wpAny_leaves_onW (L := s.heap.objs.size) hfr rfl fl fun h'' fl2 up => ?_
 have nL : ∀ b o, s.heap.get? b = some o -> b ≠ s.heap.objs.size := fun b o e => Up (Ug e)
 have efr : frs ((cxE P w K mg base N qual scope f cd A outer s H E).env :: outer) = s.heap.objs.size :: frs outer := ZGR rfl
 have un2 : Un (frs outer) [] H H' s.heap s'.heap := I2.base
 have cov2 : Cov B H' s.heap s'.heap (frs outer) := fun b o hb hn ht => by
  refine cov b o hb (fun z => ?_) (ht.imp id fun ⟨o0, h0⟩ => I.base.there b o0 h0 (show b ∉ ([] : List Addr) by simp))
  have z2 : b ∈ s.heap.objs.size :: frs outer := by rw [<- efr]; exact z
  rcases Uj.mp z2 with rfl | z2
  ·rcases ht with ⟨u, hu⟩ | ⟨o0, h0⟩
   ·have z3 : H' s.heap.objs.size = none := I2.free
    rw [z3] at hu; cases hu
   ·exact nL _ _ h0 rfl
  ·exact hn z2
 have flo : s'.heap.FunFrames B outer := by
  obtain ⟨_, _, ⟨_, _, k⟩, _⟩ := fl
  exact k
 obtain ⟨hok3, un3, cov3⟩ := ZE8 hok un2 cov2 fl2.1 up (ZF0 I2 flo fun b hb => by
  show b ∈ frs ((cxE P w K mg base N qual scope f cd A outer s H E).env :: outer)
  rw [efr]; exact Uu _ hb)
 refine ⟨e, C, a0, B, H', rfl, I2.os, bare, un3, hok3, ?_, heH, fl2, cov3, q⟩
 cases z : s.heap.get? e with
 | none => rfl
 | some o =>
  obtain ⟨o', e'⟩ := I.base.there e o z (show e ∉ ([] : List Addr) by simp)
  rw [hen] at e'; cases e'
end
theorem ZF1 {K : W.Frag} {h : Heap} {C : Addr} {bmB : List Value} {newId : String} (X : K.In h) (q : excIn K C bmB newId = true) :
  ∃ bm N nm q bs hdct sn sub ab col dd k0 k1 k2 k3 k5 mN, h.get? C = some (excClassObj nm q C N bs bm hdct sn sub ab col dd k0 k1 k2 k3 k5 newId) /\ h.Ns N mN /\ mN "__init__" = none /\ OwnTail h bmB bm := by
 unfold excIn at q
 split at q
 ·rename_i dd cd sl ho
  split at q
  ·rename_i C' bm k0 k1 k2 k3 n k5 hm hs
   simp only [Bool.and_eq_true, beq_iff_eq, Bool.not_eq_true'] at q
   obtain ⟨⟨⟨⟨⟨rfl, rfl⟩, hdel⟩, ht⟩, hok⟩, hni⟩ := q
   obtain ⟨nm, bs, mro, ns, qn, hd, sn, sub, ab, col, del⟩ := cd
   dsimp only at hm hdel hok hni
   subst hm hdel
   have hsl : sl = #[k0, k1, k2, k3, some (.builtin n), k5] := by
    obtain ⟨l⟩ := sl
    simp only at hs
    rw [hs]
   subst hsl
   exact ⟨bm, ns, nm, qn, bs, hd, sn, sub, ab, col, dd, k0, k1, k2, k3, k5, _, X _ _ ho, .of_isNs (isNs_of_in X hok), nsMap_none_of_in X hok hni, tail_of_in X ht⟩
  ·cases q
 ·cases q
def ZEU (K : W.Frag) (C : Addr) : Prop := excIn K C [.type "ValueError", .type "Exception", .type "BaseException", .type "object"] "ValueError.__new__" = true
section
variable {P : Program} {w : World} {K : W.Frag} {mg : Str -> Option Value} {base : Heap} {N : List Str} {qual : Str} {scope : Scope} {f : Addr} {cd : Value} {A : Around} {outer : List Env} {s : Shared} {H : Hp} {E : XK}
 {x : Str} {np cpos pos : Pos} {e₀ : Expr} {es : List Expr} {t : TA} {C : Addr}
def ZIv (E : XK) (C : Addr) (t : TA) : TS := fun _ U H => t U H fun vs H1 => vs.length <= sizeLine /\ E (.ref C) none H1
theorem ZNe (hC : ZEU K C) (hg : Gl (cxE P w K mg base N qual scope f cd A outer s H E) x) (hm : mg x = some (.ref C)) (ha : PA (cxE P w K mg base N qual scope f cd A outer s H E) (e₀ :: es) t)
  (hdb : (x == ("__debug__" : Str)) = false := by decide)
  (he : starEach (e₀ :: es) (cxE P w K mg base N qual scope f cd A outer s H E).env = (false, eval e₀ (cxE P w K mg base N qual scope f cd A outer s H E).env) :: starEach es (cxE P w K mg base N qual scope f cd A outer s H E).env := by rfl)
  (hpl : (backTo cpos (starEach es (cxE P w K mg base N qual scope f cd A outer s H E).env)).any (·.1) = false := by rfl) :
  PS (cxE P w K mg base N qual scope f cd A outer s H E) (.Raise (some (.Call (.Name x np) (e₀ :: es) [] cpos)) none pos) (ZIv E C t) := by
 intro pins s1 U H1 D I h
 have hh : (cxE P w K mg base N qual scope f cd A outer s H E).A.handled = none := I.ok.hd rfl
 obtain ⟨bm, N', nm, qn, bs, hdct, sn, sub, ab, col, dd, k0, k1, k2, k3, k5, mN, hCo, hN, hni, TL⟩ := ZF1 I.ok.mod.kin hC
 have FB := PySem.F.excBase_ValueError
 refine wpAny_Raise_call_subT (C := C) (nm := nm) (q := qn) (N := N') (bs := bs) (bm := bm) (hdct := hdct) (sn := sn) (sub := sub) (ab := ab) (col := col) (dd := dd) (k0 := k0) (k1 := k1) (k2 := k2) (k3 := k3) (k5 := k5)
  FB (mN := mN) (TL.hasType FB.hasBase) hh (by rw [he]; show (false || (backTo cpos (starEach es _)).any (·.1)) = false; rw [hpl]; rfl) hni (ZDa I hg hm ⟨rfl, ?_⟩ hdb)
 have hA := ha cpos pins s1 U H1 _ I h
 rw [he] at hA ⊢
 refine Calls.evalArgs_plain (Uv hA (fun vs s2 ⟨xs, H2, I2, r, z, q⟩ => ⟨rfl, by rw [<- r.length]; exact z, I2.bk _ _ hCo, hN.keeps I2.bk, TL.keeps I2.bk, fun h' e hx => ?_⟩) fun _ _ y => y)
 -- the exception is made: it leaves the frame
 have hfr : (cxE P w K mg base N qual scope f cd A outer s H E).A.frames = some ((cxE P w K mg base N qual scope f cd A outer s H E).env :: outer) := I.ok.frames
 have efr : frs ((cxE P w K mg base N qual scope f cd A outer s H E).env :: outer) = s.heap.objs.size :: frs outer := ZGR rfl
 have stk := I2.stack
 have hin : ∀ env ∈ ((cxE P w K mg base N qual scope f cd A outer s H E).env :: outer), ∀ b, env.frame = some b -> b ∈ frs ((cxE P w K mg base N qual scope f cd A outer s H E).env :: outer) := fun env he b hb => List.mem_filterMap.mpr ⟨env, he, hb⟩
 show wpAny (model P w) _ (leaving _ (.ref e)) _ _ { s2 with heap := h' }
 refine wpAny_leaves_madeW (base := hideAll s2.heap (frs ((cxE P w K mg base N qual scope f cd A outer s H E).env :: outer))) (L := s.heap.objs.size) hfr rfl (fun b o q => of_hideAll _ q) (funFrames_hide stk hin) hx fun h'' t' fl2 htup hbt up => ?_
 have I3 : Inv (cxE P w K mg base N qual scope f cd A outer s H E) pins U H2 { s2 with heap := h' } := I2.kept (h' := h') (t' := s2.toks) hx.keeps
 have cov : Cov (hideAll s2.heap (frs ((cxE P w K mg base N qual scope f cd A outer s H E).env :: outer))) H2 s.heap h' (frs outer) := fun b o hb hn ht => by
  have : ∃ o1, s2.heap.get? b = some o1 := by
   rcases ht with ⟨u, hu⟩ | ⟨o0, ho0⟩
   ·exact (I2.hok b u hu).there
   ·exact I2.base.there b o0 ho0 (show b ∉ ([] : List Addr) by simp)
  obtain ⟨o1, h1⟩ := this
  have h2 := hx.keeps _ _ h1
  rw [hb] at h2
  cases h2
  refine hideAll_get _ h1 fun z => ?_
  rw [efr] at z
  rcases Uj.mp z with rfl | z
  ·rcases ht with ⟨u, hu⟩ | ⟨o0, h0⟩
   ·have z3 : H2 s.heap.objs.size = none := I2.free
    rw [z3] at hu; cases hu
   ·exact UW _ (Ug h0)
  ·exact hn z
 have flo : h'.FunFrames (hideAll s2.heap (frs ((cxE P w K mg base N qual scope f cd A outer s H E).env :: outer))) outer := by
  obtain ⟨_, _, k⟩ := (funFrames_hide stk hin : s2.heap.FunFrames (hideAll s2.heap (frs ((cxE P w K mg base N qual scope f cd A outer s H E).env :: outer))) ((cxE P w K mg base N qual scope f cd A outer s H E).env :: outer))
  exact k.of_keeps fun b o hb _ => ⟨o, hx.keeps b o hb, rfl⟩
 obtain ⟨hok3, un3, cov3⟩ := ZE8 (I3.hok) (show Un (frs outer) [] H H2 s.heap h' from I3.base) cov fl2.1 up (ZF0 I3 flo fun b hb => by
  show b ∈ frs ((cxE P w K mg base N qual scope f cd A outer s H E).env :: outer)
  rw [efr]; exact Uu _ hb)
 refine ⟨e, .ref C, .ref t', _, H2, rfl, I2.os, I2.bare, un3, hok3, ?_, ?_, fl2, cov3, q⟩
 ·cases z : s.heap.get? e with
  | none => rfl
  | some o =>
   obtain ⟨o', e'⟩ := I2.base.there e o z (show e ∉ ([] : List Addr) by simp)
   rw [hx.new] at e'; cases e'
 ·cases z : H2 e with
  | none => rfl
  | some u =>
   obtain ⟨o', e'⟩ := (I2.hok e u z).there
   rw [hx.new] at e'; cases e'
end
section
variable {P : Program} {w : World} {K : W.Frag} {mg : Str -> Option Value} {base : Heap}
theorem ZB2.lift {k : Nat} {f : Addr} {fd : FuncData} {ps : List Str} {sp : Sp} (F : ZB2 P w K mg base CX0 k f fd ps sp) : ZB2 P w K mg base (CX1 P w) k f fd ps sp :=
 ⟨F.len, fun A outer s H args us vs Q E hr he hb hv hs => codeAny_mono (F.run A outer s H args us vs Q E hr he hb hv hs) fun r s' h => by
  cases r with
  | error e => exact h.elim
  | ok fl => cases fl <;> exact h⟩
theorem ZB2.or {k : Nat} {CX : CXT} {f : Addr} {fd : FuncData} {ps : List Str} {sp sq : Sp} (F : ZB2 P w K mg base CX k f fd ps sp) (G : ZB2 P w K mg base CX k f fd ps sq) : ZB2 P w K mg base CX k f fd ps (fun vs H Q E => sp vs H Q E \/ sq vs H Q E) :=
 ⟨fun vs H Q E h => h.elim (F.len vs H Q E) (G.len vs H Q E), fun A outer s H args us vs Q E hr he hb hv hs => hs.elim (F.run A outer s H args us vs Q E hr he hb hv) (G.run A outer s H args us vs Q E hr he hb hv)⟩
theorem Fun.okx {x qual : Str} {st : Stmt} {f : Addr} {fd : FuncData} {N ps : List Str} {k : Nat} {sp : Sp} (F : Fun K x qual st f fd) (S : ZB4 N ps (ZBv st)) (len : ∀ vs H Q E, sp vs H Q E -> vs.length = ps.length)
  (hbody : ∀ (cdv : Value) (A : Around) (outer : List Env) (s : Shared) (H : Hp) (vs : List V) (Q : VK) (E : XK), Room k (A.deeper (envOfC qual (ZBv st) s.heap.objs.size f cdv)) -> sp vs H Q E ->
   ∃ t, PSs (cxE P w K mg base N qual (ZBv st) f cdv A outer s H E) (ZCP st) t /\ t { nx := fun _ H' => Q .non H', rt := Q } (start N vs) H) : ZB2 P w K mg base (CX1 P w) (k + 1) f fd ps sp := by
 obtain ⟨oc, od, kV, doc, pm, an, cdv, ct, osl, rfl, lk, hcd⟩ := F.ex
 exact ZKl lk hcd S len fun A outer s H vs Q E hr hsp => hbody cdv A outer s H vs Q E hr hsp
end
theorem ZFL {α : Type} (p : α -> Bool) : ∀ (l : List α) (i : Nat), (∀ a, l[i]? = some a -> p a = false) -> (l.eraseIdx i).find? p = l.find? p
 | [], _, _ => by simp
 | a :: l, 0, h => by
  have := h a rfl
  rw [List.eraseIdx_cons_zero, UC, this]
 | a :: l, i + 1, h => by
  rw [List.eraseIdx_cons_succ, UC, UC, ZFL p l i fun b hb => h b (by simpa using hb)]
theorem ZNf {es : Array DictEntry} (hk : StrKeys es) {name : Str} {i : Nat} (hi : es.findIdx? (fun e => e.key.isStr name) = some i) (x : Str) (hx : x ≠ name) :
  nsFind (es.eraseIdxIfInBounds i) x = nsFind es x := by
 obtain ⟨l⟩ := es
 simp only [nsFind, findBy, List.eraseIdxIfInBounds_toArray, List.find?_toArray, List.findIdx?_toArray] at hi ⊢
 rw [ZFL]
 intro a ha
 obtain ⟨hlt, hp, _⟩ := List.findIdx?_eq_some_iff_getElem.mp hi
 have ea : l[i] = a := by
  rw [Ud hlt] at ha
  exact Option.some.inj ha
 rw [ea] at hp
 obtain ⟨n, t, h⟩ := hk a (by simpa using UA ha)
 rw [h] at hp ⊢
 have e1 : n = name := by simpa [Value.isStr] using hp
 have e2 : n ≠ x := fun z => hx (z.symm.trans e1)
 simpa [Value.isStr] using e2
section
variable {M : Model} {A : Around} {E : Value -> Shared -> Prop} {s : Shared}
theorem ZNg {a : Addr} {m : Str -> Option Value} {name : Str} {Q : Bool -> Shared -> Prop} (hn : s.heap.Ns a m)
  (hQ : ∀ h' m', h'.Ns a m' -> (∀ x, x ≠ name -> m' x = m x) -> Heap.SameBut a s.heap h' -> Q (m name).isSome { s with heap := h' }) : wpAny M A (nsDel a name) Q E s := by
 obtain ⟨o, es, ep, ho, hd, hk, hm⟩ := id hn
 have hany : es.any (·.refKey) = false := by
  rw [Array.any_eq_false']; intro e he; obtain ⟨n, t, h⟩ := hk e he; simp [DictEntry.refKey, h]
 have hsome : (m name).isSome = es.any (·.key.isStr name) := by
  rw [<- hm name]; simp only [nsFind, findBy, Option.isSome_map]
  rw [Bool.eq_iff_iff]; simp only [Array.find?_isSome, Array.any_eq_true]
  constructor
  ·rintro ⟨x, hx, hp⟩; obtain ⟨i, hi, rfl⟩ := Array.mem_iff_getElem.mp hx; exact ⟨i, hi, hp⟩
  ·rintro ⟨i, hi, hp⟩; exact ⟨_, Array.getElem_mem hi, hp⟩
 have hhas : nsHas name o = pure (es.any (·.key.isStr name)) := by
  rw [nsHas_eq]; unfold nsHasByArray; rw [hd]
  show (if (es.any fun x => x.key.isStr name) = true then _ else _) = _
  generalize (es.any fun x => x.key.isStr name) = b
  cases b <;> simp [hany]
 unfold nsDel
 refine Ua (wpAny_loadPart ho ?_)
 rw [hhas]
 refine Ua (Uh ?_)
 rw [<- hsome]
 cases hmn : (m name).isSome
 ·have := hQ s.heap m hn (fun _ _ => rfl) (.refl ..)
  rw [hmn] at this
  exact Uh this
 ·refine Ua (wpAny_updatePart ho (Uh ?_))
  have key : ∃ m', (s.heap.update a (Obj.dropName name)).Ns a m' /\ ∀ x, x ≠ name -> m' x = m x := by
   obtain ⟨cl, d, dt, sl⟩ := o
   subst hd
   cases hi : es.findIdx? (·.key.isStr name) with
   | some i => exact ⟨_, ⟨_, _, ep + 1, Heap.get?_update_self _ ho (by simp only [Obj.dropName_eq, Obj.dropNameByArray, hi] <;> rfl), (by simp only [Obj.dropName_eq, Obj.dropNameByArray, hi] <;> rfl), hk.erase i, fun _ => rfl⟩, fun x hx => by rw [<- hm x]; exact ZNf hk hi x hx⟩
   | none => exact ⟨_, ⟨_, _, ep, Heap.get?_update_self _ ho (by simp only [Obj.dropName_eq, Obj.dropNameByArray, hi] <;> rfl), (by simp only [Obj.dropName_eq, Obj.dropNameByArray, hi] <;> rfl), hk, fun _ => rfl⟩, fun x _ => hm x⟩
  obtain ⟨m', hm', hx'⟩ := key
  have := hQ _ m' hm' hx' (Heap.SameBut.update ..)
  rw [hmn] at this
  exact this
theorem ZJg {env : Env} {n : Str} {pos : Pos} {m : Str -> Option Value} {Q : Unit -> Shared -> Prop} (hl : env.kindOf n = some .local) (hn : s.heap.Ns env.locals m)
  (hp : (env.scope.kind == .class || (env.scope.kind == .module && env.locals != env.globals)) = false)
  (h : ∀ h' m', h'.Ns env.locals m' -> (∀ x, x ≠ n -> m' x = m x) -> Heap.SameBut env.locals s.heap h' -> Q () { s with heap := h', toks := s.toks + 1 }) :
  wpAny M A (do bindName env n .none; unbindBehindTheSuite env n pos) Q E s := by
 refine Ua (wpAny_bindName (wpAny_storeName_local hl hn (fun h₁ hn₁ hs₁ => ?_) hp))
 unfold unbindBehindTheSuite
 refine wpAny_onRaise ?_
 unfold unbindName
 refine Ua (wpAny_point (Ua ?_))
 unfold deleteName
 simp only [hl, hp]
 rw [if_neg (by decide)]
 refine Ua (ZNg hn₁ fun h₂ m₂ hn₂ hm₂ hs₂ => ?_)
 simp only [if_true, Option.isSome_some, Bool.not_true, Uo, if_false]
 exact Uh (wpAny_point (h h₂ m₂ hn₂ (fun x hx => by rw [hm₂ x hx, if_neg hx]) (hs₁.trans hs₂)))
end
section
variable {X : Cx} {pins : List (Addr × Obj)} {U : St} {H : Hp} {s : Shared}
theorem ZF2 {M : Model} {A : Around} {E : Value -> Shared -> Prop} {i : Nat} {n : Str} {pos : Pos} {Q : Unit -> Shared -> Prop} (I : Inv X pins U H s) (hN : X.N.Nodup) (hi : X.N[i]? = some n) (hl : X.env.scope.names.lookup n = some .local)
  (h : ∀ s', Inv X pins (U.set i none) H s' -> Q () s') : wpAny M A (do bindName X.env n .none; unbindBehindTheSuite X.env n pos) Q E s := by
 obtain ⟨m, hn, hlk⟩ := id I.loc
 have hcls : (X.env.scope.kind == .class || (X.env.scope.kind == .module && X.env.locals != X.env.globals)) = false := by rw [I.ok.kind]; rfl
 obtain ⟨oL, _, _, hoL, _⟩ := id hn
 refine ZJg hl hn hcls fun h' m' hn' hm' hs => h _ ?_
 refine ⟨I.ok, I.os, I.bare, ⟨fun b o e n hb hx => ?_, fun b o e n hb hx => ?_, I.base.free, fun b o e hx => ?_, I.base.tups, I.base.frzs, I.base.tbls⟩, ⟨m', hn', fun j y v' e1 e2 e3 => ?_⟩, fun y c e => ?_, I.free, I.freeC, fun p hp => ?_, fun b ob e => ?_, by simpa using I.len⟩
 ·exact (hs.2 b (Up (Ue (Ug e) I.ok.above))).trans (I.base.keep b o e n hb hx)
 ·obtain ⟨sl, e1⟩ := I.base.slot b o e n hb hx
  exact ⟨sl, (hs.2 b (Up (Ue (Ug e) I.ok.above))).trans e1⟩
 ·obtain ⟨o', e1⟩ := I.base.there b o e hx
  exact ⟨o', (hs.2 b (Up (Ue (Ug e) I.ok.above))).trans e1⟩
 ·by_cases hj : j = i
  ·subst hj
   rw [List.getElem?_set] at e2
   split at e2
   ·split at e2 <;> cases e2
   ·rename_i z; exact absurd rfl z
  ·rw [List.getElem?_set_ne (Ne.symm hj)] at e2
   obtain ⟨u', r', q⟩ := hlk j y v' e1 e2 e3
   have hy : y ≠ n := fun e => hj (ZGH hN e1 (e ▸ hi))
   refine ⟨u', r', ?_⟩
   rcases q with ⟨k, e⟩ | ⟨k, c, e, z⟩
   ·exact .inl ⟨k, by rw [hm' y hy]; exact e⟩
   ·exact .inr ⟨k, c, e, z.sameBut hs (I.cne y c e)⟩
 ·obtain ⟨w', z⟩ := I.cell y c e
  exact ⟨w', z.sameBut hs (I.cne y c e)⟩
 ·obtain ⟨e, n, ne, nf, d⟩ := I.pin p hp
  exact ⟨(hs.2 p.1 ne).trans e, n, ne, nf, d⟩
 ·refine (I.hok b ob e).stay (fun c w' hc q => (hs.2 c ?_).trans q) (fun _ q => q) fun _ _ q => q
  rintro rfl
  rcases hc with z | hc
  ·have := I.free
   rw [z, e] at this; cases this
  ·have := I.free
   rw [hc] at this; cases this
end
def ZE9 (e : Addr) (C : Value) : HO := .ext fun h => ∃ oe, h.get? e = some oe /\ oe.cls = C
abbrev Cx.suite (X : Cx) (e : Addr) : Cx := { X with A := X.A.mark (some (.ref e)), calm := false, xe := fun _ _ => False }
section
variable {X : Cx} {pins : List (Addr × Obj)} {U : St} {H : Hp} {s : Shared} {e : Addr}
theorem Inv.around {A' : Around} {xe' : Value -> Shared -> Prop} (I : Inv X pins U H s) (hf : A'.frames = X.A.frames) : Inv { X with A := A', calm := false, xe := xe' } pins U H s :=
 ⟨⟨I.ok.mod, I.ok.kind, I.ok.glob, I.ok.blt, I.ok.above, I.ok.inj, I.ok.has, I.ok.cab, (fun z => nomatch z), hf.trans I.ok.frames, I.ok.stk, I.ok.exf, I.ok.bs, I.ok.bsz, I.ok.noex, I.ok.exfs, I.ok.funs, I.ok.frf⟩,
  I.os, I.bare, I.base, I.loc, I.cell, I.free, I.freeC, I.pin, I.hok, I.len⟩
theorem Inv.toSuite (I : Inv X pins U H s) : Inv (X.suite e) pins U H s := I.around rfl
theorem Inv.ofSuite (ok : X.Ok) (I : Inv (X.suite e) pins U H s) : Inv X pins U H s :=
 ⟨ok, I.os, I.bare, I.base, I.loc, I.cell, I.free, I.freeC, I.pin, I.hok, I.len⟩
theorem Inv.track {u : HO} (I : Inv X pins U H s) (h1 : X.s₀.heap.get? e = none) (h2 : H e = none) (h3 : e ≠ X.env.locals) (h4 : ∀ x c, X.env.cells.lookup x = some c -> c ≠ e) (h5 : ∀ p ∈ X.pn ++ pins, p.1 ≠ e) (new : ZCF X.prog X.w (upd H e u) s.heap e u) : Inv X pins U (upd H e u) s := by
 have ne : ∀ b o, X.s₀.heap.get? b = some o -> b ≠ e := fun b o q z => by rw [z, h1] at q; cases q
 refine ⟨I.ok, I.os, I.bare, ⟨I.base.keep, I.base.slot, fun b o q n hx => ?_, I.base.there, fun b xs q => ?_, fun b o xs q => ?_, fun b ps q => ?_⟩, I.loc, I.cell, ?_, fun x c q => ?_, fun p hp => ?_, fun b v q => ?_, I.len⟩
 ·rw [ZB8 (ne b o q)]; exact I.base.free b o q n hx
 ·have := I.base.tups b xs q
  rw [ZB8 (ZCA this h2)]; exact this
 ·have := I.base.frzs b o xs q
  rw [ZB8 (ZCA this h2)]; exact this
 ·obtain ⟨m, z⟩ := I.base.tbls b ps q
  exact ⟨m, by rw [ZB8 (ZCA z h2)]; exact z⟩
 ·rw [ZB8 (Ne.symm h3)]; exact I.free
 ·rw [ZB8 (h4 x c q)]; exact I.freeC x c q
 ·obtain ⟨a, b, c⟩ := I.pin p hp
  exact ⟨a, by rw [ZB8 (h5 p hp)]; exact b, c⟩
 ·by_cases hb : b = e
  ·subst hb; rw [ZCC] at q; cases q; exact new
  ·rw [ZB8 hb] at q
   exact (I.hok b v q).stay (fun _ _ _ q => q) (fun c r => by rw [ZB8 (ZCA r h2)]; exact r) fun c xs r => by rw [ZB8 (ZCA r h2)]; exact r
end
def Fl (X : Cx) (H1 : Hp) (s0 : Shared) (e : Addr) (C : Value) (H' : Hp) (s3 : Shared) : Prop := ∃ (a0 : Value) (B : Heap), s3.os = s0.os /\ AllBare s3.gens /\ Un (frs X.stack) [] H1 H' s0.heap s3.heap /\ HOk X.prog X.w H' s3.heap /\
 s0.heap.get? e = none /\ H' e = none /\ Heap.FlyingW B X.stack e C a0 s3.heap /\ Cov B H' s0.heap s3.heap (frs X.stack)
section
variable {X : Cx} {pins : List (Addr × Obj)} {U : St} {H1 H' : Hp} {s0 s3 : Shared} {e : Addr} {C : Value}
theorem Fl.inv (F : Fl X H1 s0 e C H' s3) (I : Inv X pins U H1 s0) : Inv X pins U H' s3 := by
 obtain ⟨a0, B, os, bare, un, hok, _⟩ := F
 exact I.call' (ch := []) os un hok bare (fun b z => absurd z (by simp))
theorem ZPa {P : Program} {w : World} {H : Hp} {h : Heap} {e : Addr} {oe : Obj} {C : Value} (he : h.get? e = some oe) (hc : oe.cls = C) : ZCF P w (upd H e (ZE9 e C)) h e (ZE9 e C) := ⟨⟨oe, he, hc⟩, ⟨oe, he⟩, fun h1 h2 ⟨o, q, c⟩ k => ⟨o, k o q, c⟩⟩
theorem Fl.suite (F : Fl X H1 s0 e C H' s3) (I : Inv X pins U H1 s0) (hst : X.stack = X.env :: X.outer) (hfr : X.env.frame = some X.env.locals) (hex : X.ex = []) : ∃ oe, oe.cls = C /\ s3.heap.get? e = some oe /\ H' e = none /\ Inv (X.suite e) pins U (upd H' e (ZE9 e C)) s3 := by
 have I3 := F.inv I
 obtain ⟨a0, B, os, bare, un, hok, hen, heH, fl, cov⟩ := F
 obtain ⟨oe, vs, T, oT, ts, he, hc, hd, _⟩ := fl.2.2.2
 have nfr : e ∉ frs X.stack := fun z => by
  obtain ⟨_, o, ho, hn⟩ := fl.2.2.1.mem z
  rw [he] at ho; cases ho
  exact hn vs hd
 have efr : frs X.stack = X.env.locals :: X.fs := by rw [hst]; exact ZGR hfr
 rw [efr] at nfr
 refine ⟨oe, hc.1, he, heH, (I3.track (u := ZE9 e C) ?_ heH (fun z => nfr (by rw [z]; exact Uy)) (fun x c q z => ?_) (fun p hp z => ?_) (ZPa he hc.1)).toSuite⟩
 ·cases z : X.s₀.heap.get? e with
  | none => rfl
  | some o =>
   obtain ⟨o', e'⟩ := I.base.there e o z (by rw [hex]; simp)
   rw [hen] at e'; cases e'
 ·obtain ⟨v, o, ho, hdc⟩ := I3.cell x c q
  rw [z, he] at ho; cases ho
  rw [hd] at hdc; cases hdc
 ·have := (I.pin p hp).1
  rw [z, hen] at this; cases this
end
abbrev TX := St -> Hp -> VK -> XK -> Prop
def XP (X : Cx) (pins : List (Addr × Obj)) (U : St) (E : XK) (ev : Value) (s' : Shared) : Prop := ∃ H1 s1 e C H', Inv X pins U H1 s1 /\ ev = .ref e /\ Fl X H1 s1 e C H' s' /\ E C none H'
structure QX (X : Cx) (e : Expr) (t : TX) : Prop where
 h : ∀ (pins : List (Addr × Obj)) (s : Shared) (U : St) (H : Hp) (Q : VK) (E : XK), Inv X pins U H s -> t U H Q E -> wpAny (model X.prog X.w) X.A (eval e X.env) (EP X pins U Q) (XP X pins U E) s
section
variable {X : Cx} {k : Nat} {f C : Addr} {fd : FuncData} {ps : List Str} {sp : Sp} {dvs : List V} {ds : List Value} {E : XK} {x m : Str} {p pos apos : Pos} {e o : Expr} {es : List Expr} {ta : TE} {t : TA}
theorem ZPb {pins : List (Addr × Obj)} {U : St} {H : Hp} {s : Shared} {Q : VK} {us : List Value} {vs : List V} (F : ZB2 X.prog X.w X.K X.mg X.base (CX1 X.prog X.w) k f fd ps sp) (hr : Room k X.A) (hb : ZBz X.K fd ps ds) (hd : ZB6 dvs ds)
  (I : Inv X pins U H s) (r : ZB6 vs us) (h : sp (vs ++ dvs) H Q E) : wpAny (model X.prog X.w) X.A (call (.ref f) us) (EP X pins U Q) (XP X pins U E) s := by
 have r2 : ZB6 (vs ++ dvs) (us ++ ds) := r.append hd
 have hl : (us ++ ds).length = ps.length := by rw [<- r2.length]; exact F.len _ _ _ _ h
 refine wpAny_call (codeAny_mono (F.run X.A X.stack s H ⟨us, []⟩ (us ++ ds) (vs ++ dvs) Q E hr I.env0 (hb s us I.kIn hl) r2 h) fun r s' hq => ?_)
 cases r with
 | error e =>
  obtain ⟨e, C, a0, B, H', rfl, q1, q2, q3, q4, q5, q6, q7, q8, q⟩ := hq
  exact ⟨H, s, e, C, H', I, rfl, ⟨a0, B, q1, q2, q3, q4, q5, q6, q7, q8⟩, q⟩
 | ok fl =>
  cases fl with
  | ret u => exact I.after hq
  | next => exact False.elim hq
  | brk => exact False.elim hq
  | cont => exact False.elim hq
def ZL4 (C : Addr) (m : Str) (sp : Sp) (dvs : List V) (ta : TE) (t : TA) : TX := fun U H Q E => ta U H fun x H1 => ZGt C m x H1 (t U H1 fun vs H2 => sp (x :: (vs ++ dvs)) H2 Q E)
theorem ZJ9 {pl : Sem Bool} (he : QE X.nox o ta) (c : Cls X.K C) (hm : ZCr X.K C m f) (F : ZB2 X.prog X.w X.K X.mg X.base (CX1 X.prog X.w) k f fd ps sp) (hr : Room k X.A) (hb : ZBz X.K fd ps ds) (hd : ZB6 dvs ds) (ha : QA X.nox (e :: es) t) (hns : ZCT (e :: es) = true := by rfl)
  (ht : eval (.Call (.Attribute o m apos) (e :: es) [] pos) X.env = (do
   let ov <- eval o X.env
   standAt apos.atName
   let (f, first) <- holding [ov] (getMethod ov m pl)
   callWith pos f first (backTo pos (starEach (e :: es) X.env)) (backToKw pos (keywordEach [] X.env))) := by rfl) :
  QX X (.Call (.Attribute o m apos) (e :: es) [] pos) (ZL4 C m sp dvs ta t) := by
 refine ⟨?_⟩
 intro pins s U H Q E I h
 refine PySem.W.methodCall_KW (pl := pl) (Uv (he.h pins s U H _ (I.wish _) h) (fun u s1 ⟨x, H1, I1, rx, a, dx, fs, ex, ea, l, q⟩ => ?_) fun _ _ z => False.elim z) ht
 subst ex
 obtain rfl : u = Value.ref a := rx
 have I1' := I1.unwish
 refine ZEp I1' ea c hm l ?_
 refine PySem.W.callWith_K (first := [.ref a]) (h₀ := X.base) I.ok.mod.kin hm.kp (Uv (ha.h pos pins s1 U H1 _ I1 q) (fun us s2 ⟨vs, H2, I2, r, q2⟩ => ⟨I2.kIn, ?_⟩) fun _ _ z => False.elim z) (ZDT hns) (ZDE (ZDC hns))
 exact ZPb (us := .ref a :: us) (vs := .ref a :: vs) F hr hb hd I2.unwish (.cons rfl r) q2
end
abbrev TBX := ZCg -> XK -> St -> Hp -> Prop
structure QBX (X : Cx) (st : List Stmt) (t : TBX) : Prop where
 h : ∀ (pins : List (Addr × Obj)) (s : Shared) (U : St) (H : Hp) (D : ZCg) (E : XK), Inv X pins U H s -> t D E U H -> wpAny (model X.prog X.w) X.A (execs st X.env) (SP X pins D) (XP X pins U E) s
def ZOV (t : TX) (i : Nat) : TBX := fun D E U H => t U H (fun v H1 => D.nx (U.set i (some v)) H1) E
section
variable {X : Cx} {e : Expr} {t : TX} {pos pos' : Pos} {x : Str} {i : Nat}
theorem one_bx {st : Stmt} {E : Value -> Shared -> Prop} {pins : List (Addr × Obj)} {D : ZCg} {s : Shared} (h : wpAny (model X.prog X.w) X.A (exec st X.env) (SP X pins D) E s) : wpAny (model X.prog X.w) X.A (execs [st] X.env) (SP X pins D) E s := by
 refine wpAny_execs_cons (thn h fun f s1 q => ?_)
 cases f with
 | next => exact wpAny_execs_nil q
 | ret v => exact q
 | brk => exact q
 | cont => exact q
theorem ZKA (hN : X.N.Nodup) (hi : X.N[i]? = some x) (hx : Loc X.env.scope x) (he : QX X e t) (hs : ZDL e = false := by rfl) (hf : X.fn x = true \/ X.env.scope.names.lookup x = some .local := by first | exact .inl rfl | exact .inr rfl | assumption) :
  QBX X [.Assign [.Name x pos'] e pos] (ZOV t i) := ⟨fun pins s U H D E I h =>
 one_bx (wpAny_Assign_Name (thn (he.h pins s U H _ E I h) fun v s1 ⟨y, H1, I1, r1, q1⟩ => ZEo I1 hN hi hx r1 (fun s2 I2 => ⟨_, H1, I2, q1⟩) hf) (ZDj hs))⟩
end
abbrev TH := Value -> ZCg -> St -> Hp -> Prop
structure QH (X : Cx) (hs : List ExceptHandler) (t : TH) : Prop where
 h : ∀ (pins : List (Addr × Obj)) (U : St) (H1 : Hp) (s0 : Shared) (e : Addr) (C : Value) (H' : Hp) (s3 : Shared) (D : ZCg), Inv X pins U H1 s0 -> Fl X H1 s0 e C H' s3 -> t C D U H' -> wpAny (model X.prog X.w) X.A (handleBy (.ref e) X.env hs) (SP X pins D) X.xe s3
section
variable {X : Cx}
def ZRw : TH := fun _ _ _ _ => False
theorem ZL5 : QH X [] ZRw := ⟨fun _ _ _ _ _ _ _ _ _ _ _ h => False.elim h⟩
theorem ZL6 {M : Model} {A : Around} {E : Value -> Shared -> Prop} {s : Shared} {K : W.Frag} {T e : Addr} {oe : Obj} {b : Bool} {Q : Bool -> Shared -> Prop} (hK : K.In s.heap) (hT : ZEU K T) (he : s.heap.get? e = some oe) (hsub : subIn K oe.cls (.ref T) = some b) (hq : Q b s) : wpAny M A (excMatches (.ref e) (.ref T)) Q E s := by
 obtain ⟨bm, N', nm, qn, bs, hdct, sn, sub, ab, col, dd, k0, k1, k2, k3, k5, mN, hC, hN, hni, TL⟩ := ZF1 hK hT
 obtain ⟨h, g, d, tk, os⟩ := s
 have hbase := TL.hasType PySem.F.excBase_ValueError.hasBase
 have hcB : (Value.ref T :: bm).contains (.type "BaseException") = true := by rw [List.contains_cons, hbase, Bool.or_true]
 have f := tc_notTuple
 have L := looks_subIn (M := M) hK hsub
 unfold excMatches
 repeat (first | with_reducible refine wpAny_loadPart_at he ?_ | with_reducible refine wpAny_loadPart_at hC ?_ | (with_reducible refine wpAny_isSubtype_exc hC ?_; rw [hcB]) | with_reducible refine L.at ?_ | wp_step)
 cases b <;> (wp_walk; exact hq)
abbrev ZCg.gone (D : ZCg) (i : Nat) : ZCg := { nx := fun U H => D.nx (U.set i none) H, rt := D.rt, bk := fun U H => D.bk (U.set i none) H, ct := fun U H => D.ct (U.set i none) H }
variable {x n : Str} {np pos : Pos} {T : Addr} {b₀ : Stmt} {suite : List Stmt} {ZCm : List ExceptHandler} {ts : Addr -> TS} {tr : TH} {i : Nat}
def ZIw (C : Value) (H : Hp) (R : Addr -> Hp -> Prop) : Prop := ∀ e, H e = none -> R e (upd H e (ZE9 e C))
def ZHH (K : W.Frag) (T : Addr) (C : Value) (A B : Prop) : Prop := ∃ b, subIn K C (.ref T) = some b /\ if b = true then A else B
def tHN (K : W.Frag) (T : Addr) (i : Nat) (ts : Addr -> TS) (tr : TH) : TH := fun C D U H => ZHH K T C (ZIw C H fun e H2 => ts e (D.gone i) (U.set i (some (.ref e))) H2) (tr C D U H)
theorem ZIx (K : W.Frag) (hK : X.K = K) (hst : X.stack = X.env :: X.outer) (hfr : X.env.frame = some X.env.locals) (hex : X.ex = []) (hN : X.N.Nodup) (hi : X.N[i]? = some n) (hl : X.env.scope.names.lookup n = some .local) (hg : Gl X x) (hm : X.mg x = some (.ref T)) (hT : ZEU K T)
  (hs : ∀ e : Addr, QB (X.suite e) (b₀ :: suite) (ts e)) (hr : QH X ZCm tr) (hdb : (x == ("__debug__" : Str)) = false := by decide) :
  QH X (.ExceptHandler (some (.Name x np)) (some n) (b₀ :: suite) pos :: ZCm) (tHN K T i ts tr) := by
 subst hK
 refine ⟨?_⟩
 intro pins U H1 s0 e C H' s3 D I F h
 obtain ⟨oe, rfl, he3, heH, IS⟩ := F.suite I hst hfr hex
 obtain ⟨b, hsub, h⟩ := h
 refine wpAny_handleBy_cons (codeAny_handlers_test ?_) (by intro q; cases q)
 refine ZDa IS hg hm ?_ hdb
 refine ZL6 IS.kIn hT he3 hsub ?_
 cases b with
 | false => exact hr.h pins U H1 s0 e _ H' s3 D I F h
 | true =>
  have okX := I.ok
  refine codeAny_handlers_suite_as ?_
  have F2 := F
  obtain ⟨a0, B, q1, q2, q3, q4, q5, q6, q7, q8⟩ := F2
  refine lands_againW q7 fun h' fl' up => ?_
  have I3 := F.inv I
  obtain ⟨hok3, un3, cov3⟩ := ZE8 q4 q3 q8 fl'.1 up (ZF0 I3 q7.2.2.1 fun b hb => hb)
  have F3 : Fl X H1 s0 e oe.cls H' { s3 with heap := h' } := ⟨a0, B, q1, q2, un3, hok3, q5, q6, fl', cov3⟩
  obtain ⟨oe4, ec4, _, _, IS4⟩ := F3.suite I hst hfr hex
  have hf : (X.suite e).fn n = true \/ (X.suite e).env.scope.names.lookup n = some .local := .inr hl
  refine ZEo (X := X.suite e) (v := .ref e) IS4 hN hi (.inl hl) rfl (fun s5 IS5 => ?_) hf
  have := (hs e).h pins _ _ _ (D.gone i) IS5 (h e q6)
  refine Uv this (fun f s6 hsp => ?_) fun _ _ z => False.elim z
  show wpAny (model X.prog X.w) X.A (do bindName X.env n .none; unbindBehindTheSuite X.env n pos) (fun _ s₃ => SP X pins D f s₃) X.xe s6
  cases f with
  | next => obtain ⟨U', H', I, q⟩ := hsp; exact ZF2 (I.ofSuite okX) hN hi hl fun s7 I7 => ⟨_, _, I7, q⟩
  | brk => obtain ⟨U', H', I, q⟩ := hsp; exact ZF2 (I.ofSuite okX) hN hi hl fun s7 I7 => ⟨_, _, I7, q⟩
  | cont => obtain ⟨U', H', I, q⟩ := hsp; exact ZF2 (I.ofSuite okX) hN hi hl fun s7 I7 => ⟨_, _, I7, q⟩
  | ret u => obtain ⟨v, U', H', I, r, q⟩ := hsp; exact ZF2 (I.ofSuite okX) hN hi hl fun s7 I7 => ⟨_, _, _, I7, r, q⟩
end
section
variable {X : Cx} {body : List Stmt} {h₀ : ExceptHandler} {hs : List ExceptHandler} {pos : Pos} {tb : TBX} {th : TH}
def ZRD (tb : TBX) (th : TH) : TS := fun D U H => tb D (fun C _ H' => th C D U H') U H
theorem ZL7 (hst : X.stack = X.env :: X.outer) (hfr : X.env.frame = some X.env.locals) (hb : QBX X body tb) (hh : QH X (h₀ :: hs) th) : QS X (.Try body (h₀ :: hs) [] [] pos) (ZRD tb th) := by
 refine ⟨?_⟩
 intro pins s U H D I h
 refine wpAny_Try_except (Uv (hb.h pins s U H D _ I h) (fun f s1 q => ?_) fun ev s1 ⟨H1, s0, e, C, H', I1, eq, F, q⟩ => ?_)
 ·cases f with
  | next => exact wpAny_execs_nil q
  | brk => exact q
  | cont => exact q
  | ret u => exact q
 ·subst eq
  have I3 := F.inv I1
  have F2 := F
  obtain ⟨a0, B, q1, q2, q3, q4, q5, q6, q7, q8⟩ := F2
  have hfrs : X.A.frames = some (X.env :: X.outer) := by rw [<- hst]; exact I.ok.frames
  have q7' : Heap.FlyingW B (X.env :: X.outer) e C a0 s1.heap := by rw [<- hst]; exact q7
  refine wpAny_looks_onW hfrs hfr q7' fun h4 hheld up4 => ?_
  refine wpAny_landsW hheld fun h5 fl5 up5 => ?_
  have fl5' : Heap.FlyingW B X.stack e C a0 h5 := by rw [hst]; exact fl5
  obtain ⟨hok3, un3, cov3⟩ := ZE8 q4 q3 q8 fl5'.1 (up4.trans up5) (ZF0 I3 q7.2.2.1 fun b hb => hb)
  exact hh.h pins U H1 s0 e C H' { s1 with heap := h5 } D I1 ⟨a0, B, q1, q2, un3, hok3, q5, q6, fl5', cov3⟩ q
end
end L2
namespace L2
open PySem PySem.Spec PyProof.Rows PySem.W PySem.Builtin PySem.Builtin.ObjectAttr PySem.Builtin.Getset_descriptor
structure ZDx (K : W.Frag) (C : Addr) : Prop where
 ga : findIn K (.ref C) "__getattribute__" = some (some (.builtin "BaseException.__getattribute__"))
 gt : findIn K (.ref C) "__getattr__" = some none
 cl : findIn K (.ref C) "__class__" = some (some (.builtin "object.__class__"))
 ob : mroIn K C (.type "object") = some true
 be : mroIn K C (.type "BaseException") = some true
section
variable {prog : Program} {w : World} {A : Around} {E : Value -> Shared -> Prop} {h : Heap} {g : Array GenState} {d : Drawn} {t : Nat} {os : OsState} {a C : Addr} {o : Obj} {K : W.Frag}
theorem ZIy {M : Model} (hx : h.get? a = some o) (hc : o.cls = .ref C) : Looks M h (typeOf (.ref a)) (.ref C) := hc ▸ (Looks.ld hx).andThen .now
theorem ZH6 {R : Result -> Shared -> Prop} {tp : Value} (X : K.In h) (hx : h.get? a = some o) (hc : o.cls = .ref C) (F : ZDx K C) (hq : R (.ok (.ret (.ref C))) ⟨h, g, d, t, os⟩) :
  codeAny (model prog w) A (.call (.builtin "getset_descriptor.__get__") ⟨[.builtin "object.__class__", .ref a, tp], []⟩) R ⟨h, g, d, t, os⟩ := by
 have L0 := ZIy (M := model prog w) hx hc
 have L1 := looks_mroIn (M := model prog w) X F.ob
 refine codeAny_call_builtin KF.slot_gs.plain KF.entry_gs (KF.slot_gs.check _ _ _ _ _ _ _ _ KF.type_class (KF.args_gs _ _ _) ?_)
 unfold Builtin.«getset_descriptor.__get__» descrGet
 rw [dga_obj]
 refine Ua (Uh ?_)
 unfold descrGetter descrCheckInstance descrNameAndClass isInstance
 simp only [KF.owner_class]
 repeat lk
 refine ⟨Code.quiet_builtin _ (by decide +kernel), UQ KF.entry_class ?_⟩
 unfold Builtin.«object.__class__» shownTypeOf
 repeat lk
 exact hq
theorem ZIz {M : Model} {nameV : Value} {Q : Unit -> Shared -> Prop} (X : K.In h) (hx : h.get? a = some o) (hc : o.cls = .ref C) (F : ZDx K C) (hq : Q () ⟨h, g, d, t, os⟩) : wpAny M A (checkBuiltinCall "BaseException.__getattribute__" ⟨[.ref a, nameV], []⟩) Q E ⟨h, g, d, t, os⟩ := by
 have hk : builtinKind "BaseException.__getattribute__" = some .slot := by decide +kernel
 have hsplit : splitId "BaseException.__getattribute__" = some ("BaseException", "__getattribute__") := by decide +kernel
 have ha := PySem.F.args_bexc_ga (.ref a) nameV
 have L0 := ZIy (M := M) hx hc
 have L1 := looks_mroIn (M := M) X F.be
 simp only [checkBuiltinCall, hk, hsplit]
 refine Ua ?_
 unfold isInstance
 repeat (first | with_reducible refine L0.at ?_ | with_reducible refine L1.at ?_ | wp_step)
 exact hq
theorem ZGu {tk : Tok} {Q : Fin -> Shared -> Prop} (X : K.In h) (hx : h.get? a = some o) (hc : o.cls = .ref C) (F : ZDx K C) (hq : Q (.done (.ret (.ref C))) ⟨h, g, d, t, os⟩) :
  wpAny (model prog w) A (Builtin.«object.__getattribute__» ⟨[.ref a, .str "__class__" tk], []⟩) Q E ⟨h, g, d, t, os⟩ := by
 have hT5 : (⟨h, g, d, t, os⟩ : Shared).TypeIs (.builtin "object.__class__") "getset_descriptor" := PySem.F.typeOf_object_class
 have f5 := PySem.F.typeOf_object_class
 have f6 := PySem.F.slot_gs_get.lookup
 have f7 := PySem.F.slot_gs_set.lookup
 have L2 := looks_findIn (M := model prog w) X F.cl
 repeat (any_goals (first | assumption | (with_reducible refine wpAny_loadPart_at hx ?_; rw [hc]) | with_reducible refine L2.at ?_ | wp_step))
 refine ZH6 X hx hc F ?_
 repeat (any_goals (first | assumption | wp_step))
theorem ZHI {tk : Tok} {R : Result -> Shared -> Prop} (X : K.In h) (hx : h.get? a = some o) (hc : o.cls = .ref C) (F : ZDx K C) (hq : R (.ok (.ret (.ref C))) ⟨h, g, d, t, os⟩) :
  codeAny (model prog w) A (.call (.builtin "BaseException.__getattribute__") ⟨[.ref a, .str "__class__" tk], []⟩) R ⟨h, g, d, t, os⟩ :=
 codeAny_call_builtin PySem.F.attr_ValueError.ga.plain PySem.F.entry_bexc_ga (ZIz X hx hc F (ZGu X hx hc F hq))
theorem ZI0 {tk : Tok} {Q : Value -> Shared -> Prop} (X : K.In h) (hx : h.get? a = some o) (hc : o.cls = .ref C) (F : ZDx K C) (hq : Q (.ref C) ⟨h, g, d, t, os⟩) :
  wpAny (model prog w) A (getAttrBy (.ref a) (.str "__class__" tk) false) Q E ⟨h, g, d, t, os⟩ := by
 have f3 := PySem.F.attr_ValueError.ga.bind (.ref a)
 have hx2 : (Value.builtin "BaseException.__getattribute__" == Value.builtin "object.__getattribute__") = false := by decide +kernel
 have hx1 : (onTheHeap (Value.ref C) && Value.builtin "BaseException.__getattribute__" == Value.builtin "object.__getattribute__") = false := by rw [hx2]; rfl
 have L1 := looks_findIn (M := model prog w) X F.ga
 have L2 := looks_findIn (M := model prog w) X F.gt
 repeat (any_goals (first | assumption | (with_reducible refine wpAny_loadPart_at hx ?_; rw [hc]) | with_reducible refine L1.at ?_ | with_reducible refine L2.at ?_ | wp_step))
 refine ZHI X hx hc F ?_
 repeat (any_goals (first | assumption | wp_step))
theorem ZHJ {Q : Option Value -> Shared -> Prop} (X : K.In h) (hx : h.get? a = some o) (hc : o.cls = .ref C) (F : ZDx K C) (hq : Q (some (.ref C)) ⟨h, g, d, t + 1, os⟩) : wpAny (model prog w) A (getAttr? (.ref a) "__class__") Q E ⟨h, g, d, t, os⟩ := by
 unfold getAttr? getAttrBy?
 repeat (any_goals (first | assumption | with_reducible apply ZI0 X hx hc F | wp_step))
end
section
variable {K : W.Frag}
theorem ZNh {e C : Addr} (hC : ZEU K C) (F : ZDx K C) : KitX K (.ref e) (.ref C) (fun h => ∃ oe, h.get? e = some oe /\ oe.cls = .ref C) where
 ty := fun _ _ _ ⟨oe, h1, h2⟩ => ZIy h1 h2
 it := fun _ h X _ => by
  obtain ⟨bm, N', nm, qn, bs, hdct, sn, sub, ab, col, dd, k0, k1, k2, k3, k5, mN, hCo, _⟩ := ZF1 X hC
  intro A' Q' E' s' k q
  unfold isType loadHead
  exact Ua (wpAny_loadPart (k _ _ hCo) (Uh q))
 ne := fun h tp dd its n sl X htp => by
  obtain ⟨bm, N', nm, qn, bs, hdct, sn, sub, ab, col, dd', k0, k1, k2, k3, k5, mN, hCo, _⟩ := ZF1 X hC
  refine Bool.eq_false_iff.mpr fun q => ?_
  have e : C = tp := Value.ref.inj (beq_iff_eq.mp q)
  subst e
  have z := congrArg Obj.data (Option.some.inj (hCo.symm.trans htp))
  unfold excClassObj at z
  cases z
 ca := fun {_ _ _ _ _ s} X ⟨oe, h1, h2⟩ k => by
  obtain ⟨h, g, d, t, os⟩ := s
  exact ZHJ X h1 h2 F k
end
def ZNi : V -> Value -> Prop
 | .ref T, u => u = .ref T
 | .ty n, u => u = .type n
 | _, _ => False
def ZK5 (K : W.Frag) : List V -> Hp -> VK -> Prop := fun xs H Q => ∃ e C y u b, xs = [.ref e, y] /\ H e = some (ZE9 e (.ref C)) /\ ZEU K C /\ ZDx K C /\ ZNi y u /\ W.kitOne K (.ref C) u = some b /\ Q (.bl b) H
theorem ZNj {y : V} {u v : Value} (h : ZNi y u) (r : ZB3 y v) : v = u := by
 cases y <;> first | exact False.elim h | (obtain rfl := h; exact r)
section
variable {X : Cx}
theorem ZL8 : ZCe X (.builtin "isinstance") (ZK5 X.K) := by
 intro pins s U H xs us Q I r h
 obtain ⟨e, C, y, u, b, rfl, he, hC, F, hy, hk, q⟩ := h
 obtain ⟨v1, v2, rfl, r1, r2⟩ := r.two
 obtain rfl : v1 = Value.ref e := r1
 obtain rfl := ZNj hy r2
 obtain ⟨p, _⟩ := (show ZCF X.prog X.w H s.heap e (ZE9 e (.ref C)) from I.hok e _ he)
 exact PySem.W.kia_one (ZNh hC F) I.kIn p hk (fun z => nomatch z) fun tk => ⟨.bl b, H, I.tok _, rfl, q⟩
theorem ZKB (K : W.Frag) (h : X.K = K) : ZCe X (.builtin "isinstance") (ZK5 K) := h ▸ ZL8
end
section
variable {K : W.Frag} {U : St} {H : Hp} {Q : VK} {D : ZCg} {E : XK} {C T e : Addr} {t : TA} {tb : TBX} {th : TH} {ts : Addr -> TS} {tr : TH} {i : Nat}
def ZL9 (E : XK) (C : Addr) (vs : List V) (H : Hp) : Prop := vs.length <= sizeLine /\ E (.ref C) none H
theorem ZMA (h : t U H fun vs H1 => ZL9 E C vs H1) : ZIv E C t D U H := h
theorem ZNk {vs : List V} (h : vs.length <= 1000) (q : E (.ref C) none H) : ZL9 E C vs H := ⟨UF h (by decide), q⟩
theorem ZRE (h : tb D (fun C _ H' => th C D U H') U H) : ZRD tb th D U H := h
theorem ZNl {m : Str} {sp : Sp} {dvs : List V} {ta : TE} (h : ta U H fun x H1 => ZGt C m x H1 (t U H1 fun vs H2 => sp (x :: (vs ++ dvs)) H2 Q E)) : ZL4 C m sp dvs ta t U H Q E := h
theorem ZPc {u : TX} (h : u U H (fun v H1 => D.nx (U.set i (some v)) H1) E) : ZOV u i D E U H := h
theorem ZHk {C : Value} {A B : Prop} {b : Bool} (hs : subIn K C (.ref T) = some b) (h : if b = true then A else B) : ZHH K T C A B := ⟨b, hs, h⟩
theorem ZRg {C : Value} (h : ZHH K T C (ZIw C H fun e H2 => ts e (D.gone i) (U.set i (some (.ref e))) H2) (tr C D U H)) : tHN K T i ts tr C D U H := h
theorem ZI1 {C : Value} {R : Addr -> Hp -> Prop} (h : ∀ e H2, H e = none -> H2 e = some (ZE9 e C) -> ZB1 H H2 -> R e H2) : ZIw C H R := fun e he => h e _ he ZCC (ZB1.new he)
theorem ZKC {y : V} {u : Value} {b : Bool} (he : H e = some (ZE9 e (.ref C))) (hC : ZEU K C) (F : ZDx K C) (hy : ZNi y u) (hk : W.kitOne K (.ref C) u = some b) (q : Q (.bl b) H) : ZK5 K [.ref e, y] H Q := ⟨e, C, y, u, b, rfl, he, hC, F, hy, hk, q⟩
end
section
variable {P : Program} {w : World} {K : W.Frag} {mg : Str -> Option Value} {base : Heap} {N : List Str} {qual : Str} {scope : Scope} {f : Addr} {cd : Value} {A : Around} {outer : List Env} {s : Shared} {H : Hp} {E : XK}
 {x : Str} {np cpos pos : Pos} {e₀ : Expr} {es : List Expr} {t : TA} {C : Addr}
theorem ZNm (hC : ZEU K C) (hg : Gl (cxE P w K mg base N qual scope f cd A outer s H E) x) (hm : mg x = some (.ref C)) (ha : QA (cxE P w K mg base N qual scope f cd A outer s H E) (e₀ :: es) t)
 (hns : ZCT (e₀ :: es) = true := by rfl) (hdb : (x == ("__debug__" : Str)) = false := by decide) :
 QS (cxE P w K mg base N qual scope f cd A outer s H E) (.Raise (some (.Call (.Name x np) (e₀ :: es) [] cpos)) none pos) (ZIv E C t) := ⟨ZNe hC hg hm ha.h hdb (ZDT hns) (ZDE (ZDC hns))⟩
end
def fl (low tall : Int) (q : Int × Int) : Int := (q.1 - low * q.2) / (tall * q.2)
def ZK6 (cv : PL) (b e : Int) : PL := cv.filter fun p => decide (b <= p.1) && decide (p.1 < e)
def InT (cv : PL) : Prop := ∀ p ∈ cv, (-(10 ^ 64) < p.1 /\ p.1 < 10 ^ 64) /\ -(10 ^ 64) < p.2 /\ p.2 < 10 ^ 64
theorem ZGv {cv : PL} (h : Asc cv) {i j : Nat} (hi : i < cv.length) (hj : j < cv.length) (hij : i < j) : cv[i].1 < cv[j].1 := US.mp h i j hi hj hij
theorem ZMB {cv : PL} {b e : Int} {p : Int × Int} : p ∈ ZK6 cv b e ↔ p ∈ cv /\ b <= p.1 /\ p.1 < e := by
 unfold ZK6
 rw [List.mem_filter]
 simp
def Is4 (cv : PL) (o : Option (PL)) : Prop :=
 (o = none /\ cv = []) \/ ∃ q0 q1 q2 q3 : Int × Int, o = some [q0, q1, q2, q3] /\ q0 ∈ cv /\ q1 ∈ cv /\ q2 ∈ cv /\ q3 ∈ cv /\
  ∀ p ∈ cv, q0.1 <= p.1 /\ p.1 <= q1.1 /\ (q2.2 < p.2 \/ (q2.2 = p.2 /\ q2.1 <= p.1)) /\ (p.2 < q3.2 \/ (p.2 = q3.2 /\ q3.1 <= p.1))
theorem Is4.join {c1 c2 : PL} {a0 a1 a2 a3 b0 b1 b2 b3 : Int × Int} (h : Is4 c1 (some [a0, a1, a2, a3])) (g : Is4 c2 (some [b0, b1, b2, b3])) (hlt : ∀ p ∈ c1, ∀ q ∈ c2, p.1 < q.1) :
  Is4 (c1 ++ c2) (some [a0, b1, if a2.2 <= b2.2 then a2 else b2, if b3.2 <= a3.2 then a3 else b3]) := by
 rcases h with ⟨e, _⟩ | ⟨q0, q1, q2, q3, e, m0, m1, m2, m3, hb⟩
 ·cases e
 rcases g with ⟨e', _⟩ | ⟨r0, r1, r2, r3, e', n0, n1, n2, n3, gb⟩
 ·cases e'
 cases e
 cases e'
 refine .inr ⟨_, _, _, _, rfl, UX _ m0, Ul _ n1, ?_, ?_, fun p hp => ?_⟩
 ·split
  ·exact UX _ m2
  ·exact Ul _ n2
 ·split
  ·exact UX _ m3
  ·exact Ul _ n3
 ·rcases UR.mp hp with hp | hp
  ·have k1 := hb p hp
   have k2 := hlt p hp _ n1
   have k3 := hlt p hp _ n2
   have k4 := hlt p hp _ n3
   refine ⟨k1.1, by omega, ?_, ?_⟩
   ·split <;> omega
   ·split <;> omega
  ·have k1 := gb p hp
   have k2 := hlt _ m0 p hp
   have k3 := hlt _ m2 p hp
   have k4 := hlt _ m3 p hp
   refine ⟨by omega, k1.2.1, ?_, ?_⟩
   ·split <;> omega
   ·split <;> omega
theorem Is4.of_none {cv : PL} (h : Is4 cv none) : cv = [] := by
 rcases h with ⟨_, e⟩ | ⟨q0, q1, q2, q3, e, _⟩
 ·exact e
 ·cases e
theorem Is4.minmax {cv : PL} {p0 p1 p2 p3 : Int × Int} {i2 i3 : Nat} (ha : Asc cv) (e0 : cv[0]? = some p0) (e1 : cv[cv.length - 1]? = some p1) (e2 : cv[i2]? = some p2) (e3 : cv[i3]? = some p3)
  (h2 : ∀ j, j < cv.length -> (cv.getD i2 (0, 0)).2 <= (cv.getD j (0, 0)).2 /\ (j < i2 -> (cv.getD i2 (0, 0)).2 < (cv.getD j (0, 0)).2))
  (h3 : ∀ j, j < cv.length -> (cv.getD i3 (0, 0)).2 >= (cv.getD j (0, 0)).2 /\ (j < i3 -> (cv.getD i3 (0, 0)).2 > (cv.getD j (0, 0)).2)) : Is4 cv (some [p0, p1, p2, p3]) := by
 obtain ⟨z0, y0⟩ := Um.mp e0
 obtain ⟨z1, y1⟩ := Um.mp e1
 obtain ⟨z2, y2⟩ := Um.mp e2
 obtain ⟨z3, y3⟩ := Um.mp e3
 have d : ∀ {j : Nat} (hj : j < cv.length), cv.getD j (0, 0) = cv[j] := fun {j} hj => by simp [hj]
 refine .inr ⟨p0, p1, p2, p3, rfl, UA e0, UA e1, UA e2, UA e3, fun p hp => ?_⟩
 obtain ⟨j, hj, rfl⟩ := List.getElem_of_mem hp
 have k2 := h2 j hj
 have k3 := h3 j hj
 rw [d z2, d hj, y2] at k2
 rw [d z3, d hj, y3] at k3
 refine ⟨?_, ?_, ?_, ?_⟩
 ·by_cases h : j = 0
  ·subst h; rw [y0]; exact Int.le_refl _
  ·have := ZGv ha z0 hj (by omega)
   rw [y0] at this
   omega
 ·by_cases h : j = cv.length - 1
  ·subst h; rw [y1]; exact Int.le_refl _
  ·have := ZGv ha hj z1 (by omega)
   rw [y1] at this
   omega
 ·by_cases h : i2 < j
  ·have := ZGv ha z2 hj h
   rw [y2] at this
   omega
  ·by_cases h' : j = i2
   ·subst h'; rw [y2]; omega
   ·have := k2.2 (by omega)
    omega
 ·by_cases h : i3 < j
  ·have := ZGv ha z3 hj h
   rw [y3] at this
   omega
  ·by_cases h' : j = i3
   ·subst h'; rw [y3]; omega
   ·have := k3.2 (by omega)
    omega
theorem ZPd {b y t i : Int} (hy : 0 < y) : (b + i * y <= t /\ t < b + i * y + y) ↔ (t - b) / y = i := by
 have h1 := Int.emod_add_mul_ediv (t - b) y
 have h2 := Int.emod_nonneg (t - b) (show y ≠ 0 by omega)
 have h3 := Int.emod_lt_of_pos (t - b) hy
 constructor
 ·rintro ⟨g1, g2⟩
  refine (Int.ediv_emod_unique hy (r := t - b - i * y) (q := i)).mpr ⟨?_, by omega, by omega⟩ |>.1
  rw [Int.mul_comm y i]
  omega
 ·intro e
  rw [e, Int.mul_comm y i] at h1
  constructor <;> omega
theorem ZHK (k : Nat) : (0 : Int) < 2 ^ k := Int.pow_pos (by decide)
theorem Is4.congr {a b : PL} {o : Option (PL)} (h : Is4 a o) (e : ∀ p, p ∈ a ↔ p ∈ b) : Is4 b o := by
 rcases h with ⟨h1, h2⟩ | ⟨q0, q1, q2, q3, h1, m0, m1, m2, m3, hb⟩
 ·refine .inl ⟨h1, ?_⟩
  cases b with
  | nil => rfl
  | cons p ps =>
   have := (e p).mpr Uy
   rw [h2] at this
   cases this
 ·exact .inr ⟨q0, q1, q2, q3, h1, (e _).mp m0, (e _).mp m1, (e _).mp m2, (e _).mp m3, fun p hp => hb p ((e p).mpr hp)⟩
def inS (sm : PL) (l : Nat) (s : Int) : PL := ZK6 sm (s * 2 ^ l) (s * 2 ^ l + 2 ^ l)
theorem ZDV {sm : PL} {l : Nat} {s : Int} {p : Int × Int} : p ∈ inS sm l s ↔ p ∈ sm /\ p.1 / 2 ^ l = s := by
 unfold inS
 rw [ZMB]
 have := ZPd (b := 0) (t := p.1) (i := s) (ZHK l)
 rw [Int.sub_zero, Int.zero_add] at this
 rw [this]
theorem ZI2 (x : Int) (l : Nat) : x / 2 ^ (l + 1) = x / 2 ^ l / 2 := by
 rw [Int.pow_succ, <- Int.ediv_ediv_of_nonneg (Int.le_of_lt (ZHK l))]
theorem ZNn {sm : PL} {l : Nat} {s : Int} {p : Int × Int} : p ∈ inS sm l (2 * s) ++ inS sm l (2 * s + 1) ↔ p ∈ inS sm (l + 1) s := by
 rw [UR, ZDV, ZDV, ZDV, ZI2]
 constructor
 ·rintro (⟨h1, h2⟩ | ⟨h1, h2⟩)
  ·exact ⟨h1, by omega⟩
  ·exact ⟨h1, by omega⟩
 ·rintro ⟨h1, h2⟩
  have : p.1 / 2 ^ l = 2 * s \/ p.1 / 2 ^ l = 2 * s + 1 := by omega
  rcases this with h | h
  ·exact .inl ⟨h1, h⟩
  ·exact .inr ⟨h1, h⟩
theorem ZRF {sm : PL} {l : Nat} {a b : Int} (hab : a < b) : ∀ p ∈ inS sm l a, ∀ q ∈ inS sm l b, p.1 < q.1 := by
 intro p hp q hq
 have h1 := (ZDV.mp hp).2
 have h2 := (ZDV.mp hq).2
 by_cases h : p.1 < q.1
 ·exact h
 ·have := Int.ediv_le_ediv (ZHK l) (show q.1 <= p.1 by omega)
  omega
theorem ZDR {m : PL} (hn : (m.map (·.1)).Nodup) {t h : Int} {q : Int × Int} : q ∈ ZCh m t h ↔ (q.1 ≠ t /\ q ∈ m) \/ q = (t, h) := by
 obtain ⟨a, b⟩ := q
 rw [<- ZDG (ZDh hn), ZNW, <- ZDG hn]
 by_cases e : a = t
 ·subst e
  simp only [if_true, Option.some.injEq, ne_eq, not_true_eq_false, false_and, false_or, Prod.mk.injEq, true_and]
  exact eq_comm
 ·simp [e]
def kOf (l : Nat) (s : Int) : List Key := [Sum.inl (l : Int), Sum.inl s]
theorem ZPe {l l' : Nat} {s s' : Int} (h : kOf l s = kOf l' s') : l = l' /\ s = s' := by
 unfold kOf at h
 simp only [List.cons.injEq, Sum.inl.injEq, and_true] at h
 exact ⟨by omega, h.2⟩
def ZCp (H : Hp) (kvs : List (List Key × V)) (sm : PL) (G : Nat -> Int -> Prop) : Prop := ∀ (l : Nat) (s : Int), l <= 40 -> G l s -> ∃ o, ZCv H ((ZCf kvs (kOf l s)).getD .non) o /\ Is4 (inS sm l s) o
theorem ZCp.same {H H' : Hp} {kvs : List (List Key × V)} {sm : PL} {G : Nat -> Int -> Prop} (h : ZCp H kvs sm G) (s : ZB1 H H') : ZCp H' kvs sm G := fun l s' hl g => by
 obtain ⟨o, h1, h2⟩ := h l s' hl g
 exact ⟨o, h1.same s, h2⟩
theorem PrT.kpX {H H' : Hp} {a d : Addr} {cv : PL} {ob : HO} (h : PrT H a cv) (k : Kp d H H') (hd : H d = some ob) (hn : ∀ xs, ob ≠ .tup xs) : PrT H' a cv := by
 obtain ⟨us, g, p⟩ := h
 have ne : ∀ {b : Addr} {xs : List V}, H b = some (.tup xs) -> H' b = some (.tup xs) := fun {b xs} e => k _ _ e fun z => by
  subst z
  rw [hd] at e
  exact hn _ (Option.some.inj e)
 exact ⟨us, ne g, Paired.mapP p fun _ _ ⟨a, e, z⟩ => ⟨a, e, ne z⟩⟩
theorem ZCv.kpX {H H' : Hp} {d : Addr} {v : V} {o : Option (PL)} {ob : HO} (h : ZCv H v o) (k : Kp d H H') (hd : H d = some ob) (hn : ∀ xs, ob ≠ .tup xs) : ZCv H' v o := by
 cases h with
 | non => exact .non
 | pr e hl => exact .pr (e.kpX k hd hn) hl
theorem ZCp.kpX {H H' : Hp} {kvs : List (List Key × V)} {sm : PL} {G : Nat -> Int -> Prop} {d : Addr} {ob : HO} (h : ZCp H kvs sm G) (k : Kp d H H') (hd : H d = some ob) (hn : ∀ xs, ob ≠ .tup xs) : ZCp H' kvs sm G := fun l s' hl g => by
 obtain ⟨o, h1, h2⟩ := h l s' hl g
 exact ⟨o, h1.kpX k hd hn, h2⟩
theorem ZCp.other {H : Hp} {kvs : List (List Key × V)} {sm sm' : PL} {t : Int} (h : ZCp H kvs sm fun _ _ => True) (e : ∀ q : Int × Int, q.1 ≠ t -> (q ∈ sm ↔ q ∈ sm')) : ZCp H kvs sm' fun l s => s ≠ t / 2 ^ l := fun l s hl g => by
 obtain ⟨o, h1, h2⟩ := h l s hl trivial
 refine ⟨o, h1, h2.congr fun p => ?_⟩
 rw [ZDV, ZDV]
 constructor
 ·rintro ⟨g1, g2⟩
  exact ⟨(e p fun z => g (by rw [<- g2, z])).mp g1, g2⟩
 ·rintro ⟨g1, g2⟩
  exact ⟨(e p fun z => g (by rw [<- g2, z])).mpr g1, g2⟩
theorem ZCp.put {H' : Hp} {kvs : List (List Key × V)} {sm : PL} {G : Nat -> Int -> Prop} {t : Int} {i : Nat} {v : V} {o : Option (PL)} (h : ZCp H' kvs sm G) (hv : ZCv H' v o) (ho : Is4 (inS sm i (t / 2 ^ i)) o) :
  ZCp H' (ZC7 kvs (kOf i (t / 2 ^ i)) v) sm fun l s => G l s \/ (l = i /\ s = t / 2 ^ l) := fun l s hl g => by
 by_cases e : kOf l s = kOf i (t / 2 ^ i)
 ·obtain ⟨rfl, rfl⟩ := ZPe e
  refine ⟨o, ?_, ho⟩
  rw [ZGN, if_pos rfl]
  exact hv
 ·rcases g with g | ⟨rfl, rfl⟩
  ·obtain ⟨o', h1, h2⟩ := h l s hl g
   refine ⟨o', ?_, h2⟩
   rw [ZGN, if_neg e]
   exact h1
  ·exact absurd rfl e
theorem ZCp.mono {H : Hp} {kvs : List (List Key × V)} {sm : PL} {G G' : Nat -> Int -> Prop} (h : ZCp H kvs sm G) (g : ∀ l s, l <= 40 -> G' l s -> G l s) : ZCp H kvs sm G' := fun l s hl hg => h l s hl (g l s hl hg)
theorem ZCp.tups {H H' : Hp} {kvs : List (List Key × V)} {sm : PL} {G : Nat -> Int -> Prop} (h : ZCp H kvs sm G) (t : ∀ b xs, H b = some (.tup xs) -> H' b = some (.tup xs)) : ZCp H' kvs sm G := fun l s hl g => by
 obtain ⟨o, h1, h2⟩ := h l s hl g
 refine ⟨o, ?_, h2⟩
 generalize (ZCf kvs (kOf l s)).getD .non = v at h1
 cases h1 with
 | non => exact .non
 | pr e hl =>
  obtain ⟨us, g, p⟩ := e
  exact .pr ⟨us, t _ _ g, Paired.mapP p fun _ _ ⟨a, e, z⟩ => ⟨a, e, t _ _ z⟩⟩ hl
def ZC2 (m : PL) (t : Int) : PL := m.filter fun p => decide (p.1 ≠ t)
theorem ZPf (m : PL) (t : Int) : ZEO (ZCE m) (.inl t) = ZCE (ZC2 m t) := by
 unfold ZEO ZCE ZC2
 rw [List.filter_map]
 congr 1
 apply List.filter_congr
 intro p _
 simp [dkE, Function.comp]
theorem ZDw {m : PL} {t : Int} {q : Int × Int} : q ∈ ZC2 m t ↔ q.1 ≠ t /\ q ∈ m := by
 unfold ZC2
 rw [List.mem_filter, decide_eq_true_iff, and_comm]
theorem ZGA {m : PL} {t : Int} (n : (m.map (·.1)).Nodup) : ((ZC2 m t).map (·.1)).Nodup := n.sublist ((List.filter_sublist).map _)
theorem ZMC (m : PL) (t : Int) : (ZC2 m t).length <= m.length := List.length_filter_le _ _
def Eqv (m m' : PL) : Prop := ∀ q : Int × Int, q ∈ m ↔ q ∈ m'
theorem Eqv.get {m m' : PL} (h : Eqv m m') (n : (m.map (·.1)).Nodup) (n' : (m'.map (·.1)).Nodup) (t : Int) : ZCB m t = ZCB m' t := by
 cases hg : ZCB m' t with
 | some v => rw [ZDG n, h]; exact (ZDG n').mp hg
 | none =>
  cases hm : ZCB m t with
  | none => rfl
  | some v =>
   rw [ZDG n, h, <- ZDG n', hg] at hm
   cases hm
theorem Eqv.put {m m' : PL} (h : Eqv m m') (n : (m.map (·.1)).Nodup) (n' : (m'.map (·.1)).Nodup) (t v : Int) : Eqv (ZCh m t v) (ZCh m' t v) := fun q => by rw [ZDR n, ZDR n', h q]
theorem Eqv.drop {m m' : PL} (h : Eqv m m') (t : Int) : Eqv (ZC2 m t) (ZC2 m' t) := fun q => by rw [ZDw, ZDw, h q]
theorem Eqv.refl (m : PL) : Eqv m m := fun _ => Iff.rfl
section
variable {X : Cx} {o e : Expr} {apos cpos pos p : Pos} {td ty to : TE}
theorem ZI3 (ho : QE X o td) (he : QE X e ty) (m : M1 X o "pop" apos e cpos := by exact ⟨rfl, rfl, rfl, rfl⟩) : QE X (.Call (.Attribute o "pop" apos) [e] [] cpos) (ZIi td ty) := ⟨ZNS ho.h he.h m⟩
def ZI4 : R2 := fun y x H Q => ∃ a o, x = .ref a /\ ZDF H a y o /\ Q (.bl (!o.isSome)) H
theorem ZD3 (hu : X.A.units + 1 < cLine) : OpR X (compareOp .NotIn) ZI4 := by
 intro pins s U H x y v u Q I rx ry h
 obtain ⟨a, ov, rfl, g, q⟩ := h
 obtain rfl : u = Value.ref a := ry
 exact ZPP hu I g rx fun s3 I3 => ⟨.bl (!ov.isSome), H, I3, rfl, q⟩
end
section
variable {K : W.Frag} {U : St} {H : Hp} {Q : VK} {td ty : TE} {a b : Addr} {m m' : PL} {i v : Int}
def ZI5 (a : Addr) (y : V) (H : Hp) (Q : VK) : Prop := ∃ kvs k v, H a = some (.dK kvs) /\ y = kV k /\ ZCf kvs k = some v /\ Q v (upd H a (.dK (ZEO kvs k)))
def ZMD (ty : TE) (U : St) (Q : VK) (x : V) (H : Hp) : Prop := ∃ a, x = .ref a /\ IsD H a /\ ty U H fun y H2 => ZI5 a y H2 Q
theorem ZNo (h : td U H fun x H1 => ZMD ty U Q x H1) : ZIi td ty U H Q := h
theorem ZI6 {kvs : List (Key × V)} (h1 : H a = some (.dK kvs)) (q : ty U H fun y H2 => ZI5 a y H2 Q) : ZMD ty U Q (.ref a) H := ⟨a, rfl, .inl ⟨kvs, .inl h1⟩, q⟩
theorem ZI7 (h1 : H a = some (.dK (ZCE m))) (l : ZCB m i = some v) (q : ∀ H2, H2 a = some (.dK (ZCE (ZC2 m i))) -> Kp a H H2 -> Q (.int v) H2) : ZI5 a (.int i) H Q :=
 ⟨ZCE m, .inl i, .int v, h1, rfl, by rw [ZEC, l]; rfl, by rw [ZPf]; exact q _ ZCC Kp.upd⟩
theorem ZDi (h1 : H a = some (.dK (ZCE m))) (q : Q (.bl (!(ZCB m i).isSome)) H) : ZI4 (.int i) (.ref a) H Q := ⟨a, _, rfl, ZDF.k (k := Sum.inl i) h1, by rw [ZEC, Option.isSome_map]; exact q⟩
end
def ZME (K : W.Frag) : R2 := fun x y H Q => ∃ p q xs, x = .ref p /\ y = .ref q /\ SqL K H p xs /\ SqL K H q [] /\ Q (.bl (!xs.isEmpty)) H
section
variable {X : Cx}
theorem ZNp (K : W.Frag) (hK : X.K = K) (hu : X.A.units + 1 < cLine) : OpR X (compareOp .NotEq) (ZME K) := by
 subst hK
 intro pins s U H x y v u Q I rx ry h
 obtain ⟨p, q, xs, rfl, rfl, h1, h2, k⟩ := h
 obtain rfl : v = Value.ref p := rx
 obtain rfl : u = Value.ref q := ry
 obtain ⟨its, rv, pl, hz⟩ := I.list h1
 obtain ⟨its2, rv2, pl2, hz2⟩ := I.list h2
 cases rv2
 have hlen := rv.length
 cases xs with
 | nil =>
  cases rv
  exact SeqAt.RcNeAt.lists (e := fun _ => true) pl.isList pl2.isList rfl (by omega) (fun j h1 _ => absurd h1 (by simp)) X.prog X.w _ _ ⟨.bl false, H, I, rfl, k⟩
 | cons x xs =>
  refine SeqAt.RcNeAt.lists_lengths pl.isList pl2.isList ?_ (by omega) X.prog X.w _ _ ⟨.bl true, H, I, rfl, k⟩
  simp only [UB] at hlen
  simp only [Ut, List.length_nil, bne_iff_ne, ne_eq]
  omega
end
section
variable {K : W.Frag} {H : Hp} {Q : VK} {p q : Addr} {xs : List V}
theorem ZNq (h1 : SqL K H p xs) (h2 : SqL K H q []) (k : Q (.bl (!xs.isEmpty)) H) : ZME K (.ref p) (.ref q) H Q := ⟨p, q, xs, rfl, rfl, h1, h2, k⟩
end
theorem ZFh {K : W.Frag} {H : Hp} : ∀ ns : List Int, ZDO K H (ns.map V.int) (ns.map PyData.int)
 | [] => .nil
 | n :: ns => .cons (.int n) (ZFh ns)
theorem ZI8 : ∀ l m : List Int, PyData.eqvAll (l.map PyData.int) (m.map PyData.int) = decide (l = m)
 | [], [] => rfl
 | [], q :: m => by simp [PyData.eqvAll]
 | p :: l, [] => by simp [PyData.eqvAll]
 | p :: l, q :: m => by
  show (PyData.eqv (PyData.int p) (PyData.int q) && PyData.eqvAll (l.map PyData.int) (m.map PyData.int)) = _
  rw [ZI8 l m, show PyData.eqv (PyData.int p) (PyData.int q) = (p == q) from rfl]
  by_cases h1 : p = q <;> by_cases h2 : l = m <;> simp [h1, h2]
theorem ZGw : ∀ l : List Int, PyData.depthAll (l.map PyData.int) <= 50
 | [] => by decide
 | p :: l => by
  have ih := ZGw l
  show PyData.depthAll (PyData.int p :: l.map PyData.int) <= 50
  simp only [PyData.depthAll, PyData.depth]
  omega
theorem ZJh (l : List Int) : (PyData.tuple (l.map PyData.int)).depth <= 60 := by
 have := ZGw l
 simp only [PyData.depth]
 omega
theorem ZI9 : ∀ l : List Int, (PyData.tuple (l.map PyData.int)).canLay0 = true := by
 have h : ∀ l : List Int, PyData.canLayAll0 (l.map PyData.int) = true := fun l => by
  induction l with
  | nil => rfl
  | cons p l ih => exact ih
 exact h
section
variable {K : W.Frag} {H : Hp} {Q : VK} {a b : Addr} {l m : List Int}
theorem ZPg (h1 : H a = some (.tup (l.map V.int))) (h2 : H b = some (.tup (m.map V.int))) (h : Q (.bl (!decide (l = m))) H) : ZId K (.ref a) (.ref b) H Q := by
 refine ZLp (.tup (SqT.of h1) (ZFh l)) (.tup (SqT.of h2) (ZFh m)) (ZI9 l) (ZI9 m) (ZJh l) ?_
 rw [show PyData.eqv (.tuple (l.map PyData.int)) (.tuple (m.map PyData.int)) = decide (l = m) from ZI8 l m]
 exact h
end
end L2
namespace L2
theorem Eqv.len {m m' : PL} (h : Eqv m m') (n : (m.map (·.1)).Nodup) (n' : (m'.map (·.1)).Nodup) : m.length = m'.length :=
 ((List.perm_ext_iff_of_nodup (ZFK n) (ZFK n')).mpr h).length_eq
theorem ZMF {cv : PL} (h : Asc cv) : (cv.map (·.1)).Nodup := by
 rw [UN, UM]
 exact h.imp fun {a b} hab e => by omega
end L2
namespace L2
open PySem PySem.Spec PyProof.Rows PySem.W
def FrL (l : List Addr) (H H' : Hp) : Prop := ∀ b o, H b = some o -> b ∉ l -> H' b = some o
theorem FrL.trans {l : List Addr} {H H1 H2 : Hp} (h : FrL l H H1) (g : FrL l H1 H2) : FrL l H H2 := fun b o e n => g b o (h b o e n) n
theorem FrL.same {l : List Addr} {H H' : Hp} (h : ZB1 H H') : FrL l H H' := fun b o e _ => h b o e
theorem FrL.kp {l : List Addr} {H H' : Hp} {q : Addr} (h : Kp q H H') (m : q ∈ l) : FrL l H H' := fun b o e n => h b o e fun z => n (z ▸ m)
theorem FrL.fresh {l : List Addr} {H0 H H' : Hp} (f : FrL l H H') (s : ZB1 H0 H) (n : ∀ b ∈ l, H0 b = none) : ZB1 H0 H' := fun b o e => f _ _ (s _ _ e) fun z => by rw [n b z] at e; cases e
theorem ZEi {H0 H : Hp} {b : Addr} (s : ZB1 H0 H) (e : H b = none) : H0 b = none := by
 cases e2 : H0 b with
 | none => rfl
 | some o => rw [s _ _ e2] at e; cases e
end L2
namespace L2
theorem ZMG {c : TT} {t u : TS} {D : ZCg} {U : St} {H : Hp} (h : ZIM c t u D U H) : ZIM c t u D U H := h
theorem ZPh {t : TS} {D : ZCg} {U : St} {H : Hp} (P : St -> Hp -> Prop) (h1 : ∀ U' H', P U' H' -> D.nx U' H') (h2 : ∀ D' : ZCg, D'.rt = D.rt -> (∀ U' H', P U' H' -> D'.nx U' H') -> t D' U H) : t D U H := h2 D rfl h1
end L2
namespace L2
open PySem PySem.Spec PyProof.Rows PySem.W
structure ZNr (K : Frag) (x : Str) (C : Addr) : Prop where
 a : nsIn K mainGlobals x = some (some (.ref C))
 ex : excIn K C [.type "ValueError", .type "Exception", .type "BaseException", .type "object"] "ValueError.__new__" = true
 ga : findIn K (.ref C) "__getattribute__" = some (some (.builtin "BaseException.__getattribute__"))
 gt : findIn K (.ref C) "__getattr__" = some none
 cl : findIn K (.ref C) "__class__" = some (some (.builtin "object.__class__"))
 ob : mroIn K C (.type "object") = some true
 be : mroIn K C (.type "BaseException") = some true
structure ZRG (K : Frag) (x : Str) (C : Addr) : Prop where
 a : nsIn K mainGlobals x = some (some (.ref C))
 pg : plainGet K C Str.empty = true
 hd : hasDictIn K C = true
 po : plainOver K C = true
 sa : findIn K (.ref C) "__setattr__" = some (some (.builtin "object.__setattr__"))
 mi : makesIn K C = true
 kc : keepIn K (.ref C) = true
section
variable {K : Frag} {x qual : Str} {st : Stmt} {f : Addr} {fd : FuncData}
theorem Fun.b1 {p : Str} (F : Fun K x qual st f fd) (h : ∀ (kV doc pm : Value) (an : Option Addr) (cdv ct u : Value), bindArgs (fnOf x qual (ZCa st) (ZCP st) (ZBv st) .none kV doc pm an cdv ct) ⟨[u], []⟩ = pure ([p].zip [u])) : ZBz K fd [p] [] := F.binds fun _ _ _ _ _ _ us hl => match us, hl with | [_], _ => h _ _ _ _ _ _ _
theorem Fun.b2 {p q : Str} (F : Fun K x qual st f fd) (h : ∀ (kV doc pm : Value) (an : Option Addr) (cdv ct u v : Value), bindArgs (fnOf x qual (ZCa st) (ZCP st) (ZBv st) .none kV doc pm an cdv ct) ⟨[u, v], []⟩ = pure ([p, q].zip [u, v])) : ZBz K fd [p, q] [] := F.binds fun _ _ _ _ _ _ us hl => match us, hl with | [_, _], _ => h _ _ _ _ _ _ _ _
theorem Fun.b3 {p q r : Str} (F : Fun K x qual st f fd) (h : ∀ (kV doc pm : Value) (an : Option Addr) (cdv ct u v y : Value), bindArgs (fnOf x qual (ZCa st) (ZCP st) (ZBv st) .none kV doc pm an cdv ct) ⟨[u, v, y], []⟩ = pure ([p, q, r].zip [u, v, y])) : ZBz K fd [p, q, r] [] := F.binds fun _ _ _ _ _ _ us hl => match us, hl with | [_, _, _], _ => h _ _ _ _ _ _ _ _ _
theorem Fun.b4 {p q r t : Str} (F : Fun K x qual st f fd) (h : ∀ (kV doc pm : Value) (an : Option Addr) (cdv ct u v y z : Value), bindArgs (fnOf x qual (ZCa st) (ZCP st) (ZBv st) .none kV doc pm an cdv ct) ⟨[u, v, y, z], []⟩ = pure ([p, q, r, t].zip [u, v, y, z])) : ZBz K fd [p, q, r, t] [] := F.binds fun _ _ _ _ _ _ us hl => match us, hl with | [_, _, _, _], _ => h _ _ _ _ _ _ _ _ _ _
end
abbrev Cmp := Keyed -> Keyed -> Bool
abbrev G (xs : Array Keyed) (i : Nat) : Keyed := xs.getD i (.none, .none)
theorem ZGS {xs : Array Keyed} {i : Nat} (h : i < xs.size) : xs[i]? = some (G xs i) := by simp [G, h]
theorem ZGT {xs ys : Array Keyed} {i j : Nat} (h : xs[i]? = ys[j]?) : G xs i = G ys j := by simp [G, Array.getD_eq_getD_getElem?, h]
structure ZCR (C : Cmp) (a₀ : Array Keyed) : Prop where
 tr : ∀ x y z, C x y = true -> C y z = true -> C x z = true
 asy : ∀ x y, C x y = true -> C y x = false
 tot : ∀ x ∈ a₀.toList, ∀ y ∈ a₀.toList, x ≠ y -> C x y = false -> C y x = true
 nd : a₀.toList.Nodup
structure TB (kd : SortKind) (a₀ : Array Keyed) (st : SortSt) : Prop where
 perm : (arrOf st).Perm a₀
 kind : kindOf st = kd
 failed : failedOf st = none
def Sg (C : Cmp) (xs : Array Keyed) (lo n : Nat) : Prop := ∀ i j, i < j -> j < n -> C (G xs (lo + i)) (G xs (lo + j)) = true
section
variable {kd : SortKind} {a₀ : Array Keyed} {st : SortSt} {C : Cmp}
theorem TB.size (h : TB kd a₀ st) : (arrOf st).size = a₀.size := h.perm.size_eq
theorem TB.mem (h : TB kd a₀ st) {i : Nat} (hi : i < a₀.size) : G (arrOf st) i ∈ a₀.toList := by
 have hi' : i < (arrOf st).size := by rw [h.size]; exact hi
 refine (UP.mp h.perm).mem_iff.mp ?_
 have := ZGS hi'
 exact Array.mem_toList_iff.mpr (Array.mem_of_getElem? this)
theorem TB.inj (h : TB kd a₀ st) (O : ZCR C a₀) {i j : Nat} (hi : i < a₀.size) (hj : j < a₀.size) (hne : i ≠ j) : G (arrOf st) i ≠ G (arrOf st) j := fun e => by
 have n : (arrOf st).toList.Nodup := (UP.mp h.perm).nodup_iff.mpr O.nd
 have hi' : i < (arrOf st).toList.length := by rw [Uf, h.size]; exact hi
 have hj' : j < (arrOf st).toList.length := by rw [Uf, h.size]; exact hj
 have e1 : (arrOf st).toList[i] = G (arrOf st) i := by simp [G, Array.getD, h.size, hi]
 have e2 : (arrOf st).toList[j] = G (arrOf st) j := by simp [G, Array.getD, h.size, hj]
 have hpw := US.mp (UN.mp n)
 rcases Nat.lt_or_gt_of_ne hne with z | z
 ·exact hpw i j hi' hj' z (by rw [e1, e2, e])
 ·exact hpw j i hj' hi' z (by rw [e1, e2, e])
theorem TB.setArr (h : TB kd a₀ st) {xs : Array Keyed} (hp : xs.Perm (arrOf st)) : TB kd a₀ (setArr st xs) := ⟨hp.trans h.perm, h.kind, h.failed⟩
theorem TB.tot (h : TB kd a₀ st) (O : ZCR C a₀) {i j : Nat} (hi : i < a₀.size) (hj : j < a₀.size) (hne : i ≠ j) (e : C (G (arrOf st) i) (G (arrOf st) j) = false) : C (G (arrOf st) j) (G (arrOf st) i) = true := O.tot _ (h.mem hi) _ (h.mem hj) (h.inj O hi hj hne) e
theorem TB.tr (h : TB kd a₀ st) (O : ZCR C a₀) {i j k : Nat} (hi : i < a₀.size) (hj : j < a₀.size) (hk : k < a₀.size) (e : C (G (arrOf st) i) (G (arrOf st) j) = true) (e' : C (G (arrOf st) j) (G (arrOf st) k) = true) : C (G (arrOf st) i) (G (arrOf st) k) = true := O.tr _ _ _ e e'
end
def ZC8 (prog : Program) (w : World) (A : Around) (E : Value -> Shared -> Prop) (s : Shared) (kd : SortKind) (a₀ : Array Keyed) (C : Cmp) : Prop :=
 ∀ x ∈ a₀.toList, ∀ y ∈ a₀.toList, ∀ (st : SortSt) (Q : Option Bool -> SortSt -> Prop), kindOf st = kd -> Q (some (C x y)) st -> wpS (model prog w) A E s (lt' x y) Q st
def ZJA (lo a nrem : Nat) : StateT SortSt Sem AscSt :=
 forIn [a:nrem] ((none, a) : AscSt) fun _ __s => do
  let __x <- ltAt' (lo + __s.snd) (lo + __s.snd - 1)
  match __x with
  | some smaller => if smaller = true then pure (ForInStep.done (none, __s.snd)) else pure (ForInStep.yield (none, __s.snd + 1))
  | _ => pure (ForInStep.done (some none, __s.snd))
def ZGx (lo n nrem : Nat) : StateT SortSt Sem (Option Nat) := do
 reverseSlice' lo (lo + n)
 let __s <- ZJA lo n nrem
 match __s.fst with
 | some r => pure r
 | none => pure (some __s.snd)
def ZIJ (lo n nrem : Nat) : StateT SortSt Sem DescSt :=
 forIn [n:nrem] ((none, n, 0) : DescSt) fun _ __s => do
  let __x <- ltAt' (lo + __s.snd.fst) (lo + __s.snd.fst - 1)
  match __x with
  | some smaller =>
   if smaller = true then
    if __s.snd.snd > 0 then do
     reverseSlice' (lo + __s.snd.fst - (__s.snd.snd + 1)) (lo + __s.snd.fst)
     pure (ForInStep.yield (none, __s.snd.fst + 1, 0))
    else pure (ForInStep.yield (none, __s.snd.fst + 1, 0))
   else do
    let __x <- ltAt' (lo + __s.snd.fst - 1) (lo + __s.snd.fst)
    match __x with
    | some larger =>
     if larger = true then pure (ForInStep.done (none, __s.snd.fst, __s.snd.snd))
     else pure (ForInStep.yield (none, __s.snd.fst + 1, __s.snd.snd + 1))
    | _ => pure (ForInStep.done (some none, __s.snd.fst, __s.snd.snd))
  | _ => pure (ForInStep.done (some none, __s.snd.fst, __s.snd.snd))
def ZFi (lo n nrem : Nat) : StateT SortSt Sem (Option Nat) := do
 liftM (rule "list.sort.descending-run")
 let __s <- ZIJ lo (n + 1) nrem
 match __s.fst with
 | some r => pure r
 | none =>
  if __s.snd.snd > 0 then do
   reverseSlice' (lo + __s.snd.fst - (__s.snd.snd + 1)) (lo + __s.snd.fst)
   ZGx lo __s.snd.fst nrem
  else ZGx lo __s.snd.fst nrem
theorem ZJB (lo nrem : Nat) : countRun' lo nrem = (do
  let __s <- ZJA lo 1 nrem
  match __s.fst with
  | some r => pure r
  | none =>
   if (__s.snd == nrem) = true then pure (some __s.snd)
   else if __s.snd > 1 then do
    let __x <- ltAt' lo (lo + __s.snd - 1)
    match __x with
    | some rose => if rose = true then pure (some __s.snd) else do
      reverseSlice' lo (lo + __s.snd)
      ZFi lo __s.snd nrem
    | _ => pure none
   else ZFi lo __s.snd nrem) := by
 rw [countRun'_eq]
 unfold ZFi ZGx ZIJ ZJA
 refine congr (congrArg Bind.bind ?_) ?_
 ·rfl
 funext __s
 obtain ⟨r, n⟩ := __s
 cases r with
 | some r => rfl
 | none =>
  dsimp only
  split
  ·rfl
  ·split
   ·congr 1
    funext x
    cases x with
    | none => rfl
    | some rose =>
     dsimp only
     split
     ·rfl
     ·congr 1
      funext _r
      congr 1; funext _u; congr 1; congr 1; funext s2; obtain ⟨r2, n2, q2⟩ := s2
      cases r2 with
      | some r2 => rfl
      | none =>
       dsimp only
       split
       ·congr 1; funext _v; congr 1; funext _w; congr 1; funext s3; obtain ⟨r3, n3⟩ := s3; cases r3 <;> rfl
       ·congr 1; funext _w; congr 1; funext s3; obtain ⟨r3, n3⟩ := s3; cases r3 <;> rfl
   ·congr 1; funext _u; congr 1; congr 1; funext s2; obtain ⟨r2, n2, q2⟩ := s2
    cases r2 with
    | some r2 => rfl
    | none =>
     dsimp only
     split
     ·congr 1; funext _v; congr 1; funext _w; congr 1; funext s3; obtain ⟨r3, n3⟩ := s3; cases r3 <;> rfl
     ·congr 1; funext _w; congr 1; funext s3; obtain ⟨r3, n3⟩ := s3; cases r3 <;> rfl
section
variable {prog : Program} {w : World} {A : Around} {E : Value -> Shared -> Prop} {s : Shared} {kd : SortKind} {a₀ : Array Keyed} {C : Cmp}
theorem ZEj (L : ZC8 prog w A E s kd a₀ C) {st : SortSt} {i j : Nat} {Q : Option Bool -> SortSt -> Prop} (hB : TB kd a₀ st) (hi : i < a₀.size) (hj : j < a₀.size) (h : Q (some (C (G (arrOf st) i) (G (arrOf st) j))) st) : wpS (model prog w) A E s (ltAt' i j) Q st := by
 have e1 := ZGS (xs := arrOf st) (i := i) (by rw [hB.size]; exact hi)
 have e2 := ZGS (xs := arrOf st) (i := j) (by rw [hB.size]; exact hj)
 rw [ltAt'_eq]
 refine wpS_bind (wpS_get ?_)
 show wpS _ _ _ _ (do let x <- elem' (arrOf st) i; let y <- elem' (arrOf st) j; lt' x y) Q st
 rw [elem'_eq, elem'_eq, e1, e2]
 refine wpS_bind (wpS_pure (wpS_bind (wpS_pure ?_)))
 exact L _ (hB.mem hi) _ (hB.mem hj) st Q hB.kind h
theorem ZKD (O : ZCR C a₀) (L : ZC8 prog w A E s kd a₀ C) {st : SortSt} {lo a nrem : Nat} {Q : AscSt -> SortSt -> Prop} (hn : lo + nrem <= a₀.size) (ha : 1 <= a) (han : a <= nrem) (hB : TB kd a₀ st) (hs : Sg C (arrOf st) lo a)
  (h : ∀ n, a <= n -> n <= nrem -> Sg C (arrOf st) lo n -> (n = nrem \/ C (G (arrOf st) (lo + n)) (G (arrOf st) (lo + n - 1)) = true) -> Q (none, n) st) : wpS (model prog w) A E s (ZJA lo a nrem) Q st := by
 unfold ZJA
 refine wpS_forRange (I := fun x c st' => st' = st /\ c = (none, x) /\ Sg C (arrOf st) lo x) ?step ?fin ⟨rfl, rfl, hs⟩
 case fin =>
  rintro c st' ⟨rfl, rfl, hs'⟩
  rw [show max a nrem = nrem by omega] at hs' ⊢
  exact h nrem han (Uc _) hs' (.inl rfl)
 case step =>
  rintro x c st' hax hxn ⟨rfl, rfl, hs'⟩
  dsimp only
  refine wpS_bind (ZEj L hB (by omega) (by omega) ?_)
  cases hless : C (G (arrOf st') (lo + x)) (G (arrOf st') (lo + x - 1))
  case true =>
   simp only [if_true]
   exact wpS_pure (h x hax (by omega) hs' (.inr hless))
  case false =>
   simp only [Uo, if_false]
   have hup := hB.tot O (i := lo + x) (j := lo + x - 1) (by omega) (by omega) (by omega) hless
   refine wpS_pure ⟨rfl, rfl, fun i j hij hj => ?_⟩
   by_cases hjx : j < x
   ·exact hs' i j hij hjx
   ·have hj' : j = x := by omega
    subst hj'
    by_cases hi' : i = j - 1
    ·rw [hi', show lo + (j - 1) = lo + j - 1 by omega]; exact hup
    ·have := hs' i (j - 1) (by omega) (by omega)
     rw [show lo + (j - 1) = lo + j - 1 by omega] at this
     exact hB.tr O (by omega) (by omega) (by omega) this hup
theorem ZGU {xs : Array Keyed} {i j : Nat} (hj : j <= xs.size) (k : Nat) : G (mirror xs i j ((j - i) / 2)) k = if i <= k /\ k < j then G xs (i + j - 1 - k) else G xs k := by
 have := getElem?_mirror_all (i := i) hj k
 by_cases c : i <= k /\ k < j
 ·rw [if_pos c] at this ⊢; exact ZGT this
 ·rw [if_neg c] at this ⊢; exact ZGT this
def ZJC (C : Cmp) (xs : Array Keyed) (lo n : Nat) : Prop := ∀ i j, i < j -> j < n -> C (G xs (lo + j)) (G xs (lo + i)) = true
def Blw (lo : Nat) (xs ys : Array Keyed) : Prop := ∀ k, k < lo -> G xs k = G ys k
theorem ZNs (O : ZCR C a₀) (L : ZC8 prog w A E s kd a₀ C) {st : SortSt} {lo n nrem : Nat} {Q : Option Nat -> SortSt -> Prop} (hn : lo + nrem <= a₀.size) (h1 : 1 <= n) (hnn : n <= nrem) (hB : TB kd a₀ st) (hs : ZJC C (arrOf st) lo n)
  (h : ∀ m xs, TB kd a₀ (setArr st xs) -> Blw lo xs (arrOf st) -> 1 <= m -> m <= nrem -> Sg C xs lo m -> Q (some m) (setArr st xs)) : wpS (model prog w) A E s (ZGx lo n nrem) Q st := by
 unfold ZGx
 have hsz : lo + n <= (arrOf st).size := by rw [hB.size]; omega
 refine wpS_bind (wpS_reverse ?_)
 have hB' : TB kd a₀ (setArr st (mirror (arrOf st) lo (lo + n) ((lo + n - lo) / 2))) := hB.setArr (mirror_perm _ _ _ _)
 refine wpS_bind (ZKD O L hn h1 hnn hB' ?_ fun m hm1 hm2 hsm _ => wpS_pure (h m _ hB' (fun k hk => ?_) (by omega) hm2 hsm))
 ·intro i j hij hj
  show C (G (mirror (arrOf st) lo (lo + n) ((lo + n - lo) / 2)) (lo + i)) (G (mirror (arrOf st) lo (lo + n) ((lo + n - lo) / 2)) (lo + j)) = true
  rw [ZGU hsz, ZGU hsz, if_pos (by omega), if_pos (by omega)]
  have := hs (n - 1 - j) (n - 1 - i) (by omega) (by omega)
  rw [show lo + (n - 1 - i) = lo + (lo + n) - 1 - (lo + i) by omega, show lo + (n - 1 - j) = lo + (lo + n) - 1 - (lo + j) by omega] at this
  exact this
 ·rw [ZGU hsz, if_neg (by omega)]
theorem ZNt (O : ZCR C a₀) (L : ZC8 prog w A E s kd a₀ C) {st : SortSt} {lo n nrem : Nat} {Q : DescSt -> SortSt -> Prop} (hn : lo + nrem <= a₀.size) (h1 : 1 <= n) (hnn : n <= nrem) (hB : TB kd a₀ st) (hs : ZJC C (arrOf st) lo n)
  (h : ∀ m, n <= m -> m <= nrem -> ZJC C (arrOf st) lo m -> Q (none, m, 0) st) : wpS (model prog w) A E s (ZIJ lo n nrem) Q st := by
 unfold ZIJ
 refine wpS_forRange (I := fun x c st' => st' = st /\ c = (none, x, 0) /\ ZJC C (arrOf st) lo x) ?step ?fin ⟨rfl, rfl, hs⟩
 case fin =>
  rintro c st' ⟨rfl, rfl, hs'⟩
  rw [show max n nrem = nrem by omega] at hs' ⊢
  exact h nrem hnn (Uc _) hs'
 case step =>
  rintro x c st' hax hxn ⟨rfl, rfl, hs'⟩
  dsimp only
  refine wpS_bind (ZEj L hB (by omega) (by omega) ?_)
  cases hless : C (G (arrOf st') (lo + x)) (G (arrOf st') (lo + x - 1))
  case true =>
   simp only [if_true]
   rw [if_neg (by omega)]
   refine wpS_pure ⟨rfl, rfl, fun i j hij hj => ?_⟩
   by_cases hjx : j < x
   ·exact hs' i j hij hjx
   ·have hj' : j = x := by omega
    subst hj'
    by_cases hi' : i = j - 1
    ·rw [hi', show lo + (j - 1) = lo + j - 1 by omega]; exact hless
    ·have := hs' i (j - 1) (by omega) (by omega)
     rw [show lo + (j - 1) = lo + j - 1 by omega] at this
     exact hB.tr O (by omega) (by omega) (by omega) hless this
  case false =>
   simp only [Uo, if_false]
   refine wpS_bind (ZEj L hB (by omega) (by omega) ?_)
   rw [hB.tot O (i := lo + x) (j := lo + x - 1) (by omega) (by omega) (by omega) hless]
   simp only [if_true]
   exact wpS_pure (h x hax (by omega) hs')
theorem ZMH (O : ZCR C a₀) (L : ZC8 prog w A E s kd a₀ C) {st : SortSt} {lo n nrem : Nat} {Q : Option Nat -> SortSt -> Prop} (hn : lo + nrem <= a₀.size) (hnn : n + 1 <= nrem) (hB : TB kd a₀ st) (hs : ZJC C (arrOf st) lo (n + 1))
  (h : ∀ m xs, TB kd a₀ (setArr st xs) -> Blw lo xs (arrOf st) -> 1 <= m -> m <= nrem -> Sg C xs lo m -> Q (some m) (setArr st xs)) : wpS (model prog w) A E s (ZFi lo n nrem) Q st := by
 unfold ZFi
 refine wpS_bind (wpS_lift (wpAny_rule ⟨rfl, ?_⟩))
 refine wpS_bind (ZNt O L hn (by omega) hnn hB hs fun m h1 h2 hm => ?_)
 dsimp only
 rw [if_neg (by omega)]
 exact ZNs O L hn (by omega) h2 hB hm h
theorem ZK7 (O : ZCR C a₀) (L : ZC8 prog w A E s kd a₀ C) {st : SortSt} {lo nrem : Nat} {Q : Option Nat -> SortSt -> Prop} (hn : lo + nrem <= a₀.size) (h1 : 1 <= nrem) (hB : TB kd a₀ st)
  (h : ∀ m xs, TB kd a₀ (setArr st xs) -> Blw lo xs (arrOf st) -> 1 <= m -> m <= nrem -> Sg C xs lo m -> Q (some m) (setArr st xs)) : wpS (model prog w) A E s (countRun' lo nrem) Q st := by
 rw [ZJB]
 have h0 : ∀ m, 1 <= m -> m <= nrem -> Sg C (arrOf st) lo m -> Q (some m) st := fun m g1 g2 g3 => h m (arrOf st) hB (fun _ _ => rfl) g1 g2 g3
 refine wpS_bind (ZKD O L hn (Uc _) h1 hB (fun i j hij hj => by omega) fun n hn1 hn2 hsn hend => ?_)
 dsimp only
 by_cases e : n = nrem
 ·rw [if_pos (by simpa using e)]
  exact wpS_pure (h0 n hn1 hn2 hsn)
 ·rw [if_neg (by simpa using e)]
  have hlt := hend.resolve_left e
  by_cases c : n > 1
  ·rw [if_pos c]
   refine wpS_bind (ZEj L hB (by omega) (by omega) ?_)
   have := hsn 0 (n - 1) (by omega) (by omega)
   rw [show lo + 0 = lo by omega, show lo + (n - 1) = lo + n - 1 by omega] at this
   rw [this]
   simp only [if_true]
   exact wpS_pure (h0 n hn1 hn2 hsn)
  ·rw [if_neg c]
   obtain rfl : n = 1 := by omega
   refine ZMH O L hn (by omega) hB (fun i j hij hj => ?_) h
   obtain ⟨rfl, rfl⟩ : i = 0 /\ j = 1 := by omega
   exact hlt
theorem ZGV {xs : Array Keyed} {src d : Nat} (hs : src < xs.size) (hd : d <= src) (k : Nat) : G (bubble xs src d) k = if k = src - d then G xs src else if src - d < k /\ k <= src then G xs (k - 1) else G xs k := by
 have := getElem?_bubble hs d hd k
 by_cases c : k = src - d
 ·rw [if_pos c] at this ⊢; exact ZGT this
 ·rw [if_neg c] at this ⊢
  by_cases c2 : src - d < k /\ k <= src
  ·rw [if_pos c2] at this ⊢; exact ZGT this
  ·rw [if_neg c2] at this ⊢; exact ZGT this
theorem ZNu (O : ZCR C a₀) (L : ZC8 prog w A E s kd a₀ C) {st : SortSt} {lo n ok : Nat} {Q : Bool -> SortSt -> Prop} (hn : lo + n <= a₀.size) (h1 : 1 <= ok) (hok : ok <= n) (hB : TB kd a₀ st) (hs : Sg C (arrOf st) lo ok)
  (h : ∀ xs, TB kd a₀ (setArr st xs) -> Blw lo xs (arrOf st) -> Sg C xs lo n -> Q true (setArr st xs)) : wpS (model prog w) A E s (binarySort' lo n ok) Q st := by
 rw [binarySort'_eq]
 refine wpS_bind (wpS_mono (wpS_forRange (I := fun k c st' => c = (none, ()) /\ ∃ xs, st' = setArr st xs /\ TB kd a₀ st' /\ Blw lo xs (arrOf st) /\ Sg C xs lo (min k n))
  (Q := fun c st' => c = (none, ()) /\ ∃ xs, st' = setArr st xs /\ TB kd a₀ st' /\ Blw lo xs (arrOf st) /\ Sg C xs lo n) ?step ?fin ?init) ?post)
 case post =>
  rintro c st' ⟨rfl, xs, rfl, hB', hb, hs'⟩
  exact wpS_pure (h xs hB' hb hs')
 case init =>
  refine ⟨rfl, arrOf st, rfl, hB, fun _ _ => rfl, fun i j hij hj => hs i j hij (by omega)⟩
 case fin =>
  rintro c st' ⟨hc, xs, e, hB', hb, hs'⟩
  refine ⟨hc, xs, e, hB', hb, ?_⟩
  rwa [show min (max (max ok 1) n) n = n by omega] at hs'
 case step =>
  rintro k c st' hak hkn ⟨rfl, xs, rfl, hB', hb, hs'⟩
  rw [show min k n = k by omega] at hs'
  refine wpS_bind (wpS_mono (wpS_forRange (I := fun x c st'' => st'' = setArr st xs /\ ∃ l r, c = (none, l, r) /\ l <= r /\ r <= k /\ r - l <= k - x /\
    (∀ i, i < l -> C (G xs (lo + i)) (G xs (lo + k)) = true) /\ (∀ i, r <= i -> i < k -> C (G xs (lo + k)) (G xs (lo + i)) = true))
   (Q := fun c st'' => st'' = setArr st xs /\ ∃ l r, c = (none, l, r) /\ l <= k /\
    (∀ i, i < l -> C (G xs (lo + i)) (G xs (lo + k)) = true) /\ (∀ i, l <= i -> i < k -> C (G xs (lo + k)) (G xs (lo + i)) = true)) ?istep ?ifin ?iinit) ?ipost)
  case iinit => exact ⟨rfl, 0, k, rfl, by omega, by omega, by omega, fun i hi => by omega, fun i h1 h2 => by omega⟩
  case ifin =>
   rintro c st'' ⟨rfl, l, r, rfl, hlr, hrk, hm, hlo, hhi⟩
   have : l = r := by omega
   subst this
   exact ⟨rfl, l, l, rfl, hrk, hlo, hhi⟩
  case istep =>
   rintro x c st'' _ hxk ⟨rfl, l, r, rfl, hlr, hrk, hm, hlo, hhi⟩
   dsimp only
   by_cases hge : l >= r
   ·rw [if_pos hge]
    have : l = r := by omega
    subst this
    exact wpS_pure ⟨rfl, l, l, rfl, hrk, hlo, hhi⟩
   ·rw [if_neg hge]
    refine wpS_bind (ZEj L hB' (by omega) (by omega) ?_)
    cases hless : C (G (arrOf (setArr st xs)) (lo + k)) (G (arrOf (setArr st xs)) (lo + (l + r) / 2))
    case true =>
     simp only [if_true]
     refine wpS_pure ⟨rfl, l, (l + r) / 2, rfl, by omega, by omega, by omega, hlo, fun i h1 h2 => ?_⟩
     by_cases e : i = (l + r) / 2
     ·rw [e]; exact hless
     ·exact hB'.tr O (i := lo + k) (j := lo + (l + r) / 2) (k := lo + i) (by omega) (by omega) (by omega) hless (hs' _ _ (by omega) h2)
    case false =>
     simp only [Uo, if_false]
     have hup := hB'.tot O (i := lo + k) (j := lo + (l + r) / 2) (by omega) (by omega) (by omega) hless
     refine wpS_pure ⟨rfl, (l + r) / 2 + 1, r, rfl, by omega, by omega, by omega, fun i hi => ?_, hhi⟩
     by_cases e : i = (l + r) / 2
     ·rw [e]; exact hup
     ·exact hB'.tr O (i := lo + i) (j := lo + (l + r) / 2) (k := lo + k) (by omega) (by omega) (by omega) (hs' _ _ (by omega) (by omega)) hup
  case ipost =>
   rintro c st'' ⟨rfl, l, r, rfl, hlk, hlo, hhi⟩
   dsimp only
   rw [moveDown'_eq]
   have hsz : lo + k < (arrOf (setArr st xs)).size := by rw [hB'.size]; omega
   have hd : lo + k - (lo + l) <= lo + k := by omega
   refine wpS_bind (wpS_modify (wpS_pure ⟨rfl, bubble xs (lo + k) (lo + k - (lo + l)), rfl, hB'.setArr (bubble_perm _ _ _), fun m hm => ?_, fun i j hij hj => ?_⟩))
   ·rw [ZGV hsz hd, if_neg (by omega), if_neg (by omega)]
    exact hb m hm
   ·rw [show min (k + 1) n = k + 1 by omega] at hj
    rw [ZGV hsz hd, ZGV hsz hd, show lo + k - (lo + k - (lo + l)) = lo + l by omega]
    by_cases ci : i < l
    ·rw [if_neg (by omega), if_neg (by omega)]
     by_cases cj : j < l
     ·rw [if_neg (by omega), if_neg (by omega)]; exact hs' i j hij (by omega)
     ·by_cases cj2 : j = l
      ·rw [if_pos (by omega)]; exact hlo i ci
      ·rw [if_neg (by omega), if_pos (by omega), show lo + j - 1 = lo + (j - 1) by omega]
       exact hs' i (j - 1) (by omega) (by omega)
    ·by_cases ci2 : i = l
     ·rw [if_pos (by omega), if_neg (by omega), if_pos (by omega), show lo + j - 1 = lo + (j - 1) by omega]
      exact hhi (j - 1) (by omega) (by omega)
     ·rw [if_neg (by omega), if_pos (by omega), if_neg (by omega), if_pos (by omega), show lo + i - 1 = lo + (i - 1) by omega, show lo + j - 1 = lo + (j - 1) by omega]
      exact hs' (i - 1) (j - 1) (by omega) (by omega)
end
def ZD9 : Bool -> Keyed -> Array Keyed -> Nat -> Nat -> Nat -> StateT SortSt Sem (Option Nat) := sortPriv% PySem.Builtin.gallop
def ZDc (left : Bool) (key : Keyed) (arr : Array Keyed) (base i : Nat) : StateT SortSt Sem (Option Bool) := do
 let x <- elem' arr (base + i)
 if left then lt' x key else return (<- lt' key x).map (!·)
def ZJD (left : Bool) (key : Keyed) (arr : Array Keyed) (base n hint : Nat) : StateT SortSt Sem (Option (Option Nat) × Nat × Nat) :=
 forIn [0:n] ((none, 0, 1) : Option (Option Nat) × Nat × Nat) fun _ s =>
  if s.2.2 >= n - hint then pure (ForInStep.done (none, s.2.1, s.2.2)) else do
   let x <- ZDc left key arr base (hint + s.2.2)
   match x with
   | some more => if (!more) = true then pure (ForInStep.done (none, s.2.1, s.2.2)) else pure (ForInStep.yield (none, s.2.2, 2 * s.2.2 + 1))
   | _ => pure (ForInStep.done (some none, s.2.1, s.2.2))
def ZJE (left : Bool) (key : Keyed) (arr : Array Keyed) (base n hint : Nat) : StateT SortSt Sem (Option (Option Nat) × Nat × Nat) :=
 forIn [0:n] ((none, 0, 1) : Option (Option Nat) × Nat × Nat) fun _ s =>
  if s.2.2 >= hint + 1 then pure (ForInStep.done (none, s.2.1, s.2.2)) else do
   let x <- ZDc left key arr base (hint - s.2.2)
   match x with
   | some found => if found = true then pure (ForInStep.done (none, s.2.1, s.2.2)) else pure (ForInStep.yield (none, s.2.2, 2 * s.2.2 + 1))
   | _ => pure (ForInStep.done (some none, s.2.1, s.2.2))
def ZGy (left : Bool) (key : Keyed) (arr : Array Keyed) (base n lo hi : Nat) : StateT SortSt Sem (Option (Option Nat) × Nat × Nat) :=
 forIn [0:n] ((none, lo, hi) : Option (Option Nat) × Nat × Nat) fun _ s =>
  if s.2.1 >= s.2.2 then pure (ForInStep.done (none, s.2.1, s.2.2)) else do
   let x <- ZDc left key arr base (s.2.1 + (s.2.2 - s.2.1) / 2)
   match x with
   | some more => if more = true then pure (ForInStep.yield (none, s.2.1 + (s.2.2 - s.2.1) / 2 + 1, s.2.2)) else pure (ForInStep.yield (none, s.2.1, s.2.1 + (s.2.2 - s.2.1) / 2))
   | _ => pure (ForInStep.done (some none, s.2.1, s.2.2))
def ZHL (left : Bool) (key : Keyed) (arr : Array Keyed) (base n lo hi : Nat) : StateT SortSt Sem (Option Nat) := do
 let s <- ZGy left key arr base n lo hi
 match s.1 with
 | some r => pure r
 | none => pure (some s.2.2)
theorem ZK8 (left : Bool) (key : Keyed) (arr : Array Keyed) (base n hint : Nat) : ZD9 left key arr base n hint = (do
 let x <- ZDc left key arr base hint
 match x with
 | some right =>
  if right = true then do
   let s <- ZJD left key arr base n hint
   match s.1 with
   | some r => pure r
   | none => ZHL left key arr base n (hint + s.2.1 + 1) (hint + min s.2.2 (n - hint))
  else do
   let s <- ZJE left key arr base n hint
   match s.1 with
   | some r => pure r
   | none => ZHL left key arr base n (hint + 1 - min s.2.2 (hint + 1)) (hint - s.2.1)
 | _ => pure none) := by
 refine congrArg (Bind.bind (ZDc left key arr base hint)) (funext fun x => ?_)
 cases x with
 | none => rfl
 | some right =>
  dsimp only
  cases right with
  | true =>
   rw [if_pos rfl, if_pos rfl]
   unfold ZJD
   refine congrArg (Bind.bind _) (funext fun s => ?_)
   obtain ⟨r, l, o⟩ := s
   cases r with
   | some r => rfl
   | none =>
    dsimp only
    unfold ZHL ZGy
    refine congrArg (Bind.bind _) (funext fun s => ?_)
    obtain ⟨r, l, o⟩ := s
    cases r <;> rfl
  | false =>
   rw [if_neg (by decide), if_neg (by decide)]
   unfold ZJE
   refine congrArg (Bind.bind _) (funext fun s => ?_)
   obtain ⟨r, l, o⟩ := s
   cases r with
   | some r => rfl
   | none =>
    dsimp only
    unfold ZHL ZGy
    refine congrArg (Bind.bind _) (funext fun s => ?_)
    obtain ⟨r, l, o⟩ := s
    cases r <;> rfl
section
variable {prog : Program} {w : World} {A : Around} {E : Value -> Shared -> Prop} {s : Shared} {kd : SortKind} {st : SortSt} {left : Bool} {key : Keyed} {arr : Array Keyed} {base n : Nat} {P : Nat -> Bool}
def ZK9 (prog : Program) (w : World) (A : Around) (E : Value -> Shared -> Prop) (s : Shared) (st : SortSt) (left : Bool) (key : Keyed) (arr : Array Keyed) (base n : Nat) (P : Nat -> Bool) : Prop := ∀ i, i < n -> ∀ (Q : Option Bool -> SortSt -> Prop), Q (some (P i)) st -> wpS (model prog w) A E s (ZDc left key arr base i) Q st
theorem ZJF {lo hi : Nat} {Q : Option Nat -> SortSt -> Prop} (B : ZK9 prog w A E s st left key arr base n P) (mono : ∀ i j, i <= j -> j < n -> P j = true -> P i = true) (hlh : lo <= hi) (hn : hi <= n) (h1 : ∀ i, i < lo -> P i = true) (h2 : ∀ i, hi <= i -> i < n -> P i = false)
  (h : ∀ r, r <= n -> (∀ i, i < r -> P i = true) -> (∀ i, r <= i -> i < n -> P i = false) -> Q (some r) st) : wpS (model prog w) A E s (ZHL left key arr base n lo hi) Q st := by
 unfold ZHL ZGy
 refine wpS_bind (wpS_mono (wpS_forRange (I := fun x c st' => st' = st /\ ∃ l r, c = (none, l, r) /\ l <= r /\ r <= n /\ r - l <= n - x /\ (∀ i, i < l -> P i = true) /\ (∀ i, r <= i -> i < n -> P i = false))
  (Q := fun c st' => st' = st /\ ∃ r, c = (none, r, r) /\ r <= n /\ (∀ i, i < r -> P i = true) /\ (∀ i, r <= i -> i < n -> P i = false)) ?step ?fin ⟨rfl, lo, hi, rfl, hlh, hn, by omega, h1, h2⟩) ?post)
 case post =>
  rintro c st' ⟨rfl, r, rfl, hr, g1, g2⟩
  exact wpS_pure (h r hr g1 g2)
 case fin =>
  rintro c st' ⟨rfl, l, r, rfl, hlr, hr, hm, g1, g2⟩
  obtain rfl : l = r := by omega
  exact ⟨rfl, l, rfl, hr, g1, g2⟩
 case step =>
  rintro x c st' _ hx ⟨rfl, l, r, rfl, hlr, hr, hm, g1, g2⟩
  dsimp only
  by_cases c : l >= r
  ·rw [if_pos c]
   obtain rfl : l = r := by omega
   exact wpS_pure ⟨rfl, l, rfl, hr, g1, g2⟩
  ·rw [if_neg c]
   refine wpS_bind (B _ (by omega) _ ?_)
   cases hp : P (l + (r - l) / 2)
   case true =>
    simp only [if_true]
    refine wpS_pure ⟨rfl, _, _, rfl, by omega, by omega, by omega, fun i hi => ?_, g2⟩
    exact mono i _ (by omega) (by omega) hp
   case false =>
    simp only [Uo, if_false]
    refine wpS_pure ⟨rfl, _, _, rfl, by omega, by omega, by omega, g1, fun i hi hin => ?_⟩
    cases hpi : P i with
    | false => rfl
    | true => rw [mono _ i hi hin hpi] at hp; cases hp
theorem ZEA {hint : Nat} {Q : Option Nat -> SortSt -> Prop} (B : ZK9 prog w A E s st left key arr base n P) (mono : ∀ i j, i <= j -> j < n -> P j = true -> P i = true) (hh : hint < n)
  (h : ∀ r, r <= n -> (∀ i, i < r -> P i = true) -> (∀ i, r <= i -> i < n -> P i = false) -> Q (some r) st) : wpS (model prog w) A E s (ZD9 left key arr base n hint) Q st := by
 rw [ZK8]
 have fls : ∀ {j}, P j = false -> ∀ i, j <= i -> i < n -> P i = false := fun {j} hj i hji hin => by
  cases hpi : P i with
  | false => rfl
  | true => rw [mono _ i hji hin hpi] at hj; cases hj
 refine wpS_bind (B _ hh _ ?_)
 cases hp : P hint
 case true =>
  dsimp only
  rw [if_pos rfl]
  unfold ZJD
  refine wpS_bind (wpS_mono (wpS_forRange (I := fun x c st' => st' = st /\ ∃ l o, c = (none, l, o) /\ l < o /\ hint + l < n /\ x + 1 <= o /\ P (hint + l) = true)
   (Q := fun c st' => st' = st /\ ∃ l o, c = (none, l, o) /\ l < o /\ hint + l < n /\ P (hint + l) = true /\ (n - hint <= o \/ (hint + o < n /\ P (hint + o) = false))) ?step ?fin ⟨rfl, 0, 1, rfl, by omega, by omega, by omega, hp⟩) ?post)
  case post =>
   rintro c st' ⟨rfl, l, o, rfl, hlo, hl, hpl, hend⟩
   dsimp only
   refine ZJF B mono (by omega) (by omega) (fun i hi => mono i _ (by omega) hl hpl) (fun i hi hin => ?_) h
   rcases hend with he | ⟨he1, he2⟩
   ·omega
   ·exact fls he2 i (by omega) hin
  case fin =>
   rintro c st' ⟨rfl, l, o, rfl, hlo, hl, hx, hpl⟩
   exact ⟨rfl, l, o, rfl, hlo, hl, hpl, .inl (by omega)⟩
  case step =>
   rintro x c st' _ hx ⟨rfl, l, o, rfl, hlo, hl, hxo, hpl⟩
   dsimp only
   by_cases c : o >= n - hint
   ·rw [if_pos c]
    exact wpS_pure ⟨rfl, l, o, rfl, hlo, hl, hpl, .inl c⟩
   ·rw [if_neg c]
    refine wpS_bind (B _ (by omega) _ ?_)
    cases hpo : P (hint + o)
    case true =>
     simp only [Bool.not_true, Uo, if_false]
     exact wpS_pure ⟨rfl, o, _, rfl, by omega, by omega, by omega, hpo⟩
    case false =>
     simp only [Bool.not_false, if_true]
     exact wpS_pure ⟨rfl, l, o, rfl, hlo, hl, hpl, .inr ⟨by omega, hpo⟩⟩
 case false =>
  dsimp only
  rw [if_neg (by decide)]
  unfold ZJE
  refine wpS_bind (wpS_mono (wpS_forRange (I := fun x c st' => st' = st /\ ∃ l o, c = (none, l, o) /\ l < o /\ l <= hint /\ x + 1 <= o /\ P (hint - l) = false)
   (Q := fun c st' => st' = st /\ ∃ l o, c = (none, l, o) /\ l < o /\ l <= hint /\ P (hint - l) = false /\ (hint + 1 <= o \/ (o <= hint /\ P (hint - o) = true))) ?step ?fin ⟨rfl, 0, 1, rfl, by omega, by omega, by omega, hp⟩) ?post)
  case post =>
   rintro c st' ⟨rfl, l, o, rfl, hlo, hl, hpl, hend⟩
   dsimp only
   refine ZJF B mono (by omega) (by omega) (fun i hi => ?_) (fun i hi hin => fls hpl i (by omega) hin) h
   rcases hend with he | ⟨he1, he2⟩
   ·omega
   ·exact mono i _ (by omega) (by omega) he2
  case fin =>
   rintro c st' ⟨rfl, l, o, rfl, hlo, hl, hx, hpl⟩
   exact ⟨rfl, l, o, rfl, hlo, hl, hpl, .inl (by omega)⟩
  case step =>
   rintro x c st' _ hx ⟨rfl, l, o, rfl, hlo, hl, hxo, hpl⟩
   dsimp only
   by_cases c : o >= hint + 1
   ·rw [if_pos c]
    exact wpS_pure ⟨rfl, l, o, rfl, hlo, hl, hpl, .inl c⟩
   ·rw [if_neg c]
    refine wpS_bind (B _ (by omega) _ ?_)
    cases hpo : P (hint - o)
    case true =>
     simp only [if_true]
     exact wpS_pure ⟨rfl, l, o, rfl, hlo, hl, hpl, .inr ⟨by omega, hpo⟩⟩
    case false =>
     simp only [Uo, if_false]
     exact wpS_pure ⟨rfl, o, _, rfl, by omega, by omega, by omega, hpo⟩
end
def ZF3 : Nat -> StateT SortSt Sem Unit := sortPriv% PySem.Builtin.setMinGallop
abbrev ZB9 (st : SortSt) (g : Nat) : SortSt := SortSt.mk' (kindOf st) (arrOf st) (pendingOf st) g (failedOf st)
theorem ZFA (g : Nat) : ZF3 g = modify fun s => ZB9 s g := rfl
theorem ZGz {prog : Program} {w : World} {A : Around} {E : Value -> Shared -> Prop} {s : Shared} {st : SortSt} {g : Nat} {Q : Unit -> SortSt -> Prop} (h : Q () (ZB9 st g)) : wpS (model prog w) A E s (ZF3 g) Q st := by rw [ZFA]; exact wpS_modify h
def ZNv : Array Keyed -> Array Keyed -> StateT SortSt Sem (Array Keyed) := sortPriv% PySem.Builtin.mergeLo
def MI (C : Cmp) (la lb o : List Keyed) (ia ib : Nat) : Prop := o.Perm (la.take ia ++ lb.take ib) /\ o.Pairwise (fun x y => C x y = true) /\ ∀ x ∈ o, (∀ y ∈ la.drop ia, C x y = true) /\ ∀ y ∈ lb.drop ib, C x y = true
section
variable {C : Cmp} {la lb o : List Keyed} {ia ib : Nat}
theorem MI.symm (h : MI C la lb o ia ib) : MI C lb la o ib ia := ⟨h.1.trans List.perm_append_comm, h.2.1, fun x hx => ⟨(h.2.2 x hx).2, (h.2.2 x hx).1⟩⟩
theorem MI.seg (h : MI C la lb o ia ib) (sa : la.Pairwise fun x y => C x y = true) {k : Nat} (hc : ∀ x ∈ (la.drop ia).take k, ∀ y ∈ lb.drop ib, C x y = true) : MI C la lb (o ++ (la.drop ia).take k) (ia + k) ib := by
 have e : la.take (ia + k) = la.take ia ++ (la.drop ia).take k := by rw [List.take_add]
 have ed : la.drop ia = (la.drop ia).take k ++ la.drop (ia + k) := by rw [<- List.drop_drop, List.take_append_drop]
 have sd : (la.drop ia).Pairwise fun x y => C x y = true := sa.sublist (List.drop_sublist _ _)
 have sd2 := sd
 rw [ed, List.pairwise_append] at sd2
 refine ⟨?_, ?_, fun x hx => ?_⟩
 ·rw [e]
  refine (h.1.append_right _).trans ?_
  rw [UY, UY]
  exact List.Perm.append_left _ List.perm_append_comm
 ·rw [List.pairwise_append]
  exact ⟨h.2.1, sd2.1, fun x hx y hy => (h.2.2 x hx).1 y (List.mem_of_mem_take hy)⟩
 ·rcases UR.mp hx with hx | hx
  ·exact ⟨fun y hy => (h.2.2 x hx).1 y (by rw [ed]; exact Ul _ hy), (h.2.2 x hx).2⟩
  ·exact ⟨fun y hy => sd2.2.2 x hx y hy, hc x hx⟩
theorem MI.doneB (h : MI C la lb o ia lb.length) (sa : la.Pairwise fun x y => C x y = true) : (o ++ la.drop ia).Perm (la ++ lb) /\ (o ++ la.drop ia).Pairwise fun x y => C x y = true := by
 have := h.seg sa (k := (la.drop ia).length) (fun x _ y hy => by rw [List.drop_length] at hy; cases hy)
 rw [UT] at this
 refine ⟨?_, this.2.1⟩
 have h1 := this.1
 rw [UT, List.length_drop] at h1
 by_cases c : ia <= la.length
 ·rw [show ia + (la.length - ia) = la.length by omega, UT] at h1
  exact h1
 ·rw [List.take_of_length_le (by omega)] at h1
  exact h1
theorem MI.lastA (O : ∀ x y z, C x y = true -> C y z = true -> C x z = true) (h : MI C la lb o ia ib) (sb : lb.Pairwise fun x y => C x y = true) (sa : la.Pairwise fun x y => C x y = true) (hl : ∀ y ∈ lb, ∀ x ∈ la.drop ia, C y x = true) : (o ++ lb.drop ib ++ la.drop ia).Perm (la ++ lb) /\ (o ++ lb.drop ib ++ la.drop ia).Pairwise fun x y => C x y = true := by
 have h1 := h.symm.seg sb (k := (lb.drop ib).length) (fun x hx y hy => hl x (List.mem_of_mem_drop (List.mem_of_mem_take hx)) y hy)
 rw [UT, List.length_drop] at h1
 have h2 : MI C lb la (o ++ lb.drop ib) lb.length ia := by
  by_cases c : ib <= lb.length
  ·rw [show ib + (lb.length - ib) = lb.length by omega] at h1
   exact h1
  ·refine ⟨?_, h1.2.1, fun x hx => ⟨(fun y hy => by rw [List.drop_length] at hy; cases hy), (h1.2.2 x hx).2⟩⟩
   have := h1.1
   rw [List.take_of_length_le (by omega)] at this
   rw [UT]
   exact this
 have h3 := h2.symm.doneB sa
 exact h3
end
theorem ZMI {xs : Array Keyed} {i : Nat} (h : i < xs.size) : xs.toList.drop i = G xs i :: xs.toList.drop (i + 1) := by
 have h' : i < xs.toList.length := by rw [Uf]; exact h
 rw [List.drop_eq_getElem_cons h']
 congr 1
 simp [G, Array.getD, h]
theorem ZFB {xs : Array Keyed} {i : Nat} (h : i < xs.size) : (xs.toList.drop i).take 1 = [G xs i] := by rw [ZMI h]; rfl
theorem ZEE {xs : Array Keyed} {i : Nat} {x : Keyed} (h : x ∈ xs.toList.drop i) : ∃ j, i <= j /\ j < xs.size /\ x = G xs j := by
 obtain ⟨k, hk, e⟩ := List.getElem_of_mem h
 rw [List.length_drop, Uf] at hk
 refine ⟨i + k, by omega, by omega, ?_⟩
 rw [<- e]
 simp [G, Array.getD, show i + k < xs.size by omega]
theorem ZG0 {xs : Array Keyed} {i k : Nat} {x : Keyed} (h : x ∈ (xs.toList.drop i).take k) : ∃ j, j < k /\ i + j < xs.size /\ x = G xs (i + j) := by
 obtain ⟨j, hj, e⟩ := List.getElem_of_mem h
 rw [UK, List.length_drop, Uf] at hj
 refine ⟨j, by omega, by omega, ?_⟩
 rw [<- e]
 simp [G, Array.getD, show i + j < xs.size by omega]
theorem ZCj {xs : Array Keyed} {i : Nat} (h : i < xs.size) : G xs i ∈ xs.toList := by
 have := ZGS h
 exact Array.mem_toList_iff.mpr (Array.mem_of_getElem? this)
theorem ZEV {C : Cmp} {xs : Array Keyed} (h : xs.toList.Pairwise fun x y => C x y = true) {i j : Nat} (hij : i < j) (hj : j < xs.size) : C (G xs i) (G xs j) = true := by
 have := US.mp h i j (by rw [Uf]; omega) (by rw [Uf]; omega) hij
 simpa [G, Array.getD, hj, show i < xs.size by omega] using this
structure MP (C : Cmp) (a₀ a b : Array Keyed) : Prop where
 ma : ∀ x ∈ a.toList, x ∈ a₀.toList
 mb : ∀ x ∈ b.toList, x ∈ a₀.toList
 ne : ∀ x ∈ a.toList, ∀ y ∈ b.toList, x ≠ y
 sa : a.toList.Pairwise fun x y => C x y = true
 sb : b.toList.Pairwise fun x y => C x y = true
 a1 : 1 <= a.size
 b1 : 1 <= b.size
 h0 : C (G b 0) (G a 0) = true
 hl : C (G b (b.size - 1)) (G a (a.size - 1)) = true
def MOk (C : Cmp) (a b r : Array Keyed) : Prop := r.toList.Perm (a.toList ++ b.toList) /\ r.toList.Pairwise fun x y => C x y = true
section
variable {prog : Program} {w : World} {A : Around} {E : Value -> Shared -> Prop} {s : Shared} {kd : SortKind} {a₀ a b : Array Keyed} {C : Cmp} {st : SortSt}
theorem MP.last (O : ZCR C a₀) (M : MP C a₀ a b) {j : Nat} (hj : j < b.size) : C (G b j) (G a (a.size - 1)) = true := by
 by_cases c : j = b.size - 1
 ·rw [c]; exact M.hl
 ·exact O.tr _ _ _ (ZEV M.sb (by omega) (by omega)) M.hl
theorem ZNw (L : ZC8 prog w A E s kd a₀ C) (hk : kindOf st = kd) {key : Keyed} {arr : Array Keyed} {base n : Nat} (hkey : key ∈ a₀.toList) (harr : ∀ x ∈ arr.toList, x ∈ a₀.toList) (hn : base + n <= arr.size) : ZK9 prog w A E s st false key arr base n (fun i => !C key (G arr (base + i))) := fun i hi Q h => by
 unfold ZDc
 rw [elem'_eq, ZGS (xs := arr) (i := base + i) (by omega)]
 refine wpS_bind (wpS_pure ?_)
 simp only [Uo, if_false]
 refine wpS_bind (L _ hkey _ (harr _ (ZCj (by omega))) st _ hk ?_)
 exact wpS_pure h
theorem ZNx (L : ZC8 prog w A E s kd a₀ C) (hk : kindOf st = kd) {key : Keyed} {arr : Array Keyed} {base n : Nat} (hkey : key ∈ a₀.toList) (harr : ∀ x ∈ arr.toList, x ∈ a₀.toList) (hn : base + n <= arr.size) : ZK9 prog w A E s st true key arr base n (fun i => C (G arr (base + i)) key) := fun i hi Q h => by
 unfold ZDc
 rw [elem'_eq, ZGS (xs := arr) (i := base + i) (by omega)]
 refine wpS_bind (wpS_pure ?_)
 simp only [if_true]
 exact L _ (harr _ (ZCj (by omega))) _ hkey st _ hk h
theorem ZMJ (O : ZCR C a₀) {key : Keyed} {arr : Array Keyed} {base n : Nat} (sa : arr.toList.Pairwise fun x y => C x y = true) (hn : base + n <= arr.size) : ∀ i j, i <= j -> j < n -> (!C key (G arr (base + j))) = true -> (!C key (G arr (base + i))) = true := fun i j hij hj h => by
 rw [Bool.not_eq_true'] at h ⊢
 by_cases e : i = j
 ·rw [e]; exact h
 ·cases hc : C key (G arr (base + i)) with
  | false => rfl
  | true => rw [O.tr _ _ _ hc (ZEV sa (show base + i < base + j by omega) (by omega))] at h; cases h
theorem ZMK (O : ZCR C a₀) {key : Keyed} {arr : Array Keyed} {base n : Nat} (sa : arr.toList.Pairwise fun x y => C x y = true) (hn : base + n <= arr.size) : ∀ i j, i <= j -> j < n -> C (G arr (base + j)) key = true -> C (G arr (base + i)) key = true := fun i j hij hj h => by
 by_cases e : i = j
 ·rw [e]; exact h
 ·exact O.tr _ _ _ (ZEV sa (show base + i < base + j by omega) (by omega)) h
theorem ZCK {arr : Array Keyed} {i : Nat} {Q : Keyed -> SortSt -> Prop} (hi : i < arr.size) (h : Q (G arr i) st) : wpS (model prog w) A E s (elem' arr i) Q st := by
 rw [elem'_eq, ZGS hi]
 exact wpS_pure h
theorem MI.pushB (O : ZCR C a₀) (M : MP C a₀ a b) {o : List Keyed} {ia ib : Nat} (h : MI C a.toList b.toList o ia ib) (ha : ia < a.size) (hb : ib < b.size) (hc : C (G b ib) (G a ia) = true) : MI C a.toList b.toList (o ++ [G b ib]) ia (ib + 1) := by
 have := h.symm.seg M.sb (k := 1) fun x hx y hy => by
  rw [ZFB hb] at hx
  rw [List.mem_singleton.mp hx]
  obtain ⟨j, hj, hj2, rfl⟩ := ZEE hy
  by_cases e : j = ia
  ·rw [e]; exact hc
  ·exact O.tr _ _ _ hc (ZEV M.sa (by omega) hj2)
 rw [ZFB hb] at this
 exact this.symm
theorem MI.pushA (O : ZCR C a₀) (M : MP C a₀ a b) {o : List Keyed} {ia ib : Nat} (h : MI C a.toList b.toList o ia ib) (ha : ia < a.size) (hb : ib < b.size) (hc : C (G b ib) (G a ia) = false) : MI C a.toList b.toList (o ++ [G a ia]) (ia + 1) ib := by
 have hab : C (G a ia) (G b ib) = true := O.tot _ (M.mb _ (ZCj hb)) _ (M.ma _ (ZCj ha)) (fun e => M.ne _ (ZCj ha) _ (ZCj hb) e.symm) hc
 have := h.seg M.sa (k := 1) fun x hx y hy => by
  rw [ZFB ha] at hx
  rw [List.mem_singleton.mp hx]
  obtain ⟨j, hj, hj2, rfl⟩ := ZEE hy
  by_cases e : j = ib
  ·rw [e]; exact hab
  ·exact O.tr _ _ _ hab (ZEV M.sb (by omega) hj2)
 rw [ZFB ha] at this
 exact this
theorem ZCZ (xs : Array Keyed) (i j : Nat) : (xs.extract i j).toList = (xs.toList.drop i).take (j - i) := by rw [Array.toList_extract]
theorem ZCw (xs : Array Keyed) (i : Nat) : (xs.extract i xs.size).toList = xs.toList.drop i := by
 rw [ZCZ, List.take_of_length_le (by rw [List.length_drop, Uf]; exact Uc _)]
theorem ZEF (M : MP C a₀ a b) {out : Array Keyed} {ia ib : Nat} (h : MI C a.toList b.toList out.toList ia ib) (hb : ib = b.size) : MOk C a b (out ++ a.extract ia a.size ++ b.extract ib b.size) := by
 unfold MOk
 rw [Us, Us, ZCw, ZCw, hb, <- Uf, List.drop_length, List.append_nil]
 rw [hb, <- Uf] at h
 exact h.doneB M.sa
theorem ZEG (O : ZCR C a₀) (M : MP C a₀ a b) {out : Array Keyed} {ia ib : Nat} (h : MI C a.toList b.toList out.toList ia ib) (ha : ia + 1 = a.size) : MOk C a b (out ++ b.extract ib b.size ++ a.extract ia a.size) := by
 unfold MOk
 rw [Us, Us, ZCw, ZCw]
 refine h.lastA O.tr M.sb M.sa fun y hy x hx => ?_
 obtain ⟨j, hj, hj2, rfl⟩ := ZEE hx
 obtain ⟨i, _, hi, rfl⟩ := ZEE (i := 0) (x := y) (xs := b) (by simpa using hy)
 rw [show j = a.size - 1 by omega]
 exact M.last O hi
abbrev MSt := Option (Array Keyed) × Array Keyed × Nat × Nat × Nat × Nat × Nat
def gl3 (a b out : Array Keyed) (ia ib mg k k1 : Nat) : StateT SortSt Sem (ForInStep MSt) := do
 let x <- elem' a ia
 if (ia + 1 + 1 == a.size) = true then pure (.done (some (out.push x ++ b.extract ib b.size ++ a.extract (ia + 1) a.size), out.push x, ia + 1, ib, mg, k, k1))
 else if (decide (k < 7) && decide (k1 < 7)) = true then pure (.done (none, out.push x, ia + 1, ib, mg, k, k1))
 else pure (.yield (none, out.push x, ia + 1, ib, mg, k, k1))
def gl2 (a b out : Array Keyed) (ia ib mg k bc : Nat) : StateT SortSt Sem (ForInStep MSt) := do
 let y <- elem' b ib
 if (ib + 1 == b.size) = true then pure (.done (some (out.push y ++ a.extract ia a.size ++ b.extract (ib + 1) b.size), out.push y, ia, ib + 1, mg, k, bc))
 else do
  let z <- elem' a ia
  let x <- ZD9 true z b (ib + 1) (b.size - (ib + 1)) 0
  match x with
  | some k1 =>
   if k1 > 0 then
    if (ib + 1 + k1 == b.size) = true then pure (.done (some (out.push y ++ b.extract (ib + 1) (ib + 1 + k1) ++ a.extract ia a.size ++ b.extract (ib + 1 + k1) b.size), out.push y ++ b.extract (ib + 1) (ib + 1 + k1), ia, ib + 1 + k1, mg, k, k1))
    else gl3 a b (out.push y ++ b.extract (ib + 1) (ib + 1 + k1)) ia (ib + 1 + k1) mg k k1
   else gl3 a b (out.push y) ia (ib + 1) mg k k1
  | x => pure (.done (some (out.push y ++ a.extract ia a.size ++ b.extract (ib + 1) b.size), out.push y, ia, ib + 1, mg, k, bc))
def gl1 (a b out : Array Keyed) (ia ib mg bc ac : Nat) : StateT SortSt Sem (ForInStep MSt) := do
 ZF3 mg
 let y <- elem' b ib
 let x <- ZD9 false y a ia (a.size - ia) 0
 match x with
 | some k =>
  if k > 0 then
   if (ia + k + 1 == a.size) = true then pure (.done (some (out ++ a.extract ia (ia + k) ++ b.extract ib b.size ++ a.extract (ia + k) a.size), out ++ a.extract ia (ia + k), ia + k, ib, mg, k, bc))
   else if (ia + k == a.size) = true then pure (.done (some (out ++ a.extract ia (ia + k) ++ a.extract (ia + k) a.size ++ b.extract ib b.size), out ++ a.extract ia (ia + k), ia + k, ib, mg, k, bc))
   else gl2 a b (out ++ a.extract ia (ia + k)) (ia + k) ib mg k bc
  else gl2 a b out ia ib mg k bc
 | x => pure (.done (some (out ++ a.extract ia a.size ++ b.extract ib b.size), out, ia, ib, mg, ac, bc))
theorem ZKE (O : ZCR C a₀) (M : MP C a₀ a b) {T : ForInStep MSt -> SortSt -> Prop} {lo : Nat} (hd : ∀ r c, MOk C a b r -> T (.done (some r, c)) st)
  (hn : ∀ out ia ib mg k k1, MI C a.toList b.toList out.toList ia ib -> ia + 1 < a.size -> ib < b.size -> lo <= ia + ib -> T (.done (none, out, ia, ib, mg, k, k1)) st /\ T (.yield (none, out, ia, ib, mg, k, k1)) st)
  {out : Array Keyed} {ia ib mg k k1 : Nat} (hI : MI C a.toList b.toList out.toList ia ib) (h1 : ia + 1 < a.size) (h2 : ib < b.size) (h3 : lo <= ia + ib) (hc : C (G b ib) (G a ia) = false) : wpS (model prog w) A E s (gl3 a b out ia ib mg k k1) T st := by
 unfold gl3
 refine wpS_bind (ZCK (by omega) ?_)
 have hI3 : MI C a.toList b.toList (out.push (G a ia)).toList (ia + 1) ib := by rw [UZ]; exact hI.pushA O M (by omega) h2 hc
 by_cases d1 : (ia + 1 + 1 == a.size) = true
 ·rw [if_pos d1]
  exact wpS_pure (hd _ _ (ZEG O M hI3 (by simpa using d1)))
 ·rw [if_neg d1]
  have d1' : ia + 1 + 1 < a.size := by simp at d1; omega
  have := hn _ _ _ mg k k1 hI3 d1' h2 (by omega)
  split
  ·exact wpS_pure this.1
  ·exact wpS_pure this.2
theorem ZKF (O : ZCR C a₀) (L : ZC8 prog w A E s kd a₀ C) (M : MP C a₀ a b) (hk : kindOf st = kd) {T : ForInStep MSt -> SortSt -> Prop} {lo : Nat} (hd : ∀ r c, MOk C a b r -> T (.done (some r, c)) st)
  (hn : ∀ out ia ib mg k k1, MI C a.toList b.toList out.toList ia ib -> ia + 1 < a.size -> ib < b.size -> lo <= ia + ib -> T (.done (none, out, ia, ib, mg, k, k1)) st /\ T (.yield (none, out, ia, ib, mg, k, k1)) st)
  {out : Array Keyed} {ia ib mg k bc : Nat} (hI : MI C a.toList b.toList out.toList ia ib) (h1 : ia + 1 < a.size) (h2 : ib < b.size) (h3 : lo <= ia + ib) (hc : C (G b ib) (G a ia) = true) : wpS (model prog w) A E s (gl2 a b out ia ib mg k bc) T st := by
 unfold gl2
 refine wpS_bind (ZCK h2 ?_)
 have hI2 : MI C a.toList b.toList (out.push (G b ib)).toList ia (ib + 1) := by rw [UZ]; exact hI.pushB O M (by omega) h2 hc
 by_cases d1 : (ib + 1 == b.size) = true
 ·rw [if_pos d1]
  exact wpS_pure (hd _ _ (ZEF M hI2 (by simpa using d1)))
 rw [if_neg d1]
 have d1' : ib + 1 < b.size := by simp at d1; omega
 refine wpS_bind (ZCK (by omega) (wpS_bind (ZEA (ZNx L hk (M.ma _ (ZCj (by omega))) M.mb (by omega)) (ZMK O M.sb (by omega)) (by omega) fun k1 k1n t1 t2 => ?_)))
 dsimp only
 by_cases c1 : k1 > 0
 ·rw [if_pos c1]
  have hI3 : MI C a.toList b.toList (out.push (G b ib) ++ b.extract (ib + 1) (ib + 1 + k1)).toList ia (ib + 1 + k1) := by
   rw [Us, ZCZ, show ib + 1 + k1 - (ib + 1) = k1 by omega]
   refine (hI2.symm.seg M.sb fun x hx y hy => ?_).symm
   obtain ⟨j, hj, hj2, rfl⟩ := ZG0 hx
   obtain ⟨j', hj', hj2', rfl⟩ := ZEE hy
   have := t1 j hj
   by_cases e : j' = ia
   ·rw [e]; exact this
   ·exact O.tr _ _ _ this (ZEV M.sa (by omega) hj2')
  by_cases d2 : (ib + 1 + k1 == b.size) = true
  ·rw [if_pos d2]
   exact wpS_pure (hd _ _ (ZEF M hI3 (by simpa using d2)))
  ·rw [if_neg d2]
   have d2' : ib + 1 + k1 < b.size := by simp at d2; omega
   exact ZKE O M hd hn hI3 h1 d2' (by omega) (t2 k1 (Uc _) (by omega))
 ·rw [if_neg c1]
  have e0 : k1 = 0 := by omega
  subst e0
  exact ZKE O M hd hn hI2 h1 d1' (by omega) (t2 0 (Uc _) (by omega))
theorem ZKG (O : ZCR C a₀) (L : ZC8 prog w A E s kd a₀ C) (M : MP C a₀ a b) (hk : kindOf st = kd) {T : ForInStep MSt -> SortSt -> Prop} {lo : Nat} {mg : Nat} (hd : ∀ r c, MOk C a b r -> T (.done (some r, c)) (ZB9 st mg))
  (hn : ∀ out ia ib m k k1, MI C a.toList b.toList out.toList ia ib -> ia + 1 < a.size -> ib < b.size -> lo <= ia + ib -> T (.done (none, out, ia, ib, m, k, k1)) (ZB9 st mg) /\ T (.yield (none, out, ia, ib, m, k, k1)) (ZB9 st mg))
  {out : Array Keyed} {ia ib bc ac : Nat} (hI : MI C a.toList b.toList out.toList ia ib) (h1 : ia + 1 < a.size) (h2 : ib < b.size) (h3 : lo <= ia + ib) : wpS (model prog w) A E s (gl1 a b out ia ib mg bc ac) T st := by
 unfold gl1
 rw [ZFA]
 refine wpS_bind (wpS_modify (wpS_bind (ZCK h2 (wpS_bind (ZEA (ZNw L (st := ZB9 st mg) hk (M.mb _ (ZCj h2)) M.ma (by omega)) (ZMJ O M.sa (by omega)) (by omega) fun k kn t1 t2 => ?_)))))
 dsimp only
 have hkl : ia + k < a.size := by
  rcases Nat.lt_or_ge (ia + k) a.size with h | h
  ·exact h
  ·have := t1 (a.size - 1 - ia) (by omega)
   rw [show ia + (a.size - 1 - ia) = a.size - 1 by omega, M.last O h2] at this
   cases this
 have hc : C (G b ib) (G a (ia + k)) = true := by simpa using t2 k (Uc _) (by omega)
 by_cases c1 : k > 0
 ·rw [if_pos c1]
  have hI3 : MI C a.toList b.toList (out ++ a.extract ia (ia + k)).toList (ia + k) ib := by
   rw [Us, ZCZ, show ia + k - ia = k by omega]
   refine hI.seg M.sa fun x hx y hy => ?_
   obtain ⟨j, hj, hj2, rfl⟩ := ZG0 hx
   obtain ⟨j', hj', hj2', rfl⟩ := ZEE hy
   have h0 : C (G b ib) (G a (ia + j)) = false := by simpa using t1 j hj
   have := O.tot _ (M.mb _ (ZCj h2)) _ (M.ma _ (ZCj hj2)) (fun e => M.ne _ (ZCj hj2) _ (ZCj h2) e.symm) h0
   by_cases e : j' = ib
   ·rw [e]; exact this
   ·exact O.tr _ _ _ this (ZEV M.sb (by omega) hj2')
  by_cases d1 : (ia + k + 1 == a.size) = true
  ·rw [if_pos d1]
   exact wpS_pure (hd _ _ (ZEG O M hI3 (by simpa using d1)))
  rw [if_neg d1]
  have d1' : ia + k + 1 < a.size := by simp at d1; omega
  rw [if_neg (show ¬ (ia + k == a.size) = true by simp; omega)]
  exact ZKF O L M (st := ZB9 st mg) hk hd hn hI3 d1' h2 (by omega) hc
 ·rw [if_neg c1]
  have e0 : k = 0 := by omega
  subst e0
  exact ZKF O L M (st := ZB9 st mg) hk hd hn hI h1 h2 (by omega) hc
theorem ZJi (O : ZCR C a₀) (L : ZC8 prog w A E s kd a₀ C) (M : MP C a₀ a b) (hk : kindOf st = kd) {Q : Array Keyed -> SortSt -> Prop} (h : ∀ r g, MOk C a b r -> Q r (ZB9 st g)) : wpS (model prog w) A E s (ZNv a b) Q st := by
 have ha1 := M.a1
 have hb1 := M.b1
 refine wpS_bind (wpS_lift (wpAny_rule ⟨rfl, ?_⟩))
 refine wpS_bind (ZCK (by omega) ?_)
 dsimp only
 have I0 : MI C a.toList b.toList [G b 0] 0 1 := by
  have := MI.pushB (o := []) (ia := 0) (ib := 0) O M ⟨.nil, .nil, fun x hx => by cases hx⟩ (by omega) (by omega) M.h0
  exact this
 have h00 : ∀ r, MOk C a b r -> Q r st := fun r hr => h r (gallopOf st) hr
 by_cases c1 : (1 == b.size) = true
 ·rw [if_pos c1]
  exact wpS_pure (h00 _ (ZEF M (out := #[G b 0]) I0 (by simpa using c1)))
 rw [if_neg c1]
 by_cases c2 : (0 + 1 == a.size) = true
 ·rw [if_pos c2]
  exact wpS_pure (h00 _ (ZEG O M (out := #[G b 0]) I0 (by simpa using c2)))
 rw [if_neg c2]
 have hb2 : 1 < b.size := by simp at c1; omega
 have ha2 : 1 < a.size := by simp at c2; omega
 refine wpS_bind (wpS_get ?_)
 refine wpS_bind (wpS_mono (wpS_forRange (I := fun x c st' => (∃ g, st' = ZB9 st g) /\ ∃ out ia ib mg, c = (none, out, ia, ib, mg) /\ MI C a.toList b.toList out.toList ia ib /\ ia + 1 < a.size /\ ib < b.size /\ x + 1 <= ia + ib)
  (Q := fun c st' => (∃ g, st' = ZB9 st g) /\ ∃ r, c.1 = some r /\ MOk C a b r) ?step ?fin ⟨⟨_, rfl⟩, #[G b 0], 0, 1, _, rfl, I0, by omega, by omega, by omega⟩) ?post)
 case post =>
  rintro ⟨c, ZCm⟩ st' ⟨⟨g, rfl⟩, r, e, hr⟩
  dsimp only at e
  subst e
  exact wpS_pure (h r g hr)
 case fin =>
  rintro c st' ⟨_, out, ia, ib, mg, rfl, hI, h1, h2, h3⟩
  exfalso
  omega
 case step =>
  rintro x c st' _ hx ⟨⟨g, rfl⟩, out, ia, ib, mg, rfl, hI, h1, h2, h3⟩
  dsimp only
  -- one by one
  refine wpS_bind (wpS_mono (wpS_forRange (I := fun y c st' => st' = ZB9 st g /\ ∃ out ia' ib' ac bc, c = (none, out, ia', ib', ac, bc) /\ MI C a.toList b.toList out.toList ia' ib' /\ ia' + 1 < a.size /\ ib' < b.size /\ ia + ib + y <= ia' + ib')
   (Q := fun c st' => st' = ZB9 st g /\ ((∃ r, c.1 = some r /\ MOk C a b r) \/ ∃ out ia' ib' ac bc, c = (none, out, ia', ib', ac, bc) /\ MI C a.toList b.toList out.toList ia' ib' /\ ia' + 1 < a.size /\ ib' < b.size /\ ia + ib + 1 <= ia' + ib')) ?step1 ?fin1 ⟨rfl, out, ia, ib, 0, 0, rfl, hI, h1, h2, by omega⟩) ?post1)
  case fin1 =>
   rintro c st' ⟨rfl, out, ia', ib', ac, bc, rfl, hI, g1, g2, g3⟩
   exact ⟨rfl, .inr ⟨out, ia', ib', ac, bc, rfl, hI, g1, g2, by omega⟩⟩
  case step1 =>
   rintro y c st' _ hy ⟨rfl, out, ia', ib', ac, bc, rfl, hI, g1, g2, g3⟩
   dsimp only
   refine wpS_bind (ZCK g2 (wpS_bind (ZCK (by omega) ?_)))
   refine wpS_bind (L _ (M.mb _ (ZCj g2)) _ (M.ma _ (ZCj (by omega))) _ _ hk ?_)
   dsimp only
   cases hc : C (G b ib') (G a ia')
   case true =>
    simp only [if_true]
    have hI2 := hI.pushB O M (by omega) g2 hc
    refine wpS_bind (ZCK g2 ?_)
    have hI3 : MI C a.toList b.toList (out.push (G b ib')).toList ia' (ib' + 1) := by rw [UZ]; exact hI2
    by_cases d1 : (ib' + 1 == b.size) = true
    ·rw [if_pos d1]
     exact wpS_pure ⟨rfl, .inl ⟨_, rfl, ZEF M hI3 (by simpa using d1)⟩⟩
    ·rw [if_neg d1]
     have d1' : ib' + 1 < b.size := by simp at d1; omega
     by_cases d2 : bc + 1 >= mg
     ·rw [if_pos d2]
      exact wpS_pure ⟨rfl, .inr ⟨_, _, _, _, _, rfl, hI3, g1, d1', by omega⟩⟩
     ·rw [if_neg d2]
      exact wpS_pure ⟨rfl, _, _, _, _, _, rfl, hI3, g1, d1', by omega⟩
   case false =>
    simp only [Uo, if_false]
    have hI2 := hI.pushA O M (by omega) g2 hc
    refine wpS_bind (ZCK (by omega) ?_)
    have hI3 : MI C a.toList b.toList (out.push (G a ia')).toList (ia' + 1) ib' := by rw [UZ]; exact hI2
    by_cases d1 : (ia' + 1 + 1 == a.size) = true
    ·rw [if_pos d1]
     exact wpS_pure ⟨rfl, .inl ⟨_, rfl, ZEG O M hI3 (by simpa using d1)⟩⟩
    ·rw [if_neg d1]
     have d1' : ia' + 1 + 1 < a.size := by simp at d1; omega
     by_cases d2 : ac + 1 >= mg
     ·rw [if_pos d2]
      exact wpS_pure ⟨rfl, .inr ⟨_, _, _, _, _, rfl, hI3, d1', g2, by omega⟩⟩
     ·rw [if_neg d2]
      exact wpS_pure ⟨rfl, _, _, _, _, _, rfl, hI3, d1', g2, by omega⟩
  case post1 =>
   rintro ⟨c1, out1, ia1, ib1, ac1, bc1⟩ st' ⟨rfl, ⟨r, e, hr⟩ | ⟨out', ia', ib', ac', bc', e, hI1, g1, g2, g3⟩⟩
   ·dsimp only at e
    subst e
    exact wpS_pure ⟨⟨g, rfl⟩, r, rfl, hr⟩
   cases e
   dsimp only
   refine wpS_bind (wpS_lift (wpAny_rule ⟨rfl, ?_⟩))
   -- by gallops
   refine wpS_bind (wpS_mono (wpS_forRange (I := fun y c st' => (∃ g, st' = ZB9 st g) /\ ∃ out ia' ib' mg ac bc, c = (none, out, ia', ib', mg, ac, bc) /\ MI C a.toList b.toList out.toList ia' ib' /\ ia' + 1 < a.size /\ ib' < b.size /\ ia + ib + 1 <= ia' + ib')
    (Q := fun c st' => (∃ g, st' = ZB9 st g) /\ ((∃ r, c.1 = some r /\ MOk C a b r) \/ ∃ out ia' ib' mg ac bc, c = (none, out, ia', ib', mg, ac, bc) /\ MI C a.toList b.toList out.toList ia' ib' /\ ia' + 1 < a.size /\ ib' < b.size /\ ia + ib + 1 <= ia' + ib')) ?step2 ?fin2 ⟨⟨g, rfl⟩, _, _, _, _, _, _, rfl, hI1, g1, g2, g3⟩) ?post2)
   case fin2 =>
    rintro c st' ⟨hg, out, ia', ib', mg', ac, bc, rfl, hI, g1, g2, g3⟩
    exact ⟨hg, .inr ⟨out, ia', ib', mg', ac, bc, rfl, hI, g1, g2, g3⟩⟩
   case post2 =>
    rintro ⟨c2, out2, ia2, ib2, mg2, ac2, bc2⟩ st' ⟨⟨g', rfl⟩, ⟨r, e, hr⟩ | ⟨out', ia', ib', mg', ac', bc', e, hI2, g1, g2, g3⟩⟩
    ·dsimp only at e
     subst e
     exact wpS_pure ⟨⟨g', rfl⟩, r, rfl, hr⟩
    cases e
    dsimp only
    refine wpS_bind (ZGz ?_)
    exact wpS_pure ⟨⟨_, rfl⟩, _, _, _, _, rfl, hI2, g1, g2, by omega⟩
   case step2 =>
    rintro y c st' _ hy ⟨⟨g', rfl⟩, out, ia', ib', mg', ac, bc, rfl, hI, g1, g2, g3⟩
    dsimp only
    by_cases c0 : mg' > 1
    ·rw [if_pos c0]
     exact ZKG O L M (st := ZB9 st g') (lo := ia + ib + 1) hk (fun r c hr => ⟨⟨_, rfl⟩, .inl ⟨r, rfl, hr⟩⟩) (fun out ia ib m k k1 hI h1 h2 h3 => ⟨⟨⟨_, rfl⟩, .inr ⟨_, _, _, _, _, _, rfl, hI, h1, h2, h3⟩⟩, ⟨_, rfl⟩, _, _, _, _, _, _, rfl, hI, h1, h2, h3⟩) hI g1 g2 g3
    ·rw [if_neg c0]
     exact ZKG O L M (st := ZB9 st g') (lo := ia + ib + 1) hk (fun r c hr => ⟨⟨_, rfl⟩, .inl ⟨r, rfl, hr⟩⟩) (fun out ia ib m k k1 hI h1 h2 h3 => ⟨⟨⟨_, rfl⟩, .inr ⟨_, _, _, _, _, _, rfl, hI, h1, h2, h3⟩⟩, ⟨_, rfl⟩, _, _, _, _, _, _, rfl, hI, h1, h2, h3⟩) hI g1 g2 g3
end
def ZNy : Array Keyed -> Array Keyed -> StateT SortSt Sem (Array Keyed) := sortPriv% PySem.Builtin.mergeHi
abbrev flp (C : Cmp) : Cmp := fun x y => C y x
theorem ZCR.flp {C : Cmp} {a₀ : Array Keyed} (O : ZCR C a₀) : ZCR (flp C) a₀ := ⟨fun x y z h1 h2 => O.tr _ _ _ h2 h1, fun x y h => O.asy _ _ h, fun x hx y hy n h => O.tot _ hy _ hx (Ne.symm n) h, O.nd⟩
theorem ZEP {xs : Array Keyed} {i : Nat} (h : i < xs.size) : G xs.reverse i = G xs (xs.size - 1 - i) := by
 refine ZGT ?_
 rw [Array.getElem?_reverse h]
section
variable {prog : Program} {w : World} {A : Around} {E : Value -> Shared -> Prop} {s : Shared} {kd : SortKind} {a₀ a b : Array Keyed} {C : Cmp} {st : SortSt}
theorem MP.flp (M : MP C a₀ a b) : MP (flp C) a₀ b.reverse a.reverse := by
 have h1 := M.a1
 have h2 := M.b1
 refine ⟨fun x hx => M.mb x (by simpa using hx), fun x hx => M.ma x (by simpa using hx), fun x hx y hy e => M.ne y (by simpa using hy) x (by simpa using hx) e.symm, ?_, ?_, by simpa using h2, by simpa using h1, ?_, ?_⟩
 ·rw [UH]; exact List.pairwise_reverse.mpr M.sb
 ·rw [UH]; exact List.pairwise_reverse.mpr M.sa
 ·show C (G b.reverse 0) (G a.reverse 0) = true
  rw [ZEP (by omega), ZEP (by omega)]
  exact M.hl
 ·show C (G b.reverse (b.reverse.size - 1)) (G a.reverse (a.reverse.size - 1)) = true
  rw [Array.size_reverse, Array.size_reverse, ZEP (by omega), ZEP (by omega), show b.size - 1 - (b.size - 1) = 0 by omega, show a.size - 1 - (a.size - 1) = 0 by omega]
  exact M.h0
def MH (C : Cmp) (a b out : Array Keyed) (na nb : Nat) : Prop := MI (flp C) b.reverse.toList a.reverse.toList out.toList (b.size - nb) (a.size - na) /\ na <= a.size /\ nb <= b.size
theorem MOk.flp {r r' : Array Keyed} (h : MOk (flp C) b.reverse a.reverse r') (e : r'.toList = r.toList.reverse) : MOk C a b r := by
 obtain ⟨h1, h2⟩ := h
 rw [e] at h1 h2
 refine ⟨?_, List.pairwise_reverse.mp h2⟩
 have := (List.reverse_perm r.toList).symm.trans h1
 refine this.trans ?_
 rw [UH, UH, <- List.reverse_append]
 exact List.reverse_perm _
theorem ZF4 {xs : Array Keyed} {n : Nat} (h : n <= xs.size) : xs.reverse.toList.drop (xs.size - n) = (xs.toList.take n).reverse := by
 rw [UH, List.drop_reverse, Uf, show xs.size - (xs.size - n) = n by omega]
theorem ZLA (xs : Array Keyed) (n : Nat) : (xs.extract 0 n).toList = xs.toList.take n := by rw [ZCZ, List.drop_zero, Nat.sub_zero]
theorem MH.done (M : MP C a₀ a b) {out : Array Keyed} {na nb : Nat} (h : MH C a b out na nb) (hn : na = 0) : MOk C a b (a.extract 0 na ++ b.extract 0 nb ++ out.reverse) := by
 obtain ⟨h, h1, h2⟩ := h
 subst hn
 refine (ZEF M.flp h (by simp)).flp ?_
 have e1 := ZF4 h2
 have e2 := ZF4 (xs := a) (n := 0) h1
 rw [Us, Us, Us, Us, ZCw, ZCw, e1, e2, ZLA, ZLA, UH]
 simp
theorem MH.first (O : ZCR C a₀) (M : MP C a₀ a b) {out : Array Keyed} {na nb : Nat} (h : MH C a b out na nb) (hn : nb = 1) : MOk C a b (b.extract 0 nb ++ a.extract 0 na ++ out.reverse) := by
 obtain ⟨h, h1, h2⟩ := h
 subst hn
 refine (ZEG O.flp M.flp h (by simp; omega)).flp ?_
 have e1 := ZF4 h2
 have e2 := ZF4 (xs := a) (n := na) h1
 rw [Us, Us, Us, Us, ZCw, ZCw, e1, e2, ZLA, ZLA, UH]
 simp
theorem MH.pushA (O : ZCR C a₀) (M : MP C a₀ a b) {out : Array Keyed} {na nb : Nat} (h : MH C a b out na nb) (ha : 0 < na) (hb : 0 < nb) (hc : C (G b (nb - 1)) (G a (na - 1)) = true) : MH C a b (out.push (G a (na - 1))) (na - 1) nb := by
 obtain ⟨h, h1, h2⟩ := h
 have e1 : G a.reverse (a.size - na) = G a (na - 1) := by rw [ZEP (by omega)]; congr 1; omega
 have e2 : G b.reverse (b.size - nb) = G b (nb - 1) := by rw [ZEP (by omega)]; congr 1; omega
 have := h.pushB O.flp M.flp (by simp; omega) (by simp; omega) (by show C _ _ = true; rw [e1, e2]; exact hc)
 rw [e1, show a.size - na + 1 = a.size - (na - 1) by omega] at this
 refine ⟨?_, by omega, h2⟩
 rw [UZ]
 exact this
theorem MH.pushB (O : ZCR C a₀) (M : MP C a₀ a b) {out : Array Keyed} {na nb : Nat} (h : MH C a b out na nb) (ha : 0 < na) (hb : 0 < nb) (hc : C (G b (nb - 1)) (G a (na - 1)) = false) : MH C a b (out.push (G b (nb - 1))) na (nb - 1) := by
 obtain ⟨h, h1, h2⟩ := h
 have e1 : G a.reverse (a.size - na) = G a (na - 1) := by rw [ZEP (by omega)]; congr 1; omega
 have e2 : G b.reverse (b.size - nb) = G b (nb - 1) := by rw [ZEP (by omega)]; congr 1; omega
 have := h.pushA O.flp M.flp (by simp; omega) (by simp; omega) (by show C _ _ = false; rw [e1, e2]; exact hc)
 rw [e2, show b.size - nb + 1 = b.size - (nb - 1) by omega] at this
 refine ⟨?_, h1, by omega⟩
 rw [UZ]
 exact this
theorem ZLB {xs : Array Keyed} {n m : Nat} (h : n <= xs.size) (hm : m <= n) : (xs.reverse.toList.drop (xs.size - n)).take (n - m) = (xs.extract m n).reverse.toList := by
 rw [ZF4 h, UH, ZCZ, List.take_reverse, UK, Uf, Nat.min_eq_left h, show n - (n - m) = m by omega, List.drop_take]
theorem ZML {xs : Array Keyed} {n m : Nat} {x : Keyed} (h : n <= xs.size) (hx : x ∈ (xs.extract m n).reverse.toList) : ∃ j, m <= j /\ j < n /\ x = G xs j := by
 rw [UH, List.mem_reverse, ZCZ] at hx
 obtain ⟨j, hj, _, rfl⟩ := ZG0 hx
 exact ⟨m + j, by omega, by omega, rfl⟩
theorem ZKH {xs : Array Keyed} {n : Nat} {x : Keyed} (h : n <= xs.size) (hx : x ∈ xs.reverse.toList.drop (xs.size - n)) : ∃ j, j < n /\ x = G xs j := by
 rw [ZF4 h, List.mem_reverse] at hx
 obtain ⟨j, hj, _, rfl⟩ := ZG0 (i := 0) (by simpa using hx)
 exact ⟨j, hj, by rw [Nat.zero_add]⟩
theorem MH.segA (O : ZCR C a₀) (M : MP C a₀ a b) {out : Array Keyed} {na nb at_ : Nat} (h : MH C a b out na nb) (ha : at_ <= na) (hc : ∀ j, at_ <= j -> j < na -> C (G b (nb - 1)) (G a j) = true) : MH C a b (out ++ (a.extract at_ na).reverse) at_ nb := by
 obtain ⟨h, h1, h2⟩ := h
 have := h.symm.seg M.flp.sb (k := na - at_) fun x hx y hy => by
  rw [ZLB h1 ha] at hx
  obtain ⟨j, j1, j2, rfl⟩ := ZML h1 hx
  obtain ⟨i, i1, rfl⟩ := ZKH h2 hy
  show C _ _ = true
  by_cases e : i = nb - 1
  ·rw [e]; exact hc j j1 j2
  ·exact O.tr _ _ _ (ZEV M.sb (show i < nb - 1 by omega) (by omega)) (hc j j1 j2)
 rw [ZLB h1 ha, show a.size - na + (na - at_) = a.size - at_ by omega] at this
 refine ⟨?_, by omega, h2⟩
 rw [Us]
 exact this.symm
theorem MH.segB (O : ZCR C a₀) (M : MP C a₀ a b) {out : Array Keyed} {na nb at_ : Nat} (h : MH C a b out na nb) (hb : at_ <= nb) (hc : ∀ j, at_ <= j -> j < nb -> C (G a (na - 1)) (G b j) = true) : MH C a b (out ++ (b.extract at_ nb).reverse) na at_ := by
 obtain ⟨h, h1, h2⟩ := h
 have := h.seg M.flp.sa (k := nb - at_) fun x hx y hy => by
  rw [ZLB h2 hb] at hx
  obtain ⟨j, j1, j2, rfl⟩ := ZML h2 hx
  obtain ⟨i, i1, rfl⟩ := ZKH h1 hy
  show C _ _ = true
  by_cases e : i = na - 1
  ·rw [e]; exact hc j j1 j2
  ·exact O.tr _ _ _ (ZEV M.sa (show i < na - 1 by omega) (by omega)) (hc j j1 j2)
 rw [ZLB h2 hb, show b.size - nb + (nb - at_) = b.size - at_ by omega] at this
 refine ⟨?_, h1, by omega⟩
 rw [Us]
 exact this
end
abbrev HSt := Option (Array Keyed) × Nat × Nat × Array Keyed × Nat × Nat × Nat
def gh3 (a b out : Array Keyed) (na nb mg k k1 : Nat) : StateT SortSt Sem (ForInStep HSt) := do
 let x <- elem' a (na - 1)
 if (na - 1 == 0) = true then pure (.done (some (a.extract 0 (na - 1) ++ b.extract 0 nb ++ (out.push x).reverse), na - 1, nb, out.push x, mg, k, k1))
 else if (decide (k < 7) && decide (k1 < 7)) = true then pure (.done (none, na - 1, nb, out.push x, mg, k, k1))
 else pure (.yield (none, na - 1, nb, out.push x, mg, k, k1))
def gh2 (a b out : Array Keyed) (na nb mg k bc : Nat) : StateT SortSt Sem (ForInStep HSt) := do
 let y <- elem' b (nb - 1)
 if (nb - 1 == 1) = true then pure (.done (some (b.extract 0 (nb - 1) ++ a.extract 0 na ++ (out.push y).reverse), na, nb - 1, out.push y, mg, k, bc))
 else do
  let z <- elem' a (na - 1)
  let x <- ZD9 true z b 0 (nb - 1) (nb - 1 - 1)
  match x with
  | some at_ =>
   if nb - 1 - at_ > 0 then
    if (at_ == 1) = true then pure (.done (some (b.extract 0 at_ ++ a.extract 0 na ++ (out.push y ++ (b.extract at_ (nb - 1)).reverse).reverse), na, at_, out.push y ++ (b.extract at_ (nb - 1)).reverse, mg, k, nb - 1 - at_))
    else if (at_ == 0) = true then pure (.done (some (a.extract 0 na ++ b.extract 0 at_ ++ (out.push y ++ (b.extract at_ (nb - 1)).reverse).reverse), na, at_, out.push y ++ (b.extract at_ (nb - 1)).reverse, mg, k, nb - 1 - at_))
    else gh3 a b (out.push y ++ (b.extract at_ (nb - 1)).reverse) na at_ mg k (nb - 1 - at_)
   else gh3 a b (out.push y) na (nb - 1) mg k (nb - 1 - at_)
  | x => pure (.done (some (a.extract 0 na ++ b.extract 0 (nb - 1) ++ (out.push y).reverse), na, nb - 1, out.push y, mg, k, bc))
def gh1 (a b out : Array Keyed) (na nb mg bc ac : Nat) : StateT SortSt Sem (ForInStep HSt) := do
 ZF3 mg
 let y <- elem' b (nb - 1)
 let x <- ZD9 false y a 0 na (na - 1)
 match x with
 | some at_ =>
  if na - at_ > 0 then
   if (at_ == 0) = true then pure (.done (some (a.extract 0 at_ ++ b.extract 0 nb ++ (out ++ (a.extract at_ na).reverse).reverse), at_, nb, out ++ (a.extract at_ na).reverse, mg, na - at_, bc))
   else gh2 a b (out ++ (a.extract at_ na).reverse) at_ nb mg (na - at_) bc
  else gh2 a b out na nb mg (na - at_) bc
 | x => pure (.done (some (a.extract 0 na ++ b.extract 0 nb ++ out.reverse), na, nb, out, mg, ac, bc))
section
variable {prog : Program} {w : World} {A : Around} {E : Value -> Shared -> Prop} {s : Shared} {kd : SortKind} {a₀ a b : Array Keyed} {C : Cmp} {st : SortSt}
theorem ZKI (O : ZCR C a₀) (M : MP C a₀ a b) {T : ForInStep HSt -> SortSt -> Prop} {hi : Nat} (hd : ∀ r c, MOk C a b r -> T (.done (some r, c)) st)
  (hn : ∀ out na nb mg k k1, MH C a b out na nb -> 0 < na -> 1 < nb -> na + nb <= hi -> T (.done (none, na, nb, out, mg, k, k1)) st /\ T (.yield (none, na, nb, out, mg, k, k1)) st)
  {out : Array Keyed} {na nb mg k k1 : Nat} (hI : MH C a b out na nb) (h1 : 0 < na) (h2 : 1 < nb) (h3 : na + nb <= hi) (hc : C (G b (nb - 1)) (G a (na - 1)) = true) : wpS (model prog w) A E s (gh3 a b out na nb mg k k1) T st := by
 unfold gh3
 have l1 := hI.2.1
 refine wpS_bind (ZCK (by omega) ?_)
 have hI3 := hI.pushA O M h1 (by omega) hc
 by_cases d1 : (na - 1 == 0) = true
 ·rw [if_pos d1]
  exact wpS_pure (hd _ _ (hI3.done M (by simpa using d1)))
 ·rw [if_neg d1]
  have d1' : 0 < na - 1 := by simp at d1; omega
  have := hn _ _ _ mg k k1 hI3 d1' h2 (by omega)
  split
  ·exact wpS_pure this.1
  ·exact wpS_pure this.2
theorem ZKJ (O : ZCR C a₀) (L : ZC8 prog w A E s kd a₀ C) (M : MP C a₀ a b) (hk : kindOf st = kd) {T : ForInStep HSt -> SortSt -> Prop} {hi : Nat} (hd : ∀ r c, MOk C a b r -> T (.done (some r, c)) st)
  (hn : ∀ out na nb mg k k1, MH C a b out na nb -> 0 < na -> 1 < nb -> na + nb <= hi -> T (.done (none, na, nb, out, mg, k, k1)) st /\ T (.yield (none, na, nb, out, mg, k, k1)) st)
  {out : Array Keyed} {na nb mg k bc : Nat} (hI : MH C a b out na nb) (h1 : 0 < na) (h2 : 1 < nb) (h3 : na + nb <= hi) (hc : C (G b (nb - 1)) (G a (na - 1)) = false) : wpS (model prog w) A E s (gh2 a b out na nb mg k bc) T st := by
 unfold gh2
 have l1 := hI.2.1
 have l2 := hI.2.2
 refine wpS_bind (ZCK (by omega) ?_)
 have hI2 := hI.pushB O M h1 (by omega) hc
 by_cases d1 : (nb - 1 == 1) = true
 ·rw [if_pos d1]
  exact wpS_pure (hd _ _ (hI2.first O M (by simpa using d1)))
 rw [if_neg d1]
 have d1' : 1 < nb - 1 := by simp at d1; omega
 refine wpS_bind (ZCK (by omega) (wpS_bind (ZEA (ZNx L hk (M.ma _ (ZCj (by omega))) M.mb (by omega)) (ZMK O M.sb (by omega)) (by omega) fun at_ atn t1 t2 => ?_)))
 dsimp only
 have p0 : C (G b 0) (G a (na - 1)) = true := by
  by_cases e : na - 1 = 0
  ·rw [e]; exact M.h0
  ·exact O.tr _ _ _ M.h0 (ZEV M.sa (by omega) (by omega))
 have hat : 0 < at_ := by
  rcases Nat.eq_zero_or_pos at_ with e | e
  ·have := t2 0 (by omega) (by omega)
   simp only [Nat.add_zero] at this
   rw [p0] at this; cases this
  ·exact e
 have hlast : C (G b (at_ - 1)) (G a (na - 1)) = true := by have := t1 (at_ - 1) (by omega); rwa [Nat.zero_add] at this
 by_cases c1 : nb - 1 - at_ > 0
 ·rw [if_pos c1]
  have hI3 := hI2.segB O M (at_ := at_) (by omega) fun j j1 j2 => by
   have := t2 j j1 j2
   rw [Nat.zero_add] at this
   exact O.tot _ (M.mb _ (ZCj (by omega))) _ (M.ma _ (ZCj (by omega))) (fun e => M.ne _ (ZCj (by omega)) _ (ZCj (by omega)) e.symm) this
  by_cases d2 : (at_ == 1) = true
  ·rw [if_pos d2]
   exact wpS_pure (hd _ _ (hI3.first O M (by simpa using d2)))
  ·rw [if_neg d2, if_neg (show ¬ (at_ == 0) = true by simp; omega)]
   have d2' : 1 < at_ := by simp at d2; omega
   exact ZKI O M hd hn hI3 h1 d2' (by omega) hlast
 ·rw [if_neg c1]
  have e0 : at_ = nb - 1 := by omega
  rw [e0] at hlast
  exact ZKI O M hd hn hI2 h1 d1' (by omega) hlast
theorem ZKK (O : ZCR C a₀) (L : ZC8 prog w A E s kd a₀ C) (M : MP C a₀ a b) (hk : kindOf st = kd) {T : ForInStep HSt -> SortSt -> Prop} {hi : Nat} {mg : Nat} (hd : ∀ r c, MOk C a b r -> T (.done (some r, c)) (ZB9 st mg))
  (hn : ∀ out na nb m k k1, MH C a b out na nb -> 0 < na -> 1 < nb -> na + nb <= hi -> T (.done (none, na, nb, out, m, k, k1)) (ZB9 st mg) /\ T (.yield (none, na, nb, out, m, k, k1)) (ZB9 st mg))
  {out : Array Keyed} {na nb bc ac : Nat} (hI : MH C a b out na nb) (h1 : 0 < na) (h2 : 1 < nb) (h3 : na + nb <= hi) : wpS (model prog w) A E s (gh1 a b out na nb mg bc ac) T st := by
 unfold gh1
 have l1 := hI.2.1
 have l2 := hI.2.2
 rw [ZFA]
 refine wpS_bind (wpS_modify (wpS_bind (ZCK (by omega) (wpS_bind (ZEA (ZNw L (st := ZB9 st mg) hk (M.mb _ (ZCj (by omega))) M.ma (by omega)) (ZMJ O M.sa (by omega)) (by omega) fun at_ atn t1 t2 => ?_)))))
 dsimp only
 have hlast : 0 < at_ -> C (G b (nb - 1)) (G a (at_ - 1)) = false := fun h => by
  have := t1 (at_ - 1) (by omega)
  rw [Nat.zero_add] at this
  simpa using this
 by_cases c1 : na - at_ > 0
 ·rw [if_pos c1]
  have hI3 := hI.segA O M (at_ := at_) (by omega) fun j j1 j2 => by
   have := t2 j j1 j2
   rw [Nat.zero_add] at this
   simpa using this
  by_cases d1 : (at_ == 0) = true
  ·rw [if_pos d1]
   exact wpS_pure (hd _ _ (hI3.done M (by simpa using d1)))
  rw [if_neg d1]
  have d1' : 0 < at_ := by simp at d1; omega
  exact ZKJ O L M (st := ZB9 st mg) hk hd hn hI3 d1' h2 (by omega) (hlast d1')
 ·rw [if_neg c1]
  have e0 : at_ = na := by omega
  subst e0
  exact ZKJ O L M (st := ZB9 st mg) hk hd hn hI h1 h2 (by omega) (hlast h1)
theorem ZJj (O : ZCR C a₀) (L : ZC8 prog w A E s kd a₀ C) (M : MP C a₀ a b) (hk : kindOf st = kd) {Q : Array Keyed -> SortSt -> Prop} (h : ∀ r g, MOk C a b r -> Q r (ZB9 st g)) : wpS (model prog w) A E s (ZNy a b) Q st := by
 have ha1 := M.a1
 have hb1 := M.b1
 refine wpS_bind (wpS_lift (wpAny_rule ⟨rfl, ?_⟩))
 refine wpS_bind (ZCK (by omega) ?_)
 dsimp only
 have I0 : MH C a b #[G a (a.size - 1)] (a.size - 1) b.size := by
  have := MH.pushA (out := #[]) (na := a.size) (nb := b.size) O M ⟨by rw [Nat.sub_self, Nat.sub_self]; exact ⟨.nil, .nil, fun x hx => by cases hx⟩, Uc _, Uc _⟩ (by omega) (by omega) M.hl
  exact this
 have h00 : ∀ r, MOk C a b r -> Q r st := fun r hr => h r (gallopOf st) hr
 by_cases c1 : (a.size - 1 == 0) = true
 ·rw [if_pos c1]
  exact wpS_pure (h00 _ (I0.done M (by simpa using c1)))
 rw [if_neg c1]
 by_cases c2 : (b.size == 1) = true
 ·rw [if_pos c2]
  exact wpS_pure (h00 _ (I0.first O M (by simpa using c2)))
 rw [if_neg c2]
 have ha2 : 0 < a.size - 1 := by simp at c1; omega
 have hb2 : 1 < b.size := by simp at c2; omega
 refine wpS_bind (wpS_get ?_)
 refine wpS_bind (wpS_mono (wpS_forRange (I := fun x c st' => (∃ g, st' = ZB9 st g) /\ ∃ out na nb mg, c = (none, na, nb, out, mg) /\ MH C a b out na nb /\ 0 < na /\ 1 < nb /\ na + nb + x + 1 <= a.size + b.size)
  (Q := fun c st' => (∃ g, st' = ZB9 st g) /\ ∃ r, c.1 = some r /\ MOk C a b r) ?step ?fin ⟨⟨_, rfl⟩, #[G a (a.size - 1)], a.size - 1, b.size, _, rfl, I0, by omega, by omega, by omega⟩) ?post)
 case post =>
  rintro ⟨c, ZCm⟩ st' ⟨⟨g, rfl⟩, r, e, hr⟩
  dsimp only at e
  subst e
  exact wpS_pure (h r g hr)
 case fin =>
  rintro c st' ⟨_, out, na, nb, mg, rfl, hI, h1, h2, h3⟩
  exfalso
  omega
 case step =>
  rintro x c st' _ hx ⟨⟨g, rfl⟩, out, na, nb, mg, rfl, hI, h1, h2, h3⟩
  dsimp only
  -- one by one
  refine wpS_bind (wpS_mono (wpS_forRange (I := fun y c st' => st' = ZB9 st g /\ ∃ out na' nb' ac bc, c = (none, na', nb', out, ac, bc) /\ MH C a b out na' nb' /\ 0 < na' /\ 1 < nb' /\ na' + nb' + y <= na + nb)
   (Q := fun c st' => st' = ZB9 st g /\ ((∃ r, c.1 = some r /\ MOk C a b r) \/ ∃ out na' nb' ac bc, c = (none, na', nb', out, ac, bc) /\ MH C a b out na' nb' /\ 0 < na' /\ 1 < nb' /\ na' + nb' + 1 <= na + nb)) ?step1 ?fin1 ⟨rfl, out, na, nb, 0, 0, rfl, hI, h1, h2, by omega⟩) ?post1)
  case fin1 =>
   rintro c st' ⟨rfl, out, na', nb', ac, bc, rfl, hI, g1, g2, g3⟩
   exact ⟨rfl, .inr ⟨out, na', nb', ac, bc, rfl, hI, g1, g2, by omega⟩⟩
  case step1 =>
   rintro y c st' _ hy ⟨rfl, out, na', nb', ac, bc, rfl, hI, g1, g2, g3⟩
   have l1 := hI.2.1
   have l2 := hI.2.2
   dsimp only
   refine wpS_bind (ZCK (by omega) (wpS_bind (ZCK (by omega) ?_)))
   refine wpS_bind (L _ (M.mb _ (ZCj (by omega))) _ (M.ma _ (ZCj (by omega))) _ _ hk ?_)
   dsimp only
   cases hc : C (G b (nb' - 1)) (G a (na' - 1))
   case true =>
    simp only [if_true]
    have hI3 := hI.pushA O M g1 (by omega) hc
    refine wpS_bind (ZCK (by omega) ?_)
    by_cases d1 : (na' - 1 == 0) = true
    ·rw [if_pos d1]
     exact wpS_pure ⟨rfl, .inl ⟨_, rfl, hI3.done M (by simpa using d1)⟩⟩
    ·rw [if_neg d1]
     have d1' : 0 < na' - 1 := by simp at d1; omega
     by_cases d2 : ac + 1 >= mg
     ·rw [if_pos d2]
      exact wpS_pure ⟨rfl, .inr ⟨_, _, _, _, _, rfl, hI3, d1', g2, by omega⟩⟩
     ·rw [if_neg d2]
      exact wpS_pure ⟨rfl, _, _, _, _, _, rfl, hI3, d1', g2, by omega⟩
   case false =>
    simp only [Uo, if_false]
    have hI3 := hI.pushB O M g1 (by omega) hc
    refine wpS_bind (ZCK (by omega) ?_)
    by_cases d1 : (nb' - 1 == 1) = true
    ·rw [if_pos d1]
     exact wpS_pure ⟨rfl, .inl ⟨_, rfl, hI3.first O M (by simpa using d1)⟩⟩
    ·rw [if_neg d1]
     have d1' : 1 < nb' - 1 := by simp at d1; omega
     by_cases d2 : bc + 1 >= mg
     ·rw [if_pos d2]
      exact wpS_pure ⟨rfl, .inr ⟨_, _, _, _, _, rfl, hI3, g1, d1', by omega⟩⟩
     ·rw [if_neg d2]
      exact wpS_pure ⟨rfl, _, _, _, _, _, rfl, hI3, g1, d1', by omega⟩
  case post1 =>
   rintro ⟨c1, na1, nb1, out1, ac1, bc1⟩ st' ⟨rfl, ⟨r, e, hr⟩ | ⟨out', na', nb', ac', bc', e, hI1, g1, g2, g3⟩⟩
   ·dsimp only at e
    subst e
    exact wpS_pure ⟨⟨g, rfl⟩, r, rfl, hr⟩
   cases e
   dsimp only
   refine wpS_bind (wpS_lift (wpAny_rule ⟨rfl, ?_⟩))
   -- by gallops
   refine wpS_bind (wpS_mono (wpS_forRange (I := fun y c st' => (∃ g, st' = ZB9 st g) /\ ∃ out na' nb' mg ac bc, c = (none, na', nb', out, mg, ac, bc) /\ MH C a b out na' nb' /\ 0 < na' /\ 1 < nb' /\ na' + nb' <= na + nb - 1)
    (Q := fun c st' => (∃ g, st' = ZB9 st g) /\ ((∃ r, c.1 = some r /\ MOk C a b r) \/ ∃ out na' nb' mg ac bc, c = (none, na', nb', out, mg, ac, bc) /\ MH C a b out na' nb' /\ 0 < na' /\ 1 < nb' /\ na' + nb' <= na + nb - 1)) ?step2 ?fin2 ⟨⟨g, rfl⟩, _, _, _, _, _, _, rfl, hI1, g1, g2, by omega⟩) ?post2)
   case fin2 =>
    rintro c st' ⟨hg, out, na', nb', mg', ac, bc, rfl, hI, g1, g2, g3⟩
    exact ⟨hg, .inr ⟨out, na', nb', mg', ac, bc, rfl, hI, g1, g2, g3⟩⟩
   case post2 =>
    rintro ⟨c2, na2, nb2, out2, mg2, ac2, bc2⟩ st' ⟨⟨g', rfl⟩, ⟨r, e, hr⟩ | ⟨out', na', nb', mg', ac', bc', e, hI2, g1, g2, g3⟩⟩
    ·dsimp only at e
     subst e
     exact wpS_pure ⟨⟨g', rfl⟩, r, rfl, hr⟩
    cases e
    dsimp only
    refine wpS_bind (ZGz ?_)
    exact wpS_pure ⟨⟨_, rfl⟩, _, _, _, _, rfl, hI2, g1, g2, by omega⟩
   case step2 =>
    rintro y c st' _ hy ⟨⟨g', rfl⟩, out, na', nb', mg', ac, bc, rfl, hI, g1, g2, g3⟩
    dsimp only
    by_cases c0 : mg' > 1
    ·rw [if_pos c0]
     exact ZKK O L M (st := ZB9 st g') (hi := na + nb - 1) hk (fun r c hr => ⟨⟨_, rfl⟩, .inl ⟨r, rfl, hr⟩⟩) (fun out ia ib m k k1 hI h1 h2 h3 => ⟨⟨⟨_, rfl⟩, .inr ⟨_, _, _, _, _, _, rfl, hI, h1, h2, h3⟩⟩, ⟨_, rfl⟩, _, _, _, _, _, _, rfl, hI, h1, h2, h3⟩) hI g1 g2 g3
    ·rw [if_neg c0]
     exact ZKK O L M (st := ZB9 st g') (hi := na + nb - 1) hk (fun r c hr => ⟨⟨_, rfl⟩, .inl ⟨r, rfl, hr⟩⟩) (fun out ia ib m k k1 hI h1 h2 h3 => ⟨⟨⟨_, rfl⟩, .inr ⟨_, _, _, _, _, _, rfl, hI, h1, h2, h3⟩⟩, ⟨_, rfl⟩, _, _, _, _, _, _, rfl, hI, h1, h2, h3⟩) hI g1 g2 g3
end
theorem ZKL (o : Nat) : ∀ (l : List Keyed) (m : Nat) (xs : Array Keyed) (pre mid post : List Keyed), xs.toList = pre ++ mid ++ post -> pre.length = o + m -> mid.length = l.length ->
  ((l.zipIdx m).foldl (fun (a : Array Keyed) (q : Keyed × Nat) => a.setIfInBounds (o + q.2) q.1) xs).toList = pre ++ l ++ post
 | [], m, xs, pre, mid, post, h, hp, hm => by
  have : mid = [] := List.eq_nil_of_length_eq_zero hm
  subst this
  exact h
 | p :: l, m, xs, pre, mid, post, h, hp, hm => by
  cases mid with
  | nil => cases hm
  | cons q mid =>
   rw [List.zipIdx_cons, List.foldl_cons]
   have := ZKL o l (m + 1) (xs.setIfInBounds (o + m) p) (pre ++ [p]) mid post (by
    rw [Array.toList_setIfInBounds, h, UY, List.set_append_right _ _ (by omega), <- hp, Nat.sub_self]
    simp) (by simp; omega) (by simpa using hm)
   rw [this]
   simp
theorem ZJG (xs : Array Keyed) (i : Nat) : G xs i = xs.toList.getD i (.none, .none) := by
 unfold G
 rw [Array.getD_eq_getD_getElem?, Uz, Array.getElem?_toList]
theorem ZOW {xs : Array Keyed} {pre l post : List Keyed} (h : xs.toList = pre ++ l ++ post) {i : Nat} (hi : i < pre.length) : G xs i = pre.getD i (.none, .none) := by
 rw [ZJG, h, UY, Uz, List.getElem?_append_left hi, <- Uz]
theorem ZLC {xs : Array Keyed} {pre l post : List Keyed} (h : xs.toList = pre ++ l ++ post) {i : Nat} (h1 : pre.length <= i) (h2 : i < pre.length + l.length) : G xs i = l.getD (i - pre.length) (.none, .none) := by
 rw [ZJG, h, UY, Uz, UO h1, List.getElem?_append_left (by omega), <- Uz]
theorem ZMM {xs : Array Keyed} {pre l post : List Keyed} (h : xs.toList = pre ++ l ++ post) {i : Nat} (h1 : pre.length + l.length <= i) : G xs i = post.getD (i - (pre.length + l.length)) (.none, .none) := by
 rw [ZJG, h, Uz, UO (by simpa using h1), UD, <- Uz]
theorem ZNz {l : List Keyed} {i : Nat} (h : i < l.length) : l.getD i (.none, .none) ∈ l := by
 rw [Uz, Ud h]
 exact List.getElem_mem h
theorem ZPi {C : Cmp} {l : List Keyed} (h : l.Pairwise fun x y => C x y = true) {i j : Nat} (hij : i < j) (hj : j < l.length) : C (l.getD i (.none, .none)) (l.getD j (.none, .none)) = true := by
 rw [Uz, Ud (by omega), Uz, Ud hj]
 exact US.mp h i j (by omega) hj hij
theorem Sg.join {C : Cmp} (tr : ∀ x y z, C x y = true -> C y z = true -> C x z = true) {xs : Array Keyed} {lo n m : Nat} (h1 : Sg C xs lo n) (h2 : Sg C xs (lo + n) m) (hn : 1 <= n) (hc : C (G xs (lo + n - 1)) (G xs (lo + n)) = true) : Sg C xs lo (n + m) := by
 have e2 : ∀ j, j < m -> n = n -> C (G xs (lo + n - 1)) (G xs (lo + n + j)) = true := fun j hj _ => by
  by_cases e : j = 0
  ·subst e; exact hc
  ·exact tr _ _ _ hc (h2 0 j (by omega) hj)
 intro i j hij hj
 by_cases c1 : j < n
 ·exact h1 i j hij c1
 by_cases c2 : i < n
 ·have := e2 (j - n) (by omega) rfl
  rw [show lo + n + (j - n) = lo + j by omega] at this
  by_cases e : i = n - 1
  ·rw [show lo + i = lo + n - 1 by omega]; exact this
  ·refine tr _ _ _ (h1 i (n - 1) (by omega) (by omega)) ?_
   rw [show lo + (n - 1) = lo + n - 1 by omega]
   exact this
 ·have := h2 (i - n) (j - n) (by omega) (by omega)
  rwa [show lo + n + (i - n) = lo + i by omega, show lo + n + (j - n) = lo + j by omega] at this
theorem Sg.pw {C : Cmp} {xs : Array Keyed} {lo n : Nat} (h : Sg C xs lo n) (hn : lo + n <= xs.size) {i j : Nat} (hi : lo <= i) (hij : i <= j) (hj : j <= lo + n) : (xs.extract i j).toList.Pairwise fun x y => C x y = true := by
 rw [US]
 intro p q hp hq hpq
 have hq' : q < j - i := by
  have := hq
  rw [Uf, UV] at this
  omega
 have e : ∀ p, p < j - i -> ∀ hp, (xs.extract i j).toList[p]'hp = G xs (i + p) := fun p h1 hp => by
  rw [Array.getElem_toList, Array.getElem_extract]
  simp [G, Array.getD, show i + p < xs.size by omega]
 rw [e p (by omega) hp, e q hq' hq]
 have := h (i + p - lo) (i + q - lo) (by omega) (by omega)
 rwa [show lo + (i + p - lo) = i + p by omega, show lo + (i + q - lo) = i + q by omega] at this
theorem ZF5 {xs : Array Keyed} {i j : Nat} (hj : j <= xs.size) {x : Keyed} (h : x ∈ (xs.extract i j).toList) : ∃ p, i <= p /\ p < j /\ x = G xs p := by
 rw [ZCZ] at h
 obtain ⟨p, h1, h2, rfl⟩ := ZG0 h
 exact ⟨i + p, by omega, by omega, rfl⟩
theorem ZEQ {xs : Array Keyed} {i j p : Nat} (hp : i + p < j) (hj : j <= xs.size) : G (xs.extract i j) p = G xs (i + p) := by
 refine ZGT ?_
 rw [Array.getElem?_extract_of_lt (by omega), Array.getElem?_eq_getElem (by omega)]
section
variable {prog : Program} {w : World} {A : Around} {E : Value -> Shared -> Prop} {s : Shared} {kd : SortKind} {a₀ : Array Keyed} {C : Cmp} {st : SortSt}
structure Mg (C : Cmp) (xs ys : Array Keyed) (sa n : Nat) : Prop where
 perm : ys.Perm xs
 out : ∀ k, k < sa \/ sa + n <= k -> G ys k = G xs k
 run : Sg C ys sa n
theorem ZMN (O : ZCR C a₀) {xs : Array Keyed} {sa na nb k nb' : Nat} (hs : sa + na + nb <= xs.size) (S1 : Sg C xs sa na) (S2 : Sg C xs (sa + na) nb) (hk : k < na) (hb : nb' <= nb) (hb1 : 1 <= nb') (hmem : ∀ i, i < xs.size -> G xs i ∈ a₀.toList)
  (hinj : ∀ i j, i < xs.size -> j < xs.size -> i ≠ j -> G xs i ≠ G xs j)
  (t1 : ∀ i, i < k -> C (G xs (sa + i)) (G xs (sa + na)) = true) (u2 : ∀ i, nb' <= i -> i < nb -> C (G xs (sa + na - 1)) (G xs (sa + na + i)) = true)
  {r : Array Keyed} (hr : MOk C (xs.extract (sa + k) (sa + na)) (xs.extract (sa + na) (sa + na + nb')) r) :
  Mg C xs (r.toList.zipIdx.foldl (fun (a : Array Keyed) (q : Keyed × Nat) => a.setIfInBounds (sa + k + q.2) q.1) xs) sa (na + nb) := by
 obtain ⟨hp, hw⟩ := hr
 have e0 : xs.toList = xs.toList.take (sa + k) ++ ((xs.extract (sa + k) (sa + na)).toList ++ (xs.extract (sa + na) (sa + na + nb')).toList) ++ xs.toList.drop (sa + na + nb') := by
  rw [ZCZ, ZCZ]
  have h1 : xs.toList.drop (sa + k) = (xs.toList.drop (sa + k)).take (sa + na - (sa + k)) ++ xs.toList.drop (sa + na) := by
   conv => lhs; rw [<- List.take_append_drop (sa + na - (sa + k)) (xs.toList.drop (sa + k)), List.drop_drop, show sa + k + (sa + na - (sa + k)) = sa + na by omega]
  have h2 : xs.toList.drop (sa + na) = (xs.toList.drop (sa + na)).take (sa + na + nb' - (sa + na)) ++ xs.toList.drop (sa + na + nb') := by
   conv => lhs; rw [<- List.take_append_drop (sa + na + nb' - (sa + na)) (xs.toList.drop (sa + na)), List.drop_drop, show sa + na + (sa + na + nb' - (sa + na)) = sa + na + nb' by omega]
  rw [UY, UY, <- h2, <- h1, List.take_append_drop]
 have lx : (xs.extract (sa + k) (sa + na)).toList.length = na - k := by rw [Uf, UV]; omega
 have ly : (xs.extract (sa + na) (sa + na + nb')).toList.length = nb' := by rw [Uf, UV]; omega
 have lr : r.toList.length = na - k + nb' := by rw [hp.length_eq, UD, lx, ly]
 have lp : (xs.toList.take (sa + k)).length = sa + k := by rw [UK, Uf]; omega
 have e1 := ZKL (sa + k) r.toList 0 xs _ _ _ e0 (by rw [lp]; rfl) (by rw [lr, UD, lx, ly])
 generalize (r.toList.zipIdx.foldl (fun (a : Array Keyed) (q : Keyed × Nat) => a.setIfInBounds (sa + k + q.2) q.1) xs) = ys at e1 ⊢
 have gp : ∀ i, i < sa + k -> G ys i = G xs i := fun i hi => by rw [ZOW e1 (by rw [lp]; exact hi), ZOW e0 (by rw [lp]; exact hi)]
 have gq : ∀ i, sa + na + nb' <= i -> G ys i = G xs i := fun i hi => by
  rw [ZMM e1 (by rw [lp, lr]; omega), ZMM e0 (by rw [lp, UD, lx, ly]; omega), lp, lr, UD, lx, ly]
 have gm : ∀ i, sa + k <= i -> i < sa + na + nb' -> G ys i ∈ r.toList := fun i h1 h2 => by
  rw [ZLC e1 (by rw [lp]; exact h1) (by rw [lp, lr]; omega)]
  exact ZNz (by rw [lp, lr]; omega)
 have gr : ∀ i j, sa + k <= i -> i < j -> j < sa + na + nb' -> C (G ys i) (G ys j) = true := fun i j h1 h2 h3 => by
  rw [ZLC e1 (by rw [lp]; exact h1) (by rw [lp, lr]; omega), ZLC (i := j) e1 (by rw [lp]; omega) (by rw [lp, lr]; omega)]
  exact ZPi hw (by rw [lp]; omega) (by rw [lp, lr]; omega)
 have c1 : ∀ i j, i < j -> j < na -> C (G xs (sa + i)) (G xs (sa + j)) = true := S1
 -- the three parts
 have f0 : ∀ i, i < k -> ∀ j, j < nb -> C (G xs (sa + i)) (G xs (sa + na + j)) = true := fun i hi j hj => by
  by_cases e : j = 0
  ·subst e; exact t1 i hi
  ·exact O.tr _ _ _ (t1 i hi) (S2 0 j (by omega) hj)
 have rm : ∀ z ∈ r.toList, (∃ p, sa + k <= p /\ p < sa + na /\ z = G xs p) \/ ∃ p, sa + na <= p /\ p < sa + na + nb' /\ z = G xs p := fun z hz => by
  rcases UR.mp (hp.mem_iff.mp hz) with h | h
  ·exact .inl (ZF5 (by omega) h)
  ·exact .inr (ZF5 (by omega) h)
 have f1 : ∀ i, i < k -> ∀ z ∈ r.toList, C (G xs (sa + i)) z = true := fun i hi z hz => by
  rcases rm z hz with ⟨p, p1, p2, rfl⟩ | ⟨p, p1, p2, rfl⟩
  ·have := c1 i (p - sa) (by omega) (by omega)
   rwa [show sa + (p - sa) = p by omega] at this
  ·have := f0 i hi (p - (sa + na)) (by omega)
   rwa [show sa + na + (p - (sa + na)) = p by omega] at this
 have f2 : ∀ z ∈ r.toList, ∀ j, nb' <= j -> j < nb -> C z (G xs (sa + na + j)) = true := fun z hz j h1 h2 => by
  rcases rm z hz with ⟨p, p1, p2, rfl⟩ | ⟨p, p1, p2, rfl⟩
  ·by_cases e : p = sa + na - 1
   ·rw [e]; exact u2 j h1 h2
   ·refine O.tr _ _ _ ?_ (u2 j h1 h2)
    have := c1 (p - sa) (na - 1) (by omega) (by omega)
    rwa [show sa + (p - sa) = p by omega, show sa + (na - 1) = sa + na - 1 by omega] at this
  ·have := S2 (p - (sa + na)) j (by omega) h2
   rwa [show sa + na + (p - (sa + na)) = p by omega] at this
 refine ⟨?_, fun i hi => ?_, fun i j hij hj => ?_⟩
 ·have : ys.toList.Perm xs.toList := by
   rw [e1]
   conv => rhs; rw [e0]
   exact (List.Perm.append_left _ hp).append_right _
  exact UP.mpr this
 ·rcases hi with h | h
  ·exact gp i (by omega)
  ·exact gq i (by omega)
 ·by_cases a1 : i < k
  ·rw [gp (sa + i) (by omega)]
   by_cases a2 : j < k
   ·rw [gp (sa + j) (by omega)]; exact c1 i j hij (by omega)
   by_cases a3 : sa + j < sa + na + nb'
   ·exact f1 i a1 _ (gm _ (by omega) a3)
   ·rw [gq (sa + j) (by omega)]
    have := f0 i a1 (j - na) (by omega)
    rwa [show sa + na + (j - na) = sa + j by omega] at this
  by_cases a2 : sa + i < sa + na + nb'
  ·by_cases a3 : sa + j < sa + na + nb'
   ·exact gr _ _ (by omega) (by omega) a3
   ·rw [gq (sa + j) (by omega)]
    have := f2 _ (gm (sa + i) (by omega) a2) (j - na) (by omega) (by omega)
    rwa [show sa + na + (j - na) = sa + j by omega] at this
  ·rw [gq (sa + i) (by omega), gq (sa + j) (by omega)]
   have := S2 (i - na) (j - na) (by omega) (by omega)
   rwa [show sa + na + (i - na) = sa + i by omega, show sa + na + (j - na) = sa + j by omega] at this
theorem ZMO {st' : SortSt} {Q : PUnit -> SortSt -> Prop} (h : Q ⟨⟩ st') : wpS (model prog w) A E s (set st' : StateT SortSt Sem PUnit) Q st := wpS_modify (f := fun _ => st') h
theorem ZJk (O : ZCR C a₀) (L : ZC8 prog w A E s kd a₀ C) (hB : TB kd a₀ st) {i sa na pw nb pw2 : Nat} (h1 : (pendingOf st)[i]? = some (sa, na, pw)) (h2 : (pendingOf st)[i + 1]? = some (sa + na, nb, pw2)) (hna : 1 <= na) (hnb : 1 <= nb) (hs : sa + na + nb <= a₀.size)
  (S1 : Sg C (arrOf st) sa na) (S2 : Sg C (arrOf st) (sa + na) nb) {Q : Bool -> SortSt -> Prop}
  (h : ∀ ys g, Mg C (arrOf st) ys sa (na + nb) -> Q true (SortSt.mk' (kindOf st) ys (((pendingOf st).setIfInBounds i (sa, na + nb, pw)).eraseIdxIfInBounds (i + 1)) g (failedOf st))) : wpS (model prog w) A E s (mergeAt' i) Q st := by
 refine wpS_bind (wpS_get ?_)
 erw [h1, h2]
 dsimp only
 have hsz := hB.size
 have hkd : ∀ p, kindOf (setPending st p) = kd := fun _ => hB.kind
 have hmem : ∀ i, i < (arrOf st).size -> G (arrOf st) i ∈ a₀.toList := fun i hi => hB.mem (by omega)
 have harr : ∀ x ∈ (arrOf st).toList, x ∈ a₀.toList := fun x hx => by
  obtain ⟨j, _, hj, rfl⟩ := ZEE (i := 0) (x := x) (xs := arrOf st) (by simpa using hx)
  exact hmem j hj
 have hinj : ∀ i j, i < (arrOf st).size -> j < (arrOf st).size -> i ≠ j -> G (arrOf st) i ≠ G (arrOf st) j := fun i j hi hj n => hB.inj O (by omega) (by omega) n
 have hmono : ∀ (lo n : Nat), lo + n <= (arrOf st).size -> Sg C (arrOf st) lo n -> ∀ key, ∀ i j, i <= j -> j < n -> (!C key (G (arrOf st) (lo + j))) = true -> (!C key (G (arrOf st) (lo + i))) = true := fun lo n hn S key i j hij hj hh => by
  rw [Bool.not_eq_true'] at hh ⊢
  by_cases e : i = j
  ·rw [e]; exact hh
  ·cases hc : C key (G (arrOf st) (lo + i)) with
   | false => rfl
   | true => rw [O.tr _ _ _ hc (S i j (by omega) hj)] at hh; cases hh
 have hmonoL : ∀ (lo n : Nat), lo + n <= (arrOf st).size -> Sg C (arrOf st) lo n -> ∀ key, ∀ i j, i <= j -> j < n -> C (G (arrOf st) (lo + j)) key = true -> C (G (arrOf st) (lo + i)) key = true := fun lo n hn S key i j hij hj hh => by
  by_cases e : i = j
  ·rw [e]; exact hh
  ·exact O.tr _ _ _ (S i j (by omega) hj) hh
 have tot : ∀ i j, i < (arrOf st).size -> j < (arrOf st).size -> i ≠ j -> C (G (arrOf st) i) (G (arrOf st) j) = false -> C (G (arrOf st) j) (G (arrOf st) i) = true := fun i j hi hj n e => hB.tot O (by omega) (by omega) n e
 refine wpS_bind (ZMO (wpS_bind (ZCK (arr := arrOf st) (by omega) (wpS_bind (ZEA (arr := arrOf st) (ZNw L (hkd _) (hmem _ (by omega)) harr (by omega : _ <= (arrOf st).size)) (hmono sa na (by omega) S1 _) (by omega) fun k kn t1 t2 => ?_)))))
 dsimp only
 have t1' : ∀ i, i < k -> C (G (arrOf st) (sa + i)) (G (arrOf st) (sa + na)) = true := fun i hi => tot _ _ (by omega) (by omega) (by omega) (by simpa using t1 i hi)
 have same : C (G (arrOf st) (sa + na - 1)) (G (arrOf st) (sa + na)) = true -> Mg C (arrOf st) (arrOf st) sa (na + nb) := fun hc => ⟨.refl _, fun _ _ => rfl, S1.join O.tr S2 hna hc⟩
 by_cases c1 : (na - k == 0) = true
 ·rw [if_pos c1]
  have hkn : k = na := by simp at c1; omega
  have hc := t1' (na - 1) (by omega)
  rw [show sa + (na - 1) = sa + na - 1 by omega] at hc
  exact wpS_pure (h _ _ (same hc))
 rw [if_neg c1]
 have hk : k < na := by simp at c1; omega
 have e1 : sa + k + (na - k) - 1 = sa + na - 1 := by omega
 rw [e1]
 refine wpS_bind (ZCK (arr := arrOf st) (by omega) (wpS_bind (ZEA (arr := arrOf st) (ZNx L (hkd _) (hmem _ (by omega)) harr (by omega : _ <= (arrOf st).size)) (hmonoL (sa + na) nb (by omega) S2 _) (by omega) fun nb' nbn u1 u2 => ?_)))
 dsimp only
 have u2' : ∀ i, nb' <= i -> i < nb -> C (G (arrOf st) (sa + na - 1)) (G (arrOf st) (sa + na + i)) = true := fun i h1 h2 => tot _ _ (by omega) (by omega) (by omega) (u2 i h1 h2)
 by_cases c2 : (nb' == 0) = true
 ·rw [if_pos c2]
  have e0 : nb' = 0 := by simpa using c2
  exact wpS_pure (h _ _ (same (u2' 0 (by omega) (by omega))))
 rw [if_neg c2]
 have hb1 : 1 <= nb' := by simp at c2; omega
 have M : MP C a₀ ((arrOf st).extract (sa + k) (sa + na)) ((arrOf st).extract (sa + na) (sa + na + nb')) := by
  refine ⟨fun x hx => ?_, fun x hx => ?_, fun x hx y hy e => ?_, S1.pw (by omega) (by omega) (by omega) (Uc _), S2.pw (by omega) (Uc _) (by omega) (by omega), ?_, ?_, ?_, ?_⟩
  ·obtain ⟨p, p1, p2, rfl⟩ := ZF5 (by omega) hx
   exact hmem _ (by omega)
  ·obtain ⟨p, p1, p2, rfl⟩ := ZF5 (by omega) hx
   exact hmem _ (by omega)
  ·obtain ⟨p, p1, p2, rfl⟩ := ZF5 (by omega) hx
   obtain ⟨q, q1, q2, rfl⟩ := ZF5 (by omega) hy
   exact hinj p q (by omega) (by omega) (by omega) e
  ·rw [UV]; omega
  ·rw [UV]; omega
  ·rw [ZEQ (by omega) (by omega), ZEQ (by omega) (by omega), Nat.add_zero, Nat.add_zero]
   have := t2 k (Uc _) hk
   simpa using this
  ·rw [UV, UV, ZEQ (by omega) (by omega), ZEQ (by omega) (by omega)]
   have := u1 (nb' - 1) (by omega)
   rw [show sa + na + (min (sa + na + nb') (arrOf st).size - (sa + na) - 1) = sa + na + (nb' - 1) by omega, show sa + k + (min (sa + na) (arrOf st).size - (sa + k) - 1) = sa + na - 1 by omega]
   exact this
 have fin : ∀ r, MOk C ((arrOf st).extract (sa + k) (sa + na)) ((arrOf st).extract (sa + na) (sa + na + nb')) r -> Mg C (arrOf st) (r.toList.zipIdx.foldl (fun (a : Array Keyed) (q : Keyed × Nat) => a.setIfInBounds (sa + k + q.2) q.1) (arrOf st)) sa (na + nb) := fun r hr => ZMN O (by omega) S1 S2 hk nbn hb1 hmem hinj t1' u2' hr
 have done : ∀ r g, MOk C ((arrOf st).extract (sa + k) (sa + na)) ((arrOf st).extract (sa + na) (sa + na + nb')) r -> wpS (model prog w) A E s (do
   modify fun s => setArr s (r.toList.zipIdx.foldl (fun a x => a.setIfInBounds (sa + k + x.2) x.1) (arrOf s))
   let l <- get
   pure (failedOf l).isNone) Q (ZB9 (setPending st (((pendingOf st).setIfInBounds i (sa, na + nb, pw)).eraseIdxIfInBounds (i + 1))) g) := fun r g hr => by
  refine wpS_bind (wpS_modify (wpS_bind (wpS_get ?_)))
  have := h _ g (fin r hr)
  refine wpS_pure ?_
  have hf : (failedOf st).isNone = true := by rw [hB.failed]; rfl
  show Q (failedOf st).isNone _
  rw [hf]
  exact this
 split
 ·exact wpS_bind <| ZJi O L M (hkd _) fun r g hr => done r g hr
 ·exact wpS_bind <| ZJj O L M (hkd _) fun r g hr => done r g hr
end
def ZCI (C : Cmp) (xs : Array Keyed) : Nat -> List (Nat × Nat × Nat) -> Nat -> Prop
 | lo, [], hi => lo = hi
 | lo, x :: r, hi => x.1 = lo /\ 1 <= x.2.1 /\ Sg C xs lo x.2.1 /\ ZCI C xs (lo + x.2.1) r hi
section
variable {C : Cmp} {xs ys : Array Keyed}
theorem ZCI.le : ∀ {l : List (Nat × Nat × Nat)} {lo hi : Nat}, ZCI C xs lo l hi -> lo + l.length <= hi
 | [], lo, hi, h => by cases h; exact Uc _
 | x :: r, lo, hi, ⟨h1, h2, h3, h4⟩ => by
  have := h4.le
  rw [UB]
  omega
theorem Sg.congr {lo n : Nat} (h : Sg C xs lo n) (e : ∀ k, lo <= k -> k < lo + n -> G ys k = G xs k) : Sg C ys lo n := fun i j hij hj => by
 rw [e _ (by omega) (by omega), e _ (by omega) (by omega)]
 exact h i j hij hj
theorem ZCI.congr : ∀ {l : List (Nat × Nat × Nat)} {lo hi : Nat}, ZCI C xs lo l hi -> (∀ k, lo <= k -> k < hi -> G ys k = G xs k) -> ZCI C ys lo l hi
 | [], lo, hi, h, e => h
 | x :: r, lo, hi, ⟨h1, h2, h3, h4⟩, e => by
  have := h4.le
  exact ⟨h1, h2, h3.congr fun k k1 k2 => e k k1 (by omega), h4.congr fun k k1 k2 => e k (by omega) k2⟩
theorem ZCI.split : ∀ {l1 l2 : List (Nat × Nat × Nat)} {lo hi : Nat}, ZCI C xs lo (l1 ++ l2) hi -> ∃ m, ZCI C xs lo l1 m /\ ZCI C xs m l2 hi
 | [], l2, lo, hi, h => ⟨lo, rfl, h⟩
 | x :: r, l2, lo, hi, ⟨h1, h2, h3, h4⟩ => by
  obtain ⟨m, a, b⟩ := ZCI.split h4
  exact ⟨m, ⟨h1, h2, h3, a⟩, b⟩
theorem ZCI.app : ∀ {l1 l2 : List (Nat × Nat × Nat)} {lo m hi : Nat}, ZCI C xs lo l1 m -> ZCI C xs m l2 hi -> ZCI C xs lo (l1 ++ l2) hi
 | [], l2, lo, m, hi, h, h' => by cases h; exact h'
 | x :: r, l2, lo, m, hi, ⟨h1, h2, h3, h4⟩, h' => ⟨h1, h2, h3, ZCI.app h4 h'⟩
theorem ZMP {p : Array (Nat × Nat × Nat)} {i : Nat} {x y : Nat × Nat × Nat} (h1 : p[i]? = some x) (h2 : p[i + 1]? = some y) : ∃ l1 l2, p.toList = l1 ++ x :: y :: l2 /\ l1.length = i := by
 rw [<- Array.getElem?_toList] at h1 h2
 obtain ⟨b1, e1⟩ := Um.mp h1
 obtain ⟨b2, e2⟩ := Um.mp h2
 refine ⟨p.toList.take i, p.toList.drop (i + 2), ?_, by rw [UK]; omega⟩
 conv => lhs; rw [<- List.take_append_drop i p.toList, List.drop_eq_getElem_cons b1, List.drop_eq_getElem_cons b2, e1, e2]
theorem ZKM {p : Array (Nat × Nat × Nat)} {i : Nat} {x y z : Nat × Nat × Nat} {l1 l2 : List (Nat × Nat × Nat)} (h : p.toList = l1 ++ x :: y :: l2) (hl : l1.length = i) : ((p.setIfInBounds i z).eraseIdxIfInBounds (i + 1)).toList = l1 ++ z :: l2 := by
 rw [Array.toList_eraseIdxIfInBounds, Array.toList_setIfInBounds, h, <- hl, List.set_append_right _ _ (Uc _), Nat.sub_self, List.set_cons_zero, List.eraseIdx_append_of_length_le (by omega), show l1.length + 1 - l1.length = 1 by omega]
 rfl
theorem ZCI.two {p : Array (Nat × Nat × Nat)} {i hi : Nat} {x y : Nat × Nat × Nat} (h : ZCI C xs 0 p.toList hi) (h1 : p[i]? = some x) (h2 : p[i + 1]? = some y) :
  y.1 = x.1 + x.2.1 /\ 1 <= x.2.1 /\ 1 <= y.2.1 /\ Sg C xs x.1 x.2.1 /\ Sg C xs (x.1 + x.2.1) y.2.1 /\ x.1 + x.2.1 + y.2.1 <= hi /\
  ∀ ys, Mg C xs ys x.1 (x.2.1 + y.2.1) -> ZCI C ys 0 ((p.setIfInBounds i (x.1, x.2.1 + y.2.1, x.2.2)).eraseIdxIfInBounds (i + 1)).toList hi := by
 obtain ⟨l1, l2, e, hl⟩ := ZMP h1 h2
 rw [e] at h
 obtain ⟨m, ha, rfl, b1, b2, c0, c1, c2, d⟩ := h.split
 have hd := d.le
 refine ⟨c0, b1, c1, b2, c2, by omega, fun ys M => ?_⟩
 rw [ZKM e hl]
 refine (ha.congr fun k _ k2 => M.out k (.inl k2)).app ⟨rfl, by show 1 <= x.2.1 + y.2.1; omega, M.run, ?_⟩
 show ZCI C ys (x.1 + (x.2.1 + y.2.1)) l2 hi
 rw [<- Nat.add_assoc]
 exact d.congr fun k k1 _ => M.out k (.inr (by omega))
theorem ZCI.push {p : Array (Nat × Nat × Nat)} {lo n q : Nat} (h : ZCI C xs 0 p.toList lo) (hn : 1 <= n) (hs : Sg C xs lo n) : ZCI C xs 0 (p.push (lo, n, q)).toList (lo + n) := by
 rw [UZ]
 exact h.app ⟨rfl, hn, hs, rfl⟩
theorem ZCI.pw : ∀ {l l' : List (Nat × Nat × Nat)} {lo hi : Nat}, ZCI C xs lo l hi -> l.map (fun x => (x.1, x.2.1)) = l'.map (fun x => (x.1, x.2.1)) -> ZCI C xs lo l' hi
 | [], l', lo, hi, h, e => by
  cases l' with
  | nil => exact h
  | cons => cases e
 | x :: r, l', lo, hi, ⟨h1, h2, h3, h4⟩, e => by
  cases l' with
  | nil => cases e
  | cons y r' =>
   rw [Uw, Uw] at e
   injection e with e1 e2
   injection e1 with e3 e4
   refine ⟨e3 ▸ h1, e4 ▸ h2, e4 ▸ h3, ?_⟩
   rw [<- e4]
   exact h4.pw e2
theorem ZCI.modify {p : Array (Nat × Nat × Nat)} {hi i q : Nat} (h : ZCI C xs 0 p.toList hi) : ZCI C xs 0 (p.modify i fun x => (x.1, x.2.1, q)).toList hi := by
 refine h.pw ?_
 rw [Array.toList_modify]
 apply List.ext_getElem?
 intro j
 rw [UG, UG, List.getElem?_modify]
 cases p.toList[j]? with
 | none => rfl
 | some x => by_cases c : i = j <;> simp [c]
theorem ZCI.one {p : Array (Nat × Nat × Nat)} {hi : Nat} (h : ZCI C xs 0 p.toList hi) (hp : p.size <= 1) : Sg C xs 0 hi := by
 cases e : p.toList with
 | nil => rw [e] at h; cases h; intro i j _ hj; omega
 | cons x r =>
  have : r = [] := by
   have := congrArg List.length e
   rw [Uf, UB] at this
   exact List.eq_nil_of_length_eq_zero (by omega)
  subst this
  rw [e] at h
  obtain ⟨_, _, h3, h4⟩ := h
  cases h4
  rw [Nat.zero_add]
  exact h3
end
section
variable {prog : Program} {w : World} {A : Around} {E : Value -> Shared -> Prop} {s : Shared} {kd : SortKind} {a₀ : Array Keyed} {C : Cmp} {st : SortSt}
theorem ZG1 (O : ZCR C a₀) (L : ZC8 prog w A E s kd a₀ C) (hB : TB kd a₀ st) {hi i : Nat} (hR : ZCI C (arrOf st) 0 (pendingOf st).toList hi) (hhi : hi <= a₀.size) (hi1 : i + 1 < (pendingOf st).size) {Q : Bool -> SortSt -> Prop}
  (h : ∀ st2, TB kd a₀ st2 -> ZCI C (arrOf st2) 0 (pendingOf st2).toList hi -> (∀ k, hi <= k -> G (arrOf st2) k = G (arrOf st) k) -> (pendingOf st2).size + 1 = (pendingOf st).size -> Q true st2) : wpS (model prog w) A E s (mergeAt' i) Q st := by
 have e1 : (pendingOf st)[i]? = some (pendingOf st)[i] := Array.getElem?_eq_getElem (by omega)
 have e2 : (pendingOf st)[i + 1]? = some (pendingOf st)[i + 1] := Array.getElem?_eq_getElem hi1
 generalize (pendingOf st)[i] = x at e1
 generalize (pendingOf st)[i + 1] = y at e2
 obtain ⟨sa, na, pw⟩ := x
 obtain ⟨sb, nb, pw2⟩ := y
 obtain ⟨h1, h2, h3, h4, h5, h6, h7⟩ := hR.two e1 e2
 dsimp only at h1 h2 h3 h4 h5 h6 h7
 subst h1
 refine ZJk O L hB e1 e2 h2 h3 (by omega) h4 h5 fun ys g M => h _ ⟨M.perm.trans hB.perm, hB.kind, hB.failed⟩ (h7 ys M) (fun k hk => M.out k (.inr (by omega))) ?_
 show (((pendingOf st).setIfInBounds i (sa, na + nb, pw)).eraseIdxIfInBounds (i + 1)).size + 1 = _
 obtain ⟨l1, l2, e, hl⟩ := ZMP e1 e2
 rw [<- Uf, <- Uf, ZKM e hl, e]
 simp
 omega
def ZKN (size lo n : Nat) : StateT SortSt Sem (ForInStep (Option Unit × Nat)) := do
 let l <- get
 match (pendingOf l).back? with
 | some (s1, n1, snd) => do
  let r <- forIn [:size] ((none, ()) : Option Unit × Unit) fun x r => do
   let l <- get
   match if (pendingOf l).size > 1 then (pendingOf l)[(pendingOf l).size - 2]? else none with
   | some (fst, fst_1, older) =>
    if older <= power' size (2 * s1 + n1) (2 * s1 + n1 + n1 + n) size then pure (ForInStep.done (none, ()))
    else do
     let l <- mergeAt' ((pendingOf l).size - 2)
     if (!l) = true then pure (ForInStep.done (some (), ())) else pure (ForInStep.yield (none, ()))
   | x => pure (ForInStep.done (none, ()))
  @Break.runK.match_1.{0, 1} Unit (fun _ => StateT SortSt Sem (ForInStep (Option Unit × Nat))) r.fst (fun r => pure (ForInStep.done (some r, lo))) (fun _ => do
   modify fun s => setPending s ((pendingOf s).modify ((pendingOf s).size - 1) fun x => (x.fst, x.2.fst, power' size (2 * s1 + n1) (2 * s1 + n1 + n1 + n) size))
   modify fun s => setPending s ((pendingOf s).push (lo, n, 0))
   pure (ForInStep.yield (none, lo + n)))
 | x => do
  modify fun s => setPending s ((pendingOf s).push (lo, n, 0))
  pure (ForInStep.yield (none, lo + n))
theorem ZMQ (O : ZCR C a₀) (L : ZC8 prog w A E s kd a₀ C) (hB : TB kd a₀ st) {lo n : Nat} (hR : ZCI C (arrOf st) 0 (pendingOf st).toList lo) (hn : 1 <= n) (hhi : lo + n <= a₀.size) (hs : Sg C (arrOf st) lo n) {T : ForInStep (Option Unit × Nat) -> SortSt -> Prop}
  (h : ∀ st2, TB kd a₀ st2 -> ZCI C (arrOf st2) 0 (pendingOf st2).toList (lo + n) -> T (.yield (none, lo + n)) st2) : wpS (model prog w) A E s (ZKN a₀.size lo n) T st := by
 unfold ZKN
 refine wpS_bind (wpS_get ?_)
 cases hb : (pendingOf st).back? with
 | none =>
  dsimp only
  exact wpS_bind (wpS_modify (wpS_pure (h _ ⟨hB.perm, hB.kind, hB.failed⟩ (hR.push hn hs))))
 | some z =>
  obtain ⟨s1, n1, q1⟩ := z
  dsimp only
  generalize power' a₀.size (2 * s1 + n1) (2 * s1 + n1 + n1 + n) a₀.size = pw
  refine wpS_bind (wpS_mono (wpS_forRange (I := fun x c st' => c = (none, ()) /\ TB kd a₀ st' /\ ZCI C (arrOf st') 0 (pendingOf st').toList lo /\ Sg C (arrOf st') lo n)
   (Q := fun c st' => c = (none, ()) /\ TB kd a₀ st' /\ ZCI C (arrOf st') 0 (pendingOf st').toList lo /\ Sg C (arrOf st') lo n) ?step (fun _ _ hh => hh) ⟨rfl, hB, hR, hs⟩) ?post)
  case post =>
   rintro c st' ⟨rfl, hB', hR', hs'⟩
   dsimp only
   exact wpS_bind (wpS_modify (wpS_bind (wpS_modify (wpS_pure (h _ ⟨hB'.perm, hB'.kind, hB'.failed⟩ (hR'.modify.push hn hs'))))))
  case step =>
   rintro x c st' _ hx ⟨rfl, hB', hR', hs'⟩
   refine wpS_bind (wpS_get ?_)
   by_cases c1 : (pendingOf st').size > 1
   ·rw [if_pos c1, Array.getElem?_eq_getElem (by omega)]
    generalize (pendingOf st')[(pendingOf st').size - 2] = z
    obtain ⟨z1, z2, older⟩ := z
    dsimp only
    by_cases c2 : older <= pw
    ·rw [if_pos c2]
     exact wpS_pure ⟨rfl, hB', hR', hs'⟩
    rw [if_neg c2]
    refine wpS_bind (ZG1 O L hB' hR' (by omega) (by omega) fun st2 hB2 hR2 hG _ => ?_)
    simp only [Bool.not_true, Uo, if_false]
    exact wpS_pure ⟨rfl, hB2, hR2, hs'.congr fun k k1 _ => hG k k1⟩
   ·rw [if_neg c1]
    exact wpS_pure ⟨rfl, hB', hR', hs'⟩
theorem ZMR (O : ZCR C a₀) (L : ZC8 prog w A E s kd a₀ C) {Q : Unit -> SortSt -> Prop} (hB : TB kd a₀ st) (hp : pendingOf st = #[])
  (h : ∀ st', TB kd a₀ st' -> Sg C (arrOf st') 0 a₀.size -> Q () st') : wpS (model prog w) A E s sortRuns' Q st := by
 rw [sortRuns'_eq]
 refine wpS_bind (wpS_get ?_)
 dsimp only
 simp only [hB.size]
 generalize minRun' a₀.size a₀.size 0 = mr
 refine wpS_bind (wpS_mono (wpS_forRange
  (I := fun x c st' => ∃ lo, c = (none, lo) /\ TB kd a₀ st' /\ ZCI C (arrOf st') 0 (pendingOf st').toList lo /\ lo <= a₀.size /\ x <= lo)
  (Q := fun c st' => c = (none, a₀.size) /\ TB kd a₀ st' /\ ZCI C (arrOf st') 0 (pendingOf st').toList a₀.size) ?step ?fin ⟨0, rfl, hB, by rw [hp]; rfl, UJ _, Uc _⟩) ?post)
 case fin =>
  rintro c st' ⟨lo, rfl, hB', hR, h1, h2⟩
  have e : lo = a₀.size := by omega
  subst e
  exact ⟨rfl, hB', hR⟩
 case step =>
  rintro x c st' _ hx ⟨lo, rfl, hB', hR, h1, h2⟩
  dsimp only
  by_cases c0 : lo >= a₀.size
  ·rw [if_pos c0]
   have e : lo = a₀.size := by omega
   subst e
   exact wpS_pure ⟨rfl, hB', hR⟩
  rw [if_neg c0]
  refine wpS_bind (ZK7 O L (by omega) (by omega) hB' fun m xs hB2 hb2 hm1 hm2 hs2 => ?_)
  dsimp only
  have hR2 : ZCI C xs 0 (pendingOf st').toList lo := hR.congr fun k _ k2 => hb2 k k2
  by_cases hlt : m < mr
  ·rw [if_pos hlt]
   refine wpS_bind (wpS_lift (wpAny_rule ⟨rfl, ?_⟩))
   refine wpS_bind (ZNu O L (by omega) hm1 (by omega) hB2 hs2 fun xs3 hB3 hb3 hs3 => ?_)
   simp only [Bool.not_true, Uo, if_false]
   exact ZMQ (st := setArr (setArr st' xs) xs3) O L hB3 (hR2.congr fun k _ k2 => hb3 k k2) (by omega) (by omega) hs3 fun st2 g1 g2 => ⟨_, rfl, g1, g2, by omega, by omega⟩
  ·rw [if_neg hlt]
   exact ZMQ (st := setArr st' xs) O L hB2 hR2 hm1 (by omega) hs2 fun st2 g1 g2 => ⟨_, rfl, g1, g2, by omega, by omega⟩
 case post =>
  rintro c st' ⟨rfl, hB', hR⟩
  dsimp only
  have hle := hR.le
  rw [Uf] at hle
  refine wpS_bind (wpS_mono (wpS_forRange (I := fun x c st' => c = (none, ()) /\ TB kd a₀ st' /\ ZCI C (arrOf st') 0 (pendingOf st').toList a₀.size /\ (pendingOf st').size + x <= a₀.size)
   (Q := fun c st' => c = (none, ()) /\ TB kd a₀ st' /\ ZCI C (arrOf st') 0 (pendingOf st').toList a₀.size /\ (pendingOf st').size <= 1) ?step2 ?fin2 ⟨rfl, hB', hR, by omega⟩) ?post2)
  case post2 =>
   rintro c st2 ⟨rfl, hB2, hR2, hp2⟩
   dsimp only
   exact wpS_pure (h _ hB2 (hR2.one hp2))
  case fin2 =>
   rintro c st2 ⟨rfl, hB2, hR2, hp2⟩
   exact ⟨rfl, hB2, hR2, by omega⟩
  case step2 =>
   rintro x c st2 _ hx ⟨rfl, hB2, hR2, hp2⟩
   refine wpS_bind (wpS_get ?_)
   by_cases c1 : (pendingOf st2).size <= 1
   ·rw [if_pos c1]
    exact wpS_pure ⟨rfl, hB2, hR2, c1⟩
   rw [if_neg c1]
   refine wpS_bind (ZG1 O L hB2 hR2 (Uc _) ?_ fun st3 hB3 hR3 _ hsz => ?_)
   ·have : ∀ (c : Bool) (n : Nat), n > 1 -> (if c = true then n - 2 - 1 else n - 2) + 1 < n := by
     intro c n h
     cases c <;> simp <;> omega
    exact this _ _ (by omega)
   ·simp only [Bool.not_true, Uo, if_false]
    exact wpS_pure ⟨rfl, hB3, hR3, by omega⟩
end
section
variable {prog : Program} {w : World} {A : Around} {E : Value -> Shared -> Prop} {s : Shared}
theorem ZJH (vs : List Value) : (vs.toArray.zip vs.toArray).toList = vs.map fun v => (v, v) := by
 rw [Array.toList_zip]
 induction vs with
 | nil => rfl
 | cons v r ih => simpa using ih
theorem ZKO (vs : List Value) : (vs.map fun v => (v, v)).map (·.2) = vs := by rw [List.map_map]; exact List.map_id vs
theorem ZH7 {a : Addr} {vs : List Value} {n : Nat} {P : Fin -> Shared -> Prop} {kd : SortKind} (C : Value -> Value -> Bool) (tr : ∀ x y z, C x y = true -> C y z = true -> C x z = true) (asy : ∀ x y, C x y = true -> C y x = false)
  (tot : ∀ x ∈ vs, ∀ y ∈ vs, x ≠ y -> C x y = false -> C y x = true) (nd : vs.Nodup) (hsz : vs.length <= sizeLine) (ho : s.heap.get? a = some (seqObj "list" vs.toArray n))
  (kind : 2 <= vs.length -> ∀ h3 : Heap, (∀ b o, b ≠ a -> s.heap.get? b = some o -> h3.get? b = some o) -> ∀ Q : SortKind -> Shared -> Prop, Q kd { s with heap := h3 } -> wpAny (model prog w) A (keyKind' vs.toArray) Q E { s with heap := h3 })
  (lt : ∀ h3 : Heap, (∀ b o, b ≠ a -> s.heap.get? b = some o -> h3.get? b = some o) -> ∀ x ∈ vs, ∀ y ∈ vs, ∀ (E' : Value -> Shared -> Prop) (Q : Bool -> Shared -> Prop), Q (C x y) { s with heap := h3 } -> wpAny (model prog w) A (keyLt' kd x y) Q E' { s with heap := h3 })
  (h : ∀ out : List Value, out.Perm vs -> out.Pairwise (fun x y => C x y = true) -> P (.done (.ret .none)) { s with heap := sortedHeap s.heap a vs out.toArray }) :
  wpAny (model prog w) A (Builtin.«list.sort» ⟨[.ref a], []⟩) P E s := by
 have ha : a < s.heap.objs.size := Ug ho
 rw [list_sort_plain]
 refine Ua (listItems_at ho rfl ?_)
 refine Ua (listUpdate_at ho rfl ?_ (by rw [Ut]; exact hsz) (UJ _))
 obtain ⟨e1, ho1⟩ : ∃ e1, (s.heap.update a (Obj.mapSeq fun _ => (#[] : Array Value))).get? a = some (seqObj "list" #[] e1) := ⟨_, get?_update_seq ho fun _ => #[]⟩
 refine Ua (seqEpoch_at ho1 rfl ?_)
 refine Ua (wpAny_newTuple ?_ (by show vs.length <= _; exact hsz))
 refine Ua (wpAny_newList ?_ (UJ _))
 refine UI ?_
 generalize hh : (((s.heap.update a (Obj.mapSeq fun _ => (#[] : Array Value))).push (seqObj "tuple" vs.toArray 0)).push (seqObj "list" #[] 0)) = h3
 have ho3 : h3.get? a = some (seqObj "list" #[] e1) := by rw [<- hh]; exact Ub _ (Ub _ ho1)
 have keep : ∀ b o, b ≠ a -> s.heap.get? b = some o -> h3.get? b = some o := fun b o hb e => by
  rw [<- hh]
  exact Ub _ (Ub _ ((Uq _ _ (Ne.symm hb)).trans e))
 have done : ∀ out : List Value, out.Perm vs -> out.Pairwise (fun x y => C x y = true) ->
   P (.done (.ret .none)) { s with heap := h3.update a (Obj.mapSeq fun _ => out.toArray) } := fun out hp hs => by
  have := h out hp hs
  unfold sortedHeap at this
  rw [hh] at this
  exact this
 show wpAny (model prog w) A _ P E { s with heap := h3 }
 dsimp only
 have fin : ∀ st' : SortSt, failedOf st' = none -> (∃ out : List Value, (arrOf st').map (·.2) = out.toArray /\ out.Perm vs /\ out.Pairwise (fun x y => C x y = true)) -> wpAny (model prog w) A (do
   let l <- seqEpoch a
   Builtin.List.listUpdate (.ref a) fun _ => (arrOf st').map (·.2)
   if let some e := failedOf st' then rule "list.sort.comparison-raised"; throw e
   if (l != e1) = true then rule "list.sort.modified"; raiseError "ValueError" "list modified during sort"
   ret .none) P E { s with heap := h3 } := by
  rintro st' hf ⟨out, e, hp, hs⟩
  rw [e]
  refine Ua (seqEpoch_at (s := { s with heap := h3 }) ho3 rfl ?_)
  refine Ua (listUpdate_at (s := { s with heap := h3 }) ho3 rfl ?_ (UJ _) ?_)
  ·rw [hf]
   simp only [bne_self_eq_false, Uo, if_false]
   exact Uh (done out hp hs)
  ·show out.toArray.size <= _
   rw [Ut, hp.length_eq]
   omega
 by_cases h2 : vs.toArray.size < 2
 ·rw [if_pos h2, if_pos h2]
  refine Ua (Uh ?_)
  rw [StateT.run_pure]
  refine Ua (Uh ?_)
  refine fin (SortSt.mk' general' (vs.toArray.zip vs.toArray) #[] 7 none) rfl ⟨vs, ?_, .refl _, ?_⟩
  ·apply Array.toList_inj.mp
   show ((vs.toArray.zip vs.toArray).map (·.2)).toList = _
   rw [Array.toList_map, ZJH, ZKO]
  ·rw [Ut] at h2
   match vs, h2 with
   | [], _ => exact .nil
   | [v], _ => exact List.pairwise_singleton _ _
 ·rw [if_neg h2, if_neg h2]
  have h2' : 2 <= vs.length := by rw [Ut] at h2; omega
  refine Ua (kind h2' h3 keep _ ?_)
  have hz := ZJH vs
  have hzm : ∀ x ∈ (vs.toArray.zip vs.toArray).toList, x.1 ∈ vs /\ x = (x.1, x.1) := fun x hx => by
   rw [hz] at hx
   obtain ⟨v, hv, rfl⟩ := List.mem_map.mp hx
   exact ⟨hv, rfl⟩
  have O : ZCR (fun x y => C x.1 y.1) (vs.toArray.zip vs.toArray) := by
   refine ⟨fun x y z => tr _ _ _, fun x y => asy _ _, fun x hx y hy n e => ?_, ?_⟩
   ·obtain ⟨x1, x2⟩ := hzm x hx
    obtain ⟨y1, y2⟩ := hzm y hy
    exact tot _ x1 _ y1 (fun z => n (by rw [x2, y2, z])) e
   ·rw [hz]
    exact UM.mpr (nd.imp fun h e => h (Prod.mk.inj e).1)
  have L : ZC8 prog w A E { s with heap := h3 } kd (vs.toArray.zip vs.toArray) (fun x y => C x.1 y.1) := fun x hx y hy st Q hk hq => by
   rw [lt'_eq]
   refine wpS_bind (wpS_get ?_)
   rw [hk]
   refine wpS_bind (wpS_lift (wpAny_attempt (lt h3 keep _ (hzm x hx).1 _ (hzm y hy).1 _ _ ⟨rfl, ?_⟩)))
   exact wpS_pure hq
  refine Ua (Uv (ZMR (st := SortSt.mk' kd (vs.toArray.zip vs.toArray) #[] 7 none) O L (Q := fun _ st' => TB kd (vs.toArray.zip vs.toArray) st' /\ Sg (fun x y => C x.1 y.1) (arrOf st') 0 (vs.toArray.zip vs.toArray).size)
   ⟨.refl _, rfl, rfl⟩ rfl fun st' b1 b2 => ⟨b1, b2⟩) ?_ fun _ _ e => e)
  rintro ⟨⟨⟩, st'⟩ s' ⟨rfl, hB, hS⟩
  refine fin st' hB.failed ⟨((arrOf st').map (·.2)).toList, by rw [Array.toArray_toList], ?_, ?_⟩
  ·have hp := (UP.mp hB.perm).map (·.2)
   rw [hz, ZKO] at hp
   rw [Array.toList_map]
   exact hp
  ·have := hS.pw (by rw [hB.size]; omega) (i := 0) (j := (arrOf st').size) (Uc _) (UJ _) (by rw [hB.size]; omega)
   rw [Array.extract_size] at this
   rw [Array.toList_map, UM]
   refine this.imp_of_mem fun {x y} hx hy e => ?_
   have hm : ∀ x ∈ (arrOf st').toList, x = (x.1, x.1) := fun x hx => (hzm x ((UP.mp hB.perm).mem_iff.mp hx)).2
   rw [hm x hx, hm y hy]
   exact e
def ZN0 : Value -> Int
 | .int a _ => a
 | _ => 0
def ltI : Value -> Value -> Bool
 | .int a _, .int b _ => decide (a < b)
 | _, _ => false
theorem ZG2 : ∀ {vs : List Value} {ns : List Int}, IntsAre vs ns -> vs.map ZN0 = ns /\ ∀ v ∈ vs, ∃ a t, v = .int a t
 | _, _, .nil => ⟨rfl, fun v hv => by cases hv⟩
 | _, _, .cons a t r => by
  obtain ⟨h1, h2⟩ := ZG2 r
  refine ⟨by rw [Uw, h1]; rfl, fun v hv => ?_⟩
  rcases Uj.mp hv with rfl | hv
  ·exact ⟨_, _, rfl⟩
  ·exact h2 v hv
theorem ZHl : ∀ {vs : List Value}, (∀ v ∈ vs, ∃ a t, v = .int a t) -> IntsAre vs (vs.map ZN0)
 | [], _ => .nil
 | v :: r, h => by
  obtain ⟨a, t, rfl⟩ := h v (.head _)
  exact .cons _ _ (ZHl fun v hv => h v (.tail _ hv))
theorem ZKP {f : Value -> Int} : ∀ {vs : List Value}, (vs.map f).Nodup -> ∀ x ∈ vs, ∀ y ∈ vs, f x = f y -> x = y
 | [], _, x, hx, _, _, _ => by cases hx
 | v :: r, h, x, hx, y, hy, e => by
  rw [Uw, List.nodup_cons] at h
  rcases Uj.mp hx with e1 | hx'
  ·rcases Uj.mp hy with e2 | hy'
   ·rw [e1, e2]
   ·refine absurd (List.mem_map.mpr ⟨y, hy', ?_⟩) h.1
    rw [<- e, e1]
  ·rcases Uj.mp hy with e2 | hy'
   ·refine absurd (List.mem_map.mpr ⟨x, hx', ?_⟩) h.1
    rw [e, e2]
   ·exact ZKP h.2 x hx' y hy' e
theorem ZHM {a : Addr} {vs : List Value} {ns : List Int} {n : Nat} {P : Fin -> Shared -> Prop} (ho : s.heap.get? a = some (seqObj "list" vs.toArray n)) (hI : IntsAre vs ns) (nd : ns.Nodup) (hsz : vs.length <= sizeLine)
  (h : ∀ (out : Array Value) (ns' : List Int), IntsAre out.toList ns' -> ns'.Perm ns -> ns'.Pairwise (· <= ·) -> P (.done (.ret .none)) { s with heap := sortedHeap s.heap a vs out }) :
  wpAny (model prog w) A (Builtin.«list.sort» ⟨[.ref a], []⟩) P E s := by
 obtain ⟨f1, f2⟩ := ZG2 hI
 subst f1
 have inj := ZKP nd
 refine ZH7 (kd := oneType') ltI (fun x y z h1 h2 => ?_) (fun x y h1 => ?_) (fun x hx y hy n e => ?_) ?_ hsz ho (fun h2 h3 _ Q hq => ?_) (fun h3 _ x hx y hy E' Q hq => ?_) fun out hp hs => ?_
 ·cases x <;> cases y <;> cases z <;> simp [ltI] at h1 h2 ⊢
  omega
 ·cases x <;> cases y <;> simp [ltI] at h1 ⊢
  omega
 ·obtain ⟨a, t, rfl⟩ := f2 x hx
  obtain ⟨b, u, rfl⟩ := f2 y hy
  have : a ≠ b := fun z => n (inj _ hx _ hy z)
  simp [ltI] at e ⊢
  omega
 ·exact (UM.mp nd).imp fun h e => h (by rw [e])
 ·match vs, h2, hI with
  | v₁ :: v₂ :: ZCm, _, hI =>
   rw [keyKind_ints hI]
   exact Uh hq
 ·obtain ⟨a, t, rfl⟩ := f2 x hx
  obtain ⟨b, u, rfl⟩ := f2 y hy
  rw [keyLt'_oneType]
  exact oneLt_int hq
 ·have f3 : ∀ v ∈ out, ∃ a t, v = .int a t := fun v hv => f2 v (hp.mem_iff.mp hv)
  refine h out.toArray (out.map ZN0) (ZHl f3) (hp.map _) ?_
  rw [UM]
  refine hs.imp_of_mem fun {x y} hx hy e => ?_
  obtain ⟨a, t, rfl⟩ := f3 x hx
  obtain ⟨b, u, rfl⟩ := f3 y hy
  simp [ltI] at e
  show a <= b
  omega
end
section
variable {prog : Program} {w : World} {A : Around} {E : Value -> Shared -> Prop} {s : Shared} {κ : Type} [DecidableEq κ] {knd : KeyKind prog w κ}
theorem ZJI {d : Addr} {kvs : List (κ × Value)} {ep : Nat} {Q : Value -> Shared -> Prop} (hh : A.handled = none) (hd : (d == sysModules) = false) (hm : s.heap.DictAt knd d kvs ep) (hz : kvs.length <= sizeLine)
  (hI : ∀ acc : Array Value, ItemsOf (fun i v => ∃ k x, kvs[i]? = some (k, x) /\ knd.is k v = true) acc kvs.length -> ∃ ns, IntsAre acc.toList ns /\ ns.Nodup /\ ∀ (s' : Shared) (l : Addr) (out : Array Value) (ns' : List Int) (e : Nat), s.heap.objs.size <= l -> (∀ b o, s.heap.get? b = some o -> s'.heap.get? b = some o) -> s'.gens = s.gens -> s'.drawn = s.drawn -> s'.os = s.os ->
   s'.heap.get? l = some (seqObj "list" out e) -> out.size = kvs.length -> IntsAre out.toList ns' -> ns'.Perm ns -> ns'.Pairwise (· <= ·) -> Q (.ref l) s') :
  wpAny (model prog w) A (call (.builtin "sorted") [.ref d]) Q E s := by
 refine Calls.call_function_entry kind_sorted plain_sorted entry_sorted (args_sorted1 _) ?_
 unfold Builtin.«sorted»
 refine Ua (m := checkCount "sorted" 1 1 _) (Uh ?_)
 refine Ua (ZIj (knd := knd) hh hd hm hz fun s1 acc hk e1 e2 e3 hlt hacc => ?_)
 obtain ⟨ns, hns, hnd, hQ⟩ := hI acc hacc
 have hal : acc.toList.length <= sizeLine := by rw [Uf, hacc.1]; exact hz
 refine Ua (wpAny_newList (hsz := hal) ?_)
 have hoL : (s1.heap.push (seqObj "list" acc.toList.toArray 0)).get? s1.heap.objs.size = some (seqObj "list" acc.toList.toArray 0) := Uk _ rfl
 show wpAny _ _ _ _ _ { s1 with heap := s1.heap.push (seqObj "list" acc.toList.toArray 0) }
 refine Ua (UI (wpAny_call_entry slot_list_sort ⟨_, hoL, rfl⟩ entry_list_sort (ZHM hoL hns hnd hal fun out ns' a1 a2 a3 => ⟨_, rfl, ?_⟩) (args_list_sort _)))
 refine Uh ⟨_, rfl, ?_⟩
 obtain ⟨e, he⟩ := sortedHeap_at (out := out) hoL
 have hle : s.heap.objs.size <= s1.heap.objs.size := Nat.le_of_lt hlt
 refine hQ _ _ out ns' e hle (fun b o eb => ?_) e1 e2 e3 he ?_ a1 a2 a3
 ·have hb := Ug (hk _ _ eb)
  exact (sortedHeap_old (Up hb) (by rw [Heap.size_push]; exact Nat.lt_succ_of_lt hb)).trans (Ub _ (hk _ _ eb))
 ·have l1 := IntsAre.length a1
  have l2 := IntsAre.length hns
  have l3 := a2.length_eq
  have l4 := hacc.1
  simp only [Uf] at l1 l2
  omega
end
def ZHm : List V -> Hp -> VK -> Prop := fun xs H Q => ∃ (p : Addr) (kvs : List (Key × V)) (ns : List Int), xs = [.ref p] /\ Rd H p (.dK kvs) /\ kvs.map (·.1) = ns.map Sum.inl /\ kvs.length < 100000 /\ ∀ (l : Addr) (ns' : List Int), H l = none -> ns'.Perm ns -> ns'.Pairwise (· <= ·) -> Q (.ref l) (upd H l (.lst (ns'.map V.int)))
theorem ZEW {X : Cx} (hc : X.calm = true) : ZCe X (.builtin "sorted") ZHm := by
 intro pins s U H xs us Q I r h
 obtain ⟨p, kvs, ns, rfl, hd, hns, h64, q⟩ := h
 obtain ⟨u, rfl, ru⟩ := r.one
 cases ru
 obtain ⟨z, hd, vs, rel, dd⟩ := ZDo I.hok hd
 obtain ⟨ep, dd⟩ := dd.dictAt
 have hlen : vs.length = kvs.length := rel.length.symm
 have hkeys : vs.map (·.1) = ns.map Sum.inl := by rw [KV.keysEq rel]; exact hns
 have hnd : ns.Nodup := by
  have : (vs.map (·.1)).Nodup := by
   obtain ⟨o, es, _, _, _, _, _, hn⟩ := id dd
   exact hn
  rw [hkeys] at this
  exact (UM.mp this).imp fun h e => h (by rw [e])
 refine ZJI (I.ok.hd hc) hd dd (by rw [hlen, sizeLine_eq]; omega) fun acc hacc => ⟨ns, ?_, hnd, fun s' l out ns' e hl hk e1 e2 e3 he ho a1 a2 a3 => ?_⟩
 ·exact ZHg vs ns acc.toList hkeys (by rw [Uf]; exact hacc.1) fun j v e => hacc.2 j v (by simpa using e)
 ·obtain ⟨h', g', d', tk, os'⟩ := s'
  simp only at e1 e2 e3
  subst e1 e2 e3
  refine ⟨.ref l, upd H l (.lst (ns'.map V.int)), I.laid (t' := tk) hk hl ?_, rfl, q l ns' (I.hok.fresh hl) a2 a3⟩
  refine ⟨?_, out.toList, e, IntsAre.vals a1, he⟩
  have l1 := a2.length_eq
  have l2 := congrArg List.length hns
  simp only [Ur] at l2 ⊢
  rw [sizeLine_eq]
  omega
theorem ZFC {H : Hp} {Q : VK} {p : Addr} {m : PL} (h1 : H p = some (.dK (ZCE m))) (hz : m.length < 100000) (h : ∀ l H2 (ns : List Int), H l = none -> H2 l = some (.lst (ns.map V.int)) -> ns.Perm (m.map (·.1)) -> ns.Pairwise (· <= ·) -> ZB1 H H2 -> Q (.ref l) H2) : ZHm [.ref p] H Q :=
 ⟨p, _, m.map (·.1), rfl, .inl h1, by simp [ZCE, dkE], by simpa [ZCE] using hz, fun l ns hl hp hs => h l _ ns hl ZCC hp hs (ZB1.new hl)⟩
section
variable {prog : Program} {w : World} {A : Around} {E : Value -> Shared -> Prop} {s : Shared} {κ : Type} [DecidableEq κ] {knd : KeyKind prog w κ}
theorem ZN1 {a b : Addr} {kvs : List (κ × Value)} {ep ep2 : Nat} {Q : Value -> Shared -> Prop} (hd : (a == sysModules) = false) (hd2 : (b == sysModules) = false) (h1 : s.heap.DictAt knd a kvs ep) (h2 : s.heap.DictAt knd b [] ep2) (hu : A.units < cLine)
  (h : Q (.bool kvs.isEmpty) s) : wpAny (model prog w) A (compareOp .Eq (.ref a) (.ref b)) Q E s := by
 have hT1 : s.TypeIs (.ref a) "dict" := h1.dictOf.typeIs
 have hT2 : s.TypeIs (.ref b) "dict" := h2.dictOf.typeIs
 obtain ⟨o, es, ho, hc, hdat, hk, hp, hn⟩ := id h1
 obtain ⟨o2, es2, ho2, hc2, hdat2, hk2, hp2, hn2⟩ := id h2
 refine wpAny_richCompare_same_room (op := .Eq) hT1 hT2 F.slot_dict_eq (wpAny_call_entry F.slot_dict_eq hT1 F.entry_dict_eq ?_ (F.args_dict_eq_2 _ _)) hu
 refine Ua (m := Builtin.Dict.dictSlotArgs "__eq__" ⟨[.ref a, .ref b], []⟩) ?_
 unfold Builtin.Dict.dictSlotArgs
 refine Ua (wpAny_notOrdered_dict hT1 ?_)
 show wpAny _ _ (pure (Value.ref a, Value.ref b)) _ _ s
 refine Uh ?_
 show wpAny _ _ (isInstance (.ref b) (.type "dict") >>= _) _ _ s
 refine Ua (wpAny_isInstance (b := true) hT2 (by rw [isSubtype_type]; kernel_rfl) ?_)
 show wpAny _ _ (Builtin.Dict.samePairs _ a b >>= _) _ _ s
 refine Ua ?_
 unfold Builtin.Dict.samePairs
 show wpAny _ _ (Builtin.Dict.showsAll a >>= _) _ _ s
 unfold Builtin.Dict.showsAll
 rw [if_neg (by rw [hd]; exact UE)]
 refine Ua (Uh ?_)
 rw [if_neg (by rw [hd2]; exact UE)]
 refine Ua (Uh ?_)
 refine Ua (wpAny_dictEntries ho hdat ?_)
 refine Ua (wpAny_dictEntries ho2 hdat2 ?_)
 have hsz : es.size = kvs.length := by rw [<- hp.length]; simp
 have hsz2 : es2.size = 0 := by have := hp2.length; simpa using this
 cases kvs with
 | nil =>
  rw [if_neg (by rw [hsz, hsz2]; simp)]
  refine Ua (wpAny_dictEpoch ho hdat ?_)
  rw [hsz]
  refine Ua (wpAny_of_eq (a := (none, ())) (by rw [Std.Legacy.Range.forIn_eq_forIn_range']; simp [Std.Legacy.Range.size]) ?_)
  exact Uh (Uh ⟨_, rfl, (fun x => nomatch x), h⟩)
 | cons x r =>
  rw [if_pos (by rw [hsz, hsz2]; simp)]
  refine Ua (wpAny_rule ?_)
  exact Uh (Uh ⟨_, rfl, (fun x => nomatch x), h⟩)
end
def ZOX : R2 := fun x y H Q => ∃ (p q : Addr) (kvs : List (Key × V)), x = .ref p /\ y = .ref q /\ Rd H p (.dK kvs) /\ Rd H q (.dK []) /\ Q (.bl kvs.isEmpty) H
theorem ZPj {X : Cx} (hu : X.A.units + 1 < cLine) : OpR X (compareOp .Eq) ZOX := by
 intro pins s U H x y v u Q I rx ry h
 obtain ⟨p, q, kvs, rfl, rfl, h1, h2, k⟩ := h
 obtain rfl : v = Value.ref p := rx
 obtain rfl : u = Value.ref q := ry
 obtain ⟨z1, hd1, vs1, rel1, dd1⟩ := ZDo I.hok h1
 obtain ⟨z2, hd2, vs2, rel2, dd2⟩ := ZDo I.hok h2
 obtain ⟨ep1, dd1⟩ := dd1.dictAt
 obtain ⟨ep2, dd2⟩ := dd2.dictAt
 cases rel2
 refine ZN1 hd1 hd2 dd1 dd2 (by omega) ⟨.bl kvs.isEmpty, H, I, ?_, k⟩
 have : vs1.isEmpty = kvs.isEmpty := by cases rel1 <;> rfl
 rw [this]
 rfl
theorem ZPk {H : Hp} {Q : VK} {p q : Addr} {m : PL} (h1 : H p = some (.dK (ZCE m))) (h2 : H q = some (.dK (ZCE []))) (k : Q (.bl m.isEmpty) H) : ZOX (.ref p) (.ref q) H Q :=
 ⟨p, q, _, rfl, rfl, .inl h1, .inl h2, by cases m <;> exact k⟩
end L2
namespace My
open PySem L2
theorem ZCX {N P : List Str} {sc : Scope} (a : sc.kind = .function := by rfl) (b : sc.isCoroutine = false := by rfl) (c : sc.isGenerator = false := by rfl) (d : N.Nodup := by decide +kernel) (e : N.take P.length = P := by rfl) (f : ∀ x ∈ P, sc.names.lookup x = some .local \/ sc.names.lookup x = some .cell := by decide +kernel) (g : ∀ y ∈ sc.names, y.2 ≠ .free := by decide +kernel) : ZB4 N P sc := ⟨a, b, c, d, e, f, g⟩
theorem qsS {X : Cx} {x : Str} {e : Expr} {te : TE} {pos pos' : Pos} {i : Nat} (hN : X.N.Nodup) (he : QE X e te) (hi : X.N[i]? = some x := by rfl) (hx : Loc X.env.scope x := by first | exact Or.inl rfl | exact Or.inr rfl) (hs : ZDL e = false := by rfl) (hf : X.fn x = true \/ X.env.scope.names.lookup x = some .local := by first | exact .inl rfl | exact .inr rfl | assumption) : QS X (.Assign [.Name x pos'] e pos) (ZGI te (ZEM i)) := ZPO hN hi hx he hs hf
theorem qgN {X : Cx} {x : Str} {pos : Pos} {i : Nat} (hN : X.N.Nodup) (hi : X.N[i]? = some x := by rfl) (hx : Loc X.env.scope x := by first | exact Or.inl rfl | exact Or.inr rfl) (hf : X.fn x = true \/ X.env.scope.names.lookup x = some .local := by first | exact .inl rfl | exact .inr rfl | assumption) : QG X (.Name x pos) (ZEM i) := ZHD hN hi hx hf
theorem qcS {X : Cx} {e : Expr} {es : List Expr} {t : TA} {pos p : Pos} {x : Str} {k : Nat} {f : Addr} {fd : FuncData} {ps : List Str} {sp : Sp} (F : ZB2 X.prog X.w X.K X.mg X.base CX0 k f fd ps sp) (hr : Room k X.A) (hm : X.mg x = some (.ref f)) (hk : W.keepIn X.K (.ref f) = true) (hb : ZBz X.K fd ps []) (ha : QA X (e :: es) t) (hg : Gl X x := by rfl) (hns : ZCT (e :: es) = true := by rfl) (hdb : (x == ("__debug__" : Str)) = false := by decide) : QE X (.Call (.Name x p) (e :: es) [] pos) (ZGg sp [] E0 t) := ZNK F hr hg hm hk hb .nil ZC1 ha hns hdb
theorem _root_.L2.Room.m {j k : Nat} {A : Around} (r : Room k A) (h : j <= k := by decide) : Room j A := r.mono h
local macro_rules | `(tactic| walk_at "l") => `(tactic| (intro vs H Q E h; (repeat (obtain ⟨_, h⟩ := h)); all_goals (subst_vars; rfl)))
local macro_rules | `(tactic| walk_at "w") => `(tactic| repeat walk_at "rd")
local macro_rules | `(tactic| walk_at "s") => `(tactic| simp only [L2.start, UB, List.length_nil, Uw, List.map_nil, Nat.reduceAdd, Nat.reduceSub, List.replicate_succ, List.replicate_zero, List.cons_append, List.nil_append])
local macro_rules | `(tactic| walk_at "o") => `(tactic| first | exact Or.inl rfl | exact Or.inr rfl)
def top (i : Nat) : Stmt := PySem.Challenge.pw_fourpoints_k61_samples_put_and_taken.main.body.getD i (.Pass ⟨0, 0, 0, 0⟩)
abbrev ZKQ : Stmt := top 0
abbrev ZFD : Stmt := top 6
abbrev ZD4 : Stmt := top 8
abbrev ZEX : Stmt := top 10
abbrev ZFj : Stmt := top 11
abbrev ZGW : Stmt := top 12
abbrev ZEY : Stmt := top 16
abbrev ZER : Stmt := top 17
abbrev ZEH : Stmt := top 18
abbrev ZGB : Stmt := top 19
abbrev ZHn : Stmt := top 20
abbrev ZCS : Stmt := ZCO (top 21) 0
abbrev ZFE : Stmt := ZCO (top 21) 1
abbrev ZEZ : Stmt := ZCO (top 21) 2
abbrev ZEI : Stmt := ZCO (top 21) 3
abbrev ZGC : Stmt := ZCO (top 21) 4
abbrev ZFk : Stmt := ZCO (top 21) 5
abbrev ZEa : Stmt := ZCO (top 21) 6
abbrev ZCN : Stmt := ZCO (top 23) 0
abbrev ZEb : Stmt := ZCO (top 23) 1
abbrev ZEJ : Stmt := ZCO (top 23) 2
abbrev ZDl : Stmt := ZCO (top 23) 3
abbrev ZDI : Stmt := ZCO (top 23) 4
abbrev ZFF : Stmt := ZCO (top 23) 5
abbrev ZDy : Stmt := ZCO (top 23) 6
abbrev ZFl : Stmt := ZCO (top 23) 7
abbrev ZDz : Stmt := ZCO (top 23) 8
abbrev ZFm : Stmt := ZCO (top 23) 9
abbrev ZFM : Stmt := ZCO (top 23) 10
abbrev ZEK : Stmt := ZCO (top 23) 11
abbrev ZFN : Stmt := ZCO (top 23) 12
abbrev ZFn : Stmt := ZCO (top 23) 13
abbrev ZHN : Stmt := top 25
abbrev ZHO : Stmt := top 26
abbrev ZGX : Stmt := top 27
abbrev ZGY : Stmt := top 28
abbrev ZGZ : Stmt := top 29
abbrev ZFG : Stmt := top 30
abbrev ZFH : Stmt := top 31
abbrev ZFo : Stmt := top 32
abbrev ZJJ : Stmt := top 33
abbrev ZFp : Stmt := top 34
abbrev ZFq : Stmt := top 35
abbrev ZD0 : Stmt := top 36
abbrev ZDm : Stmt := top 37
abbrev ZDY : Stmt := top 38
set_option genInjectivity false in
set_option genSizeOf false in
set_option genSizeOfSpec false in
structure Ad where
 ZAp : Addr
 ZAs : FuncData
 Yi : Addr
 YY : FuncData
 Yj : Addr
 YZ : FuncData
 YO : Addr
 YK : FuncData
 Y6 : Addr
 Yr : FuncData
 JM : Addr
 JS : FuncData
 YL : Addr
 YR : FuncData
 YF : Addr
 YE : FuncData
 Z2 : Addr
 YB : FuncData
 JI : Addr
 JK : FuncData
 J5 : Addr
 J6 : FuncData
 Zm : Addr
 ZS : FuncData
 YV : Addr
 Ya : FuncData
 YN : Addr
 YM : FuncData
 Z3 : Addr
 Z7 : FuncData
 JG : Addr
 JJ : FuncData
 Y9 : Addr
 Y3 : FuncData
 YJ : Addr
 YG : FuncData
 Zh : Addr
 ZQ : FuncData
 YI : Addr
 YH : FuncData
 Zb : Addr
 Zc : FuncData
 ZU : Addr
 ZT : FuncData
 ZK : Addr
 ZM : FuncData
 Yc : Addr
 Yh : FuncData
 Zx : Addr
 Zv : FuncData
 Yy : Addr
 Y2 : FuncData
 Zt : Addr
 Zw : FuncData
 Yx : Addr
 Yw : FuncData
 Yk : Addr
 Ym : FuncData
 YA : Addr
 Z5 : FuncData
 Yn : Addr
 Yo : FuncData
 Yq : Addr
 Y5 : FuncData
 Jo : Addr
 Js : FuncData
 Jq : Addr
 Jt : FuncData
 JO : Addr
 JT : FuncData
 JV : Addr
 JR : FuncData
 JZ : Addr
 JL : FuncData
 Yf : Addr
 YW : FuncData
 JN : Addr
 JQ : FuncData
 Ys : Addr
 Yt : FuncData
 ZAR : Addr
 ZAH : FuncData
 JA : Addr
 Y4 : FuncData
 JC : Addr
 Y7 : FuncData
 Zr : Addr
 Zu : FuncData
 Zp : Addr
 Zq : FuncData
 ZAy : Addr
 ZAz : FuncData
 ZE : Addr
 ZB : Addr
 ZD : Addr
 ZA : Addr
 ZC : Addr
 ZAh : Tok
 ZAf : Tok
structure Txt (K : W.Frag) (mg : Str -> Option Value) (a : Ad) : Prop where
 ZBo : Fun K "_wall" "_wall" ZKQ a.ZAp a.ZAs
 ZBp : ZBz K a.ZAs ["k"] []
 ZBq : mg "_wall" = some (.ref a.ZAp)
 Z0 : Fun K "is_whole" "is_whole" ZFD a.Yi a.YY
 Yb : ZBz K a.YY ["thing"] []
 Ye : mg "is_whole" = some (.ref a.Yi)
 Jf : Fun K "curve_of" "curve_of" ZD4 a.Yj a.YZ
 ZAt : ZBz K a.YZ ["samples"] []
 ZAu : mg "curve_of" = some (.ref a.Yj)
 Zg : Fun K "height_of" "height_of" ZEX a.YO a.YK
 Za : ZBz K a.YK ["sample"] []
 ZZ : mg "height_of" = some (.ref a.YO)
 Jw : Fun K "four_of" "four_of" ZFj a.Y6 a.Yr
 ZA3 : ZBz K a.Yr ["curve"] []
 ZA2 : mg "four_of" = some (.ref a.Y6)
 ZAT : Fun K "joined" "joined" ZGW a.JM a.JS
 ZA9 : ZBz K a.JS ["one", "other"] []
 ZA6 : mg "joined" = some (.ref a.JM)
 JH : Fun K "is_border" "is_border" ZEY a.YL a.YR
 ZAn : ZBz K a.YR ["thing"] []
 ZAj : mg "is_border" = some (.ref a.YL)
 ZBB : Fun K "check_borders" "check_borders" ZER a.YF a.YE
 ZBC : ZBz K a.YE ["begin", "end"] []
 ZBA : mg "check_borders" = some (.ref a.YF)
 Z4 : Fun K "check_time" "check_time" ZEH a.Z2 a.YB
 Y1 : ZBz K a.YB ["t"] []
 Yp : mg "check_time" = some (.ref a.Z2)
 ZBf : Fun K "stretches" "stretches" ZGB a.JI a.JK
 ZBj : ZBz K a.JK ["begin", "end"] []
 ZBe : mg "stretches" = some (.ref a.JI)
 ZBn : Fun K "longest" "longest" ZHn a.J5 a.J6
 ZBl : ZBz K a.J6 ["first", "end"] []
 ZBm : mg "longest" = some (.ref a.J5)
 Jd : ZIq K "__init__" "Tree.__init__" ZCS a.Zm a.ZS
 Jk : ZBz K a.ZS ["self", "curve"] []
 ZA8 : ZBz K a.ZS ["self", "curve"] [Value.none]
 ZA7 : ZJ8 K a.ZS ["self", "curve"] "curve"
 ZAw : Fun K "put" "Tree.put" ZFE a.YV a.Ya
 Jg : ZBz K a.Ya ["self", "t", "h"] []
 Je : ZCr K a.ZE "put" a.YV
 ZAe : Fun K "take" "Tree.take" ZEZ a.YN a.YM
 ZAa : ZBz K a.YM ["self", "t"] []
 ZAd : ZCr K a.ZE "take" a.YN
 ZAK : Fun K "renew" "Tree.renew" ZEI a.Z3 a.Z7
 JB : ZBz K a.Z7 ["self", "t", "four"] []
 Y8 : ZCr K a.ZE "renew" a.Z3
 ZBg : Fun K "four" "Tree.four" ZGC a.JG a.JJ
 ZBh : ZBz K a.JJ ["self", "begin", "end"] []
 ZBi : ZCr K a.ZE "four" a.JG
 ZBa : Fun K "fours" "Tree.fours" ZFk a.Y9 a.Y3
 ZBb : ZBz K a.Y3 ["self", "window"] []
 ZBd : ZCr K a.ZE "fours" a.Y9
 ZAc : Fun K "told" "Tree.told" ZEa a.YJ a.YG
 ZAl : ZBz K a.YG ["self"] []
 ZAi : ZCr K a.ZE "told" a.YJ
 JX : ZIq K "__init__" "Store.__init__" ZCN a.Zh a.ZQ
 JY : ZBz K a.ZQ ["self", "curve"] []
 JF : ZBz K a.ZQ ["self", "curve"] [Value.none]
 ZA4 : ZJ8 K a.ZQ ["self", "curve"] "curve"
 ZAm : Fun K "put" "Store.put" ZEb a.YI a.YH
 ZAg : ZBz K a.YH ["self", "t", "h"] []
 ZAk : ZCr K a.ZB "put" a.YI
 Yu : Fun K "take" "Store.take" ZEJ a.Zb a.Zc
 ZAJ : ZBz K a.Zc ["self", "t"] []
 ZAS : ZCr K a.ZB "take" a.Zb
 YT : Fun K "height" "Store.height" ZDl a.ZU a.ZT
 Jr : ZBz K a.ZT ["self", "t"] []
 Jm : ZCr K a.ZB "height" a.ZU
 Zn : Fun K "check_sample" "Store.check_sample" ZDI a.ZK a.ZM
 ZL : ZBz K a.ZM ["self", "t"] []
 ZN : ZCr K a.ZB "check_sample" a.ZK
 ZAx : Fun K "do" "Store.do" ZFF a.Yc a.Yh
 Jc : ZBz K a.Yh ["self", "t", "h"] []
 Jb : ZCr K a.ZB "do" a.Yc
 J8 : Fun K "bring" "Store.bring" ZDy a.Zx a.Zv
 J7 : ZBz K a.Zv ["self", "t", "h"] []
 J9 : ZCr K a.ZB "bring" a.Zx
 ZBS : Fun K "undo" "Store.undo" ZFl a.Yy a.Y2
 ZBW : ZBz K a.Y2 ["self"] []
 ZBR : ZCr K a.ZB "undo" a.Yy
 ZAE : Fun K "times" "Store.times" ZDz a.Zt a.Zw
 ZAC : ZBz K a.Zw ["self"] []
 ZAA : ZCr K a.ZB "times" a.Zt
 ZBO : Fun K "four" "Store.four" ZFm a.Yx a.Yw
 ZBZ : ZBz K a.Yw ["self", "begin", "end"] []
 ZBP : ZCr K a.ZB "four" a.Yx
 ZBK : Fun K "fours" "Store.fours" ZFM a.Yk a.Ym
 ZBJ : ZBz K a.Ym ["self", "window"] []
 ZBN : ZCr K a.ZB "fours" a.Yk
 ZAY : Fun K "told" "Store.told" ZEK a.YA a.Z5
 ZAU : ZBz K a.Z5 ["self"] []
 ZAO : ZCr K a.ZB "told" a.YA
 ZBI : Fun K "watch" "Store.watch" ZFN a.Yn a.Yo
 ZBL : ZBz K a.Yo ["self", "window"] []
 ZBM : ZCr K a.ZB "watch" a.Yn
 ZBX : Fun K "news" "Store.news" ZFn a.Yq a.Y5
 ZBY : ZBz K a.Y5 ["self", "number"] []
 ZBT : ZCr K a.ZB "news" a.Yq
 ZAr : Fun K "_law_nth" "_law_nth" ZHN a.Jo a.Js
 ZBE : ZBz K a.Js ["_law_script", "_law_k"] []
 ZBF : mg "_law_nth" = some (.ref a.Jo)
 ZAo : Fun K "_law_pot" "_law_pot" ZHO a.Jq a.Jt
 ZBD : ZBz K a.Jt ["_law_cell_here"] []
 ZBG : mg "_law_pot" = some (.ref a.Jq)
 ZJ : Fun K "_law_take" "_law_take" ZGX a.JO a.JT
 ZP : ZBz K a.JT ["_law_pot_here", "_law_many"] []
 ZO : mg "_law_take" = some (.ref a.JO)
 JP : Fun K "_law_cell" "_law_cell" ZGY a.JV a.JR
 ZAL : ZBz K a.JR ["_law_script", "_law_place"] []
 ZAW : mg "_law_cell" = some (.ref a.JV)
 JU : Fun K "_law_time" "_law_time" ZGZ a.JZ a.JL
 ZAN : ZBz K a.JL ["_law_pot_here"] []
 ZAM : mg "_law_time" = some (.ref a.JZ)
 Yg : Fun K "_law_height" "_law_height" ZFG a.Yf a.YW
 Jj : ZBz K a.YW ["_law_pot_here"] []
 Ji : mg "_law_height" = some (.ref a.Yf)
 JW : Fun K "_law_told" "_law_told" ZFH a.JN a.JQ
 ZAP : ZBz K a.JQ ["_law_held"] []
 ZAV : mg "_law_told" = some (.ref a.JN)
 Jv : Fun K "_law_begun" "_law_begun" ZFo a.Ys a.Yt
 ZA1 : ZBz K a.Yt ["_law_pot_here"] []
 ZA0 : mg "_law_begun" = some (.ref a.Ys)
 Jh : Fun K "_law_is" "_law_is" ZJJ a.ZAR a.ZAH
 ZAX : ZBz K a.ZAH ["_law_told_here", "_law_due"] []
 ZAQ : mg "_law_is" = some (.ref a.ZAR)
 Y0 : Fun K "_law_taken" "_law_taken" ZFp a.JA a.Y4
 Jz : ZBz K a.Y4 ["_law_store", "_law_t"] []
 Jy : mg "_law_taken" = some (.ref a.JA)
 Yz : Fun K "_law_asked" "_law_asked" ZFq a.JC a.Y7
 Jx : ZBz K a.Y7 ["_law_store", "_law_t"] []
 Ju : mg "_law_asked" = some (.ref a.JC)
 Yl : Fun K "_law_some_time" "_law_some_time" ZD0 a.Zr a.Zu
 ZAD : ZBz K a.Zu ["_law_pot_here", "_law_held"] []
 ZAB : mg "_law_some_time" = some (.ref a.Zr)
 YS : Fun K "_law_deed_right" "_law_deed_right" ZDm a.Zp a.Zq
 Jn : ZBz K a.Zq ["_law_store", "_law_held", "_law_times", "_law_pot_here"] []
 Jp : mg "_law_deed_right" = some (.ref a.Zp)
 ZBk : Fun K "law" "law" ZDY a.ZAy a.ZAz
 ZBr : ZBz K a.ZAz ["_law_script"] []
 ZBs : mg "law" = some (.ref a.ZAy)
 ZH : Cls K a.ZE
 ZBQ : mg "Tree" = some (.ref a.ZE)
 ZBH : Mk K a.ZE a.Zm
 YC : ZCo K a.ZE "looks"
 ZW : ZCo K a.ZE "samples"
 Zf : ZCo K a.ZE "kept_fours"
 ZF : Cls K a.ZB
 ZAq : mg "Store" = some (.ref a.ZB)
 ZAZ : Mk K a.ZB a.Zh
 Z9 : ZCo K a.ZB "tree"
 Zs : ZCo K a.ZB "deeds"
 Z8 : ZCo K a.ZB "done"
 YD : ZCo K a.ZB "watches"
 Zy : ZEU K a.ZD
 ZA5 : ZDx K a.ZD
 Zz : mg "FourPointsError" = some (.ref a.ZD)
 ZBV : ZEU K a.ZA
 ZBc : ZDx K a.ZA
 ZBU : mg "OutOfTimes" = some (.ref a.ZA)
 Yd : ZEU K a.ZC
 Jl : ZDx K a.ZC
 YX : mg "NoSample" = some (.ref a.ZC)
 ZV : W.subIn K (.ref a.ZA) (.ref a.ZD) = some true
 ZX : W.kitOne K (.ref a.ZA) (.ref a.ZD) = some true
 Ze : W.subIn K (.ref a.ZA) (.ref a.ZA) = some true
 Zd : W.kitOne K (.ref a.ZA) (.ref a.ZA) = some true
 Zj : W.subIn K (.ref a.ZA) (.ref a.ZC) = some false
 Zl : W.kitOne K (.ref a.ZA) (.ref a.ZC) = some false
 ZG : W.subIn K (.ref a.ZC) (.ref a.ZD) = some true
 ZY : W.kitOne K (.ref a.ZC) (.ref a.ZD) = some true
 Zi : W.subIn K (.ref a.ZC) (.ref a.ZA) = some false
 Zk : W.kitOne K (.ref a.ZC) (.ref a.ZA) = some false
 Zo : W.subIn K (.ref a.ZC) (.ref a.ZC) = some true
 ZR : W.kitOne K (.ref a.ZC) (.ref a.ZC) = some true
 ZAb : mg "TOP_LEVEL" = some (.int 40 a.ZAh)
 YQ : mg "TIMES_END" = some (.int 1099511627776 a.ZAf)
 Yv : mg "ValueError" = none
 ZAv : mg "abs" = none
 Ja : mg "bool" = none
 JD : mg "int" = none
 ZI : mg "isinstance" = none
 JE : mg "len" = none
 ZAI : mg "list" = none
 ZAG : mg "max" = none
 ZAF : mg "min" = none
 YU : mg "range" = none
 Z6 : mg "sorted" = none
 Z1 : mg "tuple" = none
local macro_rules | `(tactic| walk_at "sd") => `(tactic| first
 | (show (0 : Int) < _; omega)
 | decide
 | exact ZRo (by omega) (by omega)
 | exact ZRp (by omega) (by omega)
 | exact ZFt.of (k := 250) (by omega) (by omega) (by decide)
 | exact Or.inr ⟨by omega, by omega⟩
 | exact Or.inl ⟨by omega, by omega⟩
 | exact ZIW (by omega) (by omega) (by decide))
local macro_rules | `(tactic| walk_at "hp") => `(tactic| first
 | assumption
 | exact ZCC
 | (rw [ZB8 (by assumption)]; assumption)
 | (rw [ZB8 (Ne.symm (by assumption))]; assumption)
 | (rw [ZB8 (by assumption)]; rw [ZB8 (by assumption)]; assumption))
local macro_rules | `(tactic| walk_at "rd") => `(tactic| first
 | with_reducible first | refine ZQh ?_ | refine ZMA ?_ | refine ZRE ?_ | refine ZPc ?_ | refine ZNl ?_ | refine ZRg ?_ | refine ZNo ?_ | refine ZNT ?_ | refine ZPZ ?_ | refine ZNZ ?_ | refine ZNa ?_ | refine ZNb ?_ | refine ZLz ?_ | refine ZL1 ?_ | refine ZK4 ?_ | refine ZJe ?_ | refine ZJf ?_ | refine ZPW ?_ | refine ZNU ?_ | refine ZNV ?_ | refine ZQi ?_ | refine ZO2 ?_ | refine ZO3 ?_ | refine ZQj ?_ | refine ZND ?_ | refine ZO4 ?_ | refine ZNE ?_ | refine ZO5 ?_ | refine ZQk ?_ | refine ZO6 ?_ | refine ZRr ?_ | refine ZQl ?_ | refine ZRW ?_ | refine ZQm ?_ | refine ZO7 ?_ | refine ZO8 ?_ | refine ZRX ?_
 | ((with_reducible refine' ZQn ?e ?_); (case e => rfl))
 | with_reducible first | refine ZRs ?_ | refine ZRY ?_ | refine ZRZ ?_ | refine ZRa ?_
 | ((with_reducible refine ZQo (C := ZMq) ?c ?_); (case c => exact ZIW (by decide) (by decide) (by decide)); (simp only [Int.reduceToNat, Int.reducePow]))
 | ((with_reducible refine ZQo ?c ?_); (case c => walk_at "sd"))
 | with_reducible first | refine ZRt ?_ | refine ZQp ?_ | refine ZRb ?_ | refine ZO9 ?_ | refine ZPA ?_ | refine ZQq ?_ | refine ZQr ?_ | refine ZQs ?_ | refine ZNH ?_ | refine ZPL ?_ | refine ZNF ?_ | refine ZPD ?_ | refine ZQu ?_ | refine ZQv ?_ | refine ZQw ?_ | refine ZQx ?_ | refine ZQy ?_ | refine ZPG ?_
 | ((with_reducible refine' ZPE ?s ?_); (case s => first | assumption | exact SqL.of (by assumption)))
 | ((with_reducible refine' ZPF ?s ?_); (case s => first | assumption | exact SqT.of (by assumption)))
 | with_reducible first | refine ZQt ?_ | refine ZPB ?_ | refine ZPC ?_ | refine ZPJ ?_ | refine ZRd ?_ | refine ZPK ?_ | refine ZNI ?_
 | ((with_reducible refine' ZQ1 ?s ?_); (case s => first | assumption | exact SqT.of (by assumption)))
 | ((with_reducible refine' ZQ2 ?s ?_); (case s => first | assumption | exact SqL.of (by assumption)))
 | ((with_reducible refine' ZIX ?s ?e ?_); (case s => exact SqL.of (by assumption)); (case e => rfl))
 | ((with_reducible refine' ZIY ?s ?e ?_); (case s => first | assumption | exact SqT.of (by assumption)); (case e => rfl))
 | ((with_reducible refine' ZPH ?s ?e ?_); (case s => first | assumption | exact SqT.of (by assumption)); (case e => rfl)))
local macro_rules | `(tactic| walk_at "ri") => `(tactic| ((fail_if_success with_reducible refine ZMG ?_); walk_at "rd"))
theorem ZHo (K : W.Frag) : W.kitOne K (.type "int") (.type "int") = some true := by kernel_rfl
theorem ZG3 (K : W.Frag) : W.kitOne K (.type "int") (.type "bool") = some false := by kernel_rfl
section
variable {P : Program} {w : World} {K : W.Frag} {mg : Str -> Option Value} {base : Heap} {a : Ad}
def ZMS (K : W.Frag) : Sp := fun vs H Q _ => ∃ (b : Bool) (l : Addr) (us : List V) (prs : PL), vs = [.ref l] /\ SQ b H l us /\ ZB5 H us prs /\ prs.length < 100 /\
 ∀ (t : Addr) (cv : PL) (H' : Hp), PrT H' t cv -> ZJ1 (ZDH prs) cv -> cv.length <= prs.length -> ZB1 H H' -> Q (.ref t) H'
theorem ZHp (l : PL) (p : Int × Int) : ZDH (l ++ [p]) = ZCh (ZDH l) p.1 p.2 := by
 unfold ZDH
 rw [List.foldl_append]
 rfl
theorem ZDp : ZB4 ["samples", "heights", "t", "h"] ["samples"] (ZBv ZD4) := ZCX
theorem ZJl (T : Txt K mg a) : ZB2 P w K mg base CX0 1 a.Yj a.YZ ["samples"] (ZMS K) := by
 refine T.Jf.ok ZDp (by walk_at "l") (fun cdv A outer s H vs Q E hr h => ?_)
 ·obtain ⟨b, l, us, prs, rfl, hL, hP, hlen, k⟩ := h
  have hu := ZC4 hr
  have hm := ZIl prs
  refine ⟨_, QB.h (ZBw (qsS (i := 1) ZDp.nd ZE0) (ZBw (ZFa PassesOwn.never rfl (ZRB K rfl (qv 0)) (ZLn (n := 2) K rfl rfl (ZEu (qgN (i := 2) ZDp.nd) (ZEu (qgN (i := 3) ZDp.nd) ZJy))) (ZBx (ZD8 hu (qv 3) (qv 1) (qv 2)))) (ZBx (ZB7 (ZDU (ZEw K rfl) rfl T.Z1 ZEs (ZBu (ZJz (N := ["samples", "heights", "t", "h"]) (sc := ZBv ZD4) (own := ["t"]) (caps := ["heights"]) (ks := [1]) rfl rfl rfl ⟨rfl, by decide +kernel, by decide +kernel, by decide +kernel, by decide +kernel, rfl, by decide +kernel⟩ (ZJ0 K rfl (ZCQ (ZEW rfl) rfl T.Z6 ZFW (ZBu (qv 1) ZBt))) (fun _ _ _ _ _ => ZHD (i := 0) (show List.Nodup (α := Str) ["t", "heights"] from by decide +kernel) rfl (by walk_at "o") (.inr rfl)) (fun _ _ _ _ _ => ZIc) (fun _ _ _ _ _ => ZDJ (ZBu (qv 0) (ZBu (ZFy hu (qv 1) (qv 0)) ZBt)))) ZBt)))))), ?_⟩
  walk_at "s"
  walk_at "w"
  refine ZE3 fun d H0 n0 f0 S0 => ?_
  walk_at "w"
  refine ZPX (b := b) (xs := us) (fun i U H' => (∃ v2 v3, U = [some (.ref l), some (.ref d), v2, v3]) /\ ZB1 H H' /\ H' d = some (.dK (ZCE (ZDH (prs.take i))))) (hL.same S0) ?_ (fun i U H' _ h => hL.same h.2.1) ?_ ?_
  ·exact ⟨⟨_, _, rfl⟩, S0, f0⟩
  ·rintro i x U H1 hx ⟨⟨v2, v3, rfl⟩, S1, f1⟩
   obtain ⟨c, p, rfl, hp, hc⟩ := (hP.same S1).at hx
   have e3 : prs.take (i + 1) = prs.take i ++ [p] := by
    rw [List.take_succ, hp]
    rfl
   walk_at "w"
   refine ZE2 f1 ?_ fun H2 f2 K2 => ?_
   ·exact Ux (ZIl _) (Ux (by rw [UK]; exact Nat.min_le_right _ _) (Ue hlen (by decide)))
   walk_at "w"
   refine ⟨⟨_, _, rfl⟩, S1.kpN n0 K2, ?_⟩
   rw [e3, ZHp]
   exact f2
  ·rintro U H1 ⟨⟨v2, v3, rfl⟩, S1, f1⟩
   rw [hP.length, UT] at f1
   walk_at "w"
   refine ZFC f1 (by omega) fun l2 H2 ns n2 f2 hp hs S2 => ?_
   have hnl : ns.length = (ZDH prs).length := by have := hp.length_eq; simpa using this
   walk_at "w"
   intro l3 n3
   have S23 : ZB1 H2 (upd H2 l3 (.lst [])) := ZB1.new n3
   refine ZJx ns.length (fun i U' H' => (∃ o, U' = [o, some (.ref d)]) /\ ZB1 H2 H' /\ ∃ vs, H' l3 = some (.lst vs) /\ ZB5 H' vs ((ZCV (ZDH prs) ns).take i)) ?_ ?_ ?_
   ·exact ⟨⟨none, rfl⟩, S23, [], ZCC, .nil⟩
   ·rintro U H' ⟨_, s, vs, f3, hPc⟩
    refine ⟨⟨_, SqL.of (s _ _ f2), by simp⟩, ?_⟩
    walk_at "w"
    refine ZFu (SqL.of f3) fun t H4 n4 f4 S4 => ?_
    have ecv : (ZCV (ZDH prs) ns).take ns.length = ZCV (ZDH prs) ns := List.take_of_length_le (by simp [ZCV])
    rw [ecv] at hPc
    exact k t _ H4 ⟨vs, f4, hPc.same S4⟩ (ZGr (ZE5 prs) hp hs) (by unfold ZCV; rw [Ur, hnl]; exact hm) (((S1.trans S2).trans s).trans S4)
   ·rintro i U H' hi ⟨⟨o, rfl⟩, s, vs, f3, hPc⟩
    have hi2 : i < (ns.map V.int).length := by simpa using hi
    refine ⟨⟨_, _, SqL.of (s _ _ f2), Ud hi2⟩, ?_⟩
    rintro u H'' ⟨rfl, hu'⟩
    have hu' := hu' _ (SqL.of (s _ _ f2))
    have eu : u = .int ns[i] := by
     rw [UG, Ud hi] at hu'
     simpa using hu'.symm
    subst eu
    walk_at "w"
    refine ZDW ?_
    walk_at "w"
    have hmem : ns[i] ∈ (ZDH prs).map (·.1) := hp.mem_iff.mp (List.getElem_mem hi)
    obtain ⟨x, hx⟩ : ∃ x, ZCB (ZDH prs) ns[i] = some x := by
     cases hg : ZCB (ZDH prs) ns[i] with
     | none => exact absurd hmem (ZDv.mp hg)
     | some x => exact ⟨x, rfl⟩
    refine ZE1 (s _ _ (S2 _ _ f1)) hx ?_
    walk_at "w"
    refine ZCc (by show 2 <= sizeLine; decide) fun t H4 n4 f4 S4 => ?_
    have f34 := S4 _ _ f3
    refine ⟨vs, f34, ?_, ⟨_, rfl⟩, ?_, ?_⟩
    ·have e := hPc.length
     rw [e, UK]
     exact Ux (Nat.min_le_left _ _) (Ue hi (by rw [hnl]; exact Nat.le_of_lt (Ux hm (Ue hlen (by decide)))))
    ·exact (s.trans S4).kpN (l := l3) n3 Kp.upd
    ·refine ⟨_, ZCC, ?_⟩
     have e3 : (ZCV (ZDH prs) ns).take (i + 1) = (ZCV (ZDH prs) ns).take i ++ [(ns[i], x)] := by
      rw [List.take_succ]
      congr 1
      simp [ZCV, Ud hi, hx]
     rw [e3]
     exact ZB5.kpL Kp.upd f34 ((hPc.same S4).snoc f4)
def ZJK : Sp := fun vs H Q _ => ∃ (c : Addr) (x y : Int), vs = [.ref c] /\ H c = some (.tup [.int x, .int y]) /\ Q (.int y) H
theorem ZJL : ZB4 ["sample"] ["sample"] (ZBv ZEX) := ZCX
theorem ZC9 (T : Txt K mg a) : ZB2 P w K mg base CX0 1 a.YO a.YK ["sample"] ZJK := by
 refine T.Zg.ok ZJL (by walk_at "l") (fun cdv A outer s H vs Q E hr h => ?_)
 ·obtain ⟨c, x, y, rfl, hc, q⟩ := h
  refine ⟨_, QB.h (ZBx (ZB7 (ZCi (ZCz K rfl) (qv 0) ZBy))), ?_⟩
  walk_at "s"
  walk_at "w"
  exact q
def ZN2 (K : W.Frag) : Sp := fun vs H Q _ => ∃ (v1 v2 : V) (o1 o2 : Option (PL)) (c1 c2 : PL), vs = [v1, v2] /\ ZCv H v1 o1 /\ Is4 c1 o1 /\ ZCv H v2 o2 /\ Is4 c2 o2 /\ (∀ p ∈ c1, ∀ q ∈ c2, p.1 < q.1) /\
 ∀ (v : V) (o : Option (PL)) (H' : Hp), ZCv H' v o -> Is4 (c1 ++ c2) o -> ZB1 H H' -> Q v H'
theorem ZHq {H : Hp} {v : V} {c : PL} {qs : PL} (h : ZCv H v (some qs)) (g : Is4 c (some qs)) : ∃ (l : Addr) (q0 q1 q2 q3 : Int × Int) (a0 a1 a2 a3 : Addr), v = .ref l /\ qs = [q0, q1, q2, q3] /\ H l = some (.tup [.ref a0, .ref a1, .ref a2, .ref a3]) /\
  H a0 = some (.tup [.int q0.1, .int q0.2]) /\ H a1 = some (.tup [.int q1.1, .int q1.2]) /\ H a2 = some (.tup [.int q2.1, .int q2.2]) /\ H a3 = some (.tup [.int q3.1, .int q3.2]) := by
 cases h with
 | @pr l qs h hl =>
  obtain ⟨us, f, hP⟩ := h
  rcases g with ⟨e, _⟩ | ⟨q0, q1, q2, q3, e, _⟩
  ·cases e
  ·cases e
   cases hP with
   | cons h0 t => cases t with
    | cons h1 t => cases t with
     | cons h2 t => cases t with
      | cons h3 t =>
       cases t
       obtain ⟨a0, rfl, e0⟩ := h0
       obtain ⟨a1, rfl, e1⟩ := h1
       obtain ⟨a2, rfl, e2⟩ := h2
       obtain ⟨a3, rfl, e3⟩ := h3
       exact ⟨l, q0, q1, q2, q3, a0, a1, a2, a3, rfl, rfl, f, e0, e1, e2, e3⟩
theorem ZFr : ZB4 ["one", "other", "lowest", "highest"] ["one", "other"] (ZBv ZGW) := ZCX
theorem ZMT (T : Txt K mg a) : ZB2 P w K mg base CX0 2 a.JM a.JS ["one", "other"] (ZN2 K) := by
 refine T.ZAT.ok ZFr (by walk_at "l") (fun cdv A outer s H vs Q E hr h => ?_)
 ·obtain ⟨v1, v2, o1, o2, c1, c2, rfl, h1, g1, h2, g2, hlt, k⟩ := h
  refine ⟨_, QB.h (ZBw (ZCk (ZCD (ZFX) (qv 0) ZDg (ZCH _)) (ZBx (ZB7 (qv 1))) ZCU) (ZBw (ZCk (ZCD (ZFX) (qv 1) ZDg (ZCH _)) (ZBx (ZB7 (qv 0))) ZCU) (ZBw (qsS (i := 2) ZFr.nd (ZGM (ZCD (ZKf) (qcS (ZC9 T) hr T.ZZ T.Zg.kp T.Za (ZBu (ZCi (ZCz K rfl) (qv 0) ZBy) ZBt)) (qcS (ZC9 T) hr T.ZZ T.Zg.kp T.Za (ZBu (ZCi (ZCz K rfl) (qv 1) ZBy) ZBt)) (ZCH _)) (ZCi (ZCz K rfl) (qv 0) ZBy) (ZCi (ZCz K rfl) (qv 1) ZBy))) (ZBw (qsS (i := 3) ZFr.nd (ZGM (ZCD (ZOH) (qcS (ZC9 T) hr T.ZZ T.Zg.kp T.Za (ZBu (ZCi (ZCz K rfl) (qv 0) ZBy) ZBt)) (qcS (ZC9 T) hr T.ZZ T.Zg.kp T.Za (ZBu (ZCi (ZCz K rfl) (qv 1) ZBy) ZBt)) (ZCH _)) (ZCi (ZCz K rfl) (qv 0) ZBy) (ZCi (ZCz K rfl) (qv 1) ZBy))) (ZBx (ZB7 (ZDJ (ZBu (ZCi (ZCz K rfl) (qv 0) ZBy) (ZBu (ZCi (ZCz K rfl) (qv 1) ZBy) (ZBu (qv 2) (ZBu (qv 3) ZBt))))))))))), ?_⟩
  walk_at "s"
  walk_at "w"
  cases o1 with
  | none =>
   cases h1
   refine ZC6 (fun _ => ?_) (fun h => absurd rfl h)
   walk_at "w"
   refine k v2 o2 H h2 ?_ (ZB1.refl H)
   rw [g1.of_none, List.nil_append]
   exact g2
  | some qs1 =>
   obtain ⟨l1, q0, q1, q2, q3, a0, a1, a2, a3, rfl, rfl, f1, e0, e1, e2, e3⟩ := ZHq h1 g1
   refine ZC6 (fun h => by cases h) (fun _ => ?_)
   walk_at "w"
   cases o2 with
   | none =>
    cases h2
    refine ZC6 (fun _ => ?_) (fun h => absurd rfl h)
    walk_at "w"
    refine k (.ref l1) _ H h1 ?_ (ZB1.refl H)
    rw [g2.of_none, List.append_nil]
    exact g1
   | some qs2 =>
    obtain ⟨l2, r0, r1, r2, r3, b0, b1, b2, b3, rfl, rfl, f2, d0, d1, d2, d3⟩ := ZHq h2 g2
    refine ZC6 (fun h => by cases h) (fun _ => ?_)
    walk_at "w"
    refine ⟨a2, _, _, rfl, e2, ?_⟩
    walk_at "w"
    refine ⟨b2, _, _, rfl, d2, ?_⟩
    walk_at "w"
    have J := g1.join g2 hlt
    have fin : ∀ (x y : Addr) (p2 p3 : Int × Int), H x = some (.tup [.int p2.1, .int p2.2]) -> H y = some (.tup [.int p3.1, .int p3.2]) -> Is4 (c1 ++ c2) (some [q0, r1, p2, p3]) -> ∀ l H', H l = none -> H' l = some (.tup [.ref a0, .ref b1, .ref x, .ref y]) -> ZB1 H H' -> Q (.ref l) H' := fun x y p2 p3 hx hy J l H' n' f' S' =>
     k (.ref l) _ H' (.pr ⟨_, f', .cons ⟨a0, rfl, S' _ _ e0⟩ (.cons ⟨b1, rfl, S' _ _ d1⟩ (.cons ⟨x, rfl, S' _ _ hx⟩ (.cons ⟨y, rfl, S' _ _ hy⟩ .nil)))⟩ rfl) J S'
    have part2 : ∀ (x : Addr) (p2 : Int × Int), True := fun _ _ => trivial
    refine ZC6 (fun hl => ?_) (fun hl => ?_)
    ·walk_at "w"
     refine ⟨a3, _, _, rfl, e3, ?_⟩
     walk_at "w"
     refine ⟨b3, _, _, rfl, d3, ?_⟩
     walk_at "w"
     refine ZC6 (fun hh => ?_) (fun hh => ?_)
     ·walk_at "w"
      rw [if_pos hl, if_pos hh] at J
      exact ZCc (by show 4 <= sizeLine; decide) fun l H' n' f' S' => fin _ _ _ _ e2 e3 J l H' n' f' S'
     ·walk_at "w"
      rw [if_pos hl, if_neg hh] at J
      exact ZCc (by show 4 <= sizeLine; decide) fun l H' n' f' S' => fin _ _ _ _ e2 d3 J l H' n' f' S'
    ·walk_at "w"
     refine ⟨a3, _, _, rfl, e3, ?_⟩
     walk_at "w"
     refine ⟨b3, _, _, rfl, d3, ?_⟩
     walk_at "w"
     refine ZC6 (fun hh => ?_) (fun hh => ?_)
     ·walk_at "w"
      rw [if_neg hl, if_pos hh] at J
      exact ZCc (by show 4 <= sizeLine; decide) fun l H' n' f' S' => fin _ _ _ _ d2 e3 J l H' n' f' S'
     ·walk_at "w"
      rw [if_neg hl, if_neg hh] at J
      exact ZCc (by show 4 <= sizeLine; decide) fun l H' n' f' S' => fin _ _ _ _ d2 d3 J l H' n' f' S'
theorem ZPl {xs : List V} {v : V} (h : xs[xs.length - 1]? = some v) : atI xs (-1) = some v := by
 have hlt := (Um.mp h).1
 unfold atI ixN
 rw [if_neg (by decide), if_pos (by omega)]
 have : ((-1 : Int) + (xs.length : Int)).toNat = xs.length - 1 := by omega
 rw [this]
 exact h
def ZN3 (K : W.Frag) : Sp := fun vs H Q _ => ∃ (l : Addr) (cv : PL), vs = [.ref l] /\ PrT H l cv /\ Asc cv /\
 ∀ (v : V) (o : Option (PL)) (H' : Hp), ZCv H' v o -> Is4 cv o -> ZB1 H H' -> Q v H'
theorem ZLD : ZB4 ["curve"] ["curve"] (ZBv ZFj) := ZCX
theorem ZLE (T : Txt K mg a) : ZB2 P w K mg base CX0 3 a.Y6 a.Yr ["curve"] (ZN3 K) := by
 refine T.Jw.ok ZLD (by walk_at "l") (fun cdv A outer s H vs Q E hr h => ?_)
 ·obtain ⟨l, cv, rfl, ⟨us, gL, pL⟩, hasc, k⟩ := h
  have hul : us.length = cv.length := pL.length
  refine ⟨_, QB.h (ZBw (ZCk (ZCD (ZEN) (ZCQ (ZGp K rfl) rfl T.JE ZGl (ZBu (qv 0) ZBt)) ZBy (ZCH _)) (ZBx (ZB7 ZDg)) ZCU) (ZBx (ZB7 (ZDJ (ZBu (ZCi (ZCz K rfl) (qv 0) ZBy) (ZBu (ZCi (ZCz K rfl) (qv 0) (ZOP ZLP ZBy)) (ZBu (ZKz K rfl rfl (ZC9 T) hr rfl T.ZAF rfl T.ZZ T.Za (ZBu (qv 0) ZBt)) (ZBu (ZK1 K rfl rfl (ZC9 T) hr rfl T.ZAG rfl T.ZZ T.Za (ZBu (qv 0) ZBt)) ZBt)))))))), ?_⟩
  walk_at "s"
  walk_at "w"
  refine ZC6 (fun h => ?_) (fun h => ?_)
  ·walk_at "w"
   have : cv = [] := List.length_eq_zero_iff.mp (by have h := V.int.inj h; omega)
   exact k _ none H .non (.inl ⟨rfl, this⟩) (ZB1.refl H)
  ·have hpos : 0 < us.length := by
    rcases Nat.eq_zero_or_pos us.length with z | z
    ·exact absurd (by rw [z]; rfl) h
    ·exact z
   have hne : us ≠ [] := List.length_pos_iff.mp hpos
   obtain ⟨c0, q0, ec0, hq0, hc0⟩ := pL.at (Ud hpos)
   obtain ⟨c1, q1, ec1, hq1, hc1⟩ := pL.at (Ud (show us.length - 1 < us.length by omega))
   have hx0 : us[0]? = some (.ref c0) := by rw [Ud hpos, ec0]
   have hx1 : us[us.length - 1]? = some (.ref c1) := by rw [Ud (show us.length - 1 < us.length by omega), ec1]
   have turn : ∀ i v, us[i]? = some v -> ∀ Q : VK, Q (.int (cv.getD i (0, 0)).2) H -> ZJK [v] H Q E0 := fun i v hv Q q => by
    obtain ⟨c, p, rfl, hp, hc⟩ := pL.at hv
    have e : cv.getD i (0, 0) = p := by simp [hp]
    rw [e] at q
    exact ⟨c, p.1, p.2, rfl, hc, q⟩
   walk_at "w"
   refine ZIY (SqT.of gL) (ZHA (j := 0) hx0) ?_
   walk_at "w"
   refine ZIY (SqT.of gL) (ZPl hx1) ?_
   walk_at "w"
   refine ZK0 (fun i => (cv.getD i (0, 0)).2) (SqT.of gL) hne turn fun i2 v2 hv2 hb2 => ?_
   walk_at "w"
   refine ZK2 (fun i => (cv.getD i (0, 0)).2) (SqT.of gL) hne turn fun i3 v3 hv3 hb3 => ?_
   obtain ⟨c2, q2, rfl, hq2, hc2⟩ := pL.at hv2
   obtain ⟨c3, q3, rfl, hq3, hc3⟩ := pL.at hv3
   walk_at "w"
   refine ZCc (by show 4 <= sizeLine; decide) fun c4 H4 n4 f4 S4 => ?_
   have hP4 : ZB5 H4 [.ref c0, .ref c1, .ref c2, .ref c3] [q0, q1, q2, q3] := .cons ⟨c0, rfl, S4 _ _ hc0⟩ (.cons ⟨c1, rfl, S4 _ _ hc1⟩ (.cons ⟨c2, rfl, S4 _ _ hc2⟩ (.cons ⟨c3, rfl, S4 _ _ hc3⟩ .nil)))
   rw [hul] at hq1 hb2 hb3
   exact k _ (some [q0, q1, q2, q3]) H4 (.pr ⟨_, f4, hP4⟩ rfl) (Is4.minmax hasc hq0 hq1 hq2 hq3 hb2 hb3) S4
def InT (x : Int) : Prop := -1099511627776 <= x /\ x <= 1099511627776
def ZPm : Sp := fun vs H Q _ => ∃ i : Int, vs = [.int i] /\ Q (.bl true) H
theorem ZJm : ZB4 ["thing"] ["thing"] (ZBv ZFD) := ZCX
theorem ZEc (T : Txt K mg a) : ZB2 P w K mg base CX0 1 a.Yi a.YY ["thing"] ZPm := by
 refine T.Z0.ok ZJm (by walk_at "l") (fun cdv A outer s H vs Q E hr h => ?_)
 ·obtain ⟨i, rfl, q⟩ := h
  refine ⟨_, QB.h (ZBx (ZB7 (ZGn (ZCQ (ZGq K rfl) rfl T.ZI ZC3 (ZBu (qv 0) (ZBu (ZFw (v := .ty "int") rfl T.JD ZGk rfl) ZBt))) (ZIa (ZLi (ZCQ (ZGq K rfl) rfl T.ZI ZC3 (ZBu (qv 0) (ZBu (ZFw (v := .ty "bool") rfl T.Ja ZJu rfl) ZBt)))))))), ?_⟩
  walk_at "s"
  walk_at "w"
  refine ZGm (.int i) (ZHo _) (ZNF (ZDW ?_))
  walk_at "w"
  refine ZGm (.int i) (ZG3 _) ?_
  walk_at "w"
  exact q
def ZN4 : Sp := fun vs H Q _ => ∃ i : Int, vs = [.int i] /\ ((InT i /\ Q (.bl true) H) \/ (¬ InT i /\ Q (.bl false) H))
theorem ZJM : ZB4 ["thing"] ["thing"] (ZBv ZEY) := ZCX
theorem ZJN (T : Txt K mg a) : ZB2 P w K mg base CX0 2 a.YL a.YR ["thing"] ZN4 := by
 refine T.JH.ok ZJM (by walk_at "l") (fun cdv A outer s H vs Q E hr h => ?_)
 ·obtain ⟨i, rfl, h⟩ := h
  refine ⟨_, QB.h (ZBx (ZB7 (ZGn (qcS (ZEc T) hr T.Ye T.Z0.kp T.Yb (ZBu (qv 0) ZBt)) (ZIa (ZNJ ZKf ZKf (ZOP ZLP (ZD6 (v := .int 1099511627776) rfl T.YQ ⟨_, rfl⟩)) (qv 0) (ZD6 (v := .int 1099511627776) rfl T.YQ ⟨_, rfl⟩)))))), ?_⟩
  walk_at "s"
  walk_at "w"
  refine ⟨i, rfl, ?_⟩
  walk_at "w"
  refine ZDW ?_
  walk_at "w"
  unfold InT at h
  refine ZC6 (fun h1 => ?_) (fun h1 => ?_)
  ·walk_at "w"
   rcases h with ⟨hi, q⟩ | ⟨hi, q⟩
   ·rw [decide_eq_true hi.2]
    exact q
   ·rw [decide_eq_false fun z => hi ⟨by omega, z⟩]
    exact q
  ·rcases h with ⟨hi, q⟩ | ⟨hi, q⟩
   ·exact absurd hi.1 (by omega)
   ·walk_at "w"
    exact q
end
def tfl (n : Int) (d1 d2 : Addr) : List (Str × V) := [("looks", V.int n), ("samples", V.ref d1), ("kept_fours", V.ref d2)]
theorem sn1 : (("samples" : Str) == "looks") = false := by decide +kernel
theorem sn2 : (("kept_fours" : Str) == "looks") = false := by decide +kernel
theorem sn3 : (("kept_fours" : Str) == "samples") = false := by decide +kernel
theorem ZHr {n : Int} {d1 d2 : Addr} : (tfl n d1 d2).lookup ("looks" : Str) = some (.int n) := by
 unfold tfl
 rw [Ui, beq_self_eq_true]
theorem ZDq {n : Int} {d1 d2 : Addr} : (tfl n d1 d2).lookup ("samples" : Str) = some (.ref d1) := by
 unfold tfl
 rw [Ui, sn1, Ui, beq_self_eq_true]
theorem ZJO {n : Int} {d1 d2 : Addr} : (tfl n d1 d2).lookup ("kept_fours" : Str) = some (.ref d2) := by
 unfold tfl
 rw [Ui, sn2, Ui, sn3, Ui, beq_self_eq_true]
theorem ZEk {n : Int} {d1 d2 : Addr} {m : Str} (h1 : (m == ("looks" : Str)) = false := by decide +kernel) (h2 : (m == ("samples" : Str)) = false := by decide +kernel) (h3 : (m == ("kept_fours" : Str)) = false := by decide +kernel) : (tfl n d1 d2).lookup m = none := by
 unfold tfl
 rw [Ui, h1, Ui, h2, Ui, h3]
 rfl
theorem ZPn {d1 d2 : Addr} : ZCM "kept_fours" (.ref d2) (ZCM "samples" (.ref d1) (ZCM "looks" (.int 0) [])) = tfl 0 d1 d2 := by
 have e1 : ¬ ("looks" : Str) = "samples" := by decide +kernel
 have e2 : ¬ ("looks" : Str) = "kept_fours" := by decide +kernel
 have e3 : ¬ ("samples" : Str) = "kept_fours" := by decide +kernel
 show ZCM "kept_fours" (.ref d2) (ZCM "samples" (.ref d1) [(("looks" : Str), V.int 0)]) = _
 rw [show ZCM "samples" (.ref d1) [(("looks" : Str), V.int 0)] = (if ("looks" : Str) = "samples" then [(("looks" : Str), V.ref d1)] else (("looks" : Str), V.int 0) :: ZCM "samples" (.ref d1) []) from rfl, if_neg e1]
 show (if ("looks" : Str) = "kept_fours" then _ else (("looks" : Str), V.int 0) :: (if ("samples" : Str) = "kept_fours" then _ else (("samples" : Str), V.ref d1) :: ZCM "kept_fours" (.ref d2) [])) = _
 rw [if_neg e2, if_neg e3]
 rfl
def ZCL (C : Addr) (H : Hp) (p : Addr) (n : Int) (d1 d2 : Addr) (sm : PL) (c : Nat) : Prop :=
 ∃ dx kvs, H p = some (.ins C dx (tfl n d1 d2)) /\ H d1 = some (.dK (ZCE sm)) /\ H d2 = some (.dT kvs) /\ (sm.map (·.1)).Nodup /\ ZCp H kvs sm (fun _ _ => True) /\ kvs.length <= 41 * c
theorem ZCL.same {C : Addr} {H H' : Hp} {p d1 d2 : Addr} {n : Int} {sm : PL} {c : Nat} (h : ZCL C H p n d1 d2 sm c) (s : ZB1 H H') : ZCL C H' p n d1 d2 sm c := by
 obtain ⟨dx, kvs, h1, h2, h3, h4, h5, h6⟩ := h
 exact ⟨dx, kvs, s _ _ h1, s _ _ h2, s _ _ h3, h4, h5.same s, h6⟩
def Fr3 (p d1 d2 : Addr) (H H' : Hp) : Prop := ∀ b o, H b = some o -> b ≠ p -> b ≠ d1 -> b ≠ d2 -> H' b = some o
section
variable {P : Program} {w : World} {K : W.Frag} {mg : Str -> Option Value} {base : Heap} {a : Ad}
local macro_rules | `(tactic| walk_at "rd") => `(tactic| first
 | with_reducible first | refine ZC0 (by assumption) (‹Txt _ _ _›).ZH (‹Txt _ _ _›).YC ZHr ?_ | refine ZC0 (by assumption) (‹Txt _ _ _›).ZH (‹Txt _ _ _›).ZW ZDq ?_ | refine ZC0 (by assumption) (‹Txt _ _ _›).ZH (‹Txt _ _ _›).Zf ZJO ?_)
def Tm (t : Int) : Prop := -1099511627776 <= t /\ t < 1099511627776
def ZN5 : Sp := fun vs H Q _ => ∃ t : Int, vs = [.int t] /\ Tm t /\ Q .non H
theorem ZH8 : ZB4 ["t"] ["t"] (ZBv ZEH) := ZCX
theorem ZFO (T : Txt K mg a) : ZB2 P w K mg base CX0 3 a.Z2 a.YB ["t"] ZN5 := by
 refine T.Z4.ok ZH8 (by walk_at "l") (fun cdv A outer s H vs Q E hr h => ?_)
 ·obtain ⟨t, rfl, ht, q⟩ := h
  unfold Tm at ht
  refine ⟨_, QB.h (ZBx (ZCk (QW.pt (ZIG (ZFZ (ZFY (qcS (ZJN T) hr T.ZAj T.JH.kp T.ZAn (ZBu (qv 0) ZBt)))) (ZGo (ZCD (ZEN) (qv 0) (ZD6 (v := .int 1099511627776) rfl T.YQ ⟨_, rfl⟩) (ZCH _))))) (ZBx ZEv) ZCU)), ?_⟩
  walk_at "s"
  walk_at "w"
  refine ⟨t, rfl, .inl ⟨⟨by omega, by omega⟩, ?_⟩⟩
  walk_at "w"
  refine ZDN ?_
  walk_at "w"
  rw [ZFv]
  refine ZC6 (fun h => ?_) (fun h => ?_)
  ·exfalso
   omega
  ·walk_at "w"
   exact q
def ZPo (C : Addr) : Sp := fun vs H Q _ => ∃ (p d1 d2 dx : Addr) (n t : Int) (v : V) (o : Option (PL)) (sm : PL) (kvs : List (List Key × V)) (c : Nat), vs = [.ref p, .int t, v] /\ H p = some (.ins C dx (tfl n d1 d2)) /\ H d1 = some (.dK (ZCE sm)) /\ H d2 = some (.dT kvs) /\ (sm.map (·.1)).Nodup /\
 ZCp H kvs sm (fun l s => s ≠ t / 2 ^ l) /\ kvs.length <= 41 * c /\ c <= 1000 /\ ZCv H v o /\ Is4 (inS sm 0 t) o /\ ∀ H', ZCL C H' p n d1 d2 sm (c + 1) -> Kp d2 H H' -> Q .non H'
theorem ZDK : ZB4 ["self", "t", "four", "s", "level", "halves"] ["self", "t", "four"] (ZBv ZEI) := ZCX
theorem ZFP (T : Txt K mg a) : ZB2 P w K mg base CX0 3 a.Z3 a.Z7 ["self", "t", "four"] (ZPo a.ZE) := by
 refine T.ZAK.ok ZDK (by walk_at "l") (fun cdv A outer s H vs Q E hr h => ?_)
 ·obtain ⟨p, d1, d2, dx, n, t, v, o, sm, kvs, c, rfl, hp, h1, h2, hnd, hkf, hlen, hc, hv, ho, k⟩ := h
  have hu := ZC4 hr
  have np2 : p ≠ d2 := fun z => by subst z; rw [hp] at h2; cases h2
  have n12 : d1 ≠ d2 := fun z => by subst z; rw [h1] at h2; cases h2
  refine ⟨_, QB.h (ZBw (ZD8 hu (qv 2) (ZCd K rfl (qv 0)) (ZDJ (ZBu ZBy (ZBu (qv 1) ZBt)))) (ZBw (qsS (i := 3) ZDK.nd (qv 1)) (ZBx (ZFa PassesOwn.never rfl (ZHd rfl T.YU (ZBu (ZD6 (v := .int 40) rfl T.ZAb ⟨_, rfl⟩) ZBt)) (qgN (i := 4) ZDK.nd) (ZBw (qsS (i := 3) ZDK.nd (ZCG ZGL (qv 3) ZBy)) (ZBw (qsS (i := 5) ZDK.nd (ZDJ (ZBu (ZE7 hu (ZCd K rfl (qv 0)) (ZDJ (ZBu (qv 4) (ZBu (ZCG ZDS ZBy (qv 3)) ZBt)))) (ZBu (ZE7 hu (ZCd K rfl (qv 0)) (ZDJ (ZBu (qv 4) (ZBu (ZCG ZEe (ZCG ZDS ZBy (qv 3)) ZBy) ZBt)))) ZBt)))) (ZBx (ZD8 hu (qcS (ZMT T) hr T.ZA6 T.ZAT.kp T.ZA9 (ZBu (ZCi (ZCz K rfl) (qv 5) ZBy) (ZBu (ZCi (ZCz K rfl) (qv 5) ZBy) ZBt))) (ZCd K rfl (qv 0)) (ZDJ (ZBu (ZCG ZEe (qv 4) ZBy) (ZBu (qv 3) ZBt))))))))))), ?_⟩
  walk_at "s"
  walk_at "w"
  refine ZCc (by show 2 <= sizeLine; decide) fun b3 H3 n3 f3 S3 => ?_
  walk_at "w"
  refine ZIu (k := kOf 0 t) (S3 _ _ h2) f3 (Ux (show kvs.length <= 41000 by omega) (by decide)) fun H4 f4 K4 => ?_
  have K04 : Kp d2 H H4 := (Kp.same S3).trans K4
  have nt : ∀ (l : List (List Key × V)) (xs : List V), HO.dT l ≠ .tup xs := fun l xs z => by cases z
  have e0 : t / 2 ^ 0 = t := by simp
  have hk4 : ZCp H4 (ZC7 kvs (kOf 0 t) v) sm (fun l s => s ≠ t / 2 ^ l \/ l <= 0) := by
   have h := ((hkf.same S3).put (i := 0) (t := t) (hv.same S3) (by rw [e0]; exact ho)).kpX K4 (S3 _ _ h2) (nt _)
   rw [e0] at h
   refine h.mono fun l s hl g => ?_
   rcases g with g | g
   ·exact .inl g
   ·have : l = 0 := by omega
    subst this
    by_cases e : s = t / 2 ^ 0
    ·exact .inr ⟨rfl, e⟩
    ·exact .inl e
  have hl4 : (ZC7 kvs (kOf 0 t) v).length <= 41 * c + 1 := UF (ZDn _ _ _) (by omega)
  walk_at "w"
  refine ZLh (by decide) (by decide) (ZHB (fun i U H' => (∃ v4 v5, U = [some (.ref p), some (.int t), some v, some (.int (t / 2 ^ i)), v4, v5]) /\ Kp d2 H H' /\ ∃ kvs', H' d2 = some (.dT kvs') /\ ZCp H' kvs' sm (fun l s => s ≠ t / 2 ^ l \/ l <= i) /\ kvs'.length <= 41 * c + 1 + i) ?_ ?_ ?_)
  ·exact ⟨⟨none, none, by rw [e0]; rfl⟩, K04, _, f4, hk4, hl4⟩
  ·rintro i U H5 hi ⟨⟨v4, v5, rfl⟩, K5, kv5, f5, hk5, hl5⟩
   have hi40 : i < 40 := hi
   have hp5 := K5 _ _ hp np2
   have ez : (0 + (i : Int)) = (i : Int) := by omega
   rw [ez]
   walk_at "w"
   generalize hs : t / 2 ^ i / 2 = s
   have hs1 : t / 2 ^ (i + 1) = s := by rw [ZI2, hs]
   refine ZHi f5 ?_
   walk_at "w"
   refine ZCc (by show 2 <= sizeLine; decide) fun b6 H6 n6 f6 S6 => ?_
   refine ZIs (k := kOf i (2 * s)) (S6 _ _ f5) f6 ?_
   have hp6 := S6 _ _ hp5
   have f56 := S6 _ _ f5
   walk_at "w"
   refine ZHi f56 ?_
   walk_at "w"
   refine ZCc (by show 2 <= sizeLine; decide) fun b7 H7 n7 f7 S7 => ?_
   refine ZIs (k := kOf i (2 * s + 1)) (S7 _ _ f56) f7 ?_
   have S57 := S6.trans S7
   walk_at "w"
   refine ZCc (by show 2 <= sizeLine; decide) fun b8 H8 n8 f8 S8 => ?_
   have S58 := S57.trans S8
   have hk8 := hk5.same S58
   obtain ⟨oa, ha1, ha2⟩ := hk8 i (2 * s) (by omega) (.inr (Uc _))
   obtain ⟨ob, hb1, hb2⟩ := hk8 i (2 * s + 1) (by omega) (.inr (Uc _))
   walk_at "w"
   refine ⟨_, _, oa, ob, _, _, rfl, ha1, ha2, hb1, hb2, ZRF (by omega), fun v9 o9 H9 h9 g9 S9 => ?_⟩
   have g9 : Is4 (inS sm (i + 1) s) o9 := g9.congr fun q => ZNn
   have S59 := S58.trans S9
   have hp9 := S59 _ _ hp5
   walk_at "w"
   refine ZCc (by show 2 <= sizeLine; decide) fun b10 H10 n10 f10 S10 => ?_
   have S510 := S59.trans S10
   have f510 := S510 _ _ f5
   refine ZIu (k := kOf (i + 1) s) f510 ?_ (Ux (show kv5.length <= 42000 by omega) (by decide)) fun H11 f11 K11 => ?_
   ·rw [f10]
    show some (HO.tup [V.int ((i : Int) + 1), V.int s]) = some (HO.tup [V.int ((i + 1 : Nat) : Int), V.int s])
    rw [show ((i + 1 : Nat) : Int) = (i : Int) + 1 by omega]
   walk_at "w"
   refine ⟨⟨some (.int i), some (.ref b8), by rw [hs1]; rfl⟩, (K5.then S510).trans K11, _, f11, ?_, UF (ZDn _ _ _) (by omega)⟩
   have h := ((hk5.same S510).put (i := i + 1) (t := t) (h9.same S10) (by rw [hs1]; exact g9)).kpX K11 f510 (nt _)
   rw [hs1] at h
   refine h.mono fun l s' hl g => ?_
   rcases g with g | g
   ·exact .inl (.inl g)
   ·by_cases e : l = i + 1
    ·by_cases e2 : s' = t / 2 ^ l
     ·exact .inr ⟨e, e2⟩
     ·exact .inl (.inl e2)
    ·exact .inl (.inr (by omega))
  ·rintro U H5 ⟨⟨v4, v5, rfl⟩, K5, kv5, f5, hk5, hl5⟩
   walk_at "w"
   refine k H5 ⟨dx, kv5, K5 _ _ hp np2, K5 _ _ h1 n12, f5, hnd, hk5.mono fun l s hl _ => .inr hl, ?_⟩ K5
   have : kv5.length <= 41 * c + 1 + 40 := hl5
   omega
def ZRH (C : Addr) : Sp := fun vs H Q _ => ∃ (p d1 d2 : Addr) (n t h : Int) (sm : PL) (c : Nat), vs = [.ref p, .int t, .int h] /\ ZCL C H p n d1 d2 sm c /\ Tm t /\ c <= 1000 /\ sm.length <= 1000 /\
 ∀ H', ZCL C H' p n d1 d2 (ZCh sm t h) (c + 1) -> Fr3 p d1 d2 H H' -> Q .non H'
theorem ZJn : ZB4 ["self", "t", "h"] ["self", "t", "h"] (ZBv ZFE) := ZCX
theorem ZGD (T : Txt K mg a) : ZB2 P w K mg base CX0 4 a.YV a.Ya ["self", "t", "h"] (ZRH a.ZE) := by
 refine T.ZAw.ok ZJn (by walk_at "l") (fun cdv A outer s H vs Q E hr h => ?_)
 ·obtain ⟨p, d1, d2, n, t, x, sm, c, rfl, ⟨dx, kvs, hp, h1, h2, hnd, hkf, hlen⟩, ht, hc, hsl, k⟩ := h
  have hu := ZC4 hr
  have np1 : p ≠ d1 := fun z => by subst z; rw [hp] at h1; cases h1
  have n21 : d2 ≠ d1 := fun z => by subst z; rw [h1] at h2; cases h2
  refine ⟨_, QB.h (ZBw (ZCW (qcS (ZFO T) hr T.Yp T.Z4.kp T.Y1 (ZBu (qv 1) ZBt))) (ZBw (ZD8 hu (qv 2) (ZCd K rfl (qv 0)) (qv 1)) (ZBx (ZCW (ZCx (qv 0) T.ZH T.Y8 (ZFP T) hr T.JB .nil ZC1 (ZBu (qv 1) (ZBu (qcS (ZLE T) hr T.ZA2 T.Jw.kp T.ZA3 (ZBu (ZDJ (ZBu (ZDJ (ZBu (qv 1) (ZBu (qv 2) ZBt))) ZBt)) ZBt)) ZBt))))))), ?_⟩
  walk_at "s"
  walk_at "w"
  refine ⟨t, rfl, ht, ?_⟩
  walk_at "w"
  refine ZE2 h1 (Ux hsl (by decide)) fun H3 f3 K3 => ?_
  have hp3 := K3 _ _ hp np1
  have h23 := K3 _ _ h2 n21
  have hk3 : ZCp H3 kvs (ZCh sm t x) (fun l s => s ≠ t / 2 ^ l) := (ZCp.other hkf fun q hq => by
   rw [ZDR hnd]
   constructor
   ·exact fun z => .inl ⟨hq, z⟩
   ·rintro (z | z)
    ·exact z.2
    ·exact absurd (by rw [z]) hq).kpX K3 h1 (fun xs z => by cases z)
  walk_at "w"
  refine ZCJ hp3 ZEk ?_
  walk_at "w"
  refine ZCc (by show 2 <= sizeLine; decide) fun b4 H4 n4 f4 S4 => ?_
  walk_at "w"
  refine ZCc (by show 1 <= sizeLine; decide) fun b5 H5 n5 f5 S5 => ?_
  walk_at "w"
  refine ⟨b5, [(t, x)], rfl, ⟨_, f5, .cons ⟨b4, rfl, S5 _ _ f4⟩ .nil⟩, List.pairwise_singleton _ _, fun v6 o6 H6 h6 g6 S6 => ?_⟩
  have S36 := S4.trans (S5.trans S6)
  walk_at "w"
  refine ⟨p, d1, d2, dx, n, t, v6, o6, ZCh sm t x, kvs, c, rfl, S36 _ _ hp3, S36 _ _ f3, S36 _ _ h23, ZDh hnd, hk3.same S36, hlen, hc, h6, g6.congr fun q => ?_, fun H7 hT7 K7 => ?_⟩
  ·rw [List.mem_singleton, ZDV, ZDR hnd]
   simp only [Int.pow_zero, Int.ediv_one]
   constructor
   ·rintro rfl
    exact ⟨.inr rfl, rfl⟩
   ·rintro ⟨h1 | h1, h2⟩
    ·exact absurd h2 h1.1
    ·exact h1
  ·walk_at "w"
   exact k H7 hT7 fun b o e e1 e2 e3 => K7 _ _ (S36 _ _ (K3 _ _ e e2)) e3
def ZPp (C : Addr) : Sp := fun vs H Q _ => ∃ (p dx : Addr) (x : V) (cv : PL), vs = [.ref p, x] /\ H p = some (.ins C dx []) /\ ((x = .non /\ cv = []) \/ ∃ t, x = .ref t /\ PrT H t cv) /\ (cv.map (·.1)).Nodup /\ (∀ q ∈ cv, Tm q.1) /\ cv.length <= 100 /\
 ∀ (d1 d2 : Addr) (sm : PL) (H' : Hp), H d1 = none -> H d2 = none -> ZCL C H' p 0 d1 d2 sm cv.length -> (∀ q, q ∈ sm ↔ q ∈ cv) -> sm.length <= cv.length -> Kp p H H' -> Q .non H'
theorem ZDZ : ZB4 ["self", "curve", "t", "h"] ["self", "curve"] (ZBv ZCS) := ZCX
theorem ZGa (T : Txt K mg a) : ZB2 P w K mg base CX0 5 a.Zm a.ZS ["self", "curve"] (ZPp a.ZE) := by
 refine T.Jd.ok ZDZ (by walk_at "l") (fun cdv A outer s H vs Q E hr h => ?_)
 ·obtain ⟨p, dx, x, cv, rfl, hp, hx, hnd, htm, hlen, k⟩ := h
  refine ⟨_, QB.h (ZBw (ZED K rfl (qv 0) ZBy) (ZBw (ZED K rfl (qv 0) ZE0) (ZBw (ZED K rfl (qv 0) ZNc) (ZBx (ZCk (ZCD (ZO1) (qv 1) ZDg (ZCH _)) (ZBx (ZFa PassesOwn.never rfl (ZQ7 K rfl (qv 1)) (ZLn (n := 2) K rfl rfl (ZEu (qgN (i := 2) ZDZ.nd) (ZEu (qgN (i := 3) ZDZ.nd) ZJy))) (ZBx (ZCW (ZCx (qv 0) T.ZH T.Je (ZGD T) hr T.Jg .nil ZC1 (ZBu (qv 2) (ZBu (qv 3) ZBt))))))) ZCU))))), ?_⟩
  walk_at "s"
  walk_at "w"
  refine ZDk hp T.ZH T.YC (by show 0 < 1000; decide) fun H1 f1 K1 => ?_
  walk_at "w"
  refine ZE3 fun d1 H2 n2 f2 S2 => ?_
  have hp2 := S2 _ _ f1
  have nd1 : d1 ≠ p := fun z => by rw [z, f1] at n2; cases n2
  walk_at "w"
  refine ZDk hp2 T.ZH T.ZW (by show 1 < 1000; decide) fun H3 f3 K3 => ?_
  have f23 := K3 _ _ f2 nd1
  walk_at "w"
  refine ZNd fun d2 H4 n4 f4 S4 => ?_
  have hp4 := S4 _ _ f3
  have nd2 : d2 ≠ p := fun z => by rw [z, f3] at n4; cases n4
  walk_at "w"
  refine ZDk hp4 T.ZH T.Zf (by show 2 < 1000; decide) fun H5 f5 K5 => ?_
  have f5 : H5 p = some (.ins a.ZE dx (tfl 0 d1 d2)) := by rw [f5, ZPn]
  have K05 : Kp p H H5 := (((K1.then S2).trans K3).then S4).trans K5
  have f25 := K5 _ _ (S4 _ _ f23) nd1
  have f45 := K5 _ _ f4 nd2
  have hn1 : H d1 = none := by
   cases e : H d1 with
   | none => rfl
   | some o =>
    have := K1 _ _ e nd1
    rw [n2] at this
    cases this
  have hn2 : H d2 = none := by
   cases e : H d2 with
   | none => rfl
   | some o =>
    have := ((K1.then S2).trans K3) _ _ e nd2
    rw [n4] at this
    cases this
  have hT5 : ZCL a.ZE H5 p 0 d1 d2 [] 0 := ⟨dx, [], f5, f25, f45, List.nodup_nil, fun l s hl _ => ⟨none, .non, .inl ⟨rfl, rfl⟩⟩, Uc _⟩
  walk_at "w"
  rcases hx with ⟨rfl, rfl⟩ | ⟨t, rfl, hT⟩
  ·refine ZON (fun h => absurd rfl h) (fun _ => ?_)
   walk_at "w"
   exact k d1 d2 [] H5 hn1 hn2 hT5 (fun q => Iff.rfl) (Uc _) K05
  ·refine ZON (fun _ => ?_) (fun h => by cases h)
   obtain ⟨us, g, hP⟩ := hT
   have ntp : ∀ {b : Addr} {xs : List V}, H b = some (.tup xs) -> b ≠ p := fun e z => by rw [z, hp] at e; cases e
   have g5 := K05 _ _ g (ntp g)
   walk_at "w"
   refine ZJw (xs := us) (fun i U H' => (∃ v2 v3, U = [some (.ref p), some (.ref t), v2, v3]) /\ Kp p H H' /\ ∃ sm, ZCL a.ZE H' p 0 d1 d2 sm i /\ (∀ q, q ∈ sm ↔ q ∈ cv.take i) /\ sm.length <= i) ?_ ?_ ?_ ?_
   ·exact ⟨⟨_, _, rfl⟩, K05, [], hT5, fun q => by rw [List.take_zero], Uc _⟩
   ·rintro i U H6 _ ⟨_, K6, _⟩
    exact SqT.of (K6 _ _ g (ntp g))
   ·rintro i x U H6 hx ⟨⟨v2, v3, rfl⟩, K6, sm, hT6, hm6, hl6⟩
    obtain ⟨cc, q, rfl, hq, hc⟩ := hP.at hx
    have hc6 := K6 _ _ hc (ntp hc)
    obtain ⟨dx6, kv6, hp6, h16, h26, hnd6, hkf6, hlen6⟩ := id hT6
    have hi : i < cv.length := (Um.mp hq).1
    walk_at "w"
    refine ZCJ hp6 ZEk ?_
    walk_at "w"
    refine ⟨p, d1, d2, 0, q.1, q.2, sm, i, rfl, hT6, htm q (UA hq), by omega, by omega, fun H7 hT7 Fr7 => ?_⟩
    walk_at "w"
    refine ⟨⟨_, _, rfl⟩, fun b o e nb => Fr7 _ _ (K6 _ _ e nb) nb (fun z => by rw [z, hn1] at e; cases e) (fun z => by rw [z, hn2] at e; cases e), ZCh sm q.1 q.2, hT7, fun r => ?_, UF (ZE4 _ _ _) (by omega)⟩
    rw [ZDR hnd6, List.take_succ, hq, UR, hm6]
    have hne : ∀ r ∈ cv.take i, r.1 ≠ q.1 := fun r hr e => by
     obtain ⟨j, hj, rfl⟩ := List.getElem_of_mem hr
     rw [UK] at hj
     rw [List.getElem_take] at e
     obtain ⟨z2, y2⟩ := Um.mp hq
     have : (cv.map (·.1))[j]'(by rw [Ur]; omega) = (cv.map (·.1))[i]'(by rw [Ur]; omega) := by
      rw [List.getElem_map, List.getElem_map, y2]
      exact e
     have := (List.getElem_inj hnd).mp this
     omega
    constructor
    ·rintro (h | h)
     ·exact .inl h.2
     ·exact .inr (by rw [h]; exact Uy)
    ·rintro (h | h)
     ·exact .inl ⟨hne r h, h⟩
     ·exact .inr (by simpa using h)
   ·rintro U H6 ⟨⟨v2, v3, rfl⟩, K6, sm, hT6, hm6, hl6⟩
    rw [hP.length] at hT6 hm6 hl6
    rw [UT] at hm6
    walk_at "w"
    exact k d1 d2 sm H6 hn1 hn2 hT6 hm6 hl6 K6
end
theorem ZCL.kpX {C : Addr} {H H' : Hp} {p d1 d2 l : Addr} {n : Int} {sm : PL} {c : Nat} {xs : List V} (h : ZCL C H p n d1 d2 sm c) (k : Kp l H H') (hl : H l = some (.lst xs)) : ZCL C H' p n d1 d2 sm c := by
 obtain ⟨dx, kvs, h1, h2, h3, h4, h5, h6⟩ := h
 exact ⟨dx, kvs, k _ _ h1 (fun z => by rw [z, hl] at h1; cases h1), k _ _ h2 (fun z => by rw [z, hl] at h2; cases h2), k _ _ h3 (fun z => by rw [z, hl] at h3; cases h3), h4, h5.kpX k hl (fun _ z => by cases z), h6⟩
theorem ZCL.keepT {C : Addr} {H H' : Hp} {p d1 d2 : Addr} {n : Int} {sm : PL} {c : Nat} (g : ZCL C H p n d1 d2 sm c) (f : Fr3 p d1 d2 H H') {b : Addr} {xs : List V} (e : H b = some (.tup xs)) : H' b = some (.tup xs) := by
 obtain ⟨dy, kws, g1, g2, g3, _⟩ := g
 exact f _ _ e (fun z => by rw [z, g1] at e; cases e) (fun z => by rw [z, g2] at e; cases e) (fun z => by rw [z, g3] at e; cases e)
theorem ZCL.keepL {C : Addr} {H H' : Hp} {p d1 d2 : Addr} {n : Int} {sm : PL} {c : Nat} (g : ZCL C H p n d1 d2 sm c) (f : Fr3 p d1 d2 H H') {b : Addr} {xs : List V} (e : H b = some (.lst xs)) : H' b = some (.lst xs) := by
 obtain ⟨dy, kws, g1, g2, g3, _⟩ := g
 exact f _ _ e (fun z => by rw [z, g1] at e; cases e) (fun z => by rw [z, g2] at e; cases e) (fun z => by rw [z, g3] at e; cases e)
theorem ZCL.nd {C : Addr} {H : Hp} {p d1 d2 : Addr} {n : Int} {sm : PL} {c : Nat} (g : ZCL C H p n d1 d2 sm c) : (sm.map (·.1)).Nodup := by
 obtain ⟨dy, kws, g1, g2, g3, g4, _⟩ := g
 exact g4
theorem ZN6 {m : PL} (hn : (m.map (·.1)).Nodup) : ∀ q, q ∈ ZDH m ↔ q ∈ m := by
 have main : ∀ i : Nat, i <= m.length -> ∀ q, q ∈ ZDH (m.take i) ↔ q ∈ m.take i := by
  intro i
  induction i with
  | zero => intro _ q; rw [List.take_zero]; exact Iff.rfl
  | succ i ih =>
   intro hi q
   have hp : m[i]? = some m[i] := Ud (by omega)
   have e : m.take (i + 1) = m.take i ++ [m[i]] := by rw [List.take_succ, hp]; rfl
   rw [e, ZHp, ZDR (ZE5 _), ih (by omega), UR, List.mem_singleton]
   have hne : ∀ r ∈ m.take i, r.1 ≠ m[i].1 := fun r hr z => by
    obtain ⟨j, hj, rfl⟩ := List.getElem_of_mem hr
    rw [UK] at hj
    rw [List.getElem_take] at z
    have : (m.map (·.1))[j]'(by rw [Ur]; omega) = (m.map (·.1))[i]'(by rw [Ur]; omega) := by
     rw [List.getElem_map, List.getElem_map]
     exact z
    have := (List.getElem_inj hn).mp this
    omega
   constructor
   ·rintro (h | h)
    ·exact .inl h.2
    ·exact .inr h
   ·rintro (h | h)
    ·exact .inl ⟨hne q h, h⟩
    ·exact .inr h
 intro q
 have := main m.length (Uc _) q
 rwa [UT] at this
section
variable {P : Program} {w : World} {K : W.Frag} {mg : Str -> Option Value} {base : Heap} {a : Ad}
local macro_rules | `(tactic| walk_at "rd") => `(tactic| first
 | with_reducible first | refine ZC0 (by assumption) (‹Txt _ _ _›).ZH (‹Txt _ _ _›).YC ZHr ?_ | refine ZC0 (by assumption) (‹Txt _ _ _›).ZH (‹Txt _ _ _›).ZW ZDq ?_ | refine ZC0 (by assumption) (‹Txt _ _ _›).ZH (‹Txt _ _ _›).Zf ZJO ?_)
def ZPq (C : Addr) : Sp := fun vs H Q _ => ∃ (p d1 d2 : Addr) (n : Int) (sm : PL) (c : Nat), vs = [.ref p] /\ ZCL C H p n d1 d2 sm c /\ sm.length < 100 /\
 ∀ (t : Addr) (cv : PL) (H' : Hp), PrT H' t cv -> Asc cv -> (∀ q, q ∈ cv ↔ q ∈ sm) -> ZB1 H H' -> Q (.ref t) H'
theorem ZJP : ZB4 ["self"] ["self"] (ZBv ZEa) := ZCX
theorem ZJQ (T : Txt K mg a) : ZB2 P w K mg base CX0 2 a.YJ a.YG ["self"] (ZPq a.ZE) := by
 refine T.ZAc.ok ZJP (by walk_at "l") (fun cdv A outer s H vs Q E hr h => ?_)
 ·obtain ⟨p, d1, d2, n, sm, c, rfl, hTr, hl, k⟩ := h
  obtain ⟨dx, kvs, hp, h1, h2, hnd, hkf, hlen⟩ := id hTr
  refine ⟨_, QB.h (ZBx (ZB7 (qcS (ZJl T) hr T.ZAu T.Jf.kp T.ZAt (ZBu (ZL2 rfl rfl T.ZAI (ZCd K rfl (qv 0))) ZBt)))), ?_⟩
  walk_at "s"
  walk_at "w"
  refine ZL3 h1 (by omega) fun l H1 n1 hL1 S1 => ?_
  obtain ⟨vs, f1, hP1⟩ := hL1
  walk_at "w"
  refine ⟨true, l, vs, sm, rfl, f1, hP1, hl, fun t cv H2 hT2 hC _ S2 => ?_⟩
  refine k t cv H2 hT2 hC.1 (fun q => ?_) (S1.trans S2)
  obtain ⟨x, y⟩ := q
  rw [hC.2, ZDG (ZE5 _), ZN6 hnd]
end
def sfl (tr dd dn wt : Addr) : List (Str × V) := [("tree", V.ref tr), ("deeds", V.ref dd), ("done", V.ref dn), ("watches", V.ref wt)]
section
variable {tr dd dn wt : Addr}
theorem sg1 : (("deeds" : Str) == "tree") = false := by decide +kernel
theorem sg2 : (("done" : Str) == "tree") = false := by decide +kernel
theorem sg3 : (("done" : Str) == "deeds") = false := by decide +kernel
theorem sg4 : (("watches" : Str) == "tree") = false := by decide +kernel
theorem sg5 : (("watches" : Str) == "deeds") = false := by decide +kernel
theorem sg6 : (("watches" : Str) == "done") = false := by decide +kernel
theorem ZJR : (sfl tr dd dn wt).lookup ("tree" : Str) = some (.ref tr) := by
 unfold sfl
 rw [Ui, beq_self_eq_true]
theorem ZHs : (sfl tr dd dn wt).lookup ("deeds" : Str) = some (.ref dd) := by
 unfold sfl
 rw [Ui, sg1, Ui, beq_self_eq_true]
theorem ZJS : (sfl tr dd dn wt).lookup ("done" : Str) = some (.ref dn) := by
 unfold sfl
 rw [Ui, sg2, Ui, sg3, Ui, beq_self_eq_true]
theorem ZJo : (sfl tr dd dn wt).lookup ("watches" : Str) = some (.ref wt) := by
 unfold sfl
 rw [Ui, sg4, Ui, sg5, Ui, sg6, Ui, beq_self_eq_true]
theorem ZC5 {m : Str} (h1 : (m == ("tree" : Str)) = false := by decide +kernel) (h2 : (m == ("deeds" : Str)) = false := by decide +kernel) (h3 : (m == ("done" : Str)) = false := by decide +kernel) (h4 : (m == ("watches" : Str)) = false := by decide +kernel) : (sfl tr dd dn wt).lookup m = none := by
 unfold sfl
 rw [Ui, h1, Ui, h2, Ui, h3, Ui, h4]
 rfl
theorem ZPr : ZCM "watches" (.ref wt) (ZCM "done" (.ref dn) (ZCM "deeds" (.ref dd) (ZCM "tree" (.ref tr) []))) = sfl tr dd dn wt := by
 have e1 : ¬ ("tree" : Str) = "deeds" := by decide +kernel
 have e2 : ¬ ("tree" : Str) = "done" := by decide +kernel
 have e3 : ¬ ("deeds" : Str) = "done" := by decide +kernel
 have e4 : ¬ ("tree" : Str) = "watches" := by decide +kernel
 have e5 : ¬ ("deeds" : Str) = "watches" := by decide +kernel
 have e6 : ¬ ("done" : Str) = "watches" := by decide +kernel
 show ZCM "watches" (.ref wt) (ZCM "done" (.ref dn) (ZCM "deeds" (.ref dd) [(("tree" : Str), V.ref tr)])) = _
 rw [show ZCM "deeds" (.ref dd) [(("tree" : Str), V.ref tr)] = (if ("tree" : Str) = "deeds" then _ else (("tree" : Str), V.ref tr) :: ZCM "deeds" (.ref dd) []) from rfl, if_neg e1]
 rw [show ZCM "done" (.ref dn) ((("tree" : Str), V.ref tr) :: ZCM "deeds" (.ref dd) []) = (if ("tree" : Str) = "done" then _ else (("tree" : Str), V.ref tr) :: (if ("deeds" : Str) = "done" then _ else (("deeds" : Str), V.ref dd) :: ZCM "done" (.ref dn) [])) from rfl, if_neg e2, if_neg e3]
 show (if ("tree" : Str) = "watches" then _ else (("tree" : Str), V.ref tr) :: (if ("deeds" : Str) = "watches" then _ else (("deeds" : Str), V.ref dd) :: (if ("done" : Str) = "watches" then _ else (("done" : Str), V.ref dn) :: ZCM "watches" (.ref wt) []))) = _
 rw [if_neg e4, if_neg e5, if_neg e6]
 rfl
theorem ZRI {n : Int} {d1 d2 : Addr} : sfl tr dd dn wt ≠ tfl n d1 d2 := fun h => by
 have := congrArg List.length h
 simp [sfl, tfl] at this
end
structure SA where
 p : Addr
 tr : Addr
 d1 : Addr
 d2 : Addr
 dd : Addr
 dn : Addr
 wt : Addr
def SA.ls (S : SA) : List Addr := [S.dd, S.dn, S.wt]
def SA.own (S : SA) : List Addr := [S.tr, S.d1, S.d2, S.dd, S.dn, S.wt]
def ZEd : Option Int -> V
 | none => .non
 | some i => .int i
theorem ZJT (o : Option Int) : (o.map V.int).getD .non = ZEd o := by cases o <;> rfl
def ZDA (H : Hp) (vs : List V) (ds : List (Int × Option Int)) : Prop := Paired (fun v (q : Int × Option Int) => ∃ b, v = .ref b /\ H b = some (.tup [.int q.1, ZEd q.2])) vs ds
theorem ZDA.tups {H H' : Hp} {vs : List V} {ds : List (Int × Option Int)} (h : ZDA H vs ds) (t : ∀ b xs, H b = some (.tup xs) -> H' b = some (.tup xs)) : ZDA H' vs ds := Paired.mapP h fun _ _ ⟨b, e, z⟩ => ⟨b, e, t _ _ z⟩
theorem ZDA.snoc {H : Hp} : ∀ {vs : List V} {ds : List (Int × Option Int)}, ZDA H vs ds -> ∀ {b : Addr} {q : Int × Option Int}, H b = some (.tup [.int q.1, ZEd q.2]) -> ZDA H (vs ++ [.ref b]) (ds ++ [q])
 | _, _, .nil, _, _, e => .cons ⟨_, rfl, e⟩ .nil
 | _, _, .cons h t, _, _, e => .cons h (ZDA.snoc t e)
theorem ZDA.len {H : Hp} {vs : List V} {ds : List (Int × Option Int)} (h : ZDA H vs ds) : vs.length = ds.length := Paired.length h
def ZB0 (a : Ad) (H : Hp) (S : SA) (n : Int) (sm : PL) (c : Nat) (ds : List (Int × Option Int)) (ts : List Int) (ws : List V) : Prop :=
 ∃ dx vs, H S.p = some (.ins a.ZB dx (sfl S.tr S.dd S.dn S.wt)) /\ ZCL a.ZE H S.tr n S.d1 S.d2 sm c /\ H S.dd = some (.lst vs) /\ ZDA H vs ds /\ H S.dn = some (.lst (ts.map V.int)) /\ H S.wt = some (.lst ws) /\ S.dd ≠ S.dn /\ S.dd ≠ S.wt /\ S.dn ≠ S.wt
def FrS (S : SA) (H H' : Hp) : Prop := ∀ b o, H b = some o -> b ∉ S.own -> H' b = some o
theorem FrS.trans {S : SA} {H H1 H2 : Hp} (h : FrS S H H1) (g : FrS S H1 H2) : FrS S H H2 := fun b o e n => g b o (h b o e n) n
theorem FrS.same {S : SA} {H H' : Hp} (h : ZB1 H H') : FrS S H H' := fun b o e _ => h b o e
theorem FrS.kp {S : SA} {H H' : Hp} {q : Addr} (h : Kp q H H') (m : q ∈ S.own) : FrS S H H' := fun b o e n => h b o e fun z => n (z ▸ m)
theorem FrS.fr3 {S : SA} {H H' : Hp} (h : Fr3 S.tr S.d1 S.d2 H H') : FrS S H H' := fun b o e n => h b o e (fun z => n (by simp [SA.own, z])) (fun z => n (by simp [SA.own, z])) (fun z => n (by simp [SA.own, z]))
section
variable {a : Ad} {H H' : Hp} {S : SA} {n : Int} {sm : PL} {c : Nat} {ds : List (Int × Option Int)} {ts : List Int} {ws : List V}
theorem ZB0.tree (h : ZB0 a H S n sm c ds ts ws) : ZCL a.ZE H S.tr n S.d1 S.d2 sm c := let ⟨_, _, _, h, _⟩ := h; h
theorem ZB0.nd (h : ZB0 a H S n sm c ds ts ws) : (sm.map (·.1)).Nodup := h.tree.nd
theorem ZB0.same (h : ZB0 a H S n sm c ds ts ws) (s : ZB1 H H') : ZB0 a H' S n sm c ds ts ws := by
 obtain ⟨dx, vs, h1, h2, h3, h4, h5, h6, h7⟩ := h
 exact ⟨dx, vs, s _ _ h1, h2.same s, s _ _ h3, h4.tups fun b xs e => s _ _ e, s _ _ h5, s _ _ h6, h7⟩
theorem ZB0.nown (h : ZB0 a H S n sm c ds ts ws) {b : Addr} {o : HO} (e : H b = some o) (h1 : ∀ C dx fs, o ≠ .ins C dx fs) (h2 : (∃ m, o = .dK m) -> b ≠ S.d1) (h3 : ∀ m, o ≠ .dT m) (h4 : (∃ m, o = .lst m) -> b ∉ S.ls) : b ∉ S.own := by
 obtain ⟨dx, vs, g1, ⟨dy, kvs, t1, t2, t3, _⟩, g3, g4, g5, g6, _⟩ := h
 intro z
 simp only [SA.own, Uj, UU, or_false] at z
 rcases z with z | z | z | z | z | z
 ·rw [z, t1] at e; exact h1 _ _ _ (Option.some.inj e).symm
 ·exact h2 ⟨_, (by rw [z, t2] at e; exact (Option.some.inj e).symm)⟩ z
 ·rw [z, t3] at e; exact h3 _ (Option.some.inj e).symm
 ·exact h4 ⟨_, (by rw [z, g3] at e; exact (Option.some.inj e).symm)⟩ (by simp [SA.ls, z])
 ·exact h4 ⟨_, (by rw [z, g5] at e; exact (Option.some.inj e).symm)⟩ (by simp [SA.ls, z])
 ·exact h4 ⟨_, (by rw [z, g6] at e; exact (Option.some.inj e).symm)⟩ (by simp [SA.ls, z])
theorem ZB0.keepL (h : ZB0 a H S n sm c ds ts ws) (f : FrS S H H') {b : Addr} {xs : List V} (e : H b = some (.lst xs)) (nb : b ∉ S.ls) : H' b = some (.lst xs) :=
 f _ _ e (h.nown e (fun _ _ _ z => by cases z) (fun ⟨_, z⟩ => by cases z) (fun _ z => by cases z) fun _ => nb)
theorem ZB0.keepD (h : ZB0 a H S n sm c ds ts ws) (f : FrS S H H') {b : Addr} {m : List (Key × V)} (e : H b = some (.dK m)) (nb : b ≠ S.d1) : H' b = some (.dK m) :=
 f _ _ e (h.nown e (fun _ _ _ z => by cases z) (fun _ => nb) (fun _ z => by cases z) (fun ⟨_, z⟩ => by cases z))
theorem ZB0.kpL (h : ZB0 a H S n sm c ds ts ws) {q : Addr} {xs : List V} (k : Kp q H H') (hq : H q = some (.lst xs)) (nq : q ∉ S.ls) : ZB0 a H' S n sm c ds ts ws := by
 obtain ⟨dx, vs, h1, h2, h3, h4, h5, h6, h7⟩ := h
 simp only [SA.ls, Uj, UU, or_false, not_or] at nq
 exact ⟨dx, vs, k _ _ h1 (fun z => by rw [z, hq] at h1; cases h1), h2.kpX k hq, k _ _ h3 (Ne.symm nq.1), h4.tups (fun b xs e => k _ _ e (fun z => by rw [z, hq] at e; cases e)), k _ _ h5 (Ne.symm nq.2.1), k _ _ h6 (Ne.symm nq.2.2), h7⟩
theorem ZB0.pot (h : ZB0 a H S n sm c ds ts ws) {q : Addr} (hp : Pot H q) (k : Kp q H H') (nq : q ∉ S.ls) : ZB0 a H' S n sm c ds ts ws := by
 obtain ⟨u, v, e, _⟩ := hp
 exact h.kpL k e nq
theorem ZB0.kpD (h : ZB0 a H S n sm c ds ts ws) {q : Addr} {m : List (Key × V)} (k : Kp q H H') (hq : H q = some (.dK m)) (nq : q ≠ S.d1) : ZB0 a H' S n sm c ds ts ws := by
 obtain ⟨dx, vs, h1, ⟨dy, kvs, t1, t2, t3, t4, t5, t6⟩, h3, h4, h5, h6, h7⟩ := h
 refine ⟨dx, vs, k _ _ h1 (fun z => by rw [z, hq] at h1; cases h1), ⟨dy, kvs, k _ _ t1 (fun z => by rw [z, hq] at t1; cases t1), k _ _ t2 (Ne.symm nq), k _ _ t3 (fun z => by rw [z, hq] at t3; cases t3), t4, t5.kpX k hq (fun _ z => by cases z), t6⟩, k _ _ h3 (fun z => by rw [z, hq] at h3; cases h3), h4.tups (fun b xs e => k _ _ e (fun z => by rw [z, hq] at e; cases e)), k _ _ h5 (fun z => by rw [z, hq] at h5; cases h5), k _ _ h6 (fun z => by rw [z, hq] at h6; cases h6), h7⟩
theorem ZB0.fresh (h : ZB0 a H S n sm c ds ts ws) {q : Addr} (hq : H q = none) : q ∉ S.ls /\ q ≠ S.d1 := by
 obtain ⟨dx, vs, h1, ⟨dy, kvs, t1, t2, t3, t4, t5, t6⟩, h3, h4, h5, h6, h7⟩ := h
 refine ⟨fun z => ?_, fun z => by rw [z, t2] at hq; cases hq⟩
 simp only [SA.ls, Uj, UU, or_false] at z
 rcases z with z | z | z
 ·rw [z, h3] at hq; cases hq
 ·rw [z, h5] at hq; cases hq
 ·rw [z, h6] at hq; cases hq
theorem ZB0.fr3 (h : ZB0 a H S n sm c ds ts ws) {n' : Int} {sm' : PL} {c' : Nat} (f : Fr3 S.tr S.d1 S.d2 H H') (t : ZCL a.ZE H' S.tr n' S.d1 S.d2 sm' c') : ZB0 a H' S n' sm' c' ds ts ws := by
 obtain ⟨dx, vs, h1, h2, h3, h4, h5, h6, h7⟩ := h
 refine ⟨dx, vs, ?_, t, h2.keepL f h3, h4.tups (fun b xs e => h2.keepT f e), h2.keepL f h5, h2.keepL f h6, h7⟩
 obtain ⟨dy, kvs, t1, t2, t3, _⟩ := h2
 exact f _ _ h1 (fun z => by rw [z, t1] at h1; injection h1 with h1; injection h1 with _ _ h3; exact ZRI h3.symm) (fun z => by rw [z, t2] at h1; cases h1) (fun z => by rw [z, t3] at h1; cases h1)
theorem ZB0.kpDone (h : ZB0 a H S n sm c ds ts ws) {ts' : List Int} (k : Kp S.dn H H') (f : H' S.dn = some (.lst (ts'.map V.int))) : ZB0 a H' S n sm c ds ts' ws := by
 obtain ⟨dx, vs, h1, h2, h3, h4, h5, h6, h7, h8, h9⟩ := h
 exact ⟨dx, vs, k _ _ h1 (fun z => by rw [z, h5] at h1; cases h1), h2.kpX k h5, k _ _ h3 h7, h4.tups (fun b xs e => k _ _ e (fun z => by rw [z, h5] at e; cases e)), f, k _ _ h6 (Ne.symm h9), h7, h8, h9⟩
theorem ZB0.kpDeeds (h : ZB0 a H S n sm c ds ts ws) {ds' : List (Int × Option Int)} {vs' : List V} (k : Kp S.dd H H') (f : H' S.dd = some (.lst vs')) (g : ZDA H' vs' ds') : ZB0 a H' S n sm c ds' ts ws := by
 obtain ⟨dx, vs, h1, h2, h3, h4, h5, h6, h7, h8, h9⟩ := h
 exact ⟨dx, vs', k _ _ h1 (fun z => by rw [z, h3] at h1; cases h1), h2.kpX k h3, f, g, k _ _ h5 (Ne.symm h7), k _ _ h6 (Ne.symm h8), h7, h8, h9⟩
end
def ZG4 (m : PL) (t : Int) : Option Int -> PL
 | none => ZC2 m t
 | some h => ZCh m t h
section
variable {P : Program} {w : World} {K : W.Frag} {mg : Str -> Option Value} {base : Heap} {a : Ad}
local macro_rules | `(tactic| walk_at "rd") => `(tactic| first
 | with_reducible first | refine ZC0 (by assumption) (‹Txt _ _ _›).ZH (‹Txt _ _ _›).ZW ZDq ?_ | refine ZC0 (by assumption) (‹Txt _ _ _›).ZF (‹Txt _ _ _›).Z9 ZJR ?_ | refine ZC0 (by assumption) (‹Txt _ _ _›).ZF (‹Txt _ _ _›).Zs ZHs ?_ | refine ZC0 (by assumption) (‹Txt _ _ _›).ZF (‹Txt _ _ _›).Z8 ZJS ?_ | refine ZC0 (by assumption) (‹Txt _ _ _›).ZF (‹Txt _ _ _›).YD ZJo ?_)
def ZPs (C : Addr) : Sp := fun vs H Q _ => ∃ (p d1 d2 : Addr) (n t v : Int) (sm : PL) (c : Nat), vs = [.ref p, .int t] /\ ZCL C H p n d1 d2 sm c /\ ZCB sm t = some v /\ c <= 1000 /\
 ∀ H', ZCL C H' p n d1 d2 (ZC2 sm t) (c + 1) -> Fr3 p d1 d2 H H' -> Q .non H'
theorem ZJU : ZB4 ["self", "t"] ["self", "t"] (ZBv ZEZ) := ZCX
theorem ZJV (T : Txt K mg a) : ZB2 P w K mg base CX0 4 a.YN a.YM ["self", "t"] (ZPs a.ZE) := by
 refine T.ZAe.ok ZJU (by walk_at "l") (fun cdv A outer s H vs Q E hr h => ?_)
 ·obtain ⟨p, d1, d2, n, t, v, sm, c, rfl, ⟨dx, kvs, hp, h1, h2, hnd, hkf, hlen⟩, hg, hc, k⟩ := h
  have np1 : p ≠ d1 := fun z => by subst z; rw [hp] at h1; cases h1
  have n21 : d2 ≠ d1 := fun z => by subst z; rw [h1] at h2; cases h2
  refine ⟨_, QB.h (ZBw (ZCW (ZI3 (ZCd K rfl (qv 0)) (qv 1))) (ZBx (ZCW (ZCx (qv 0) T.ZH T.Y8 (ZFP T) hr T.JB .nil ZC1 (ZBu (qv 1) (ZBu ZDg ZBt)))))), ?_⟩
  walk_at "s"
  walk_at "w"
  refine ZI6 h1 ?_
  walk_at "w"
  refine ZI7 h1 hg fun H3 f3 K3 => ?_
  have hp3 := K3 _ _ hp np1
  have h23 := K3 _ _ h2 n21
  have hk3 : ZCp H3 kvs (ZC2 sm t) (fun l s => s ≠ t / 2 ^ l) := (ZCp.other hkf fun q hq => by
   rw [ZDw]
   exact ⟨fun z => ⟨hq, z⟩, fun z => z.2⟩).kpX K3 h1 (fun xs z => by cases z)
  walk_at "w"
  refine ZCJ hp3 ZEk ?_
  walk_at "w"
  refine ⟨p, d1, d2, dx, n, t, .non, none, ZC2 sm t, kvs, c, rfl, hp3, f3, h23, ZGA hnd, hk3, hlen, hc, .non, .inl ⟨rfl, ?_⟩, fun H7 hT7 K7 => ?_⟩
  ·cases e : inS (ZC2 sm t) 0 t with
   | nil => rfl
   | cons q qs =>
    have hq : q ∈ inS (ZC2 sm t) 0 t := by rw [e]; exact Uy
    rw [ZDV, ZDw] at hq
    simp only [Int.pow_zero, Int.ediv_one] at hq
    exact absurd hq.2 hq.1.1
  ·walk_at "w"
   exact k H7 hT7 fun b o e e1 e2 e3 => K7 _ _ (K3 _ _ e e2) e3
def ZPt (a : Ad) : Sp := fun vs H Q _ => ∃ (p dx : Addr) (x : V) (cv : PL), vs = [.ref p, x] /\ H p = some (.ins a.ZB dx []) /\ ((x = .non /\ cv = []) \/ ∃ t, x = .ref t /\ PrT H t cv) /\ (cv.map (·.1)).Nodup /\ (∀ q ∈ cv, Tm q.1) /\ cv.length <= 100 /\
 ∀ (S : SA) (sm : PL) (H' : Hp), S.p = p -> (∀ b ∈ S.own, H b = none) -> ZB0 a H' S 0 sm cv.length [] [] [] -> (∀ q, q ∈ sm ↔ q ∈ cv) -> sm.length <= cv.length -> Kp p H H' -> Q .non H'
theorem ZF6 : ZB4 ["self", "curve"] ["self", "curve"] (ZBv ZCN) := ZCX
theorem ZD1 (T : Txt K mg a) : ZB2 P w K mg base CX0 7 a.Zh a.ZQ ["self", "curve"] (ZPt a) := by
 refine T.JX.ok ZF6 (by walk_at "l") (fun cdv A outer s H vs Q E hr h => ?_)
 ·obtain ⟨p, dx, x, cv, rfl, hp, hx, hnd, htm, hlen, k⟩ := h
  refine ⟨_, QB.h (ZBw (ZED K rfl (qv 0) (ZJ3 T.ZBH (ZGa T) hr rfl T.ZBQ T.Jk .nil ZC1 (ZBu (qv 1) ZBt))) (ZBw (ZED K rfl (qv 0) (ZEh ZBt)) (ZBw (ZED K rfl (qv 0) (ZEh ZBt)) (ZBx (ZED K rfl (qv 0) (ZEh ZBt)))))), ?_⟩
  walk_at "s"
  walk_at "w"
  refine ZHG fun tr dt H1 n1 f1 S1 => ?_
  refine ⟨tr, dt, x, cv, rfl, f1, ?_, hnd, htm, hlen, fun d1 d2 sm H2 m1 m2 hT2 hm hl K2 => ⟨rfl, ?_⟩⟩
  ·rcases hx with h | ⟨t, h1, h2⟩
   ·exact .inl h
   ·exact .inr ⟨t, h1, h2.same S1⟩
  have S02 : ZB1 H H2 := fun b o e => K2 _ _ (S1 _ _ e) (ZCA e n1)
  have hp2 := S02 _ _ hp
  have nt : tr ≠ p := fun z => by rw [z, hp] at n1; cases n1
  have free : ∀ {b : Addr}, H1 b = none -> H b = none := fun {b} e => by
   cases e2 : H b with
   | none => rfl
   | some o => rw [S1 _ _ e2] at e; cases e
  have free2 : ∀ {b : Addr}, H2 b = none -> H b = none := fun {b} e => by
   cases e2 : H b with
   | none => rfl
   | some o => rw [S02 _ _ e2] at e; cases e
  walk_at "w"
  refine ZDk hp2 T.ZF T.Z9 (by show 0 < 1000; decide) fun H3 f3 K3 => ?_
  walk_at "w"
  refine ZCc (by show 0 <= sizeLine; decide) fun dd H4 n4 f4 S4 => ?_
  have np4 : dd ≠ p := fun z => by rw [z, f3] at n4; cases n4
  walk_at "w"
  refine ZDk (S4 _ _ f3) T.ZF T.Zs (by show 1 < 1000; decide) fun H5 f5 K5 => ?_
  walk_at "w"
  refine ZCc (by show 0 <= sizeLine; decide) fun dn H6 n6 f6 S6 => ?_
  have np6 : dn ≠ p := fun z => by rw [z, f5] at n6; cases n6
  walk_at "w"
  refine ZDk (S6 _ _ f5) T.ZF T.Z8 (by show 2 < 1000; decide) fun H7 f7 K7 => ?_
  walk_at "w"
  refine ZCc (by show 0 <= sizeLine; decide) fun wt H8 n8 f8 S8 => ?_
  have np8 : wt ≠ p := fun z => by rw [z, f7] at n8; cases n8
  walk_at "w"
  refine ZDk (S8 _ _ f7) T.ZF T.YD (by show 3 < 1000; decide) fun H9 f9 K9 => ?_
  rw [ZPr] at f9
  have K29 : Kp p H2 H9 := (((((K3.then S4).trans K5).then S6).trans K7).then S8).trans K9
  have K24 : Kp p H2 H5 := (K3.then S4).trans K5
  have K26 : Kp p H2 H7 := (K24.then S6).trans K7
  have g4 : H9 dd = some (.lst []) := K9 _ _ (S8 _ _ (K7 _ _ (S6 _ _ (K5 _ _ f4 np4)) np4)) np4
  have g6 : H9 dn = some (.lst []) := K9 _ _ (S8 _ _ (K7 _ _ f6 np6)) np6
  have g8 : H9 wt = some (.lst []) := K9 _ _ f8 np8
  have e46 : dd ≠ dn := fun z => by rw [<- z, K5 _ _ f4 np4] at n6; cases n6
  have e48 : dd ≠ wt := fun z => by rw [<- z, K7 _ _ (S6 _ _ (K5 _ _ f4 np4)) np4] at n8; cases n8
  have e68 : dn ≠ wt := fun z => by rw [<- z, K7 _ _ f6 np6] at n8; cases n8
  have hT9 : ZCL a.ZE H9 tr 0 d1 d2 sm cv.length := by
   obtain ⟨dy, kvs, t1, t2, t3, t4, t5, t6⟩ := hT2
   have nt2 : ∀ {b : Addr} {xs : List V}, H2 b = some (.tup xs) -> H9 b = some (.tup xs) := fun e => K29 _ _ e (fun z => by rw [z, hp2] at e; cases e)
   exact ⟨dy, kvs, K29 _ _ t1 nt, K29 _ _ t2 (fun z => by rw [z, hp2] at t2; cases t2), K29 _ _ t3 (fun z => by rw [z, hp2] at t3; cases t3), t4, t5.tups (fun b xs e => nt2 e), t6⟩
  have fr4 : H dd = none := by
   cases e : H dd with
   | none => rfl
   | some o => rw [K3 _ _ (S02 _ _ e) np4] at n4; cases n4
  have fr6 : H dn = none := by
   cases e : H dn with
   | none => rfl
   | some o => rw [K24 _ _ (S02 _ _ e) np6] at n6; cases n6
  have fr8 : H wt = none := by
   cases e : H wt with
   | none => rfl
   | some o => rw [K26 _ _ (S02 _ _ e) np8] at n8; cases n8
  walk_at "w"
  refine k ⟨p, tr, d1, d2, dd, dn, wt⟩ sm H9 rfl (fun b hb => ?_) ⟨dx, [], f9, hT9, g4, .nil, g6, g8, e46, e48, e68⟩ hm hl ((Kp.same S02).trans K29)
  simp only [SA.own, Uj, UU, or_false] at hb
  rcases hb with rfl | rfl | rfl | rfl | rfl | rfl
  ·exact n1
  ·exact free m1
  ·exact free m2
  ·exact fr4
  ·exact fr6
  ·exact fr8
def ZN7 (a : Ad) : Sp := fun vs H Q _ => ∃ (S : SA) (n t : Int) (o : Option Int) (sm : PL) (c : Nat) (ds : List (Int × Option Int)) (ts : List Int) (ws : List V), vs = [.ref S.p, .int t, ZEd o] /\ ZB0 a H S n sm c ds ts ws /\
 Tm t /\ (o = none -> (ZCB sm t).isSome = true) /\ c <= 900 /\ sm.length <= 900 /\ ts.length <= 900 /\
 ∀ H', ZB0 a H' S n (ZG4 sm t o) (c + 1) ds (ts ++ [t]) ws -> FrS S H H' -> Q .non H'
theorem ZHP : ZB4 ["self", "t", "h"] ["self", "t", "h"] (ZBv ZDy) := ZCX
theorem ZHQ (T : Txt K mg a) : ZB2 P w K mg base CX0 5 a.Zx a.Zv ["self", "t", "h"] (ZN7 a) := by
 refine T.J8.ok ZHP (by walk_at "l") (fun cdv A outer s H vs Q E hr h => ?_)
 ·obtain ⟨S, n, t, o, sm, c, ds, ts, ws, rfl, hS, ht, ho, hc, hsl, htl, k⟩ := h
  refine ⟨_, QB.h (ZBw (ZCk (ZCD (ZFX) (qv 2) ZDg (ZCH _)) (ZBx (ZCW (ZCx (ZCd K rfl (qv 0)) T.ZH T.ZAd (ZJV T) hr T.ZAa .nil ZC1 (ZBu (qv 1) ZBt)))) (ZBx (ZCW (ZCx (ZCd K rfl (qv 0)) T.ZH T.Je (ZGD T) hr T.Jg .nil ZC1 (ZBu (qv 1) (ZBu (qv 2) ZBt)))))) (ZBx (ZCW (ZIH PySem.F.plainAttrs_list PySem.F.slot_list_append PySem.F.type_list_append ZDt (ZCd K rfl (qv 0)) (ZBu (qv 1) ZBt))))), ?_⟩
  walk_at "s"
  have fin : ∀ H1, ZCL a.ZE H1 S.tr n S.d1 S.d2 (ZG4 sm t o) (c + 1) -> Fr3 S.tr S.d1 S.d2 H H1 -> ZB0 a H1 S n (ZG4 sm t o) (c + 1) ds ts ws := fun H1 hT F => hS.fr3 F hT
  obtain ⟨dx, vs, hp, hT, _⟩ := id hS
  obtain ⟨dy, kvs, hq, _⟩ := id hT
  walk_at "w"
  cases o with
  | none =>
   obtain ⟨v, hv⟩ := Option.isSome_iff_exists.mp (ho rfl)
   refine ZC6 (fun _ => ?_) (fun h => absurd rfl h)
   walk_at "w"
   refine ZCJ hq ZEk ?_
   walk_at "w"
   refine ⟨S.tr, S.d1, S.d2, n, t, v, sm, c, rfl, hT, hv, by omega, fun H1 hT1 F1 => ?_⟩
   have hS1 := fin H1 hT1 F1
   obtain ⟨dx1, vs1, hp1, hT1', hd1, hD1, hn1, hw1, hne⟩ := id hS1
   walk_at "w"
   refine ⟨tyL hn1, ?_⟩
   walk_at "w"
   refine ZDu hn1 (by rw [Ur]; exact Ux htl (by decide)) fun H2 f2 K2 => ?_
   walk_at "w"
   exact k H2 (hS1.kpDone K2 (by rw [List.map_append]; exact f2)) ((FrS.fr3 F1).trans (.kp K2 (by simp [SA.own])))
  | some h =>
   refine ZC6 (fun h => by simp [ZEd] at h) (fun _ => ?_)
   walk_at "w"
   refine ZCJ hq ZEk ?_
   walk_at "w"
   refine ⟨S.tr, S.d1, S.d2, n, t, h, sm, c, rfl, hT, ht, by omega, by omega, fun H1 hT1 F1 => ?_⟩
   have hS1 := fin H1 hT1 F1
   obtain ⟨dx1, vs1, hp1, hT1', hd1, hD1, hn1, hw1, hne⟩ := id hS1
   walk_at "w"
   refine ⟨tyL hn1, ?_⟩
   walk_at "w"
   refine ZDu hn1 (by rw [Ur]; exact Ux htl (by decide)) fun H2 f2 K2 => ?_
   walk_at "w"
   exact k H2 (hS1.kpDone K2 (by rw [List.map_append]; exact f2)) ((FrS.fr3 F1).trans (.kp K2 (by simp [SA.own])))
def ZRh (a : Ad) : Sp := fun vs H Q _ => ∃ (S : SA) (n t : Int) (o : Option Int) (sm : PL) (c : Nat) (ds : List (Int × Option Int)) (ts : List Int) (ws : List V), vs = [.ref S.p, .int t, ZEd o] /\ ZB0 a H S n sm c ds ts ws /\
 Tm t /\ (o = none -> (ZCB sm t).isSome = true) /\ c <= 900 /\ sm.length <= 900 /\ ts.length <= 900 /\ ds.length <= 900 /\
 ∀ H', ZB0 a H' S n (ZG4 sm t o) (c + 1) (ds ++ [(t, ZCB sm t)]) (ts ++ [t]) ws -> FrS S H H' -> Q (ZEd (ZCB sm t)) H'
theorem ZGE : ZB4 ["self", "t", "h", "before"] ["self", "t", "h"] (ZBv ZFF) := ZCX
theorem ZGF (T : Txt K mg a) : ZB2 P w K mg base CX0 6 a.Yc a.Yh ["self", "t", "h"] (ZRh a) := by
 refine T.ZAx.ok ZGE (by walk_at "l") (fun cdv A outer s H vs Q E hr h => ?_)
 ·obtain ⟨S, n, t, o, sm, c, ds, ts, ws, rfl, hS, ht, ho, hc, hsl, htl, hdl, k⟩ := h
  have hu := ZC4 hr
  refine ⟨_, QB.h (ZBw (qsS (i := 3) ZGE.nd (ZE7 hu (ZCd K rfl (ZCd K rfl (qv 0))) (qv 1))) (ZBw (ZCW (ZCx (qv 0) T.ZF T.J9 (ZHQ T) hr T.J7 .nil ZC1 (ZBu (qv 1) (ZBu (qv 2) ZBt)))) (ZBw (ZCW (ZIH PySem.F.plainAttrs_list PySem.F.slot_list_append PySem.F.type_list_append ZDt (ZCd K rfl (qv 0)) (ZBu (ZDJ (ZBu (qv 1) (ZBu (qv 3) ZBt))) ZBt))) (ZBx (ZB7 (qv 3)))))), ?_⟩
  walk_at "s"
  obtain ⟨dx, vs, hp, hT, _⟩ := id hS
  obtain ⟨dy, kvs, hq, hd1, _⟩ := id hT
  walk_at "w"
  refine ZHj hd1 ?_
  walk_at "w"
  refine ZIt hd1 ?_
  rw [ZJT]
  walk_at "w"
  refine ZCJ hp ZC5 ?_
  walk_at "w"
  refine ⟨S, n, t, o, sm, c, ds, ts, ws, rfl, hS, ht, ho, hc, hsl, htl, fun H1 hS1 F1 => ?_⟩
  obtain ⟨dx1, vs1, hp1, hT1, hd1, hD1, _⟩ := id hS1
  walk_at "w"
  refine ⟨tyL hd1, ?_⟩
  walk_at "w"
  refine ZCc (by show 2 <= sizeLine; decide) fun b H2 n2 f2 S2 => ?_
  walk_at "w"
  refine ZDu (S2 _ _ hd1) (by rw [hD1.len]; exact Ux hdl (by decide)) fun H3 f3 K3 => ?_
  have nt : ∀ {b : Addr} {xs : List V}, H2 b = some (.tup xs) -> H3 b = some (.tup xs) := fun e => K3 _ _ e (fun z => by rw [z, S2 _ _ hd1] at e; cases e)
  walk_at "w"
  exact k H3 ((hS1.same S2).kpDeeds K3 f3 (((hD1.tups fun b xs e => S2 _ _ e).tups fun b xs e => nt e).snoc (q := (t, ZCB sm t)) (nt f2))) ((F1.trans (.same S2)).trans (.kp K3 (by simp [SA.own])))
def ZRJ (a : Ad) : Sp := fun vs H Q _ => ∃ (S : SA) (n t h : Int) (sm : PL) (c : Nat) (ds : List (Int × Option Int)) (ts : List Int) (ws : List V), vs = [.ref S.p, .int t, .int h] /\ ZB0 a H S n sm c ds ts ws /\
 Tm t /\ c <= 900 /\ sm.length <= 900 /\ ts.length <= 900 /\ ds.length <= 900 /\
 ∀ H', ZB0 a H' S n (ZCh sm t h) (c + 1) (ds ++ [(t, ZCB sm t)]) (ts ++ [t]) ws -> FrS S H H' -> Q (ZEd (ZCB sm t)) H'
theorem ZJW : ZB4 ["self", "t", "h"] ["self", "t", "h"] (ZBv ZEb) := ZCX
theorem ZJX (T : Txt K mg a) : ZB2 P w K mg base CX0 7 a.YI a.YH ["self", "t", "h"] (ZRJ a) := by
 refine T.ZAm.ok ZJW (by walk_at "l") (fun cdv A outer s H vs Q E hr h => ?_)
 ·obtain ⟨S, n, t, h, sm, c, ds, ts, ws, rfl, hS, ht, hc, hsl, htl, hdl, k⟩ := h
  refine ⟨_, QB.h (ZBw (ZCW (qcS (ZFO T) hr.m T.Yp T.Z4.kp T.Y1 (ZBu (qv 1) ZBt))) (ZBx (ZB7 (ZCx (qv 0) T.ZF T.Jb (ZGF T) hr T.Jc .nil ZC1 (ZBu (qv 1) (ZBu (qv 2) ZBt)))))), ?_⟩
  walk_at "s"
  obtain ⟨dx, vs, hp, hT, _⟩ := id hS
  walk_at "w"
  refine ⟨t, rfl, ht, ?_⟩
  walk_at "w"
  refine ZCJ hp ZC5 ?_
  walk_at "w"
  exact ⟨S, n, t, some h, sm, c, ds, ts, ws, rfl, hS, ht, (fun z => by cases z), hc, hsl, htl, hdl, fun H1 hS1 F1 => k H1 hS1 F1⟩
def ZN8 (a : Ad) : Sp := fun vs H Q _ => ∃ (S : SA) (n t v : Int) (sm : PL) (c : Nat) (ds : List (Int × Option Int)) (ts : List Int) (ws : List V), vs = [.ref S.p, .int t] /\ ZB0 a H S n sm c ds ts ws /\ ZCB sm t = some v /\ Q .non H
theorem ZDd : ZB4 ["self", "t"] ["self", "t"] (ZBv ZDI) := ZCX
theorem ZDe (T : Txt K mg a) : ZB2 P w K mg base CX0 2 a.ZK a.ZM ["self", "t"] (ZN8 a) := by
 refine T.Zn.ok ZDd (by walk_at "l") (fun cdv A outer s H vs Q E hr h => ?_)
 ·obtain ⟨S, n, t, v, sm, c, ds, ts, ws, rfl, hS, hg, q⟩ := h
  have hu := ZC4 hr
  refine ⟨_, QB.h (ZBx (ZCk (QW.pt (ZIG (ZFZ (ZFY (qcS (ZEc T) hr T.Ye T.Z0.kp T.Yb (ZBu (qv 1) ZBt)))) (ZGo (ZCD (ZD3 hu) (qv 1) (ZCd K rfl (ZCd K rfl (qv 0))) (by with_unfolding_all rfl))))) (ZBx ZEv) ZCU)), ?_⟩
  walk_at "s"
  obtain ⟨dx, vs, hp, hT, _⟩ := id hS
  obtain ⟨dy, kvs, hq, hd1, _⟩ := id hT
  walk_at "w"
  refine ⟨t, rfl, ?_⟩
  walk_at "w"
  refine ZDN ?_
  walk_at "w"
  refine ZDi hd1 ?_
  rw [hg]
  walk_at "w"
  refine ZDN ?_
  walk_at "w"
  exact q
def ZKR (a : Ad) : Sp := fun vs H Q _ => ∃ (S : SA) (n t v : Int) (sm : PL) (c : Nat) (ds : List (Int × Option Int)) (ts : List Int) (ws : List V), vs = [.ref S.p, .int t] /\ ZB0 a H S n sm c ds ts ws /\
 Tm t /\ ZCB sm t = some v /\ c <= 900 /\ sm.length <= 900 /\ ts.length <= 900 /\ ds.length <= 900 /\
 ∀ H', ZB0 a H' S n (ZC2 sm t) (c + 1) (ds ++ [(t, some v)]) (ts ++ [t]) ws -> FrS S H H' -> Q (.int v) H'
theorem ZFQ : ZB4 ["self", "t"] ["self", "t"] (ZBv ZEJ) := ZCX
theorem ZH9 (T : Txt K mg a) : ZB2 P w K mg base CX0 7 a.Zb a.Zc ["self", "t"] (ZKR a) := by
 refine T.Yu.ok ZFQ (by walk_at "l") (fun cdv A outer s H vs Q E hr h => ?_)
 ·obtain ⟨S, n, t, v, sm, c, ds, ts, ws, rfl, hS, ht, hg, hc, hsl, htl, hdl, k⟩ := h
  refine ⟨_, QB.h (ZBw (ZCW (ZCx (qv 0) T.ZF T.ZN (ZDe T) hr.m T.ZL .nil ZC1 (ZBu (qv 1) ZBt))) (ZBx (ZB7 (ZCx (qv 0) T.ZF T.Jb (ZGF T) hr T.Jc .nil ZC1 (ZBu (qv 1) (ZBu ZDg ZBt)))))), ?_⟩
  walk_at "s"
  obtain ⟨dx, vs, hp, hT, _⟩ := id hS
  walk_at "w"
  refine ZCJ hp ZC5 ?_
  walk_at "w"
  refine ⟨S, n, t, v, sm, c, ds, ts, ws, rfl, hS, hg, ?_⟩
  walk_at "w"
  refine ZCJ hp ZC5 ?_
  walk_at "w"
  refine ⟨S, n, t, none, sm, c, ds, ts, ws, rfl, hS, ht, (fun _ => by rw [hg]; rfl), hc, hsl, htl, hdl, fun H1 hS1 F1 => ?_⟩
  rw [hg] at hS1 ⊢
  exact k H1 hS1 F1
def ZHt (a : Ad) : Sp := fun vs H Q _ => ∃ (S : SA) (n t v : Int) (sm : PL) (c : Nat) (ds : List (Int × Option Int)) (ts : List Int) (ws : List V), vs = [.ref S.p, .int t] /\ ZB0 a H S n sm c ds ts ws /\ ZCB sm t = some v /\ Q (.int v) H
theorem ZES : ZB4 ["self", "t"] ["self", "t"] (ZBv ZDl) := ZCX
theorem ZG5 (T : Txt K mg a) : ZB2 P w K mg base CX0 3 a.ZU a.ZT ["self", "t"] (ZHt a) := by
 refine T.YT.ok ZES (by walk_at "l") (fun cdv A outer s H vs Q E hr h => ?_)
 ·obtain ⟨S, n, t, v, sm, c, ds, ts, ws, rfl, hS, hg, q⟩ := h
  have hu := ZC4 hr
  refine ⟨_, QB.h (ZBw (ZCW (ZCx (qv 0) T.ZF T.ZN (ZDe T) hr T.ZL .nil ZC1 (ZBu (qv 1) ZBt))) (ZBx (ZB7 (ZFy hu (ZCd K rfl (ZCd K rfl (qv 0))) (qv 1))))), ?_⟩
  walk_at "s"
  obtain ⟨dx, vs, hp, hT, _⟩ := id hS
  obtain ⟨dy, kvs, hq, hd1, _⟩ := id hT
  walk_at "w"
  refine ZCJ hp ZC5 ?_
  walk_at "w"
  refine ⟨S, n, t, v, sm, c, ds, ts, ws, rfl, hS, hg, ?_⟩
  walk_at "w"
  exact ZE1 hd1 hg q
def ZN9 (a : Ad) : Sp := fun vs H Q _ => ∃ (S : SA) (n : Int) (sm : PL) (c : Nat) (ds : List (Int × Option Int)) (ts : List Int) (ws : List V), vs = [.ref S.p] /\ ZB0 a H S n sm c ds ts ws /\
 ∀ u H', H' u = some (.tup (ts.map V.int)) -> ZB1 H H' -> Q (.ref u) H'
theorem ZHR : ZB4 ["self"] ["self"] (ZBv ZDz) := ZCX
theorem ZHS (T : Txt K mg a) : ZB2 P w K mg base CX0 1 a.Zt a.Zw ["self"] (ZN9 a) := by
 refine T.ZAE.ok ZHR (by walk_at "l") (fun cdv A outer s H vs Q E hr h => ?_)
 ·obtain ⟨S, n, sm, c, ds, ts, ws, rfl, hS, k⟩ := h
  refine ⟨_, QB.h (ZBx (ZB7 (ZDU (ZEw K rfl) rfl T.Z1 ZEs (ZBu (ZCd K rfl (qv 0)) ZBt)))), ?_⟩
  walk_at "s"
  obtain ⟨dx, vs, hp, hT, hd, hD, hn, _⟩ := id hS
  walk_at "w"
  exact ZFu (SqL.of hn) fun u H3 n3 f3 S3 => k u H3 f3 S3
def ZPu (a : Ad) : Sp := fun vs H Q _ => ∃ (S : SA) (n : Int) (sm : PL) (c : Nat) (ds : List (Int × Option Int)) (ts : List Int) (ws : List V), vs = [.ref S.p] /\ ZB0 a H S n sm c ds ts ws /\ sm.length < 100 /\
 ∀ (t : Addr) (cv : PL) (H' : Hp), PrT H' t cv -> Asc cv -> (∀ q, q ∈ cv ↔ q ∈ sm) -> ZB1 H H' -> Q (.ref t) H'
theorem ZIA : ZB4 ["self"] ["self"] (ZBv ZEK) := ZCX
theorem ZIB (T : Txt K mg a) : ZB2 P w K mg base CX0 3 a.YA a.Z5 ["self"] (ZPu a) := by
 refine T.ZAY.ok ZIA (by walk_at "l") (fun cdv A outer s H vs Q E hr h => ?_)
 ·obtain ⟨S, n, sm, c, ds, ts, ws, rfl, hS, hl, k⟩ := h
  refine ⟨_, QB.h (ZBx (ZB7 (ZGQ (ZCd K rfl (qv 0)) T.ZH T.ZAi (ZJQ T) hr T.ZAl .nil ZC1))), ?_⟩
  walk_at "s"
  obtain ⟨dx, vs, hp, hT, _⟩ := id hS
  obtain ⟨dy, kvs, hq, hd1, _⟩ := id hT
  walk_at "w"
  refine ZCJ hq ZEk ?_
  walk_at "w"
  exact ⟨S.tr, S.d1, S.d2, n, sm, c, rfl, hT, hl, k⟩
end
section
variable {P : Program} {w : World} {K : W.Frag} {mg : Str -> Option Value} {base : Heap} {a : Ad}
local macro_rules | `(tactic| walk_at "rd") => `(tactic| first
 | with_reducible first | refine ZC0 (by assumption) (‹Txt _ _ _›).ZH (‹Txt _ _ _›).ZW ZDq ?_ | refine ZC0 (by assumption) (‹Txt _ _ _›).ZF (‹Txt _ _ _›).Z9 ZJR ?_ | refine ZC0 (by assumption) (‹Txt _ _ _›).ZF (‹Txt _ _ _›).Zs ZHs ?_ | refine ZC0 (by assumption) (‹Txt _ _ _›).ZF (‹Txt _ _ _›).Z8 ZJS ?_)
def ZG6 (a : Ad) : Sp := fun vs H _ E => ∃ (S : SA) (n t : Int) (sm : PL) (c : Nat) (ds : List (Int × Option Int)) (ts : List Int) (ws : List V), vs = [.ref S.p, .int t] /\ ZB0 a H S n sm c ds ts ws /\ ZCB sm t = none /\ E (.ref a.ZC) none H
theorem ZDX (T : Txt K mg a) : ZB2 P w K mg base (CX1 P w) 2 a.ZK a.ZM ["self", "t"] (ZG6 a) := by
 refine T.Zn.okx ZDd (by walk_at "l") (fun cdv A outer s H vs Q E hr h => ?_)
 ·obtain ⟨S, n, t, sm, c, ds, ts, ws, rfl, hS, hg, q⟩ := h
  have hu := ZC4 hr
  refine ⟨_, QB.h (ZBx (ZCk (QW.pt (ZIG (ZFZ (ZFY (qcS (ZEc T) hr T.Ye T.Z0.kp T.Yb (ZBu (qv 1) ZBt)))) (ZGo (ZCD (ZD3 hu) (qv 1) (ZCd K rfl (ZCd K rfl (qv 0))) (by with_unfolding_all rfl))))) (ZBx (ZNm T.Yd rfl T.YX (ZBu ZQ4 ZBt))) ZCU)), ?_⟩
  walk_at "s"
  obtain ⟨dx, vs, hp, hT, _⟩ := id hS
  obtain ⟨dy, kvs, hq, hd1, _⟩ := id hT
  walk_at "w"
  refine ⟨t, rfl, ?_⟩
  walk_at "w"
  refine ZDN ?_
  walk_at "w"
  refine ZDi hd1 ?_
  rw [hg]
  walk_at "w"
  refine ZDW ?_
  walk_at "w"
  exact ZNk (by decide) q
theorem ZHT (T : Txt K mg a) : ZB2 P w K mg base (CX1 P w) 7 a.Zb a.Zc ["self", "t"] (ZG6 a) := by
 refine T.Yu.okx ZFQ (by walk_at "l") (fun cdv A outer s H vs Q E hr h => ?_)
 ·obtain ⟨S, n, t, sm, c, ds, ts, ws, rfl, hS, hg, q⟩ := h
  have hu := ZC4 hr
  refine ⟨_, QB.h (ZBw (ZCW (ZCx (qv 0) T.ZF T.ZN (ZDX T) hr.m T.ZL .nil ZOU (ZBu (qv 1) ZBt))) (ZBx ZEv)), ?_⟩
  walk_at "s"
  obtain ⟨dx, vs, hp, hT, _⟩ := id hS
  walk_at "w"
  refine ZCJ hp ZC5 ?_
  walk_at "w"
  exact ⟨S, n, t, sm, c, ds, ts, ws, rfl, hS, hg, q⟩
theorem ZGb (T : Txt K mg a) : ZB2 P w K mg base (CX1 P w) 3 a.ZU a.ZT ["self", "t"] (ZG6 a) := by
 refine T.YT.okx ZES (by walk_at "l") (fun cdv A outer s H vs Q E hr h => ?_)
 ·obtain ⟨S, n, t, sm, c, ds, ts, ws, rfl, hS, hg, q⟩ := h
  have hu := ZC4 hr
  refine ⟨_, QB.h (ZBw (ZCW (ZCx (qv 0) T.ZF T.ZN (ZDX T) hr T.ZL .nil ZOU (ZBu (qv 1) ZBt))) (ZBx ZEv)), ?_⟩
  walk_at "s"
  obtain ⟨dx, vs, hp, hT, _⟩ := id hS
  walk_at "w"
  refine ZCJ hp ZC5 ?_
  walk_at "w"
  exact ⟨S, n, t, sm, c, ds, ts, ws, rfl, hS, hg, q⟩
theorem ZHU (T : Txt K mg a) : ZB2 P w K mg base (CX1 P w) 7 a.Zb a.Zc ["self", "t"] (fun vs H Q E => ZKR a vs H Q E \/ ZG6 a vs H Q E) := (ZH9 T).lift.or (ZHT T)
theorem ZGc (T : Txt K mg a) : ZB2 P w K mg base (CX1 P w) 3 a.ZU a.ZT ["self", "t"] (fun vs H Q E => ZHt a vs H Q E \/ ZG6 a vs H Q E) := (ZG5 T).lift.or (ZGb T)
end
theorem FrL.ofS {S : SA} {l : List Addr} {H H' : Hp} (h : FrS S H H') (m : ∀ b ∈ S.own, b ∈ l) : FrL l H H' := fun b o e n => h b o e fun z => n (m b z)
section
variable {a : Ad} {H H' : Hp} {S : SA} {n : Int} {sm : PL} {c : Nat} {ds : List (Int × Option Int)} {ts : List Int} {ws : List V}
theorem SA.ls_own {S : SA} {b : Addr} (h : b ∈ S.ls) : b ∈ S.own := by
 simp only [SA.ls, SA.own, Uj, UU, or_false] at *
 rcases h with h | h | h <;> simp [h]
end
def ZRi (K : W.Frag) : Sp := fun vs H Q _ => ∃ (s : Addr) (ns : List Int) (k : Int), vs = [.ref s, .int k] /\ SqL K H s (ns.map V.int) /\ 0 <= k /\ Q (.int (ns.getD k.toNat 0)) H
def ZRj : Sp := fun vs H Q _ => ∃ c : Int, vs = [.int c] /\ ∀ (p : Addr) (H' : Hp), H p = none -> Pot H' p -> ZB1 H H' -> Q (.ref p) H'
def ZRK : Sp := fun vs H Q _ => ∃ (p : Addr) (n : Int), vs = [.ref p, .int n] /\ Pot H p /\ 0 < n /\ n < 2 ^ 250 /\ ∀ (d : Int) (H' : Hp), 0 <= d -> d < n -> Pot H' p -> Kp p H H' -> Q (.int d) H'
section
variable {P : Program} {w : World} {K : W.Frag} {mg : Str -> Option Value} {base : Heap} {a : Ad}
theorem ZOA : ZB4 ["_law_script", "_law_k"] ["_law_script", "_law_k"] (ZBv ZHN) := ZCX
theorem ZOB (T : Txt K mg a) : ZB2 P w K mg base CX0 1 a.Jo a.Js ["_law_script", "_law_k"] (ZRi K) := by
 refine T.ZAr.ok ZOA (by walk_at "l") (fun cdv A outer s H vs Q E hr h => ?_)
 ·obtain ⟨p, ns, k, rfl, hS, hk, q⟩ := h
  refine ⟨_, QB.h (ZBx (ZB7 (ZGM (ZCD (ZKe) (qv 1) (ZCQ (ZGp K rfl) rfl T.JE ZGl (ZBu (qv 0) ZBt)) (ZCH _)) (ZCi (ZDb K rfl) (qv 0) (qv 1)) ZBy))), ?_⟩
  walk_at "s"
  walk_at "w"
  rw [Ur]
  refine ZC6 (fun h => ?_) (fun h => ?_)
  ·walk_at "w"
   obtain ⟨n, rfl⟩ : ∃ n : Nat, k = (n : Int) := ⟨k.toNat, by omega⟩
   have hk2 : n < ns.length := by omega
   refine ZIX (v := .int (ns.getD n 0)) hS (ZHA ?_) q
   rw [UG, Ud hk2]
   simp [List.getD, hk2]
  ·walk_at "w"
   have e : ns.getD k.toNat 0 = 0 := by
    rw [List.getD, List.getElem?_eq_none (by omega)]
    rfl
   rw [e] at q
   exact q
theorem ZOC : ZB4 ["_law_cell_here"] ["_law_cell_here"] (ZBv ZHO) := ZCX
theorem ZOD (T : Txt K mg a) : ZB2 P w K mg base CX0 1 a.Jq a.Jt ["_law_cell_here"] ZRj := by
 refine T.ZAo.ok ZOC (by walk_at "l") (fun cdv A outer s H vs Q E hr h => ?_)
 ·obtain ⟨c, rfl, k⟩ := h
  refine ⟨_, QB.h (ZBx (ZB7 (ZEh (ZBu (ZCG ZDS (qv 0) (ZDU ZLf rfl T.JD ZGk (ZBu (ZD7 (ZOH) (qv 0) (ZCG ZEf ZBy ZBy) (ZCH _)) ZBt))) (ZBu (ZCG ZFT (ZCG ZEe (ZCG ZDS (qv 0) ZBy) ZBy) ZBy) ZBt))))), ?_⟩
  walk_at "s"
  walk_at "w"
  refine ZCc (by show 2 <= sizeLine; decide) fun p H2 hp f2 S2 => ?_
  refine k p H2 hp ⟨_, _, f2, ?_, Int.emod_nonneg _ (by decide), ?_⟩ S2
  ·split
   ·rename_i h
    have := of_decide_eq_true h
    omega
   ·omega
  ·exact Int.lt_of_lt_of_le (Int.emod_lt_of_pos _ (by decide)) (by decide)
theorem ZHu : ZB4 ["_law_pot_here", "_law_many", "_law_digit"] ["_law_pot_here", "_law_many"] (ZBv ZGX) := ZCX
theorem ZCq (T : Txt K mg a) : ZB2 P w K mg base CX0 1 a.JO a.JT ["_law_pot_here", "_law_many"] ZRK := by
 refine T.ZJ.ok ZHu (by walk_at "l") (fun cdv A outer s H vs Q E hr h => ?_)
 ·obtain ⟨p, n, rfl, ⟨x, y, hp, hx, hy, hy2⟩, hn, hn2, k⟩ := h
  have hdiv : ∀ i : Int, ZFt i n := fun i => ZFt.of (k := 250) hn hn2 (by decide)
  refine ⟨_, QB.h (ZBw (ZCk (ZCD (ZOG) (ZCi (ZDb K rfl) (qv 0) ZBy) ZBy (ZCH _)) (ZBw (qsS (i := 2) ZHu.nd (ZCG ZFT (ZCi (ZDb K rfl) (qv 0) ZBy) (qv 1))) (ZBw (ZLm (ZCG ZGL (ZCi (ZDb K rfl) (qv 0) ZBy) (qv 1)) (ZLl (qv 0) ZBy ZIT)) (ZBx (ZB7 (qv 2))))) ZCU) (ZBw (ZLm (ZCG ZFT (ZCG ZEe (ZCG ZDS (ZCi (ZDb K rfl) (qv 0) ZBy) ZBy) ZBy) ZBy) (ZLl (qv 0) ZBy ZIT)) (ZBx (ZB7 (ZCG ZFT (ZCG ZGL (ZCG ZFT (ZCG ZDS (ZCi (ZDb K rfl) (qv 0) ZBy) (ZCi (ZDb K rfl) (qv 0) ZBy)) ZBy) ZBy) (qv 1)))))), ?_⟩
  walk_at "s"
  walk_at "w"
  refine ZC6 (fun h => ?_) (fun h => ?_)
  ·walk_at "w"
   refine ZJv hp (by rfl) ?_
   walk_at "w"
   exact k _ _ (Int.emod_nonneg _ (by omega)) (Int.emod_lt_of_pos _ hn) ⟨_, _, ZCC, Int.ediv_nonneg hx (by omega), hy, hy2⟩ Kp.upd
  ·walk_at "w"
   refine ZJv hp (by rfl) ?_
   have hs : upd H p (.lst [V.int x, V.int ((y * 39373 + 7001) % 2147483587)]) p = some (.lst [V.int x, V.int ((y * 39373 + 7001) % 2147483587)]) := ZCC
   have h0 : 0 <= (y * 39373 + 7001) % 2147483587 := Int.emod_nonneg _ (by decide)
   have h1 : (y * 39373 + 7001) % 2147483587 < 2147483587 := Int.emod_lt_of_pos _ (by decide)
   walk_at "w"
   exact k _ _ (Int.emod_nonneg _ (by omega)) (Int.emod_lt_of_pos _ hn) ⟨_, _, ZCC, hx, h0, Int.lt_of_lt_of_le h1 (by decide)⟩ Kp.upd
def ZPv (K : W.Frag) : Sp := fun vs H Q _ => ∃ (s : Addr) (ns : List Int) (k : Int), vs = [.ref s, .int k] /\ SqL K H s (ns.map V.int) /\ 0 <= k /\ k <= 1000 /\ ∀ (p : Addr) (H' : Hp), H p = none -> Pot H' p -> ZB1 H H' -> Q (.ref p) H'
theorem ZHv : ZB4 ["_law_script", "_law_place", "_law_cell_here"] ["_law_script", "_law_place"] (ZBv ZGY) := ZCX
theorem ZHw (T : Txt K mg a) : ZB2 P w K mg base CX0 2 a.JV a.JR ["_law_script", "_law_place"] (ZPv K) := by
 refine T.JP.ok ZHv (by walk_at "l") (fun cdv A outer s H vs Q E hr h => ?_)
 ·obtain ⟨s, ns, k, rfl, hS, h0, h1, q⟩ := h
  refine ⟨_, QB.h (ZBw (qsS (i := 2) ZHv.nd (qcS (ZOB T) hr T.ZBF T.ZAr.kp T.ZBE (ZBu (qv 0) (ZBu (qv 1) ZBt)))) (ZBx (ZB7 (qcS (ZOD T) hr T.ZBG T.ZAo.kp T.ZBD (ZBu (ZCG ZEe (qv 2) (ZCG ZDS (ZCG ZDS ZBy (qv 1)) (ZDU ZLf rfl T.JD ZGk (ZBu (ZD7 (ZKe) (ZCQ ZQe rfl T.ZAv ZQX (ZBu (qv 2) ZBt)) (ZCG ZEf ZBy ZBy) (ZCH _)) ZBt)))) ZBt))))), ?_⟩
  walk_at "s"
  walk_at "w"
  refine ⟨s, ns, _, rfl, hS, h0, ?_⟩
  walk_at "w"
  exact ⟨_, rfl, q⟩
def ZPw : Sp := fun vs H Q _ => ∃ p, vs = [.ref p] /\ Pot H p /\ ∀ (x : Int) (H' : Hp), Tm x -> Pot H' p -> Kp p H H' -> Q (.int x) H'
theorem ZMU : ZB4 ["_law_pot_here"] ["_law_pot_here"] (ZBv ZGZ) := ZCX
theorem ZHx (T : Txt K mg a) : ZB2 P w K mg base CX0 2 a.JZ a.JL ["_law_pot_here"] ZPw := by
 refine T.JU.ok ZMU (by walk_at "l") (fun cdv A outer s H vs Q E hr h => ?_)
 ·obtain ⟨p, rfl, hp, k⟩ := h
  refine ⟨_, QB.h (ZBw (ZCk (ZCD (ZEN) (qcS (ZCq T) hr T.ZO T.ZJ.kp T.ZP (ZBu (qv 0) (ZBu ZBy ZBt))) ZBy (ZCH _)) (ZBx (ZB7 (ZCG ZFS (qcS (ZCq T) hr T.ZO T.ZJ.kp T.ZP (ZBu (qv 0) (ZBu (ZCG ZEf ZBy ZBy) ZBt))) (ZCG ZEf ZBy ZBy)))) ZCU) (ZBx (ZB7 (ZCG ZFS (qcS (ZCq T) hr T.ZO T.ZJ.kp T.ZP (ZBu (qv 0) (ZBu ZBy ZBt))) ZBy)))), ?_⟩
  walk_at "s"
  walk_at "w"
  refine ⟨p, _, rfl, hp, by decide, by decide, fun d1 H1 h1 h1' P1 K1 => ?_⟩
  walk_at "w"
  rw [ZFv]
  refine ZC6 (fun _ => ?_) (fun _ => ?_)
  ·walk_at "w"
   refine ⟨p, _, rfl, P1, by decide, by decide, fun d2 H2 h2 h2' P2 K2 => ?_⟩
   walk_at "w"
   exact k _ H2 (by unfold Tm; omega) P2 (K1.trans K2)
  ·walk_at "w"
   refine ⟨p, _, rfl, P1, by decide, by decide, fun d2 H2 h2 h2' P2 K2 => ?_⟩
   walk_at "w"
   exact k _ H2 (by unfold Tm; omega) P2 (K1.trans K2)
def ZMV : Sp := fun vs H Q _ => ∃ p, vs = [.ref p] /\ Pot H p /\ ∀ (x : Int) (H' : Hp), Pot H' p -> Kp p H H' -> Q (.int x) H'
theorem ZJp : ZB4 ["_law_pot_here"] ["_law_pot_here"] (ZBv ZFG) := ZCX
theorem ZGG (T : Txt K mg a) : ZB2 P w K mg base CX0 2 a.Yf a.YW ["_law_pot_here"] ZMV := by
 refine T.Yg.ok ZJp (by walk_at "l") (fun cdv A outer s H vs Q E hr h => ?_)
 ·obtain ⟨p, rfl, hp, k⟩ := h
  refine ⟨_, QB.h (ZBw (ZCk (ZCD (ZEN) (qcS (ZCq T) hr T.ZO T.ZJ.kp T.ZP (ZBu (qv 0) (ZBu ZBy ZBt))) ZBy (ZCH _)) (ZBx (ZB7 (ZCG ZEe (ZCG ZFS (qcS (ZCq T) hr T.ZO T.ZJ.kp T.ZP (ZBu (qv 0) (ZBu (ZCG ZFS (ZCG ZDS ZBy (ZCG ZEf ZBy ZBy)) ZBy) ZBt))) (ZCG ZEf ZBy ZBy)) ZBy))) ZCU) (ZBx (ZB7 (ZCG ZFS (qcS (ZCq T) hr T.ZO T.ZJ.kp T.ZP (ZBu (qv 0) (ZBu ZBy ZBt))) ZBy)))), ?_⟩
  walk_at "s"
  walk_at "w"
  refine ⟨p, _, rfl, hp, by decide, by decide, fun d1 H1 h1 h1' P1 K1 => ?_⟩
  walk_at "w"
  rw [ZFv]
  refine ZC6 (fun _ => ?_) (fun _ => ?_)
  ·walk_at "w"
   refine ⟨p, _, rfl, P1, by decide, by decide, fun d2 H2 h2 h2' P2 K2 => ?_⟩
   walk_at "w"
   exact k _ H2 P2 (K1.trans K2)
  ·walk_at "w"
   refine ⟨p, _, rfl, P1, by decide, by decide, fun d2 H2 h2 h2' P2 K2 => ?_⟩
   walk_at "w"
   exact k _ H2 P2 (K1.trans K2)
def ZPx (K : W.Frag) : Sp := fun vs H Q _ => ∃ (d : Addr) (m : PL), vs = [.ref d] /\ H d = some (.dK (ZCE m)) /\ (m.map (·.1)).Nodup /\ m.length < 100 /\
 ∀ (t : Addr) (cv : PL) (H' : Hp), PrT H' t cv -> Asc cv -> (∀ q, q ∈ cv ↔ q ∈ m) -> cv.length = m.length -> ZB1 H H' -> Q (.ref t) H'
theorem ZMW : ZB4 ["_law_held"] ["_law_held"] (ZBv ZFH) := ZCX
theorem ZHy (T : Txt K mg a) : ZB2 P w K mg base CX0 1 a.JN a.JQ ["_law_held"] (ZPx K) := by
 refine T.JW.ok ZMW (by walk_at "l") (fun cdv A outer s H vs Q E hr h => ?_)
 ·obtain ⟨d, m, rfl, hd, hnd, hlen, k⟩ := h
  have hu := ZC4 hr
  refine ⟨_, QB.h (ZBx (ZB7 (ZDU (ZEw K rfl) rfl T.Z1 ZEs (ZBu (ZJz (N := ["_law_held"]) (sc := ZBv ZFH) (own := ["_law_t"]) (caps := ["_law_held"]) (ks := [0]) rfl rfl rfl ⟨rfl, by decide +kernel, by decide +kernel, by decide +kernel, by decide +kernel, rfl, by decide +kernel⟩ (ZJ0 K rfl (ZCQ (ZEW rfl) rfl T.Z6 ZFW (ZBu (qv 0) ZBt))) (fun _ _ _ _ _ => ZHD (i := 0) (show List.Nodup (α := Str) ["_law_t", "_law_held"] from by decide +kernel) rfl (by walk_at "o") (.inr rfl)) (fun _ _ _ _ _ => ZIc) (fun _ _ _ _ _ => ZDJ (ZBu (qv 0) (ZBu (ZFy hu (qv 1) (qv 0)) ZBt)))) ZBt)))), ?_⟩
  walk_at "s"
  walk_at "w"
  refine ZFC hd (by omega) fun l2 H2 ns n2 f2 hp hs S2 => ?_
  have hnl : ns.length = m.length := by have := hp.length_eq; simpa using this
  walk_at "w"
  intro l3 n3
  have S23 : ZB1 H2 (upd H2 l3 (.lst [])) := ZB1.new n3
  refine ZJx ns.length (fun i U' H' => (∃ o, U' = [o, some (.ref d)]) /\ ZB1 H2 H' /\ ∃ vs, H' l3 = some (.lst vs) /\ ZB5 H' vs ((ZCV m ns).take i)) ?_ ?_ ?_
  ·exact ⟨⟨none, rfl⟩, S23, [], ZCC, .nil⟩
  ·rintro U H' ⟨_, s, vs, f3, hPc⟩
   refine ⟨⟨_, SqL.of (s _ _ f2), by simp⟩, ?_⟩
   walk_at "w"
   refine ZFu (SqL.of f3) fun t H4 n4 f4 S4 => ?_
   have ecv : (ZCV m ns).take ns.length = ZCV m ns := List.take_of_length_le (by simp [ZCV])
   rw [ecv] at hPc
   have hC := ZGr hnd hp hs
   refine k t _ H4 ⟨vs, f4, hPc.same S4⟩ hC.1 (fun q => ?_) (ZJd hp) ((S2.trans s).trans S4)
   obtain ⟨x, y⟩ := q
   rw [hC.2, ZDG hnd]
  ·rintro i U H' hi ⟨⟨o, rfl⟩, s, vs, f3, hPc⟩
   have hi2 : i < (ns.map V.int).length := by simpa using hi
   refine ⟨⟨_, _, SqL.of (s _ _ f2), Ud hi2⟩, ?_⟩
   rintro u H'' ⟨rfl, hu'⟩
   have hu' := hu' _ (SqL.of (s _ _ f2))
   have eu : u = .int ns[i] := by
    rw [UG, Ud hi] at hu'
    simpa using hu'.symm
   subst eu
   walk_at "w"
   refine ZDW ?_
   walk_at "w"
   have hmem : ns[i] ∈ m.map (·.1) := hp.mem_iff.mp (List.getElem_mem hi)
   obtain ⟨x, hx⟩ : ∃ x, ZCB m ns[i] = some x := by
    cases hg : ZCB m ns[i] with
    | none => exact absurd hmem (ZDv.mp hg)
    | some x => exact ⟨x, rfl⟩
   refine ZE1 (s _ _ (S2 _ _ hd)) hx ?_
   walk_at "w"
   refine ZCc (by show 2 <= sizeLine; decide) fun t H4 n4 f4 S4 => ?_
   have f34 := S4 _ _ f3
   refine ⟨vs, f34, ?_, ⟨_, rfl⟩, ?_, ?_⟩
   ·have e := hPc.length
    rw [e, UK]
    exact Ux (Nat.min_le_left _ _) (Ue (show i < 100 by omega) (by decide))
   ·exact (s.trans S4).kpN (l := l3) n3 Kp.upd
   ·refine ⟨_, ZCC, ?_⟩
    have e3 : (ZCV m ns).take (i + 1) = (ZCV m ns).take i ++ [(ns[i], x)] := by
     rw [List.take_succ]
     congr 1
     simp [ZCV, Ud hi, hx]
    rw [e3]
    exact ZB5.kpL Kp.upd f34 ((hPc.same S4).snoc f4)
def ZPy : Sp := fun vs H Q _ => ∃ p, vs = [.ref p] /\ Pot H p /\ ∀ (d : Addr) (m : PL) (H' : Hp), H d = none -> H' d = some (.dK (ZCE m)) -> (m.map (·.1)).Nodup -> m.length <= 6 -> (∀ q ∈ m, Tm q.1) -> Pot H' p -> Kp p H H' -> Q (.ref d) H'
theorem ZD5 : ZB4 ["_law_pot_here", "_law_held", "_law_k", "_law_t"] ["_law_pot_here"] (ZBv ZFo) := ZCX
theorem ZLF (T : Txt K mg a) : ZB2 P w K mg base CX0 3 a.Ys a.Yt ["_law_pot_here"] ZPy := by
 refine T.Jv.ok ZD5 (by walk_at "l") (fun cdv A outer s H vs Q E hr h => ?_)
 ·obtain ⟨p, rfl, hp, k⟩ := h
  have hu := ZC4 hr
  refine ⟨_, QB.h (ZBw (qsS (i := 1) ZD5.nd ZE0) (ZBw (ZFa PassesOwn.never rfl (ZHd rfl T.YU (ZBu (qcS (ZCq T) hr.m T.ZO T.ZJ.kp T.ZP (ZBu (qv 0) (ZBu ZBy ZBt))) ZBt)) (qgN (i := 2) ZD5.nd) (ZBw (qsS (i := 3) ZD5.nd (qcS (ZHx T) hr T.ZAM T.JU.kp T.ZAN (ZBu (qv 0) ZBt))) (ZBx (ZD8 hu (qcS (ZGG T) hr T.Ji T.Yg.kp T.Jj (ZBu (qv 0) ZBt)) (qv 1) (qv 3))))) (ZBx (ZB7 (qv 1))))), ?_⟩
  walk_at "s"
  walk_at "w"
  refine ZE3 fun d H1 n1 f1 S1 => ?_
  have ndp : d ≠ p := hp.neN n1
  walk_at "w"
  refine ⟨p, _, rfl, hp.same S1, by decide, by decide, fun c H2 h2 h2' P2 K2 => ?_⟩
  have f2 := K2 _ _ f1 ndp
  have K02 : Kp p H H2 := (Kp.same S1).trans K2
  walk_at "w"
  refine ZLh (by omega) (by omega) (ZHB (fun i U H' => (∃ v2 v3, U = [some (.ref p), some (.ref d), v2, v3]) /\ Pot H' p /\ Kp p H H' /\ ∃ m, H' d = some (.dK (ZCE m)) /\ (m.map (·.1)).Nodup /\ m.length <= i /\ ∀ q ∈ m, Tm q.1) ?_ ?_ ?_)
  ·exact ⟨⟨_, _, rfl⟩, P2, K02, [], f2, List.nodup_nil, Uc _, fun q hq => by cases hq⟩
  ·rintro i U H3 hi ⟨⟨v2, v3, rfl⟩, P3, K3, m, f3, hnd, hl, htm⟩
   walk_at "w"
   refine ⟨p, rfl, P3, fun t H4 ht P4 K4 => ?_⟩
   walk_at "w"
   refine ⟨p, rfl, P4, fun h H5 P5 K5 => ?_⟩
   have f5 := (K4.trans K5) _ _ f3 ndp
   walk_at "w"
   refine ZE2 f5 (Ux (show m.length <= 6 by omega) (by decide)) fun H6 f6 K6 => ?_
   walk_at "w"
   refine ⟨⟨_, _, rfl⟩, ?_, ?_, ZCh m t h, f6, ZDh hnd, UF (ZE4 _ _ _) (by omega), fun q hq => ?_⟩
   ·obtain ⟨u, v, e, z⟩ := P5
    exact ⟨u, v, K6 _ _ e (Ne.symm ndp), z⟩
   ·intro b o e nb
    exact K6 _ _ (((K3.trans K4).trans K5) b o e nb) (ZCA e n1)
   ·rcases (ZDR hnd).mp hq with h' | h'
    ·exact htm q h'.2
    ·rw [h']; exact ht
  ·rintro U H3 ⟨⟨v2, v3, rfl⟩, P3, K3, m, f3, hnd, hl, htm⟩
   walk_at "w"
   exact k d m H3 n1 f3 hnd (by omega) htm P3 K3
end
structure LA where
 S : SA
 hd : Addr
 tm : Addr
def LA.all (L : LA) : List Addr := L.S.own ++ [L.hd, L.tm]
def LA.ok (L : LA) : Prop := L.hd ≠ L.S.d1 /\ L.tm ∉ L.S.ls
structure ZIK (sm m : PL) (c : Nat) (ds : List (Int × Option Int)) (ts : List Int) (N M : Nat) : Prop where
 eqv : Eqv sm m
 nd : (m.map (·.1)).Nodup
 tm : ∀ q ∈ m, Tm q.1
 c : c <= N
 t : ts.length <= N
 d : ds.length <= N
 m : m.length <= M
theorem ZIK.mono {sm m : PL} {c : Nat} {ds : List (Int × Option Int)} {ts : List Int} {N M : Nat} (h : ZIK sm m c ds ts N M) : ZIK sm m c ds ts (N + 1) (M + 1) := ⟨h.eqv, h.nd, h.tm, Nat.le_succ_of_le h.c, Nat.le_succ_of_le h.t, Nat.le_succ_of_le h.d, Nat.le_succ_of_le h.m⟩
def ZDr (a : Ad) (H : Hp) (L : LA) (N M : Nat) : Prop := ∃ n sm c ds ts m, ZB0 a H L.S n sm c ds ts [] /\ H L.hd = some (.dK (ZCE m)) /\ H L.tm = some (.lst (ts.map V.int)) /\ ZIK sm m c ds ts N M
theorem ZDr.same {a : Ad} {H H' : Hp} {L : LA} {N M : Nat} (h : ZDr a H L N M) (s : ZB1 H H') : ZDr a H' L N M := by
 obtain ⟨n, sm, c, ds, ts, m, h1, h2, h5, h6⟩ := h
 exact ⟨n, sm, c, ds, ts, m, h1.same s, s _ _ h2, s _ _ h5, h6⟩
theorem ZDr.pot {a : Ad} {H H' : Hp} {L : LA} {N M : Nat} {q : Addr} (h : ZDr a H L N M) (hq : Pot H q) (k : Kp q H H') (n1 : q ∉ L.S.ls) (n3 : q ≠ L.tm) : ZDr a H' L N M := by
 obtain ⟨n, sm, c, ds, ts, m, h1, h2, h5, h6⟩ := h
 obtain ⟨u, v, e, _⟩ := id hq
 exact ⟨n, sm, c, ds, ts, m, h1.pot hq k n1, k _ _ h2 (fun z => by rw [z, e] at h2; cases h2), k _ _ h5 (Ne.symm n3), h6⟩
section
variable {P : Program} {w : World} {K : W.Frag} {mg : Str -> Option Value} {base : Heap} {a : Ad}
def ZRL : Sp := fun vs H Q _ => ∃ (q d : Addr) (m : PL), vs = [.ref q, .ref d] /\ Pot H q /\ H d = some (.dK (ZCE m)) /\ (∀ r ∈ m, Tm r.1) /\ m.length < 100 /\ ∀ (t : Int) (H' : Hp), Tm t -> Pot H' q -> Kp q H H' -> Q (.int t) H'
theorem ZEl : ZB4 ["_law_pot_here", "_law_held", "_law_times"] ["_law_pot_here", "_law_held"] (ZBv ZD0) := ZCX
theorem ZHV (T : Txt K mg a) : ZB2 P w K mg base CX0 3 a.Zr a.Zu ["_law_pot_here", "_law_held"] ZRL := by
 refine T.Yl.ok ZEl (by walk_at "l") (fun cdv A outer s H vs Q E hr h => ?_)
 ·obtain ⟨q, d, m, rfl, hq, hd, htm, hl, k⟩ := h
  have hu := ZC4 hr
  have hu64 := hr.units
  refine ⟨_, QB.h (ZBw (qsS (i := 2) ZEl.nd (ZCQ (ZEW rfl) rfl T.Z6 ZFW (ZBu (qv 1) ZBt))) (ZBw (ZCk (QW.pt (ZIb (ZCD (ZNp K rfl hu) (qv 2) (ZEh ZBt) (ZCH _)) (ZHC (ZCD (ZOG) (qcS (ZCq T) hr.m T.ZO T.ZJ.kp T.ZP (ZBu (qv 0) (ZBu ZBy ZBt))) ZBy (ZCH _))))) (ZBx (ZB7 (ZCi (ZDb K rfl) (qv 2) (qcS (ZCq T) hr.m T.ZO T.ZJ.kp T.ZP (ZBu (qv 0) (ZBu (ZCQ (ZGp K rfl) rfl T.JE ZGl (ZBu (qv 2) ZBt)) ZBt)))))) ZCU) (ZBx (ZB7 (qcS (ZHx T) hr T.ZAM T.JU.kp T.ZAN (ZBu (qv 0) ZBt)))))), ?_⟩
  walk_at "s"
  walk_at "w"
  refine ZFC hd (by omega) fun l2 H2 ns n2 f2 hp hso S2 => ?_
  have hnl : ns.length = m.length := by have := hp.length_eq; simpa using this
  have P2 := hq.same S2
  have nl2 : l2 ≠ q := hq.neN n2
  walk_at "w"
  refine ZCc (by show 0 <= sizeLine; decide) fun l4 H4 n4 f4 S4 => ?_
  refine ZNq (SqL.of (S4 _ _ f2)) (SqL.of f4) ?_
  have K4 : Kp q H H4 := Kp.same (S2.trans S4)
  have P4 := P2.same S4
  have f24 := S4 _ _ f2
  cases hns : ns with
  | nil =>
   walk_at "w"
   refine ZDN (ZDN ?_)
   walk_at "w"
   exact ⟨q, rfl, P4, fun t H5 ht P5 K5 => k t H5 ht P5 (K4.trans K5)⟩
  | cons x xs =>
   walk_at "w"
   refine ZDW ?_
   walk_at "w"
   refine ⟨q, _, rfl, P4, by decide, by decide, fun d3 H5 h5 h5' P5 K5 => ?_⟩
   have f5 := K5 _ _ f24 nl2
   have K45 := K4.trans K5
   walk_at "w"
   refine ZC6 (fun _ => ?_) (fun _ => ?_)
   ·rw [hns] at f5
    walk_at "w"
    refine ⟨q, _, rfl, P5, by simp <;> omega, by rw [Ur]; exact Int.lt_of_lt_of_le (show ((x :: xs).length : Int) < 100 by rw [<- hns, hnl]; omega) (by decide), fun d6 H6 h6 h6' P6 K6 => ?_⟩
    obtain ⟨i, rfl⟩ : ∃ i : Nat, d6 = (i : Int) := ⟨d6.toNat, by omega⟩
    have f6 := K6 _ _ f5 nl2
    have hi : i < (x :: xs).length := by rw [Ur] at h6'; omega
    walk_at "w"
    refine ZIX (v := .int (x :: xs)[i]) (SqL.of f6) (ZHA (by rw [UG, Ud hi]; rfl)) ?_
    walk_at "w"
    refine k _ _ ?_ P6 (K45.trans K6)
    have hmem : (x :: xs)[i] ∈ m.map (·.1) := hp.mem_iff.mp (by rw [hns]; exact List.getElem_mem hi)
    obtain ⟨r, hr, e⟩ := List.mem_map.mp hmem
    rw [<- e]
    exact htm r hr
   ·walk_at "w"
    exact ⟨q, rfl, P5, fun t H6 ht P6 K6 => k t H6 ht P6 (K45.trans K6)⟩
def ZRx : Sp := fun vs H Q _ => ∃ o : Option Int, vs = [ZEd o, ZEd o] /\ Q (.bl true) H
theorem ZPz : ZB4 ["_law_told_here", "_law_due"] ["_law_told_here", "_law_due"] (ZBv ZJJ) := ZCX
theorem ZHW (T : Txt K mg a) : ZB2 P w K mg base CX0 1 a.ZAR a.ZAH ["_law_told_here", "_law_due"] ZRx := by
 refine T.Jh.ok ZPz (by walk_at "l") (fun cdv A outer s H vs Q E hr h => ?_)
 ·obtain ⟨o, rfl, k⟩ := h
  have hu := ZC4 hr
  refine ⟨_, QB.h (ZBw (ZCk (ZCD (ZFX) (qv 1) ZDg (ZCH _)) (ZBx (ZB7 (ZD7 (ZFX) (qv 0) ZDg (ZCH _)))) ZCU) (ZBx (ZB7 (ZGn (ZCQ (ZGq K rfl) rfl T.ZI ZC3 (ZBu (qv 0) (ZBu (ZFw (v := .ty "int") rfl T.JD ZGk rfl) ZBt))) (ZGn (ZLi (ZCQ (ZGq K rfl) rfl T.ZI ZC3 (ZBu (qv 0) (ZBu (ZFw (v := .ty "bool") rfl T.Ja ZJu rfl) ZBt)))) (ZIa (ZD7 (ZEN) (qv 0) (qv 1) (ZCH _)))))))), ?_⟩
  walk_at "s"
  cases o with
  | none =>
   walk_at "w"
   refine ZDW ?_
   walk_at "w"
   exact k
  | some v =>
   walk_at "w"
   refine ZDN ?_
   walk_at "w"
   refine ZGm (.int v) (ZHo _) (ZNF (ZDW ?_))
   walk_at "w"
   refine ZGm (.int v) (ZG3 _) ?_
   walk_at "w"
   refine ZDW ?_
   walk_at "w"
   exact ⟨rfl, by rw [decide_eq_true rfl]; exact k⟩
def ZMX (a : Ad) (vs : List V) (H : Hp) (Q : VK) : Prop := ∃ (S : SA) (n t v : Int) (sm : PL) (c : Nat) (ds : List (Int × Option Int)) (ts : List Int) (ws : List V), vs = [.ref S.p, .int t] /\ ZB0 a H S n sm c ds ts ws /\
 Tm t /\ ZCB sm t = some v /\ c <= 900 /\ sm.length <= 900 /\ ts.length <= 900 /\ ds.length <= 900 /\
 ∀ H', ZB0 a H' S n (ZC2 sm t) (c + 1) (ds ++ [(t, some v)]) (ts ++ [t]) ws -> FrS S H H' -> Q (.int v) H'
def ZHz (a : Ad) (vs : List V) (H : Hp) (Q : VK) : Prop := ∃ (S : SA) (n t : Int) (sm : PL) (c : Nat) (ds : List (Int × Option Int)) (ts : List Int) (ws : List V), vs = [.ref S.p, .int t] /\ ZB0 a H S n sm c ds ts ws /\ ZCB sm t = none /\ ∀ H', ZB1 H H' -> Q (.bl true) H'
def ZOE (a : Ad) : Sp := fun vs H Q _ => (ZMX a vs H Q) \/ ZHz a vs H Q
theorem ZFI : ZB4 ["_law_store", "_law_t", "_law_told_here", "e"] ["_law_store", "_law_t"] (ZBv ZFp) := ZCX
theorem ZG7 (T : Txt K mg a) : ZB2 P w K mg base CX0 8 a.JA a.Y4 ["_law_store", "_law_t"] (ZOE a) := by
 refine T.Y0.ok ZFI (fun vs H Q E h => ?_) (fun cdv A outer s H vs Q E hr h => ?_)
 ·rcases h with ⟨S, n, t, v, sm, c, ds, ts, ws, rfl, _⟩ | ⟨S, n, t, sm, c, ds, ts, ws, rfl, _⟩ <;> rfl
 ·have hu := ZC4 hr
  refine ⟨_, QB.h (ZBw (ZL7 rfl rfl (ZKA (i := 2) ZFI.nd rfl (by walk_at "o") (ZJ9 (qv 0) T.ZF T.ZAS (ZHU T) hr.m T.ZAJ .nil (ZBu (qv 1) ZBt))) (ZIx (i := 3) K rfl rfl rfl rfl ZFI.nd rfl rfl rfl T.Zz T.Zy (fun _ => ZBx (ZB7 (ZCQ (ZKB K rfl) rfl T.ZI ZC3 (ZBu (qv 3) (ZBu (ZD6 (v := V.ref a.ZC) rfl T.YX rfl) ZBt))))) ZL5)) (ZBx (ZB7 (qv 2)))), ?_⟩
  rcases h with ⟨S, n, t, v, sm, c, ds, ts, ws, rfl, hS, ht, hg, g1, g2, g3, g4, k⟩ | ⟨S, n, t, sm, c, ds, ts, ws, rfl, hS, hg, k⟩
  ·simp only [L2.start, UB, List.length_nil, Uw, List.map_nil, Nat.reduceAdd, Nat.reduceSub, List.replicate_succ, List.replicate_zero, List.cons_append, List.nil_append]
   obtain ⟨dx, vs, hp, _⟩ := id hS
   walk_at "w"
   refine ZCJ hp ZC5 ?_
   walk_at "w"
   refine .inl ⟨S, n, t, v, sm, c, ds, ts, ws, rfl, hS, ht, hg, g1, g2, g3, g4, fun H1 hS1 F1 => ?_⟩
   walk_at "w"
   exact k H1 hS1 F1
  ·simp only [L2.start, UB, List.length_nil, Uw, List.map_nil, Nat.reduceAdd, Nat.reduceSub, List.replicate_succ, List.replicate_zero, List.cons_append, List.nil_append]
   obtain ⟨dx, vs, hp, _⟩ := id hS
   walk_at "w"
   refine ZCJ hp ZC5 ?_
   walk_at "w"
   refine .inr ⟨S, n, t, sm, c, ds, ts, ws, rfl, hS, hg, ?_⟩
   walk_at "w"
   refine ZHk T.ZG (ZDW ?_)
   refine ZI1 fun e H2 n2 f2 S2 => ?_
   walk_at "w"
   refine ZKC f2 T.Yd T.Jl rfl T.ZR ?_
   walk_at "w"
   exact k H2 S2
def ZMY (a : Ad) (vs : List V) (H : Hp) (Q : VK) : Prop := ∃ (S : SA) (n t v : Int) (sm : PL) (c : Nat) (ds : List (Int × Option Int)) (ts : List Int) (ws : List V), vs = [.ref S.p, .int t] /\ ZB0 a H S n sm c ds ts ws /\ ZCB sm t = some v /\ Q (.int v) H
def ZMZ := ZHz
def ZOF (a : Ad) : Sp := fun vs H Q _ => (ZMY a vs H Q) \/ ZMZ a vs H Q
theorem ZFJ : ZB4 ["_law_store", "_law_t", "_law_told_here", "e"] ["_law_store", "_law_t"] (ZBv ZFq) := ZCX
theorem ZG8 (T : Txt K mg a) : ZB2 P w K mg base CX0 4 a.JC a.Y7 ["_law_store", "_law_t"] (ZOF a) := by
 refine T.Yz.ok ZFJ (fun vs H Q E h => ?_) (fun cdv A outer s H vs Q E hr h => ?_)
 ·rcases h with ⟨S, n, t, v, sm, c, ds, ts, ws, rfl, _⟩ | ⟨S, n, t, sm, c, ds, ts, ws, rfl, _⟩ <;> rfl
 ·have hu := ZC4 hr
  refine ⟨_, QB.h (ZBw (ZL7 rfl rfl (ZKA (i := 2) ZFJ.nd rfl (by walk_at "o") (ZJ9 (qv 0) T.ZF T.Jm (ZGc T) hr.m T.Jr .nil (ZBu (qv 1) ZBt))) (ZIx (i := 3) K rfl rfl rfl rfl ZFJ.nd rfl rfl rfl T.Zz T.Zy (fun _ => ZBx (ZB7 (ZCQ (ZKB K rfl) rfl T.ZI ZC3 (ZBu (qv 3) (ZBu (ZD6 (v := V.ref a.ZC) rfl T.YX rfl) ZBt))))) ZL5)) (ZBx (ZB7 (qv 2)))), ?_⟩
  rcases h with ⟨S, n, t, v, sm, c, ds, ts, ws, rfl, hS, hg, k⟩ | ⟨S, n, t, sm, c, ds, ts, ws, rfl, hS, hg, k⟩
  ·simp only [L2.start, UB, List.length_nil, Uw, List.map_nil, Nat.reduceAdd, Nat.reduceSub, List.replicate_succ, List.replicate_zero, List.cons_append, List.nil_append]
   obtain ⟨dx, vs, hp, _⟩ := id hS
   walk_at "w"
   refine ZCJ hp ZC5 ?_
   walk_at "w"
   refine .inl ⟨S, n, t, v, sm, c, ds, ts, ws, rfl, hS, hg, ?_⟩
   walk_at "w"
   exact k
  ·simp only [L2.start, UB, List.length_nil, Uw, List.map_nil, Nat.reduceAdd, Nat.reduceSub, List.replicate_succ, List.replicate_zero, List.cons_append, List.nil_append]
   obtain ⟨dx, vs, hp, _⟩ := id hS
   walk_at "w"
   refine ZCJ hp ZC5 ?_
   walk_at "w"
   refine .inr ⟨S, n, t, sm, c, ds, ts, ws, rfl, hS, hg, ?_⟩
   walk_at "w"
   refine ZHk T.ZG (ZDW ?_)
   refine ZI1 fun e H2 n2 f2 S2 => ?_
   walk_at "w"
   refine ZKC f2 T.Yd T.Jl rfl T.ZR ?_
   walk_at "w"
   exact k H2 S2
def ZRM (a : Ad) : Sp := fun vs H Q _ => ∃ (L : LA) (q : Addr) (N M : Nat), vs = [.ref L.S.p, .ref L.hd, .ref L.tm, .ref q] /\ L.ok /\ ZDr a H L N M /\ Pot H q /\ q ∉ L.S.ls /\ q ≠ L.tm /\ M < 90 /\ N < 800 /\
 ∀ H', ZDr a H' L (N + 1) (M + 1) -> FrL (q :: L.all) H H' -> Q (.bl true) H'
theorem ZDP : ZB4 ["_law_store", "_law_held", "_law_times", "_law_pot_here", "_law_way", "_law_t", "_law_h"] ["_law_store", "_law_held", "_law_times", "_law_pot_here"] (ZBv ZDm) := ZCX
theorem ZG9 (T : Txt K mg a) : ZB2 P w K mg base CX0 9 a.Zp a.Zq ["_law_store", "_law_held", "_law_times", "_law_pot_here"] (ZRM a) := by
 refine T.YS.ok ZDP (by walk_at "l") (fun cdv A outer s H vs Q E hr h => ?_)
 ·obtain ⟨L, q, N, M, rfl, ⟨k1, k3⟩, hL, hq, q1, q3, hM, hN, k⟩ := h
  have hu := ZC4 hr
  have hu64 := hr.units
  have mq : q ∈ q :: L.all := Uy
  have mo : ∀ b ∈ L.S.own, b ∈ q :: L.all := fun b h => Uu _ (UX _ h)
  have mh : L.hd ∈ q :: L.all := by simp [LA.all]
  have mt : L.tm ∈ q :: L.all := by simp [LA.all]
  refine ⟨_, QB.h (ZBw (qsS (i := 4) ZDP.nd (qcS (ZCq T) hr.m T.ZO T.ZJ.kp T.ZP (ZBu (qv 3) (ZBu ZBy ZBt)))) (ZBw (qsS (i := 5) ZDP.nd (qcS (ZHV T) hr.m T.ZAB T.Yl.kp T.ZAD (ZBu (qv 3) (ZBu (qv 1) ZBt)))) (ZBw (ZCk (ZCD (ZKe) (qv 4) ZBy (ZCH _)) (ZBw (qsS (i := 6) ZDP.nd (qcS (ZGG T) hr.m T.Ji T.Yg.kp T.Jj (ZBu (qv 3) ZBt))) (ZBw (ZCk (ZFZ (ZFY (qcS (ZHW T) hr.m T.ZAQ T.Jh.kp T.ZAX (ZBu (ZCx (qv 0) T.ZF T.ZAk (ZJX T) hr.m T.ZAg .nil ZC1 (ZBu (qv 5) (ZBu (qv 6) ZBt))) (ZBu (ZE7 hu (qv 1) (qv 5)) ZBt))))) (ZBx (ZB7 ZEt)) ZCU) (ZBw (ZD8 hu (qv 6) (qv 1) (qv 5)) (ZBw (ZCW (ZIH PySem.F.plainAttrs_list PySem.F.slot_list_append PySem.F.type_list_append ZDt (qv 2) (ZBu (qv 5) ZBt))) (ZBx (ZB7 ZEt)))))) ZCU) (ZBw (ZCk (QW.pt (ZIb (ZCD (ZD3 hu) (qv 5) (qv 1) (by with_unfolding_all rfl)) (ZHC (ZCD (ZEN) (qv 4) ZBy (ZCH _))))) (ZBx (ZB7 (ZD7 (ZLg) (qcS (ZG7 T) hr T.Jy T.Y0.kp T.Jz (ZBu (qv 0) (ZBu (qv 5) ZBt))) ZEt (ZCH _)))) ZCU) (ZBw (ZCk (ZCD (ZD3 hu) (qv 5) (qv 1) (by with_unfolding_all rfl)) (ZBx (ZB7 (ZD7 (ZLg) (qcS (ZG8 T) hr.m T.Ju T.Yz.kp T.Jx (ZBu (qv 0) (ZBu (qv 5) ZBt))) ZEt (ZCH _)))) ZCU) (ZBw (ZCk (ZCD (ZEN) (qv 4) ZBy (ZCH _)) (ZBx (ZB7 (qcS (ZHW T) hr.m T.ZAQ T.Jh.kp T.ZAX (ZBu (qcS (ZG8 T) hr.m T.Ju T.Yz.kp T.Jx (ZBu (qv 0) (ZBu (qv 5) ZBt))) (ZBu (ZFy hu (qv 1) (qv 5)) ZBt))))) ZCU) (ZBw (ZCW (ZIH PySem.F.plainAttrs_list PySem.F.slot_list_append PySem.F.type_list_append ZDt (qv 2) (ZBu (qv 5) ZBt))) (ZBx (ZB7 (qcS (ZHW T) hr.m T.ZAQ T.Jh.kp T.ZAX (ZBu (qcS (ZG7 T) hr T.Jy T.Y0.kp T.Jz (ZBu (qv 0) (ZBu (qv 5) ZBt))) (ZBu (ZI3 (qv 1) (qv 5)) ZBt)))))))))))), ?_⟩
  walk_at "s"
  walk_at "w"
  refine ⟨q, _, rfl, hq, by decide, by decide, fun way H1 w0 w1 P1 K1 => ?_⟩
  have hL1 := hL.pot hq K1 q1 q3
  obtain ⟨n, sm, c, ds, ts, m, hS1, hh1, ht1, hs⟩ := hL1
  have hml := hs.m
  have htl := hs.t
  have hcl := hs.c
  have hdl := hs.d
  have hsl := hs.eqv.len hS1.nd hs.nd
  walk_at "w"
  refine ⟨q, L.hd, m, rfl, P1, hh1, hs.tm, by omega, fun t H2 ht P2 K2 => ?_⟩
  have eg : ZCB sm t = ZCB m t := hs.eqv.get hS1.nd hs.nd t
  have neh : L.hd ≠ q := fun z => by obtain ⟨u, v, e, _⟩ := P1; rw [z, e] at hh1; cases hh1
  have hS2 := hS1.pot P1 K2 q1
  have hh2 := K2 _ _ hh1 neh
  have ht2 := K2 _ _ ht1 (Ne.symm q3)
  have F2 : FrL (q :: L.all) H H2 := FrL.trans (.kp K1 mq) (.kp K2 mq)
  obtain ⟨dx, vs, hp2, _⟩ := id hS2
  walk_at "w"
  refine ZC6 (fun _ => ?_) (fun _ => ?_)
  ·walk_at "w"
   refine ⟨q, rfl, P2, fun h H3 P3 K3 => ?_⟩
   have hS3 := hS2.pot P2 K3 q1
   have hh3 := K3 _ _ hh2 neh
   have ht3 := K3 _ _ ht2 (Ne.symm q3)
   obtain ⟨dx3, vs3, hp3, _⟩ := id hS3
   walk_at "w"
   refine ZCJ hp3 ZC5 ?_
   walk_at "w"
   refine ⟨L.S, n, t, h, sm, c, ds, ts, [], rfl, hS3, ht, by omega, by omega, by omega, by omega, fun H4 hS4 F4 => ?_⟩
   have hh4 := hS3.keepD F4 hh3 k1
   have ht4 := hS3.keepL F4 ht3 k3
   walk_at "w"
   refine ZHj hh4 ?_
   walk_at "w"
   refine ZIt hh4 ?_
   rw [ZJT, eg]
   walk_at "w"
   refine ⟨ZCB m t, rfl, ?_⟩
   walk_at "w"
   refine ZDN ?_
   walk_at "w"
   refine ZE2 hh4 (Ue (show m.length < 100 by omega) (by decide)) fun H5 f5 K5 => ?_
   have hS5 := hS4.kpD K5 hh4 k1
   have ht5 := K5 _ _ ht4 (fun z => by rw [z, hh4] at ht4; cases ht4)
   walk_at "w"
   refine ⟨tyL ht5, ?_⟩
   walk_at "w"
   refine ZDu ht5 (by rw [Ur]; exact Ux htl (Ue hN (by decide))) fun H6 f6 K6 => ?_
   have hS6 := hS5.kpL K6 ht5 k3
   have hh6 := K6 _ _ f5 (fun z => by rw [z, ht5] at f5; cases f5)
   walk_at "w"
   refine k H6 ⟨n, _, _, _, _, ZCh m t h, hS6, hh6, by rw [List.map_append]; exact f6, ⟨hs.eqv.put hS1.nd hs.nd t h, ZDh hs.nd, fun r hr => ?_, by omega, by rw [UD]; simp; omega, by rw [UD]; simp; omega, UF (ZE4 _ _ _) (by omega)⟩⟩ ((((F2.trans (.kp K3 mq)).trans (FrL.ofS F4 mo)).trans (.kp K5 mh)).trans (.kp K6 mt))
   rcases (ZDR hs.nd).mp hr with h' | h'
   ·exact hs.tm r h'.2
   ·rw [h']; exact ht
  ·walk_at "w"
   refine ZDi hh2 ?_
   cases hg : ZCB m t with
   | none =>
    rw [hg] at eg
    walk_at "w"
    refine ZDW ?_
    walk_at "w"
    rw [ZFv]
    refine ZC6 (fun _ => ?_) (fun _ => ?_)
    ·walk_at "w"
     refine .inr ⟨L.S, n, t, sm, c, ds, ts, [], rfl, hS2, eg, fun H3 S3 => ?_⟩
     walk_at "w"
     exact k H3 ⟨n, sm, c, ds, ts, m, hS2.same S3, S3 _ _ hh2, S3 _ _ ht2, hs.mono⟩ (F2.trans (.same S3))
    ·walk_at "w"
     refine ZDi hh2 ?_
     rw [hg]
     walk_at "w"
     refine ZDW ?_
     walk_at "w"
     refine .inr ⟨L.S, n, t, sm, c, ds, ts, [], rfl, hS2, eg, fun H3 S3 => ?_⟩
     walk_at "w"
     exact k H3 ⟨n, sm, c, ds, ts, m, hS2.same S3, S3 _ _ hh2, S3 _ _ ht2, hs.mono⟩ (F2.trans (.same S3))
   | some v =>
    rw [hg] at eg
    walk_at "w"
    refine ZDN (ZDN ?_)
    walk_at "w"
    refine ZDi hh2 ?_
    rw [hg]
    walk_at "w"
    refine ZDN ?_
    walk_at "w"
    rw [ZFv]
    refine ZC6 (fun _ => ?_) (fun _ => ?_)
    ·walk_at "w"
     refine .inl ⟨L.S, n, t, v, sm, c, ds, ts, [], rfl, hS2, eg, ?_⟩
     walk_at "w"
     refine ZE1 hh2 hg ?_
     walk_at "w"
     exact ⟨some v, rfl, k H2 ⟨n, sm, c, ds, ts, m, hS2, hh2, ht2, hs.mono⟩ F2⟩
    ·walk_at "w"
     refine ⟨tyL ht2, ?_⟩
     walk_at "w"
     refine ZDu ht2 (by rw [Ur]; exact Ux htl (Ue hN (by decide))) fun H3 f3 K3 => ?_
     have hS3 := hS2.kpL K3 ht2 k3
     have hh3 := K3 _ _ hh2 (fun z => by rw [z, ht2] at hh2; cases hh2)
     walk_at "w"
     refine .inl ⟨L.S, n, t, v, sm, c, ds, ts, [], rfl, hS3, ht, eg, by omega, by omega, by omega, by omega, fun H4 hS4 F4 => ?_⟩
     have hh4 := hS3.keepD F4 hh3 k1
     have ht4 := hS3.keepL F4 f3 k3
     walk_at "w"
     refine ZI6 hh4 ?_
     walk_at "w"
     refine ZI7 hh4 hg fun H5 f5 K5 => ?_
     have hS5 := hS4.kpD K5 hh4 k1
     have ht5 := K5 _ _ ht4 (fun z => by rw [z, hh4] at ht4; cases ht4)
     walk_at "w"
     refine ⟨some v, rfl, k H5 ⟨n, _, _, _, _, ZC2 m t, hS5, f5, by rw [List.map_append]; exact ht5, ⟨hs.eqv.drop t, ZGA hs.nd, fun r hr => hs.tm r (ZDw.mp hr).2, by omega, by rw [UD]; simp; omega, by rw [UD]; simp; omega, UF (ZMC _ _) (by omega)⟩⟩ (((F2.trans (.kp K3 mt)).trans (FrL.ofS F4 mo)).trans (.kp K5 mh))⟩
def ZIL (K : W.Frag) : Sp := fun vs H Q _ => ∃ (s : Addr) (ns : List Int), vs = [.ref s] /\ SqL K H s (ns.map V.int) /\ ns.length <= 63 /\ ∀ H', Q (.bl true) H'
theorem ZEL : ZB4 ["_law_script", "_law_pot_here", "_law_held", "_law_store", "_law_times", "_law_place"] ["_law_script"] (ZBv ZDY) := ZCX
theorem ZRN (T : Txt K mg a) : ZB2 P w K mg base CX0 10 a.ZAy a.ZAz ["_law_script"] (ZIL K) := by
 refine T.ZBk.ok ZEL (by walk_at "l") (fun cdv A outer s H vs Q E hr h => ?_)
 ·obtain ⟨s, ns, rfl, hS, hn, k⟩ := h
  have hu := ZC4 hr
  have hu64 := hr.units
  refine ⟨_, QB.h (ZBw (qsS (i := 1) ZEL.nd (qcS (ZHw T) hr.m T.ZAW T.JP.kp T.ZAL (ZBu (qv 0) (ZBu ZBy ZBt)))) (ZBw (qsS (i := 2) ZEL.nd (qcS (ZLF T) hr.m T.ZA0 T.Jv.kp T.ZA1 (ZBu (qv 1) ZBt))) (ZBw (qsS (i := 3) ZEL.nd (ZJ3 T.ZAZ (ZD1 T) hr.m rfl T.ZAq T.JY .nil ZC1 (ZBu (qcS (ZHy T) hr.m T.ZAV T.JW.kp T.ZAP (ZBu (qv 2) ZBt)) ZBt))) (ZBw (ZCk (QW.pt (ZIb (ZCD (ZPj hu) (qv 2) ZE0 (ZCH _)) (ZHC (ZCD (ZEN) (qcS (ZCq T) hr.m T.ZO T.ZJ.kp T.ZP (ZBu (qv 1) (ZBu ZBy ZBt))) ZBy (ZCH _))))) (ZBx (qsS (i := 3) ZEL.nd (ZNY (dvs := [V.non]) T.ZAZ (ZD1 T) hr.m rfl T.ZAq T.JF (.cons rfl .nil) ZC1))) ZCU) (ZBw (qsS (i := 4) ZEL.nd (ZEh ZBt)) (ZBw (ZFa PassesOwn.never rfl (ZLj rfl T.YU (ZBu ZBy (ZBu (ZCQ (ZQf rfl) rfl T.ZAG ZLc (ZBu ZBy (ZBu (ZCQ (ZQg rfl) rfl T.ZAF ZLd (ZBu ZBy (ZBu (ZCQ (ZGp K rfl) rfl T.JE ZGl (ZBu (qv 0) ZBt)) ZBt))) ZBt))) ZBt))) (qgN (i := 5) ZEL.nd) (ZBw (ZCk (ZFZ (ZFY (qcS (ZG9 T) hr T.Jp T.YS.kp T.Jn (ZBu (qv 3) (ZBu (qv 2) (ZBu (qv 4) (ZBu (qcS (ZHw T) hr.m T.ZAW T.JP.kp T.ZAL (ZBu (qv 0) (ZBu (qv 5) ZBt))) ZBt))))))) (ZBx (ZB7 ZEt)) ZCU) (ZBx (ZCk (QW.pt (ZIG (ZCD (ZLo K rfl hu64) (ZGQ (qv 3) T.ZF T.ZAO (ZIB T) hr.m T.ZAU .nil ZC1) (qcS (ZHy T) hr.m T.ZAV T.JW.kp T.ZAP (ZBu (qv 2) ZBt)) (ZCH _)) (ZGo (ZCD (ZLo K rfl hu64) (ZGQ (qv 3) T.ZF T.ZAA (ZHS T) hr.m T.ZAC .nil ZC1) (ZDU (ZEw K rfl) rfl T.Z1 ZEs (ZBu (qv 4) ZBt)) (ZCH _))))) (ZBx (ZB7 ZEt)) ZCU)))) (ZBx (ZB7 ZEt)))))))), ?_⟩
  walk_at "s"
  walk_at "w"
  refine ⟨s, ns, _, rfl, hS, by decide, by decide, fun p1 H1 n1 P1 S1 => ?_⟩
  walk_at "w"
  refine ⟨p1, rfl, P1, fun hd m0 H2 n2 f2 hnd0 hl0 htm0 P2 K2 => ?_⟩
  have S02 : ZB1 H H2 := ((Kp.same S1).trans K2).fresh n1
  walk_at "w"
  refine ⟨hd, m0, rfl, f2, hnd0, by omega, fun tf fs H3 hT3 hA3 hm3 hl3 S3 => ?_⟩
  walk_at "w"
  refine ZHG fun x1 dx1 H4 n4 f4 S4 => ?_
  refine ⟨x1, dx1, .ref tf, fs, rfl, f4, .inr ⟨tf, rfl, hT3.same S4⟩, ZMF hA3, fun r hr => htm0 r ((hm3 r).mp hr), by omega, fun S sm0 H5 hSp hfr5 hS5 hm5 hl5 K5 => ⟨rfl, ?_⟩⟩
  have S35 : ZB1 H3 H5 := fun b o e => K5 _ _ (S4 _ _ e) (ZCA e n4)
  have f25 := S35 _ _ (S3 _ _ f2)
  have P5 := (P2.same S3).same S35
  have S05 : ZB1 H H5 := (S02.trans S3).trans S35
  have nhp : hd ≠ p1 := fun z => by obtain ⟨u, v, e, _⟩ := P5; rw [z, e] at f25; cases f25
  have hdd1 : hd ≠ S.d1 := fun z => by
   have := hfr5 S.d1 (by simp [SA.own])
   rw [<- z, S4 _ _ (S3 _ _ f2)] at this
   cases this
  subst hSp
  repeat walk_at "ri"
  refine ZPh (fun U' H' => ∃ (S : SA) (sm0 : PL) (c0 : Nat), U' = [some (.ref s), some (.ref p1), some (.ref hd), some (.ref S.p), none, none] /\ ZB1 H H' /\ H' hd = some (.dK (ZCE m0)) /\ ZB0 a H' S 0 sm0 c0 [] [] [] /\ c0 <= 6 /\ Eqv sm0 m0 /\ hd ≠ S.d1 /\ ∀ b ∈ S.own, H b = none) ?_ ?_
  ·rintro U' H6 ⟨S, sm0, c0, rfl, S06, f26, hS6, hc0, hE0, hdd, hfr0⟩
   walk_at "w"
   refine ZCc (by show 0 <= sizeLine; decide) fun tmA H7 n7 f7 S7 => ?_
   have S07 := S06.trans S7
   have htm1 : tmA ∉ S.ls := (hS6.fresh n7).1
   have hok : (LA.mk S hd tmA).ok := ⟨hdd, htm1⟩
   have hfrA : ∀ b ∈ (LA.mk S hd tmA).all, H b = none := fun b hb => by
    rcases UR.mp hb with hb | hb
    ·exact hfr0 b hb
    ·simp only [Uj, UU, or_false] at hb
     rcases hb with rfl | rfl
     ·exact ZEi S1 n2
     ·exact ZEi S06 n7
   have hL7 : ZDr a H7 ⟨S, hd, tmA⟩ 6 6 := ⟨0, sm0, c0, [], [], m0, hS6.same S7, S7 _ _ f26, f7, ⟨hE0, hnd0, htm0, hc0, by simp, by simp, hl0⟩⟩
   have hSq7 := S07.seq hS
   walk_at "w"
   rw [Ur]
   generalize hj : (if (if (ns.length : Int) < 61 then (ns.length : Int) else 61) > 6 then (if (ns.length : Int) < 61 then (ns.length : Int) else 61) else 6) = j
   have hj1 : 6 <= j := by rw [<- hj]; split <;> omega
   have hj2 : j <= 61 := by rw [<- hj]; split <;> (try split) <;> omega
   refine ⟨1, j, rfl, ⟨by decide, by decide, by omega, by omega⟩, ?_⟩
   refine ZHB (fun i U H' => (∃ v5, U = [some (.ref s), some (.ref p1), some (.ref hd), some (.ref S.p), some (.ref tmA), v5]) /\ ZB1 H H' /\ ZDr a H' ⟨S, hd, tmA⟩ (6 + i) (6 + i)) ?_ ?_ ?_
   ·exact ⟨⟨_, rfl⟩, S07, hL7⟩
   ·rintro i U H10 hi ⟨⟨v5, rfl⟩, S10, hL10⟩
    have hi2 : (i : Int) < 60 := by omega
    walk_at "w"
    refine ⟨s, ns, _, rfl, S10.seq hS, by omega, by omega, fun q H11 n11 P11 S11 => ?_⟩
    have hL11 := hL10.same S11
    have S011 := S10.trans S11
    have hq0 : H q = none := ZEi S10 n11
    have hqS : q ∉ S.ls := fun z => by
     obtain ⟨n, sm, c, ds, ts, m, g1, _⟩ := hL10
     exact (g1.fresh n11).1 z
    have hqt : q ≠ tmA := fun z => by
     obtain ⟨n, sm, c, ds, ts, m, g1, g2, g5, _⟩ := hL10
     rw [z, g5] at n11; cases n11
    have hq00 : ∀ b ∈ q :: (LA.mk S hd tmA).all, H b = none := fun b hb => by
     rcases Uj.mp hb with rfl | hb
     ·exact hq0
     ·exact hfrA b hb
    walk_at "w"
    refine ⟨⟨S, hd, tmA⟩, q, _, _, rfl, hok, hL11, P11, hqS, hqt, by omega, by omega, fun H13 hL13 F13 => ?_⟩
    have S013 := F13.fresh S011 hq00
    obtain ⟨n, sm, c, ds, ts, m, g1, g2, g5, g6⟩ := id hL13
    obtain ⟨dx, vs, hp13, _⟩ := id g1
    have hml := g6.m
    have hsl := g6.eqv.len g1.nd g6.nd
    walk_at "w"
    refine ZDN ?_
    walk_at "w"
    refine ZCJ hp13 ZC5 ?_
    refine ⟨S, n, sm, c, ds, ts, [], rfl, g1, by omega, fun t14 cv14 H14 hT14 hA14 hm14 S14 => ?_⟩
    walk_at "w"
    refine ⟨hd, m, rfl, S14 _ _ g2, g6.nd, by omega, fun t15 cv15 H15 hT15 hA15 hm15 hl15 S15 => ?_⟩
    have ecv : cv14 = cv15 := ZJ2 hA14 hA15 fun r => by rw [hm14, hm15, g6.eqv r]
    walk_at "w"
    refine ZPV (hT14.same S15) hT15 ?_
    rw [decide_eq_true ecv]
    walk_at "w"
    refine ZDN ?_
    have S1315 := S14.trans S15
    walk_at "w"
    refine ZCJ (S1315 _ _ hp13) ZC5 ?_
    refine ⟨S, n, sm, c, ds, ts, [], rfl, g1.same S1315, fun u16 H16 f16 S16 => ?_⟩
    walk_at "w"
    refine ZFu (SqL.of (S16 _ _ (S1315 _ _ g5))) fun u17 H17 n17 f17 S17 => ?_
    refine ZPg (S17 _ _ f16) f17 ?_
    rw [decide_eq_true rfl]
    walk_at "w"
    refine ZDN ?_
    have S1317 := (S1315.trans S16).trans S17
    walk_at "w"
    exact ⟨⟨_, rfl⟩, S013.trans S1317, hL13.same S1317⟩
   ·rintro U H10 ⟨⟨v5, rfl⟩, S10, hL10⟩
    walk_at "w"
    exact k H10
  ·intro D' _ hD'
   walk_at "w"
   refine ZE3 fun d6 H6 n6 f6 S6 => ?_
   have f26 := S6 _ _ f25
   have hS6 := hS5.same S6
   have hfrS : ∀ b ∈ S.own, H b = none := fun b hb => ZEi (S02.trans (S3.trans S4)) (hfr5 b hb)
   have hEq : Eqv sm0 m0 := fun r => by rw [hm5, hm3]
   have hpS : p1 ∉ S.ls := fun z => by
    have := hfr5 p1 (SA.ls_own z)
    obtain ⟨u, v, e, _⟩ := (P2.same S3).same S4
    rw [e] at this; cases this
   refine ZPk f26 f6 ?_
   cases hm0 : m0 with
   | cons x r =>
    walk_at "w"
    refine ZDN (ZDN ?_)
    walk_at "w"
    exact hD' _ _ ⟨S, sm0, _, rfl, S05.trans S6, f26, hS6, by omega, hEq, hdd1, hfrS⟩
   | nil =>
    walk_at "w"
    refine ZDW ?_
    walk_at "w"
    refine ⟨p1, _, rfl, P5.same S6, by decide, by decide, fun d7 H7 h7 h7' P7 K7 => ?_⟩
    have f27 := K7 _ _ f26 nhp
    have S07 : ZB1 H H7 := ((Kp.same (S05.trans S6)).trans K7).fresh n1
    walk_at "w"
    rw [ZFv]
    refine ZC6 (fun _ => ?_) (fun _ => ?_)
    ·walk_at "w"
     refine ZHG fun x2 dx2 H8 n8 f8 S8 => ?_
     refine ⟨x2, dx2, .non, [], rfl, f8, .inl ⟨rfl, rfl⟩, List.nodup_nil, (fun r hr => by cases hr), by decide, fun S2 sm2 H9 hSp2 hfr9 hS9 hm9 hl9 K9 => ⟨rfl, ?_⟩⟩
     have S79 : ZB1 H7 H9 := fun b o e => K9 _ _ (S8 _ _ e) (ZCA e n8)
     have esm2 : sm2 = [] := List.length_eq_zero_iff.mp (by simpa using hl9)
     subst esm2
     have hdd2 : hd ≠ S2.d1 := fun z => by
      have := hfr9 S2.d1 (by simp [SA.own])
      rw [<- z, S8 _ _ f27] at this
      cases this
     subst hSp2
     walk_at "w"
     exact hD' _ _ ⟨S2, [], _, rfl, S07.trans S79, S79 _ _ f27, hS9, by simp, by rw [hm0]; exact Eqv.refl _, hdd2, fun b hb => ZEi (S07.trans S8) (hfr9 b hb)⟩
    ·walk_at "w"
     exact hD' _ _ ⟨S, sm0, _, rfl, S07, f27, hS6.pot (P5.same S6) K7 hpS, by omega, hEq, hdd1, hfrS⟩
end
structure FnH (K : W.Frag) (x : Str) (st : Stmt) (f : Addr) (d : FuncData) : Prop where
 a : W.nsIn K mainGlobals x = some (some (.ref f))
 F : Fun K x x st f d
structure MtH (K : W.Frag) (C : Addr) (x q : Str) (st : Stmt) (f : Addr) (d : FuncData) : Prop where
 a : W.findIn K (.ref C) x = some (some (.ref f))
 i : W.isFn K (.ref f) = true
 F : Fun K x q st f d
open PySem.W in
theorem all_mk {l : OpenLaw} {w : World} {K : Frag} {h : Heap} {mg : Str -> Option Value} {fa : Addr} (X : K.In h) (G : h.Ns mainGlobals mg) (hfa : mg "law" = some (.ref fa))
 {ZE ZB ZD ZA ZC : Addr}
 {f0 f1 f2 f3 f4 f5 f6 f7 f8 f9 f10 f11 f12 f13 f14 f15 f16 f17 f18 f19 f20 f21 f22 f23 f24 f25 f26 f27 f28 f29 f30 f31 f32 f33 f34 f35 f36 f37 f38 f39 f40 f41 f42 f43 f44 f45 : Addr} {d0 d1 d2 d3 d4 d5 d6 d7 d8 d9 d10 d12 d13 d14 d15 d16 d17 d19 d20 d21 d22 d23 d24 d25 d26 d27 d28 d29 d30 d31 d32 d33 d34 d35 d36 d37 d38 d39 d40 d41 d42 d43 d44 : FuncData}
 {od11 an11 : Option Addr} {sl11 : Array (Option Value)} {oc11 kV11 dc11 pm11 cd11 ct11 : Value}
 {dt11 : Addr} {dod11 : Option Addr} {dsl11 : Array (Option Value)} {doc11 : Value} {dn11 : Nat}
 {od18 an18 : Option Addr} {sl18 : Array (Option Value)} {oc18 kV18 dc18 pm18 cd18 ct18 : Value}
 {dt18 : Addr} {dod18 : Option Addr} {dsl18 : Array (Option Value)} {doc18 : Value} {dn18 : Nat}
 {od45 an45 : Option Addr} {sl45 : Array (Option Value)} {oc45 kV45 dc45 pm45 cd45 ct45 : Value}
 {tk_TOP_LEVEL : Tok}
 {tk_TIMES_END : Tok}
 (e_FourPointsError : ZNr K "FourPointsError" ZD)
 (e_OutOfTimes : ZNr K "OutOfTimes" ZA)
 (e_NoSample : ZNr K "NoSample" ZC)
 (ZV : subIn K (.ref ZA) (.ref ZD) = some true) (ZX : kitOne K (.ref ZA) (.ref ZD) = some true)
 (Ze : subIn K (.ref ZA) (.ref ZA) = some true) (Zd : kitOne K (.ref ZA) (.ref ZA) = some true)
 (Zj : subIn K (.ref ZA) (.ref ZC) = some false) (Zl : kitOne K (.ref ZA) (.ref ZC) = some false)
 (ZG : subIn K (.ref ZC) (.ref ZD) = some true) (ZY : kitOne K (.ref ZC) (.ref ZD) = some true)
 (Zi : subIn K (.ref ZC) (.ref ZA) = some false) (Zk : kitOne K (.ref ZC) (.ref ZA) = some false)
 (Zo : subIn K (.ref ZC) (.ref ZC) = some true) (ZR : kitOne K (.ref ZC) (.ref ZC) = some true)
 (e_Tree : ZRG K "Tree" ZE)
 (na_Tree_looks : findIn K (.ref ZE) "looks" = some none)
 (na_Tree_samples : findIn K (.ref ZE) "samples" = some none)
 (na_Tree_kept_fours : findIn K (.ref ZE) "kept_fours" = some none)
 (e_Store : ZRG K "Store" ZB)
 (na_Store_tree : findIn K (.ref ZB) "tree" = some none)
 (na_Store_deeds : findIn K (.ref ZB) "deeds" = some none)
 (na_Store_done : findIn K (.ref ZB) "done" = some none)
 (na_Store_watches : findIn K (.ref ZB) "watches" = some none)
 (F0 : FnH K "_wall" ZKQ f0 d0)
 (F1 : FnH K "is_whole" ZFD f1 d1)
 (F2 : FnH K "curve_of" ZD4 f2 d2)
 (F3 : FnH K "height_of" ZEX f3 d3)
 (F4 : FnH K "four_of" ZFj f4 d4)
 (F5 : FnH K "joined" ZGW f5 d5)
 (F6 : FnH K "is_border" ZEY f6 d6)
 (F7 : FnH K "check_borders" ZER f7 d7)
 (F8 : FnH K "check_time" ZEH f8 d8)
 (F9 : FnH K "stretches" ZGB f9 d9)
 (F10 : FnH K "longest" ZHn f10 d10)
 (a11 : findIn K (.ref ZE) "__init__" = some (some (.ref f11))) (i11 : isFn K (.ref f11) = true)
 (l11 : K.lookup f11 = some ⟨oc11, od11, .func (fnOf "__init__" "Tree.__init__" (ZCa ZCS) (ZCP ZCS) (ZBv ZCS) (.ref dt11) kV11 dc11 pm11 an11 cd11 ct11), sl11⟩) (c11 : codeIn K cd11 "Tree.__init__" = true) (k11 : keepIn K (.ref f11) = true)
 (dl11 : K.lookup dt11 = some ⟨doc11, dod11, .seq #[.none] dn11, dsl11⟩)
 (F12 : MtH K ZE "put" "Tree.put" ZFE f12 d12)
 (F13 : MtH K ZE "take" "Tree.take" ZEZ f13 d13)
 (F14 : MtH K ZE "renew" "Tree.renew" ZEI f14 d14)
 (F15 : MtH K ZE "four" "Tree.four" ZGC f15 d15)
 (F16 : MtH K ZE "fours" "Tree.fours" ZFk f16 d16)
 (F17 : MtH K ZE "told" "Tree.told" ZEa f17 d17)
 (a18 : findIn K (.ref ZB) "__init__" = some (some (.ref f18))) (i18 : isFn K (.ref f18) = true)
 (l18 : K.lookup f18 = some ⟨oc18, od18, .func (fnOf "__init__" "Store.__init__" (ZCa ZCN) (ZCP ZCN) (ZBv ZCN) (.ref dt18) kV18 dc18 pm18 an18 cd18 ct18), sl18⟩) (c18 : codeIn K cd18 "Store.__init__" = true) (k18 : keepIn K (.ref f18) = true)
 (dl18 : K.lookup dt18 = some ⟨doc18, dod18, .seq #[.none] dn18, dsl18⟩)
 (F19 : MtH K ZB "put" "Store.put" ZEb f19 d19)
 (F20 : MtH K ZB "take" "Store.take" ZEJ f20 d20)
 (F21 : MtH K ZB "height" "Store.height" ZDl f21 d21)
 (F22 : MtH K ZB "check_sample" "Store.check_sample" ZDI f22 d22)
 (F23 : MtH K ZB "do" "Store.do" ZFF f23 d23)
 (F24 : MtH K ZB "bring" "Store.bring" ZDy f24 d24)
 (F25 : MtH K ZB "undo" "Store.undo" ZFl f25 d25)
 (F26 : MtH K ZB "times" "Store.times" ZDz f26 d26)
 (F27 : MtH K ZB "four" "Store.four" ZFm f27 d27)
 (F28 : MtH K ZB "fours" "Store.fours" ZFM f28 d28)
 (F29 : MtH K ZB "told" "Store.told" ZEK f29 d29)
 (F30 : MtH K ZB "watch" "Store.watch" ZFN f30 d30)
 (F31 : MtH K ZB "news" "Store.news" ZFn f31 d31)
 (F32 : FnH K "_law_nth" ZHN f32 d32)
 (F33 : FnH K "_law_pot" ZHO f33 d33)
 (F34 : FnH K "_law_take" ZGX f34 d34)
 (F35 : FnH K "_law_cell" ZGY f35 d35)
 (F36 : FnH K "_law_time" ZGZ f36 d36)
 (F37 : FnH K "_law_height" ZFG f37 d37)
 (F38 : FnH K "_law_told" ZFH f38 d38)
 (F39 : FnH K "_law_begun" ZFo f39 d39)
 (F40 : FnH K "_law_is" ZJJ f40 d40)
 (F41 : FnH K "_law_taken" ZFp f41 d41)
 (F42 : FnH K "_law_asked" ZFq f42 d42)
 (F43 : FnH K "_law_some_time" ZD0 f43 d43)
 (F44 : FnH K "_law_deed_right" ZDm f44 d44)
 (a45 : nsIn K mainGlobals "law" = some (some (.ref f45)))
 (l45 : K.lookup f45 = some ⟨oc45, od45, .func (fnOf "law" "law" (ZCa ZDY) (ZCP ZDY) (ZBv ZDY) .none kV45 dc45 pm45 an45 cd45 ct45), sl45⟩) (c45 : codeIn K cd45 "law" = true) (k45 : keepIn K (.ref f45) = true)
 (ac_TOP_LEVEL : nsIn K mainGlobals "TOP_LEVEL" = some (some (.int 40 tk_TOP_LEVEL)))
 (ac_TIMES_END : nsIn K mainGlobals "TIMES_END" = some (some (.int 1099511627776 tk_TIMES_END)))
 (Yv : nsIn K mainGlobals "ValueError" = some none)
 (ZAv : nsIn K mainGlobals "abs" = some none)
 (Ja : nsIn K mainGlobals "bool" = some none)
 (JD : nsIn K mainGlobals "int" = some none)
 (ZI : nsIn K mainGlobals "isinstance" = some none)
 (JE : nsIn K mainGlobals "len" = some none)
 (ZAI : nsIn K mainGlobals "list" = some none)
 (ZAG : nsIn K mainGlobals "max" = some none)
 (ZAF : nsIn K mainGlobals "min" = some none)
 (YU : nsIn K mainGlobals "range" = some none)
 (Z6 : nsIn K mainGlobals "sorted" = some none)
 (Z1 : nsIn K mainGlobals "tuple" = some none)
   : ∃ fd : FuncData, (∀ (s : Shared) (v : Value), BindsTo s fd ⟨[v], []⟩ [("_law_script", v)]) /\ ∀ base : Heap, K.In base -> base.Ns mainGlobals mg -> ZB2 l.prog w K mg base CX0 10 fa fd ["_law_script"] (ZIL K) := by
  have e := hfa.symm.trans (mg_of X G a45)
  cases e
  have F11 := ZJ7 (st := ZCS) l11 c11 k11
  have F18 := ZJ7 (st := ZCN) l18 c18 k18
  have F45 := fun_mk (st := ZDY) l45 c45 k45
  have T : Txt K mg ⟨f0, d0, f1, d1, f2, d2, f3, d3, f4, d4, f5, d5, f6, d6, f7, d7, f8, d8, f9, d9, f10, d10, f11, fnOf "__init__" "Tree.__init__" (ZCa ZCS) (ZCP ZCS) (ZBv ZCS) (.ref dt11) kV11 dc11 pm11 an11 cd11 ct11, f12, d12, f13, d13, f14, d14, f15, d15, f16, d16, f17, d17, f18, fnOf "__init__" "Store.__init__" (ZCa ZCN) (ZCP ZCN) (ZBv ZCN) (.ref dt18) kV18 dc18 pm18 an18 cd18 ct18, f19, d19, f20, d20, f21, d21, f22, d22, f23, d23, f24, d24, f25, d25, f26, d26, f27, d27, f28, d28, f29, d29, f30, d30, f31, d31, f32, d32, f33, d33, f34, d34, f35, d35, f36, d36, f37, d37, f38, d38, f39, d39, f40, d40, f41, d41, f42, d42, f43, d43, f44, d44, fa, fnOf "law" "law" (ZCa ZDY) (ZCP ZDY) (ZBv ZDY) .none kV45 dc45 pm45 an45 cd45 ct45, ZE, ZB, ZD, ZA, ZC, tk_TOP_LEVEL, tk_TIMES_END⟩ := ⟨F0.F, (F0.F.b1 fun _ _ _ _ _ _ _ => rfl), (mg_of X G F0.a), F1.F, (F1.F.b1 fun _ _ _ _ _ _ _ => rfl), (mg_of X G F1.a), F2.F, (F2.F.b1 fun _ _ _ _ _ _ _ => rfl), (mg_of X G F2.a), F3.F, (F3.F.b1 fun _ _ _ _ _ _ _ => rfl), (mg_of X G F3.a), F4.F, (F4.F.b1 fun _ _ _ _ _ _ _ => rfl), (mg_of X G F4.a), F5.F, (F5.F.b2 fun _ _ _ _ _ _ _ _ => rfl), (mg_of X G F5.a), F6.F, (F6.F.b1 fun _ _ _ _ _ _ _ => rfl), (mg_of X G F6.a), F7.F, (F7.F.b2 fun _ _ _ _ _ _ _ _ => rfl), (mg_of X G F7.a), F8.F, (F8.F.b1 fun _ _ _ _ _ _ _ => rfl), (mg_of X G F8.a), F9.F, (F9.F.b2 fun _ _ _ _ _ _ _ _ => rfl), (mg_of X G F9.a), F10.F, (F10.F.b2 fun _ _ _ _ _ _ _ _ => rfl), (mg_of X G F10.a), F11, (fun s us hI hl => by match us, hl with | [_, _], _ => exact binds_K hI rfl dl11 rfl rfl rfl), (fun s us hI hl => have hl2 : us.length = 1 := (by simpa using hl); match us, hl2 with | [_], _ => binds_K hI rfl dl11 rfl rfl rfl), (fun s u v hI => binds_K hI rfl dl11 rfl rfl rfl), F12.F, (F12.F.b3 fun _ _ _ _ _ _ _ _ _ => rfl), ⟨F12.a, F12.i, F12.F.kp⟩, F13.F, (F13.F.b2 fun _ _ _ _ _ _ _ _ => rfl), ⟨F13.a, F13.i, F13.F.kp⟩, F14.F, (F14.F.b3 fun _ _ _ _ _ _ _ _ _ => rfl), ⟨F14.a, F14.i, F14.F.kp⟩, F15.F, (F15.F.b3 fun _ _ _ _ _ _ _ _ _ => rfl), ⟨F15.a, F15.i, F15.F.kp⟩, F16.F, (F16.F.b2 fun _ _ _ _ _ _ _ _ => rfl), ⟨F16.a, F16.i, F16.F.kp⟩, F17.F, (F17.F.b1 fun _ _ _ _ _ _ _ => rfl), ⟨F17.a, F17.i, F17.F.kp⟩, F18, (fun s us hI hl => by match us, hl with | [_, _], _ => exact binds_K hI rfl dl18 rfl rfl rfl), (fun s us hI hl => have hl2 : us.length = 1 := (by simpa using hl); match us, hl2 with | [_], _ => binds_K hI rfl dl18 rfl rfl rfl), (fun s u v hI => binds_K hI rfl dl18 rfl rfl rfl), F19.F, (F19.F.b3 fun _ _ _ _ _ _ _ _ _ => rfl), ⟨F19.a, F19.i, F19.F.kp⟩, F20.F, (F20.F.b2 fun _ _ _ _ _ _ _ _ => rfl), ⟨F20.a, F20.i, F20.F.kp⟩, F21.F, (F21.F.b2 fun _ _ _ _ _ _ _ _ => rfl), ⟨F21.a, F21.i, F21.F.kp⟩, F22.F, (F22.F.b2 fun _ _ _ _ _ _ _ _ => rfl), ⟨F22.a, F22.i, F22.F.kp⟩, F23.F, (F23.F.b3 fun _ _ _ _ _ _ _ _ _ => rfl), ⟨F23.a, F23.i, F23.F.kp⟩, F24.F, (F24.F.b3 fun _ _ _ _ _ _ _ _ _ => rfl), ⟨F24.a, F24.i, F24.F.kp⟩, F25.F, (F25.F.b1 fun _ _ _ _ _ _ _ => rfl), ⟨F25.a, F25.i, F25.F.kp⟩, F26.F, (F26.F.b1 fun _ _ _ _ _ _ _ => rfl), ⟨F26.a, F26.i, F26.F.kp⟩, F27.F, (F27.F.b3 fun _ _ _ _ _ _ _ _ _ => rfl), ⟨F27.a, F27.i, F27.F.kp⟩, F28.F, (F28.F.b2 fun _ _ _ _ _ _ _ _ => rfl), ⟨F28.a, F28.i, F28.F.kp⟩, F29.F, (F29.F.b1 fun _ _ _ _ _ _ _ => rfl), ⟨F29.a, F29.i, F29.F.kp⟩, F30.F, (F30.F.b2 fun _ _ _ _ _ _ _ _ => rfl), ⟨F30.a, F30.i, F30.F.kp⟩, F31.F, (F31.F.b2 fun _ _ _ _ _ _ _ _ => rfl), ⟨F31.a, F31.i, F31.F.kp⟩, F32.F, (F32.F.b2 fun _ _ _ _ _ _ _ _ => rfl), (mg_of X G F32.a), F33.F, (F33.F.b1 fun _ _ _ _ _ _ _ => rfl), (mg_of X G F33.a), F34.F, (F34.F.b2 fun _ _ _ _ _ _ _ _ => rfl), (mg_of X G F34.a), F35.F, (F35.F.b2 fun _ _ _ _ _ _ _ _ => rfl), (mg_of X G F35.a), F36.F, (F36.F.b1 fun _ _ _ _ _ _ _ => rfl), (mg_of X G F36.a), F37.F, (F37.F.b1 fun _ _ _ _ _ _ _ => rfl), (mg_of X G F37.a), F38.F, (F38.F.b1 fun _ _ _ _ _ _ _ => rfl), (mg_of X G F38.a), F39.F, (F39.F.b1 fun _ _ _ _ _ _ _ => rfl), (mg_of X G F39.a), F40.F, (F40.F.b2 fun _ _ _ _ _ _ _ _ => rfl), (mg_of X G F40.a), F41.F, (F41.F.b2 fun _ _ _ _ _ _ _ _ => rfl), (mg_of X G F41.a), F42.F, (F42.F.b2 fun _ _ _ _ _ _ _ _ => rfl), (mg_of X G F42.a), F43.F, (F43.F.b2 fun _ _ _ _ _ _ _ _ => rfl), (mg_of X G F43.a), F44.F, (F44.F.b4 fun _ _ _ _ _ _ _ _ _ _ => rfl), (mg_of X G F44.a), F45, (F45.b1 fun _ _ _ _ _ _ _ => rfl), (mg_of X G a45), ⟨e_Tree.pg, e_Tree.hd, e_Tree.po, e_Tree.sa⟩, (mg_of X G e_Tree.a), ⟨e_Tree.mi, a11, i11, e_Tree.kc⟩, na_Tree_looks, na_Tree_samples, na_Tree_kept_fours, ⟨e_Store.pg, e_Store.hd, e_Store.po, e_Store.sa⟩, (mg_of X G e_Store.a), ⟨e_Store.mi, a18, i18, e_Store.kc⟩, na_Store_tree, na_Store_deeds, na_Store_done, na_Store_watches, e_FourPointsError.ex, ⟨e_FourPointsError.ga, e_FourPointsError.gt, e_FourPointsError.cl, e_FourPointsError.ob, e_FourPointsError.be⟩, (mg_of X G e_FourPointsError.a), e_OutOfTimes.ex, ⟨e_OutOfTimes.ga, e_OutOfTimes.gt, e_OutOfTimes.cl, e_OutOfTimes.ob, e_OutOfTimes.be⟩, (mg_of X G e_OutOfTimes.a), e_NoSample.ex, ⟨e_NoSample.ga, e_NoSample.gt, e_NoSample.cl, e_NoSample.ob, e_NoSample.be⟩, (mg_of X G e_NoSample.a), ZV, ZX, Ze, Zd, Zj, Zl, ZG, ZY, Zi, Zk, Zo, ZR, (mg_of X G ac_TOP_LEVEL), (mg_of X G ac_TIMES_END), (mg_none_of X G Yv), (mg_none_of X G ZAv), (mg_none_of X G Ja), (mg_none_of X G JD), (mg_none_of X G ZI), (mg_none_of X G JE), (mg_none_of X G ZAI), (mg_none_of X G ZAG), (mg_none_of X G ZAF), (mg_none_of X G YU), (mg_none_of X G Z6), (mg_none_of X G Z1)⟩
  exact ⟨fnOf "law" "law" (ZCa ZDY) (ZCP ZDY) (ZBv ZDY) .none kV45 dc45 pm45 an45 cd45 ct45, fun s v => .of_eq rfl, fun base _ _ => ZRN T⟩
theorem walk {l : W.OpenLaw} {q : Program} {loose : List Str} {XP : (Str -> Option Value) -> Heap -> Prop} {YP : World -> Heap -> Prop} {d : DefRec} {K : Params -> W.Frag} (hn : l.most = some 63) (hdf : d.params.defaults = [])
  (hY : ∀ (w : World) (h : Heap), YP w h -> (K w.params).In h)
  (F : ∀ (w : World) (mg : Str -> Option Value) (fa : Addr) (h : Heap), (K w.params).In h -> h.Ns mainGlobals mg -> mg d.name = some (.ref fa) ->
   ∃ fd : FuncData, (∀ (s : Shared) (u : Value), BindsTo s fd ⟨[u], []⟩ [("_law_script", u)]) /\ ∀ base : Heap, (K w.params).In base -> base.Ns mainGlobals mg -> ZB2 l.prog w (K w.params) mg base CX0 10 fa fd ["_law_script"] (ZIL (K w.params))) :
  W.WalkO q loose XP YP l.row.toRowW d [] (fun f vs => PySem.call f vs) :=
 L2.walk_of (n := 63) (k := 10) (x := "_law_script") (CX := fun _ => CX0) (sp := fun w => ZIL (K w.params)) hn (by decide) hdf ⟨rfl, by decide, by decide, rfl⟩ hY F (fun _ _ a ns hl _ hS => ⟨a, ns, rfl, hS, hl, fun _ => rfl⟩) fun _ _ _ _ _ z => z
end My
local macro_rules | `(tactic| walk_at "e") => `(tactic| (refine' ⟨?a, ?b, ?c, ?d, ?e, ?f, ?g⟩; (case a => k_is); (case b => k_exc); (case c => k_is); (case d => k_is); (case e => k_is); (case f => k_is); (case g => k_is)))
local macro_rules | `(tactic| walk_at "c") => `(tactic| (refine' ⟨?a, ?b, ?c, ?d, ?e, ?f, ?g⟩; (case a => k_is); (case b => k_is); (case c => k_is); (case d => k_is); (case e => k_is); (case f => k_is); (case g => k_is)))
local macro_rules | `(tactic| walk_at "f") => `(tactic| (refine' ⟨?a, L2.fun_mk ?b ?c ?d⟩; (case a => k_is); (case b => k_is); (case c => k_is); (case d => k_is)))
local macro_rules | `(tactic| walk_at "m") => `(tactic| (refine' ⟨?a, ?b, L2.fun_mk ?c ?d ?e⟩; (case a => k_is); (case b => k_is); (case c => k_is); (case d => k_is); (case e => k_is)))
namespace PySem.W.Fast
def tw16611393787733633442:=()
def tw16885294553616120419:=()
def tw2160783356388041797:=()
def tw15924880349748778311:=()
def tw14061058638469758569:=()
def tw12756481891201226379:=()
def tw270126657342541900:=()
def tw8238220002861818284:=()
def tw17141974489625235598:=()
def tw12959763674575519406:=()
def tw4837019963592525680:=()
def tw12383961723250705106:=()
def tw4576667332645723834:=()
def tw12493985364471434975:=()
def tw10783924159492721709:=()
def tw6113491183903546201:=()
def tw14099250372702084465:=()
def tw15766006994125464894:=()
def tw3309667783698196233:=()
def tw12784896787592772215:=()
def tw17077496958673297085:=()
def tw11464764133822104781:=()
def tw9921619837754789340:=()
def tw3917547469277301124:=()
def tw12344043501618880313:=()
def tw7425448738436486975:=()
def tw14482998092686527750:=()
def tw16747298990953677850:=()
def tw12641125344376228902:=()
def tw13021936326429830657:=()
def tw14388354737712979287:=()
def tw3928427995679108088:=()
def tw8744984776215496099:=()
def tw16954615879612047103:=()
def tw17683660077562276511:=()
def tw8729391840873752135:=()
def tw17556510660088884992:=()
def tw3229568161342420579:=()
def tw389618395421915474:=()
def tw14232405078807017705:=()
def tw14647623611617826202:=()
def tw14237812183097917518:=()
def tw3056989256017569085:=()
def tw6456848055570044381:=()
def tw12326237319537162537:=()
def tw3600641967455638785:=()
def tw16579724423982197460:=()
def tw11408117565892268626:=()
def tw9592223423202099298:=()
def tw16344572537170684131:=()
def tw5279569470493642285:=()
def tw12630783077817415272:=()
def tw17943934381009546407:=()
def tw5366497084464520041:=()
def tw13396797244585543950:=()
def tw801058539077190108:=()
def tw15842524365641867215:=()
def tw10159007669112978575:=()
def tw4161297896070960973:=()
def tw5498079902951412549:=()
def tw16919026180411565753:=()
def tw5105936559866509512:=()
def tw14166702485158955108:=()
def tw9608305707852254841:=()
def tw17873918234983911384:=()
def tw14213403277936105212:=()
def tw7784441039884817029:=()
def tw884108332017276458:=()
def tw12732140085147505145:=()
def tw13887506146545748312:=()
def tw5245922189798044558:=()
def tw14682375559969567578:=()
def tw12497311777480511366:=()
def tw12978317403210220783:=()
def tw12379452032692343560:=()
def tw988821819238418738:=()
def tw10466552495090108279:=()
def tw9720161362779766293:=()
def tw12344869442701362852:=()
def tw501922462602099889:=()
def tw10540511378748677627:=()
def tw11181754138581347457:=()
def tw9732574339558589575:=()
def tw4553496860912334652:=()
def tw4318517332149740724:=()
def tw5626685537353099327:=()
def tw13340323582683580063:=()
def tw2783122154248884803:=()
def tw607385425936956847:=()
def tw8363454124335551141:=()
def tw1485702500441517783:=()
def tw13393384908215578508:=()
def tw3414809473988483522:=()
def tw16951693555751802407:=()
def tw17743306022338454820:=()
def tw16497126546427817029:=()
def tw11353609270064303120:=()
def tw95638602907809460:=()
def tw11722855297741327128:=()
def tw11148146318834879044:=()
def tw6070009381553984126:=()
def tw5021961008877153855:=()
def tw3043121518154028967:=()
def tw5486850104404330412:=()
def tw17268609473082412602:=()
def tw265851029863588696:=()
def tw355456497966060406:=()
def tw2477961752986876027:=()
def tw14655730567891698072:=()
def tw6111256121819773925:=()
def tw3686930263498984539:=()
def tw18276466660270403062:=()
def tw5575385910905841310:=()
def tw12645468746990155656:=()
def tw11063474000068221537:=()
def tw16692203285158984554:=()
def tw1221662470505683052:=()
def tw16991529653761362086:=()
def tw15534219888112150421:=()
def tw2664175928074770947:=()
def tw18330372248467159759:=()
def tw215286414792159138:=()
def tw5717834758770688471:=()
def tw6994983004222498696:=()
def tw16953721658590667676:=()
def tw12615606940885261472:=()
def tw8097391127952876034:=()
def tw7983869746795702057:=()
def tw1078362482704842042:=()
def tw3660382526542101929:=()
def tw13643130485879464787:=()
def tw2901947781152681164:=()
def tw7090454487005871706:=()
def tw16019489551276050255:=()
def tw5658121932859188589:=()
def tw11872720481575781354:=()
def tw17123092803390840100:=()
def tw14475016118429880611:=()
def tw14514877593726263131:=()
end PySem.W.Fast
open PySem PySem.W PyProof.Rows
set_option maxRecDepth 100000 in
set_option maxHeartbeats 0 in
theorem PySem.Challenge.cw_fourpoints_k61_samples_put_and_taken_holds : PySem.Challenge.rw_fourpoints_k61_samples_put_and_taken.Holds := by
 w_on; o_law; k_head; (case hw => w_witness2)
 k_fill
 refine My.walk (l := PySem.Challenge.rw_fourpoints_k61_samples_put_and_taken) rfl rfl (fun w h Y => PySem.W.kIn_of Y) ?F
 case F =>
  intro w mg fa h KX G hmg
  refine' My.all_mk KX G hmg ?taa ?tab ?tac ?tad ?tae ?taf ?tag ?tah ?tai ?taj ?tak ?tal ?tam ?tan ?tao ?tap ?taq ?tar ?tas ?tat ?tau ?tav ?taw ?tax ?tay ?taz ?tba ?tbb ?tbc ?tbd ?tbe ?tbf ?tbg ?tbh ?tbi ?tbj ?tbk ?tbl ?tbm ?tbn ?tbo ?tbp ?tbq ?tbr ?tbs ?tbt ?tbu ?tbv ?tbw ?tbx ?tby ?tbz ?tca ?tcb ?tcc ?tcd ?tce ?tcf ?tcg ?tch ?tci ?tcj ?tck ?tcl ?tcm ?tcn ?tco ?tcp ?tcq ?tcr ?tcs ?tct ?tcu ?tcv ?tcw ?tcx ?tcy ?tcz ?tda ?tdb ?tdc ?tdd ?tde ?tdf ?tdg ?tdh ?tdi ?tdj ?tdk ?tdl ?tdm ?tdn ?tdo ?tdp ?tdq ?tdr ?tds
  (case taa | tab | tac => walk_at "e")
  (case tad => k_is)
  (case tae => kit_is)
  (case taf => k_is)
  (case tag => kit_is)
  (case tah => k_is)
  (case tai => kit_is)
  (case taj => k_is)
  (case tak => kit_is)
  (case tal => k_is)
  (case tam => kit_is)
  (case tan => k_is)
  (case tao => kit_is)
  (case tap => walk_at "c")
  (case taq | tar | tas => k_is)
  (case tat => walk_at "c")
  (case tau | tav | taw | tax => k_is)
  (case tay | taz | tba | tbb | tbc | tbd | tbe | tbf | tbg | tbh | tbi => walk_at "f")
  (case tbj | tbk | tbl | tbm | tbn | tbo => k_is)
  (case tbp | tbq | tbr | tbs | tbt | tbu => walk_at "m")
  (case tbv | tbw | tbx | tby | tbz | tca => k_is)
  (case tcb | tcc | tcd | tce | tcf | tcg | tch | tci | tcj | tck | tcl | tcm | tcn => walk_at "m")
  (case tco | tcp | tcq | tcr | tcs | tct | tcu | tcv | tcw | tcx | tcy | tcz | tda => walk_at "f")
  (case tdb | tdc | tdd | tde | tdf | tdg | tdh | tdi | tdj | tdk | tdl | tdm | tdn | tdo | tdp | tdq | tdr | tds => k_is)
