import PyProof.Rows.All
import Wide.All
import OpenK.AllK
import Wide.FinOn
import Lean
import PyProof.EqAt
import PyProof.EqKinds
import PyProof.TupleCall
import KE.KSortTup
import PyProof.CollectWalk
import PyProof.DictWalks
import PyProof.Rows.SortWalk
import KE.KItemsList
import PyProof.ReprText
import PyProof.Rows.StrIntSpec
import PyProof.RowDictHeap
import KE.KRevIter
import KE.KMinKey
import PyProof.P3In
import KE.KIntText
import PyProof.StrLawsTight
import PyProof.StrWalks
import PyProof.ListRange
import PyProof.DictValues
import PyProof.Rows.SortStr
import KE.KDictLaws
import PyProof.Rows.SortRuns
import PyProof.Rows.SortIns
import PySem.Challenge.RW_fourpoints_k31_four_of_a_curve
set_option Elab.async false
set_option linter.all false
set_option maxRecDepth 100000
set_option maxHeartbeats 4000000
-- CHANGE: your row's module here, as the last of these rows
abbrev L2.PL := List (Int × Int)
open PySem renaming wpAny_bind → Ua, wpAny_pure → Us, wpAny_mono → UC, wpAny_holding → UG
open PySem.Heap renaming get?_push_of_some → Ub, lt_size → Uh, get?_push_size → Uj, get?_update_other → Ul
open List renaming getElem?_eq_getElem → Uc, size_toArray → Uf, getElem?_eq_some_iff → Ui, mem_append_right → Um, length_map → Uo, mem_cons_of_mem → Ur, mem_of_getElem? → Ut, nodup_iff_pairwise_ne → Uu, getD_eq_getElem?_getD → Uv, pairwise_iff_getElem → Ux, mem_cons_self → Uy, mem_cons → UA, range → UB, map_cons → UE, getElem?_map → UH, length_append → UK, getElem?_append_right → UL, getElem_of_mem → UM, length_take → UO, pairwise_map → UQ, append_assoc → UR, mem_append → UT
open Nat renaming le_refl → Ud, lt_of_lt_of_le → Ue, ne_of_lt → Uz, le_trans → UF, zero_le → UI
open Array renaming length_toList → Ug, toList_append → Uq, perm_iff_toList_perm → UD, toList_reverse → UJ, getElem?_toList → UN, size_extract → UP, toList_push → US
open Bool renaming false_eq_true → Uk, false_ne_true → Uw
namespace L2
open PySem PySem.Spec PyProof.Rows
abbrev Key := Sum Int Str
def ZAN : Key -> Value -> Bool
 | .inl k, v => Value.isInt k v
 | .inr x, v => Value.isStrOf x v
def ZIQ (w : World) : Key -> Int
 | .inl k => hashInt k
 | .inr x => hashStr w x
theorem YU : ∀ {k : Key} {v : Value}, ZAN k v = true -> (∃ i t, k = Sum.inl i /\ v = Value.int i t) \/ (∃ x t, k = Sum.inr x /\ v = Value.str x t)
 | .inl i, v, h => by
  obtain ⟨t, e⟩ := Value.isInt_shape (k := i) (v := v) h
  exact .inl ⟨i, t, rfl, e⟩
 | .inr x, v, h => by
  obtain ⟨t, e⟩ := Value.isStrOf_shape (x := x) (v := v) h
  exact .inr ⟨x, t, rfl, e⟩
theorem ZDu (i : Int) (t : Tok) : ZAN (.inl i) (.int i t) = true := by simp [ZAN, Value.isInt]
theorem ZDv (x : Str) (t : Tok) : ZAN (.inr x) (.str x t) = true := by simp [ZAN, Value.isStrOf]
theorem ZGw (a b : Int) : decide ((Sum.inl a : Key) = Sum.inl b) = (a == b) := by
 by_cases e : a = b
 ·subst e; simp
 ·have h : ¬ (Sum.inl a : Key) = Sum.inl b := fun q => e (Sum.inl.inj q)
  rw [decide_eq_false h]
  exact (beq_eq_false_iff_ne.mpr e).symm
theorem ZGx (a b : Str) : decide ((Sum.inr a : Key) = Sum.inr b) = decide (a = b) := by
 by_cases e : a = b
 ·subst e; simp
 ·have h : ¬ (Sum.inr a : Key) = Sum.inr b := fun q => e (Sum.inr.inj q)
  rw [decide_eq_false h, decide_eq_false e]
theorem ZGy (a : Int) (b : Str) : decide ((Sum.inl a : Key) = Sum.inr b) = false := decide_eq_false (fun q => nomatch q)
theorem ZGz (a : Str) (b : Int) : decide ((Sum.inr a : Key) = Sum.inl b) = false := decide_eq_false (fun q => nomatch q)
def YW (prog : Program) (w : World) : PySem.KeyKind prog w Key where
 is := ZAN
 hash := ZIQ w
 inj := fun v a b ha hb => by
  rcases YU ha with ⟨i, t, rfl, rfl⟩ | ⟨x, t, rfl, rfl⟩
  ·rcases YU hb with ⟨j, u, rfl, e⟩ | ⟨y, u, rfl, e⟩
   ·injection e with e1 _; rw [e1]
   ·exact nomatch e
  ·rcases YU hb with ⟨j, u, rfl, e⟩ | ⟨y, u, rfl, e⟩
   ·exact nomatch e
   ·injection e with e1 _; rw [e1]
 byValue := fun k v h => by
  rcases YU h with ⟨i, t, rfl, rfl⟩ | ⟨x, t, rfl, rfl⟩ <;> rfl
 pyHash := fun hv h => by
  rcases YU hv with ⟨i, t, rfl, rfl⟩ | ⟨x, t, rfl, rfl⟩
  ·exact wpAny_pyHash_int h
  ·exact wpAny_pyHash_str h
 eqBool := fun hu hv h => by
  rcases YU hu with ⟨i, t, rfl, rfl⟩ | ⟨x, t, rfl, rfl⟩
  ·rcases YU hv with ⟨j, u, rfl, rfl⟩ | ⟨y, u, rfl, rfl⟩
   ·rw [ZGw] at h; exact wpAny_eqBool_int h
   ·rw [ZGy] at h; exact SeqAt.EqAt.int_str i t y u _ _ _ _ h
  ·rcases YU hv with ⟨j, u, rfl, rfl⟩ | ⟨y, u, rfl, rfl⟩
   ·rw [ZGz] at h; exact SeqAt.EqAt.str_int x t j u _ _ _ _ h
   ·rw [ZGx] at h; exact wpAny_eqBool_str h
 «strs» := fun k x t v h => by
  rcases YU h with ⟨i, u, rfl, e⟩ | ⟨y, u, rfl, e⟩
  ·exact nomatch e
  ·injection e with e1 _
   subst e1
   cases v <;> rfl
theorem ZCZ (prog : Program) (w : World) (i : Int) (t : Tok) : (YW prog w).is (.inl i) (.int i t) = true := ZDu i t
theorem ZCa (prog : Program) (w : World) (x : Str) (t : Tok) : (YW prog w).is (.inr x) (.str x t) = true := ZDv x t
inductive V where
 | non | bl (b : Bool) | int (i : Int) | str (x : Str) | byt (b : Array UInt8) | flt (b : UInt64) | ref (a : Addr) | ty (n : String)
 deriving DecidableEq
def YE : V -> Value -> Prop
 | .non, u => u = Value.none
 | .bl b, u => u = Value.bool b
 | .int i, u => ∃ t, u = Value.int i t
 | .str x, u => ∃ t, u = Value.str x t
 | .byt b, u => ∃ t, u = Value.bytes b t
 | .flt b, u => ∃ t, u = Value.float b t
 | .ref a, u => u = Value.ref a
 | .ty n, u => u = Value.type n
abbrev YB : List V -> List Value -> Prop := Paired YE
theorem YB.length {xs : List V} {us : List Value} (r : YB xs us) : xs.length = us.length := Paired.length r
theorem YB.get : ∀ {xs : List V} {us : List Value} {i : Nat} {x : V}, YB xs us -> xs[i]? = some x -> ∃ u, us[i]? = some u /\ YE x u
 | _, _, _, _, .nil, e => by simp at e
 | _, _, 0, _, .cons r _, e => by simp at e; subst e; exact ⟨_, rfl, r⟩
 | _, _, i + 1, x, .cons _ t, e => by
  obtain ⟨u, h1, h2⟩ := YB.get (i := i) (x := x) t (by simpa using e)
  exact ⟨u, by simpa using h1, h2⟩
theorem YB.set {x : V} {u : Value} (r : YE x u) : ∀ {xs : List V} {us : List Value} (i : Nat), YB xs us -> YB (xs.set i x) (us.set i u)
 | _, _, _, .nil => .nil
 | _, _, 0, .cons _ t => .cons r t
 | _, _, i + 1, .cons q t => .cons q (YB.set r i t)
theorem YB.append : ∀ {xs ys : List V} {us ws : List Value}, YB xs us -> YB ys ws -> YB (xs ++ ys) (us ++ ws)
 | _, _, _, _, .nil, s => s
 | _, _, _, _, .cons r t, s => .cons r (YB.append t s)
theorem YB.take : ∀ {xs : List V} {us : List Value} (n : Nat), YB xs us -> YB (xs.take n) (us.take n)
 | _, _, 0, _ => .nil
 | _, _, _ + 1, .nil => .nil
 | _, _, n + 1, .cons r t => .cons r (YB.take n t)
theorem YB.drop : ∀ {xs : List V} {us : List Value} (n : Nat), YB xs us -> YB (xs.drop n) (us.drop n)
 | _, _, 0, r => r
 | _, _, _ + 1, .nil => .nil
 | _, _, n + 1, .cons _ t => YB.drop n t
def ZBu : Option V -> Option Value -> Prop
 | some v, some u => YE v u
 | none, none => True
 | _, _ => False
def KV {κ : Type} : List (κ × V) -> List (κ × Value) -> Prop := Paired fun (p : κ × V) (q : κ × Value) => p.1 = q.1 /\ YE p.2 q.2
def kV : Key -> V
 | .inl i => .int i
 | .inr x => .str x
inductive HO where
 | lst (xs : List V)
 | tup (xs : List V)
 | dK (kvs : List (Key × V)) | dT (kvs : List (List Key × V))
 | set (S : Int -> Bool) (n : Nat)
 | ins (C dx : Addr) (fs : List (Str × V))
 | own (x : Addr)
 | xd (fs : List (Str × V))
 | met (f x : Addr)
 | rng (lo hi : Int)
 | frz (o : Obj) (u : HO)
 | tbl (ps : Array Value)
 | ext (φ : Heap -> Prop)
abbrev Hp := Addr -> Option HO
def upd (H : Hp) (a : Addr) (o : HO) : Hp := fun b => if b = a then some o else H b
theorem YQ {H : Hp} {a : Addr} {o : HO} : upd H a o a = some o := by unfold upd; rw [if_pos rfl]
theorem YI {H : Hp} {a b : Addr} {o : HO} (h : b ≠ a) : upd H a o b = H b := by unfold upd; rw [if_neg h]
theorem ZH2 {H : Hp} {a b : Addr} {o u : HO} (h : H a = some o) (h' : H b = some u) (d : o ≠ u) : a ≠ b := by
 intro e; subst e; rw [h] at h'; exact d (Option.some.inj h')
theorem YO {H : Hp} {a b : Addr} {o : HO} (h : H a = some o) (h' : H b = none) : a ≠ b := by
 intro e; subst e; rw [h] at h'; cases h'
section
variable (P : Program) (w : World)
def Ya (H : Hp) (h : Heap) (a : Addr) : HO -> Prop
 | .lst xs => xs.length <= sizeLine /\ ∃ (its : List Value) (n : Nat), YB xs its /\ h.get? a = some { cls := .type "list", data := .seq its.toArray n }
 | .tup xs => (xs.length <= sizeLine /\ ((∀ i : Int, xs.head? ≠ some (.int i)) -> ∃ o, h.get? a = some o /\ o.dict = none /\ o.slots = #[])) /\ ∃ its : List Value, YB xs its /\ IsTup h a its.toArray
 | .dK kvs => kvs.length <= sizeLine /\ (a == sysModules) = false /\ ∃ vs, KV kvs vs /\ h.DictOf (YW P w) a vs
 | .dT kvs => kvs.length <= sizeLine /\ (a == sysModules) = false /\ ∃ xs : List (List Key × Addr × Value),
  Paired (fun (p : List Key × V) (q : List Key × Addr × Value) => p.1 = q.1 /\ H q.2.1 = some (.tup (p.1.map kV)) /\ YE p.2 q.2.2) kvs xs /\
  ∃ o es ep, h.get? a = some o /\ o.ExactDict /\ o.data = .dict es ep /\ es.toList = xs.map (entryOfKey (tupleKind (YW P w))) /\ (xs.map (·.1)).Nodup
 | .set S n => h.SetOf (intKind P w) a S n
 | .ins C dx fs => H dx = some (.own a) /\ fs.length <= 1000 /\ dx ≠ a /\ h.get? a = some (PySem.W.instObj C dx) /\
  ∃ mA, h.Ns1 dx mA /\ (∀ f, ZBu (fs.lookup f) (mA f)) /\ PySem.Within mA (fs.map (·.1))
 | .own _ => ∃ o, h.get? a = some o
 | .xd fs => ∃ mA, h.Ns1 a mA /\ ∀ f, ZBu (fs.lookup f) (mA f)
 | .rng lo hi => ∃ t u v, h.get? a = some { cls := .type "range", data := .fields #[.int lo t, .int hi u, .int 1 v] }
 | .frz o u => h.get? a = some o /\ Ya H h a u
 | .tbl ps => h.get? a = some { cls := .none, data := .fields ps }
 | .met f x => h.get? a = some (PySem.W.methodObj (.ref f) (.ref x))
 | .ext φ => φ h /\ (∃ o, h.get? a = some o) /\ ∀ h1 h2 : Heap, φ h1 -> (∀ o, h1.get? a = some o -> h2.get? a = some o) -> φ h2
def HOk (H : Hp) (h : Heap) : Prop := ∀ a o, H a = some o -> Ya P w H h a o
end
section
variable {P : Program} {w : World} {H H' : Hp} {h h' : Heap} {a : Addr} {o : HO}
theorem Ya.lt (x : Ya P w H h a o) : a < h.objs.size := by
 cases o with
 | lst xs => obtain ⟨_, _, _, _, e⟩ := x; exact Uh e
 | tup xs => obtain ⟨_, _, _, p⟩ := x; exact p.lt
 | dK kvs => obtain ⟨_, _, _, _, o, _, _, e, _⟩ := x; exact Uh e
 | dT kvs => obtain ⟨_, _, _, _, o, _, _, e, _⟩ := x; exact Uh e
 | set S n => obtain ⟨o, _, _, _, e, _⟩ := x; exact Uh e
 | ins C dx fs => obtain ⟨_, _, _, e, _⟩ := x; exact Uh e
 | own y => obtain ⟨_, e⟩ := x; exact Uh e
 | xd fs => obtain ⟨_, ⟨_, _, _, e, _⟩, _⟩ := x; exact Uh e
 | rng lo hi => obtain ⟨_, _, _, e⟩ := x; exact Uh e
 | frz ob u => obtain ⟨e, _⟩ := x; exact Uh e
 | tbl ps => exact Uh (show h.get? a = some _ from x)
 | met f y => exact Uh (show h.get? a = some _ from x)
 | ext φ => obtain ⟨_, ⟨_, e⟩, _⟩ := x; exact Uh e
theorem Paired.mapP {α β : Type} {F G : α -> β -> Prop} : ∀ {l₁ : List α} {l₂ : List β}, Paired F l₁ l₂ -> (∀ a b, F a b -> G a b) -> Paired G l₁ l₂
 | _, _, .nil, _ => .nil
 | _, _, .cons r t, f => .cons (f _ _ r) (Paired.mapP t f)
theorem Ya.stay (x : Ya P w H h a o) (k : ∀ b u, (b = a \/ H b = some (.own a)) -> h.get? b = some u -> h'.get? b = some u)
  (ho : ∀ b, H b = some (.own a) -> H' b = some (.own a)) (ht : ∀ b xs, H b = some (.tup xs) -> H' b = some (.tup xs)) : Ya P w H' h' a o := by
 induction o with
 | lst xs => obtain ⟨z, its, n, r, e⟩ := x; exact ⟨z, its, n, r, k _ _ (.inl rfl) e⟩
 | tup xs =>
  obtain ⟨⟨z, pd⟩, its, r, ob, e, c⟩ := x
  exact ⟨⟨z, fun q => let ⟨od, ed, cd⟩ := pd q; ⟨od, k _ _ (.inl rfl) ed, cd⟩⟩, its, r, ob, k _ _ (.inl rfl) e, c⟩
 | dK kvs => obtain ⟨z, y, vs, r, ob, es, ep, e, c⟩ := x; exact ⟨z, y, vs, r, ob, es, ep, k _ _ (.inl rfl) e, c⟩
 | dT kvs =>
  obtain ⟨z, y, xs, r, ob, es, ep, e, c⟩ := x
  exact ⟨z, y, xs, Paired.mapP r fun p q z => ⟨z.1, ht _ _ z.2.1, z.2.2⟩, ob, es, ep, k _ _ (.inl rfl) e, c⟩
 | set S n => obtain ⟨ob, es, ep, t, e, c⟩ := x; exact ⟨ob, es, ep, t, k _ _ (.inl rfl) e, c⟩
 | ins C dx fs =>
  obtain ⟨d, z, ne, e, mA, ⟨od, es, ep, e2, c⟩, r⟩ := x
  exact ⟨ho _ d, z, ne, k _ _ (.inl rfl) e, mA, ⟨od, es, ep, k _ _ (.inr d) e2, c⟩, r⟩
 | own y => obtain ⟨ob, e⟩ := x; exact ⟨ob, k _ _ (.inl rfl) e⟩
 | xd fs => obtain ⟨mA, ⟨od, es, ep, e, c⟩, r⟩ := x; exact ⟨mA, ⟨od, es, ep, k _ _ (.inl rfl) e, c⟩, r⟩
 | rng lo hi => obtain ⟨t, u, v, e⟩ := x; exact ⟨t, u, v, k _ _ (.inl rfl) e⟩
 | frz ob u ih => obtain ⟨e, q⟩ := x; exact ⟨k _ _ (.inl rfl) e, ih q⟩
 | tbl ps =>
  have e : h.get? a = some { cls := .none, data := .fields ps } := x
  show h'.get? a = some { cls := .none, data := .fields ps }
  exact k a _ (.inl rfl) e
 | met f y =>
  have e : h.get? a = some (PySem.W.methodObj (.ref f) (.ref y)) := x
  show h'.get? a = some (PySem.W.methodObj (.ref f) (.ref y))
  exact k a _ (.inl rfl) e
 | ext φ => obtain ⟨p, ⟨o, e⟩, st⟩ := x; exact ⟨st _ _ p fun o q => k _ _ (.inl rfl) q, ⟨o, k _ _ (.inl rfl) e⟩, st⟩
theorem HOk.lt (x : HOk P w H h) (e : H a = some o) : a < h.objs.size := (x a o e).lt
theorem HOk.fresh (x : HOk P w H h) (e : h.objs.size <= a) : H a = none := by
 cases q : H a with
 | none => rfl
 | some u => exact absurd (Ue (x.lt q) e) (Nat.lt_irrefl _)
theorem HOk.kept (x : HOk P w H h) (k : ∀ b u, h.get? b = some u -> h'.get? b = some u) : HOk P w H h' := fun a o e =>
 (x a o e).stay (fun b u _ q => k b u q) (fun _ q => q) fun _ _ q => q
theorem HOk.laid (x : HOk P w H h) (k : ∀ b u, h.get? b = some u -> h'.get? b = some u) (hp : h.objs.size <= a) (new : Ya P w (upd H a o) h' a o) : HOk P w (upd H a o) h' := fun b u e => by
 have hn := x.fresh hp
 by_cases hb : b = a
 ·subst hb; rw [YQ] at e; cases e; exact new
 ·rw [YI hb] at e
  exact (x b u e).stay (fun c v _ q => k c v q) (fun c q => by rw [YI (YO q hn)]; exact q) fun c xs q => by rw [YI (YO q hn)]; exact q
end
def Rd (H : Hp) (a : Addr) (u : HO) : Prop := H a = some u \/ ∃ o, H a = some (.frz o u)
theorem Rd.ok {P : Program} {w : World} {H : Hp} {h : Heap} {a : Addr} {u : HO} (r : Rd H a u) (x : HOk P w H h) : Ya P w H h a u := by
 rcases r with r | ⟨o, r⟩
 ·exact x a u r
 ·obtain ⟨_, q⟩ := x a _ r
  exact q
def Mut : Option HO -> Prop
 | some (.lst _) => True
 | some (.dK _) => True
 | some (.dT _) => True
 | some (.set _ _) => True
 | some (.ins _ _ _) => True
 | some (.ext _) => True
 | _ => False
section
variable {P : Program} {w : World} {H : Hp} {h h' : Heap} {x e : Addr} {o' : HO}
theorem HOk.write (ok : HOk P w H h) (mu : Mut (H x)) (he : e = x \/ H e = some (.own x)) (k : ∀ b u, b ≠ e -> h.get? b = some u -> h'.get? b = some u) (heo : ∃ u, h'.get? e = some u)
  (new : Ya P w (upd H x o') h' x o') : HOk P w (upd H x o') h' := fun b u q => by
 have nown : ∀ c y, H c = some (.own y) -> c ≠ x := fun c y r z => by subst z; rw [r] at mu; exact mu
 have ntup : ∀ c xs, H c = some (.tup xs) -> c ≠ x := fun c xs r z => by subst z; rw [r] at mu; exact mu
 by_cases hb : b = x
 ·subst hb; rw [YQ] at q; cases q; exact new
 ·rw [YI hb] at q
  by_cases hbe : b = e
  ·have q' : H b = some (.own x) := by
    rcases he with z | z
    ·exact absurd (hbe.trans z) hb
    ·rw [hbe]; exact z
   rw [q] at q'; cases q'
   obtain ⟨v, hv⟩ := heo
   exact ⟨v, by rw [hbe]; exact hv⟩
  ·refine (ok b u q).stay (fun c v hc r => k c v ?_ r) (fun c r => by rw [YI (nown c b r)]; exact r) fun c xs r => by rw [YI (ntup c xs r)]; exact r
   rcases hc with rfl | hc
   ·exact hbe
   ·rintro rfl
    rcases he with z | z
    ·exact nown c b hc z
    ·rw [hc] at z; cases z; exact hb rfl
end
structure Un (fs ex : List Addr) (H H' : Hp) (h h' : Heap) : Prop where
 keep : ∀ b o, h.get? b = some o -> H b = none -> b ∉ fs -> b ∉ ex -> h'.get? b = some o
 slot : ∀ b o, h.get? b = some o -> H b = none -> b ∈ fs -> b ∉ ex -> ∃ sl, h'.get? b = some { o with slots := sl }
 free : ∀ b o, h.get? b = some o -> H b = none -> b ∉ ex -> H' b = none
 there : ∀ b o, h.get? b = some o -> b ∉ ex -> ∃ o', h'.get? b = some o'
 tups : ∀ b xs, H b = some (.tup xs) -> H' b = some (.tup xs)
 frzs : ∀ b o u, H b = some (.frz o u) -> H' b = some (.frz o u)
 tbls : ∀ b ps, H b = some (.tbl ps) -> ∃ more, H' b = some (.tbl (ps ++ more))
section
variable {fs fs' ex ex' : List Addr} {H H1 H2 : Hp} {h h1 h2 h' : Heap} {a x e : Addr} {o : HO}
theorem Un.any (u : Un fs ex H H1 h h1) {b : Addr} {ob : Obj} (q : h.get? b = some ob) (n : H b = none) (hx : b ∉ ex) : ∃ sl, h1.get? b = some { ob with slots := sl } := by
 by_cases hb : b ∈ fs
 ·exact u.slot b ob q n hb hx
 ·exact ⟨ob.slots, u.keep b ob q n hb hx⟩
theorem Un.kept (k : ∀ b u, h.get? b = some u -> h'.get? b = some u) : Un fs ex H H h h' :=
 ⟨fun b ob q _ _ _ => k b ob q, fun b ob q _ _ _ => ⟨ob.slots, k b ob q⟩, fun _ _ _ n _ => n, fun b ob q _ => ⟨ob, k b ob q⟩, fun _ _ q => q, fun _ _ _ q => q, fun _ ps q => ⟨#[], by rw [q]; simp⟩⟩
theorem Un.refl : Un fs ex H H h h := Un.kept fun _ _ q => q
theorem Un.laid (k : ∀ b u, h.get? b = some u -> h'.get? b = some u) (hp : h.objs.size <= a) (hn : H a = none) : Un fs ex H (upd H a o) h h' where
 keep := fun b u q _ _ _ => k b u q
 slot := fun b u q _ _ _ => ⟨u.slots, k b u q⟩
 free := fun b u q n _ => by rw [YI (Uz (Ue (Uh q) hp))]; exact n
 there := fun b u q _ => ⟨u, k b u q⟩
 tups := fun b xs q => by rw [YI (YO q hn)]; exact q
 frzs := fun b u xs q => by rw [YI (YO q hn)]; exact q
 tbls := fun b ps q => ⟨#[], by rw [YI (YO q hn), q]; simp⟩
theorem Un.write (mu : Mut (H x)) (he : e = x \/ H e = some (.own x)) (k : ∀ b u, b ≠ e -> h.get? b = some u -> h'.get? b = some u) (heo : ∃ u, h'.get? e = some u) : Un fs ex H (upd H x o) h h' := by
 have hx : ∀ b, H b = none -> b ≠ x := fun b n z => by subst z; rw [n] at mu; exact mu
 have hb : ∀ b, H b = none -> b ≠ e := fun b n z => by
  subst z
  rcases he with r | r
  ·exact hx b n r
  ·rw [n] at r; cases r
 have hm : ∀ b u, H b = some u -> ¬ Mut (some u) -> b ≠ x := fun b u q nm z => by subst z; rw [q] at mu; exact nm mu
 refine ⟨fun b u q n _ _ => k b u (hb b n) q, fun b u q n _ _ => ⟨u.slots, k b u (hb b n) q⟩, fun b u q n _ => by rw [YI (hx b n)]; exact n, fun b u q _ => ?_,
  fun b xs q => by rw [YI (hm b _ q fun z => z)]; exact q, fun b u xs q => by rw [YI (hm b _ q fun z => z)]; exact q, fun b ps q => ⟨#[], by rw [YI (hm b _ q fun z => z), q]; simp⟩⟩
 by_cases hbe : b = e
 ·subst hbe; exact heo
 ·exact ⟨u, k b u hbe q⟩
end
def trk (h : Heap) (H : Hp) : List Addr := (UB h.objs.size).filter fun a => (H a).isSome
def Jq (h : Heap) (H : Hp) : Heap := PySem.W.hideAll h (trk h H)
theorem ZDw (h : Heap) (H : Hp) : (Jq h H).objs.size = h.objs.size := PySem.W.hideAll_size _ _
theorem ZEq {h : Heap} {H : Hp} {b : Addr} {o : Obj} (e : h.get? b = some o) (n : H b = none) : (Jq h H).get? b = some o :=
 PySem.W.hideAll_get _ e fun hm => by
  have q : (H b).isSome = true := (List.mem_filter.mp hm).2
  rw [n] at q; simp at q
theorem ZF5 {h : Heap} {H : Hp} {b : Addr} {o : Obj} (e : (Jq h H).get? b = some o) : h.get? b = some o /\ H b = none := by
 have e' : h.get? b = some o := PySem.W.of_hideAll (trk h H) e
 refine ⟨e', ?_⟩
 cases q : H b with
 | none => rfl
 | some x =>
  have hm : b ∈ trk h H := List.mem_filter.mpr ⟨List.mem_range.mpr (Uh e'), by simp [q]⟩
  have z : (Jq h H).get? b = none := PySem.W.hideAll_none (trk h H) hm
  rw [z] at e; cases e
def ZF6 (g h : Heap) (L : Addr) : List (Addr × Obj) := (UB h.objs.size).filterMap fun a => if a = L \/ (g.get? a).isSome = true then none else (h.get? a).map fun o => (a, o)
def Y1 (g h : Heap) (L d : Addr) : List (Addr × Obj) := (ZF6 g h L).filter fun p => decide (p.1 ≠ d)
structure Mod (K : W.Frag) (mg : Str -> Option Value) (base : Heap) : Prop where
 kin : K.In base
 glob : base.Ns mainGlobals mg
 blt : ∃ mb, base.Ns builtinsNs mb /\ ∀ x : Str, x ≠ "__name__" -> mb x = bootBuiltins x
 nolimit : base.NoLimit
structure Cx where
 prog : Program
 w : World
 K : W.Frag
 mg : Str -> Option Value
 base : Heap
 A : Around
 N : List Str
 s₀ : Shared
 H₀ : Hp
 env : Env
 outer : List Env
 stack : List Env
 ex : List Addr
 fn : Str -> Bool
 calm : Bool
 pn : List (Addr × Obj)
 xe : Value -> Shared -> Prop
def frs (l : List Env) : List Addr := l.filterMap (·.frame)
abbrev Cx.fs (X : Cx) : List Addr := frs X.outer
def Vis (sc : Scope) (x : Str) : Prop := sc.names.lookup x = some .local \/ sc.names.lookup x = some .cell \/ sc.names.lookup x = some .free
def Loc (sc : Scope) (x : Str) : Prop := sc.names.lookup x = some .local \/ sc.names.lookup x = some .cell
def ZIR (env : Env) (h : Heap) (m : Str -> Option Value) (x : Str) (u : Value) : Prop :=
 (env.kindOf x = some .local /\ m x = some u) \/ ((env.kindOf x = some .cell \/ env.kindOf x = some .free) /\ ∃ c, env.cells.lookup x = some c /\ h.IsCell c (some u))
structure Cx.Ok (X : Cx) : Prop where
 mod : Mod X.K X.mg X.base
 kind : X.env.scope.kind = .function
 glob : X.env.globals = mainGlobals
 blt : X.env.builtins = builtinsNs
 above : X.s₀.heap.objs.size <= X.env.locals
 inj : ∀ x y c, X.env.cells.lookup x = some c -> X.env.cells.lookup y = some c -> x = y
 has : ∀ x, (X.env.kindOf x = some .cell \/ X.env.kindOf x = some .free) -> ∃ c, X.env.cells.lookup x = some c
 cab : ∀ x c, X.fn x = true -> X.env.cells.lookup x = some c -> X.s₀.heap.objs.size <= c
 hd : X.calm = true -> X.A.handled = none
 frames : X.A.frames = some X.stack
 stk : X.stack = X.outer \/ (X.stack = X.env :: X.outer /\ X.env.frame = some X.env.locals)
 exf : ∀ b ∈ X.ex, b ≠ X.env.locals /\ ∀ x c, X.env.cells.lookup x = some c -> c ≠ b
 bs : ∀ b o, X.base.get? b = some o -> X.s₀.heap.get? b = some o /\ X.H₀ b = none
 bsz : X.base.objs.size <= X.s₀.heap.objs.size
 noex : ∀ b o, X.base.get? b = some o -> b ∉ X.ex
 exfs : ∀ b ∈ X.ex, b ∉ X.fs
 funs : X.s₀.heap.FunFrames X.base X.outer
 frf : ∀ b ∈ X.fs, X.H₀ b = none
structure Inv (X : Cx) (pins : List (Addr × Obj)) (U : List (Option V)) (H : Hp) (s : Shared) : Prop where
 ok : X.Ok
 os : s.os = X.s₀.os
 bare : AllBare s.gens
 base : Un X.fs X.ex X.H₀ H X.s₀.heap s.heap
 loc : ∃ m, s.heap.Ns X.env.locals m /\ ∀ (i : Nat) (x : Str) (v : V), X.N[i]? = some x -> U[i]? = some (some v) -> Vis X.env.scope x -> ∃ u, YE v u /\ ZIR X.env s.heap m x u
 cell : ∀ x c, X.env.cells.lookup x = some c -> ∃ v, s.heap.IsCell c v
 free : H X.env.locals = none
 freeC : ∀ x c, X.env.cells.lookup x = some c -> H c = none
 pin : ∀ p ∈ X.pn ++ pins, s.heap.get? p.1 = some p.2 /\ H p.1 = none /\ p.1 ≠ X.env.locals /\ p.1 ∉ X.fs /\ ∀ v, p.2.data ≠ .cell v
 hok : HOk X.prog X.w H s.heap
 len : U.length = X.N.length
section
variable {X : Cx} {pins : List (Addr × Obj)} {U : List (Option V)} {H H' : Hp} {s : Shared} {h' : Heap}
theorem Cx.Ok.nofr (ok : X.Ok) {b : Addr} {o : Obj} (e : X.base.get? b = some o) : b ∉ X.fs := fun hb => by
 have := (ok.funs.mem hb).1
 rw [e] at this; cases this
theorem Inv.bs (I : Inv X pins U H s) : ∀ b o, X.base.get? b = some o -> s.heap.get? b = some o /\ H b = none := fun b o e =>
 ⟨I.base.keep b o (I.ok.bs b o e).1 (I.ok.bs b o e).2 (I.ok.nofr e) (I.ok.noex b o e), I.base.free b o (I.ok.bs b o e).1 (I.ok.bs b o e).2 (I.ok.noex b o e)⟩
theorem Inv.bk (I : Inv X pins U H s) : ∀ b o, X.base.get? b = some o -> s.heap.get? b = some o := fun b o e => (I.bs b o e).1
theorem Inv.mod (I : Inv X pins U H s) : Mod X.K X.mg X.base := I.ok.mod
theorem Inv.kIn (I : Inv X pins U H s) : X.K.In s.heap := I.ok.mod.kin.keeps I.bk
theorem Inv.lt (I : Inv X pins U H s) : X.env.locals < s.heap.objs.size := let ⟨_, hn, _⟩ := I.loc; hn.lt
theorem Inv.sz (I : Inv X pins U H s) : X.s₀.heap.objs.size <= s.heap.objs.size := UF I.ok.above (Nat.le_of_lt I.lt)
theorem Inv.nofs (I : Inv X pins U H s) {a : Addr} (h : s.heap.objs.size <= a) : a ∉ X.fs := fun hb => by
 obtain ⟨_, o, ho, _⟩ := I.ok.funs.mem hb
 exact absurd (Ue (Uh ho) (UF I.sz h)) (Nat.lt_irrefl _)
theorem Inv.cne (I : Inv X pins U H s) : ∀ x c, X.env.cells.lookup x = some c -> c ≠ X.env.locals := fun x c e z => by
 obtain ⟨v, o, ho, hd⟩ := I.cell x c e
 obtain ⟨m, ⟨o', es, ep, ho', hd', _⟩, _⟩ := I.loc
 rw [z, ho'] at ho; cases ho; rw [hd'] at hd; cases hd
theorem Inv.funs (I : Inv X pins U H s) : s.heap.FunFrames X.base X.outer := by
 have all : ∀ (l : List Env), (∀ b ∈ frs l, b ∈ X.fs) -> X.s₀.heap.FunFrames X.base l -> s.heap.FunFrames X.base l := by
  intro l
  induction l with
  | nil => intro _ _; trivial
  | cons env r ih =>
   intro hs hl
   obtain ⟨hk, ⟨L, o, hf, hn, ho, hd⟩, hr⟩ := hl
   have hL : L ∈ X.fs := hs L (by unfold frs; rw [List.filterMap_cons, hf]; exact Uy)
   obtain ⟨sl, e⟩ := I.base.slot L o ho (I.ok.frf L hL) hL fun z => I.ok.exfs L z hL
   exact ⟨hk, ⟨L, _, hf, hn, e, hd⟩, ih (fun b hb => hs b (by unfold frs; rw [List.filterMap_cons, hf]; exact Ur _ hb)) hr⟩
 exact all X.outer (fun _ hb => hb) I.ok.funs
theorem Inv.stack (I : Inv X pins U H s) : s.heap.FunFrames X.base X.stack := by
 rcases I.ok.stk with e | ⟨e, hf⟩
 ·rw [e]; exact I.funs
 ·rw [e]
  obtain ⟨m, hn, _⟩ := I.loc
  refine .cons (by rw [I.ok.kind]; decide) hf hn ?_ I.funs
  exact Heap.get?_none_of_le (UF I.ok.bsz I.ok.above)
theorem Inv.stkSub (I : Inv X pins U H s) : ∀ b ∈ frs X.stack, b ∈ X.env.locals :: X.fs := fun b hb => by
 rcases I.ok.stk with e | ⟨e, hf⟩
 ·rw [e] at hb; exact Ur _ hb
 ·rw [e] at hb
  unfold frs at hb
  rw [List.filterMap_cons, hf] at hb
  exact hb
theorem Inv.stkFree (I : Inv X pins U H s) : ∀ b ∈ frs X.stack, H b = none := fun b hb => by
 rcases UA.mp (I.stkSub b hb) with e | hb
 ·rw [e]; exact I.free
 ·obtain ⟨_, o, ho, _⟩ := I.ok.funs.mem hb
  exact I.base.free b o ho (I.ok.frf b hb) fun z => I.ok.exfs b z hb
theorem Inv.step {g' : Array GenState} {t' : Nat} {d' : Drawn} {ch : List Addr} (I : Inv X pins U H s)
  (hch : ∀ b ∈ ch, (b ∈ X.ex \/ X.s₀.heap.objs.size <= b) /\ b ≠ X.env.locals /\ (∀ x c, X.env.cells.lookup x = some c -> c ≠ b) /\ ∀ p ∈ X.pn ++ pins, p.1 ≠ b)
  (keep : ∀ b o, b ≠ X.env.locals -> b ∉ X.fs -> b ∉ ch -> s.heap.get? b = some o -> H b = none -> h'.get? b = some o)
  (slot : ∀ b o, b ≠ X.env.locals -> b ∈ X.fs -> b ∉ ch -> s.heap.get? b = some o -> H b = none -> ∃ sl, h'.get? b = some { o with slots := sl }) (free : ∀ b o, b ∉ ch -> s.heap.get? b = some o -> H b = none -> H' b = none)
  (there : ∀ b o, b ∉ ch -> s.heap.get? b = some o -> ∃ o', h'.get? b = some o')
  (tups : ∀ b xs, H b = some (.tup xs) -> H' b = some (.tup xs)) (frzs : ∀ b o u, H b = some (.frz o u) -> H' b = some (.frz o u)) (tbls : ∀ b ps, H b = some (.tbl ps) -> ∃ more, H' b = some (.tbl (ps ++ more)))
  (ns : ∀ m, s.heap.Ns X.env.locals m -> h'.Ns X.env.locals m) (hok : HOk X.prog X.w H' h') (hg : AllBare g') :
  Inv X pins U H' { s with heap := h', gens := g', drawn := d', toks := t' } := by
 have neL : ∀ b o, X.s₀.heap.get? b = some o -> b ≠ X.env.locals := fun b o e => Uz (Ue (Uh e) I.ok.above)
 have neC : ∀ b o, X.s₀.heap.get? b = some o -> b ∉ X.ex -> b ∉ ch := fun b o e hx hb => by
  rcases (hch b hb).1 with z | z
  ·exact hx z
  ·exact absurd (Ue (Uh e) z) (Nat.lt_irrefl _)
 have cellK : ∀ x c, X.env.cells.lookup x = some c -> ∀ v, s.heap.IsCell c v -> h'.IsCell c v := fun x c e v ⟨o, ho, hd⟩ => by
  have nch : c ∉ ch := fun z => (hch c z).2.2.1 x c e rfl
  by_cases hc : c ∈ X.fs
  ·obtain ⟨sl, q⟩ := slot c o (I.cne x c e) hc nch ho (I.freeC x c e)
   exact ⟨_, q, hd⟩
  ·exact ⟨o, keep c o (I.cne x c e) hc nch ho (I.freeC x c e), hd⟩
 refine ⟨I.ok, I.os, hg, ⟨fun b o e n hb hx => ?_, fun b o e n hb hx => ?_, fun b o e n hx => ?_, fun b o e hx => ?_, fun b xs e => tups b xs (I.base.tups b xs e), fun b o xs e => frzs b o xs (I.base.frzs b o xs e), fun b ps e => ?_⟩, ?_, fun x c e => ?_, ?_, fun x c e => ?_, fun p hp => ?_, hok, I.len⟩
 ·exact keep b o (neL b o e) hb (neC b o e hx) (I.base.keep b o e n hb hx) (I.base.free b o e n hx)
 ·obtain ⟨sl, e1⟩ := I.base.slot b o e n hb hx
  obtain ⟨sl', e2⟩ := slot b _ (neL b o e) hb (neC b o e hx) e1 (I.base.free b o e n hx)
  exact ⟨sl', e2⟩
 ·obtain ⟨o', e1⟩ := I.base.there b o e hx
  exact free b o' (neC b o e hx) e1 (I.base.free b o e n hx)
 ·obtain ⟨o', e1⟩ := I.base.there b o e hx
  exact there b o' (neC b o e hx) e1
 ·obtain ⟨m1, e1⟩ := I.base.tbls b ps e
  obtain ⟨m2, e2⟩ := tbls b _ e1
  exact ⟨m1 ++ m2, by rw [e2, Array.append_assoc]⟩
 ·obtain ⟨m, hn, hl⟩ := I.loc
  refine ⟨m, ns m hn, fun i x v e1 e2 e3 => ?_⟩
  obtain ⟨u, r, l⟩ := hl i x v e1 e2 e3
  refine ⟨u, r, ?_⟩
  rcases l with l | ⟨k, c, e, z⟩
  ·exact .inl l
  ·exact .inr ⟨k, c, e, cellK x c e _ z⟩
 ·obtain ⟨v, z⟩ := I.cell x c e
  exact ⟨v, cellK x c e v z⟩
 ·obtain ⟨m, ⟨o, _, _, ho, _⟩, _⟩ := I.loc
  exact free _ o (fun z => (hch _ z).2.1 rfl) ho I.free
 ·obtain ⟨v, o, ho, hd⟩ := I.cell x c e
  exact free c o (fun z => (hch c z).2.2.1 x c e rfl) ho (I.freeC x c e)
 ·obtain ⟨e, n, ne, nf, d⟩ := I.pin p hp
  have nch : p.1 ∉ ch := fun z => (hch p.1 z).2.2.2 p hp rfl
  exact ⟨keep p.1 p.2 ne nf nch e n, free p.1 p.2 nch e n, ne, nf, d⟩
theorem Inv.un {t' : Nat} (I : Inv X pins U H s) (u : Un X.fs [] H H' s.heap h') (hok : HOk X.prog X.w H' h') : Inv X pins U H' { s with heap := h', toks := t' } := by
 obtain ⟨m, ⟨o, es, ep, ho, r⟩, _⟩ := id I.loc
 obtain ⟨sl, hL⟩ := u.any ho I.free (by simp)
 exact I.step (g' := s.gens) (d' := s.drawn) (ch := []) (fun _ z => nomatch z) (fun b o _ hb _ e n => u.keep b o e n hb (by simp)) (fun b o _ hb _ e n => u.slot b o e n hb (by simp)) (fun b o _ e n => u.free b o e n (by simp)) (fun b o _ e => u.there b o e (by simp)) u.tups u.frzs u.tbls (fun m' hm => by
  obtain ⟨o', es', ep', ho', r'⟩ := hm
  rw [ho] at ho'; cases ho'
  exact ⟨_, es', ep', hL, r'⟩) hok I.bare
theorem Inv.call {g' : Array GenState} {t' : Nat} {d' : Drawn} {ch : List Addr} (I : Inv X pins U H s) (u : Un (frs X.stack) ch H H' s.heap h') (hok : HOk X.prog X.w H' h') (hg : AllBare g')
  (hch : ∀ b ∈ ch, (b ∈ X.ex \/ X.s₀.heap.objs.size <= b) /\ b ≠ X.env.locals /\ (∀ x c, X.env.cells.lookup x = some c -> c ≠ b) /\ ∀ p ∈ X.pn ++ pins, p.1 ≠ b) :
  Inv X pins U H' { s with heap := h', gens := g', drawn := d', toks := t' } := by
 obtain ⟨m, ⟨o, es, ep, ho, r⟩, _⟩ := id I.loc
 obtain ⟨sl, hL⟩ := u.any ho I.free fun z => (hch _ z).2.1 rfl
 exact I.step (ch := ch) hch (fun b o hL hb hc e n => u.keep b o e n (fun z => (UA.mp (I.stkSub b z)).elim hL hb) hc) (fun b o _ _ hc e n => u.any e n hc) (fun b o hc e n => u.free b o e n hc) (fun b o hc e => u.there b o e hc) u.tups u.frzs u.tbls (fun m' hm => by
  obtain ⟨o', es', ep', ho', r'⟩ := hm
  rw [ho] at ho'; cases ho'
  exact ⟨_, es', ep', hL, r'⟩) hok hg
theorem Inv.turned {t' : Nat} {it : Addr} (I : Inv X pins U H s) (k : ∀ b o, b ≠ it -> s.heap.get? b = some o -> h'.get? b = some o) (hn : H it = none) (hL : it ≠ X.env.locals)
  (h1 : it ∈ X.ex \/ X.s₀.heap.objs.size <= it) (h2 : ∀ x c, X.env.cells.lookup x = some c -> c ≠ it) (h3 : ∀ p ∈ X.pn ++ pins, p.1 ≠ it) : Inv X pins U H { s with heap := h', toks := t' } := by
 have nit : ∀ b u, H b = some u -> b ≠ it := fun b u e z => by rw [z, hn] at e; cases e
 refine I.step (g' := s.gens) (d' := s.drawn) (ch := [it]) (fun b hb => ?_) (fun b o _ _ hc e _ => k b o (fun z => hc (by simp [z])) e) (fun b o _ _ hc e _ => ⟨o.slots, k b o (fun z => hc (by simp [z])) e⟩) (fun _ _ _ _ n => n)
  (fun b o hc e => ⟨o, k b o (fun z => hc (by simp [z])) e⟩) (fun _ _ e => e) (fun _ _ _ e => e) (fun b ps e => ⟨#[], by rw [e]; simp⟩) (fun m hm => ?_) (fun b u e => ?_) I.bare
 ·have e : b = it := by simpa using hb
  subst e
  exact ⟨h1, hL, h2, h3⟩
 ·obtain ⟨o, es, ep, ho, r⟩ := hm
  exact ⟨o, es, ep, k _ o (Ne.symm hL) ho, r⟩
 ·refine (I.hok b u e).stay (fun c v hc q => k c v ?_ q) (fun _ q => q) fun _ _ q => q
  rcases hc with z | z
  ·rw [z]; exact nit b u e
  ·exact nit c _ z
theorem Inv.tok (I : Inv X pins U H s) (t : Nat) : Inv X pins U H { s with toks := t } := I.un (h' := s.heap) (t' := t) Un.refl I.hok
theorem Inv.kept {t' : Nat} (I : Inv X pins U H s) (k : ∀ b u, s.heap.get? b = some u -> h'.get? b = some u) : Inv X pins U H { s with heap := h', toks := t' } := I.un (Un.kept k) (I.hok.kept k)
theorem Inv.laid {a : Addr} {o : HO} {t' : Nat} (I : Inv X pins U H s) (k : ∀ b u, s.heap.get? b = some u -> h'.get? b = some u) (hp : s.heap.objs.size <= a) (new : Ya X.prog X.w (upd H a o) h' a o) :
 Inv X pins U (upd H a o) { s with heap := h', toks := t' } := I.un (Un.laid k hp (I.hok.fresh hp)) (I.hok.laid k hp new)
theorem Inv.write {x e : Addr} {o : HO} {t' : Nat} (I : Inv X pins U H s) (mu : Mut (H x)) (he : e = x \/ H e = some (.own x)) (k : ∀ b u, b ≠ e -> s.heap.get? b = some u -> h'.get? b = some u) (heo : ∃ u, h'.get? e = some u)
 (new : Ya X.prog X.w (upd H x o) h' x o) : Inv X pins U (upd H x o) { s with heap := h', toks := t' } := I.un (Un.write mu he k heo) (I.hok.write mu he k heo new)
theorem Inv.pins_of {pins' : List (Addr × Obj)} (I : Inv X pins U H s) (h : ∀ p ∈ pins', s.heap.get? p.1 = some p.2 /\ H p.1 = none /\ p.1 ≠ X.env.locals /\ p.1 ∉ X.fs /\ ∀ v, p.2.data ≠ .cell v) : Inv X pins' U H s :=
 ⟨I.ok, I.os, I.bare, I.base, I.loc, I.cell, I.free, I.freeC, fun p hp => (UT.mp hp).elim (fun z => I.pin p (List.mem_append_left _ z)) (h p), I.hok, I.len⟩
theorem ZBv {N : List Str} (hN : N.Nodup) {i j : Nat} {x : Str} (a : N[i]? = some x) (b : N[j]? = some x) : i = j := by
 obtain ⟨h1, e1⟩ := Ui.mp a
 obtain ⟨h2, e2⟩ := Ui.mp b
 exact (List.getElem_inj hN).mp (e1.trans e2.symm)
theorem ZDx {M : Model} {A : Around} {E : Value -> Shared -> Prop} {i : Nat} {x : Str} {v : V} {u : Value} {Q : Unit -> Shared -> Prop} (I : Inv X pins U H s) (hN : X.N.Nodup) (hi : X.N[i]? = some x) (hx : Loc X.env.scope x) (r : YE v u)
  (h : ∀ s', Inv X pins (U.set i (some v)) H s' -> (∃ a, Heap.SameBut a s.heap s'.heap /\ (a = X.env.locals \/ X.env.cells.lookup x = some a)) -> Q () s') (hf : X.fn x = true \/ X.env.scope.names.lookup x = some .local := by first | exact .inl rfl | exact .inr rfl | assumption) : wpAny M A (storeName X.env x u) Q E s := by
 obtain ⟨m, hn, hl⟩ := id I.loc
 have hcls : (X.env.scope.kind == .class || (X.env.scope.kind == .module && X.env.locals != X.env.globals)) = false := by rw [I.ok.kind]; rfl
 have hiσ : i < U.length := by rw [I.len]; exact (Ui.mp hi).1
 have cne := I.cne
 have tracked : ∀ {a : Addr} {h' : Heap}, (∃ o, s.heap.get? a = some o /\ H a = none) -> Heap.SameBut a s.heap h' -> HOk X.prog X.w H h' := fun {a h'} ha hs b ob e => by
  obtain ⟨_, _, hfree⟩ := ha
  refine (I.hok b ob e).stay (fun c w' hc q => (hs.2 c ?_).trans q) (fun _ q => q) fun _ _ q => q
  rintro rfl
  rcases hc with rfl | hc
  ·rw [hfree] at e; cases e
  ·rw [hfree] at hc; cases hc
 rcases hx with hk | hk
 ·refine wpAny_storeName_local hk hn (fun h' hn' hs => ?_) hcls
  obtain ⟨oL, _, _, hoL, _⟩ := id hn
  refine h _ ⟨I.ok, I.os, I.bare, ⟨fun b o e n hb hx => ?_, fun b o e n hb hx => ?_, I.base.free, fun b o e hx => ?_, I.base.tups, I.base.frzs, I.base.tbls⟩, ⟨_, hn', fun j y v' e1 e2 e3 => ?_⟩, fun y c e => ?_, I.free, I.freeC, fun p hp => ?_, tracked ⟨oL, hoL, I.free⟩ hs, by simpa using I.len⟩ ⟨_, hs, .inl rfl⟩
  ·exact (hs.2 b (Uz (Ue (Uh e) I.ok.above))).trans (I.base.keep b o e n hb hx)
  ·obtain ⟨sl, e1⟩ := I.base.slot b o e n hb hx
   exact ⟨sl, (hs.2 b (Uz (Ue (Uh e) I.ok.above))).trans e1⟩
  ·obtain ⟨o', e1⟩ := I.base.there b o e hx
   exact ⟨o', (hs.2 b (Uz (Ue (Uh e) I.ok.above))).trans e1⟩
  ·by_cases hj : j = i
   ·subst hj
    rw [hi] at e1; cases e1
    rw [List.getElem?_set_self hiσ] at e2
    cases e2
    exact ⟨u, r, .inl ⟨hk, by simp⟩⟩
   ·rw [List.getElem?_set_ne (Ne.symm hj)] at e2
    obtain ⟨u', r', q⟩ := hl j y v' e1 e2 e3
    refine ⟨u', r', ?_⟩
    rcases q with ⟨k, e⟩ | ⟨k, c, e, z⟩
    ·refine .inl ⟨k, ?_⟩
     have : y ≠ x := fun e => hj (ZBv hN e1 (e ▸ hi))
     simp [this, e]
    ·exact .inr ⟨k, c, e, z.sameBut hs (cne y c e)⟩
  ·obtain ⟨w', z⟩ := I.cell y c e
   exact ⟨w', z.sameBut hs (cne y c e)⟩
  ·obtain ⟨e, n, ne, nf, d⟩ := I.pin p hp
   exact ⟨(hs.2 p.1 ne).trans e, n, ne, nf, d⟩
 ·have hfn : X.fn x = true := by
   rcases hf with z | z
   ·exact z
   ·rw [z] at hk; cases hk
  obtain ⟨c, hc⟩ := I.ok.has x (.inl hk)
  obtain ⟨w', z⟩ := I.cell x c hc
  refine wpAny_storeName_cell I.ok.kind hk hc z (fun h' hc' hs => ?_)
  obtain ⟨oc, hoc, hocd⟩ := id z
  refine h { s with heap := h' } ⟨I.ok, I.os, I.bare, ⟨fun b o e n hb hx => ?_, fun b o e n hb hx => ?_, I.base.free, fun b o e hx => ?_, I.base.tups, I.base.frzs, I.base.tbls⟩, ⟨m, hn.sameBut hs (Ne.symm (cne x c hc)), fun j y v' e1 e2 e3 => ?_⟩, fun y c' e => ?_, I.free, I.freeC, fun p hp => ?_, tracked ⟨oc, hoc, I.freeC x c hc⟩ hs, by simpa using I.len⟩ ⟨c, hs, .inr hc⟩
  ·exact (hs.2 b (Uz (Ue (Uh e) (I.ok.cab x c hfn hc)))).trans (I.base.keep b o e n hb hx)
  ·obtain ⟨sl, e1⟩ := I.base.slot b o e n hb hx
   exact ⟨sl, (hs.2 b (Uz (Ue (Uh e) (I.ok.cab x c hfn hc)))).trans e1⟩
  ·obtain ⟨o', e1⟩ := I.base.there b o e hx
   exact ⟨o', (hs.2 b (Uz (Ue (Uh e) (I.ok.cab x c hfn hc)))).trans e1⟩
  ·by_cases hj : j = i
   ·subst hj
    rw [hi] at e1; cases e1
    rw [List.getElem?_set_self hiσ] at e2
    cases e2
    exact ⟨u, r, .inr ⟨.inl hk, c, hc, hc'⟩⟩
   ·rw [List.getElem?_set_ne (Ne.symm hj)] at e2
    obtain ⟨u', r', q⟩ := hl j y v' e1 e2 e3
    refine ⟨u', r', ?_⟩
    rcases q with q | ⟨k, c', e, z'⟩
    ·exact .inl q
    ·refine .inr ⟨k, c', e, z'.sameBut hs ?_⟩
     rintro rfl
     exact hj (ZBv hN e1 (I.ok.inj _ _ _ e hc ▸ hi))
  ·by_cases hcc : c' = c
   ·subst hcc; exact ⟨_, hc'⟩
   ·obtain ⟨w2, z2⟩ := I.cell y c' e
    exact ⟨w2, z2.sameBut hs hcc⟩
  ·obtain ⟨e, n, ne, nf, d⟩ := I.pin p hp
   refine ⟨(hs.2 p.1 ?_).trans e, n, ne, nf, d⟩
   intro q
   rw [q, hoc] at e
   have q' : oc = p.2 := Option.some.inj e
   exact d w' (by rw [<- q']; exact hocd)
theorem ZAc {M : Model} {A : Around} {E : Value -> Shared -> Prop} {i : Nat} {x : Str} {v : V} {u : Value} {Q : Unit -> Shared -> Prop} (I : Inv X pins U H s) (hN : X.N.Nodup) (hi : X.N[i]? = some x) (hx : Loc X.env.scope x) (r : YE v u)
  (h : ∀ s', Inv X pins (U.set i (some v)) H s' -> Q () s') (hf : X.fn x = true \/ X.env.scope.names.lookup x = some .local := by first | exact .inl rfl | exact .inr rfl | assumption) : wpAny M A (storeName X.env x u) Q E s :=
 ZDx I hN hi hx r (fun s' I' _ => h s' I') hf
theorem Inv.call' {s' : Shared} {ch : List Addr} (I : Inv X pins U H s) (ho : s'.os = s.os) (u : Un (frs X.stack) ch H H' s.heap s'.heap) (hok : HOk X.prog X.w H' s'.heap) (hg : AllBare s'.gens)
  (hch : ∀ b ∈ ch, (b ∈ X.ex \/ X.s₀.heap.objs.size <= b) /\ b ≠ X.env.locals /\ (∀ x c, X.env.cells.lookup x = some c -> c ≠ b) /\ ∀ p ∈ X.pn ++ pins, p.1 ≠ b) : Inv X pins U H' s' := by
 obtain ⟨h', g', d', t', o'⟩ := s'
 have e : o' = s.os := ho
 subst e
 exact I.call (g' := g') (t' := t') (d' := d') u hok hg hch
end
abbrev XK := Value -> Option Addr -> Hp -> Prop
abbrev St := List (Option V)
abbrev VK := V -> Hp -> Prop
abbrev TE := St -> Hp -> VK -> Prop
abbrev TT := St -> Hp -> (Bool -> Hp -> Prop) -> Prop
abbrev TA := St -> Hp -> (List V -> Hp -> Prop) -> Prop
structure Yi where
 nx : St -> Hp -> Prop
 rt : VK
 bk : St -> Hp -> Prop := fun _ _ => False
 ct : St -> Hp -> Prop := fun _ _ => False
abbrev TS := Yi -> St -> Hp -> Prop
def EP (X : Cx) (pins : List (Addr × Obj)) (U : St) (Q : VK) (u : Value) (s' : Shared) : Prop := ∃ v H', Inv X pins U H' s' /\ YE v u /\ Q v H'
def TP (X : Cx) (pins : List (Addr × Obj)) (U : St) (Q : Bool -> Hp -> Prop) (b : Bool) (s' : Shared) : Prop := ∃ H', Inv X pins U H' s' /\ Q b H'
def AP (X : Cx) (pins : List (Addr × Obj)) (U : St) (Q : List V -> Hp -> Prop) (us : List Value) (s' : Shared) : Prop := ∃ vs H', Inv X pins U H' s' /\ YB vs us /\ Q vs H'
def SP (X : Cx) (pins : List (Addr × Obj)) (D : Yi) (f : Flow) (s' : Shared) : Prop :=
 match f with
 | .next => ∃ U' H', Inv X pins U' H' s' /\ D.nx U' H'
 | .brk => ∃ U' H', Inv X pins U' H' s' /\ D.bk U' H'
 | .cont => ∃ U' H', Inv X pins U' H' s' /\ D.ct U' H'
 | .ret u => ∃ v U' H', Inv X pins U' H' s' /\ YE v u /\ D.rt v H'
def PE (X : Cx) (e : Expr) (t : TE) : Prop :=
 ∀ (pins : List (Addr × Obj)) (s : Shared) (U : St) (H : Hp) (Q : VK), Inv X pins U H s -> t U H Q -> wpAny (model X.prog X.w) X.A (eval e X.env) (EP X pins U Q) X.xe s
def PT (X : Cx) (e : Expr) (t : TT) : Prop :=
 ∀ (pins : List (Addr × Obj)) (s : Shared) (U : St) (H : Hp) (Q : Bool -> Hp -> Prop), Inv X pins U H s -> t U H Q -> wpAny (model X.prog X.w) X.A (isTrue e X.env (eval e X.env)) (TP X pins U Q) X.xe s
def PW (X : Cx) (e : Expr) (t : TT) : Prop :=
 ∀ (whole : Sem Value) (pins : List (Addr × Obj)) (s : Shared) (U : St) (H : Hp) (Q : Bool -> Hp -> Prop), Inv X pins U H s -> t U H Q -> wpAny (model X.prog X.w) X.A (isTrue e X.env whole) (TP X pins U Q) X.xe s
theorem PW.pt {X : Cx} {e : Expr} {t : TT} (h : PW X e t) : PT X e t := h _
def PA (X : Cx) (es : List Expr) (t : TA) : Prop :=
 ∀ (pos : Pos) (pins : List (Addr × Obj)) (s : Shared) (U : St) (H : Hp) (Q : List V -> Hp -> Prop), Inv X pins U H s -> t U H Q -> wpAny (model X.prog X.w) X.A (spliced (backTo pos (starEach es X.env))) (AP X pins U Q) X.xe s
def PS (X : Cx) (st : Stmt) (t : TS) : Prop :=
 ∀ (pins : List (Addr × Obj)) (s : Shared) (U : St) (H : Hp) (D : Yi), Inv X pins U H s -> t D U H -> wpAny (model X.prog X.w) X.A (exec st X.env) (SP X pins D) X.xe s
def PSs (X : Cx) (st : List Stmt) (t : TS) : Prop :=
 ∀ (pins : List (Addr × Obj)) (s : Shared) (U : St) (H : Hp) (D : Yi), Inv X pins U H s -> t D U H -> wpAny (model X.prog X.w) X.A (execs st X.env) (SP X pins D) X.xe s
theorem thn {α : Type} {t : Sem α} {Q Q' : α -> Shared -> Prop} {M : Model} {A : Around} {E : Value -> Shared -> Prop} {s : Shared} (h : wpAny M A t Q E s) (hQ : ∀ a s, Q a s -> Q' a s) : wpAny M A t Q' E s := UC h hQ fun _ _ x => x
section
variable {X : Cx}
def ZEr (i : Nat) : TE := fun U H Q => ∃ v, U[i]? = some (some v) /\ Q v H
def tC (v : V) : TE := fun _ H Q => Q v H
theorem ZG0 {i : Nat} {x : Str} {pos : Pos} (hN : X.N[i]? = some x) (hv : Vis X.env.scope x) (hd : (x == ("__debug__" : Str)) = false := by decide) (hcd : (x == ("__classdict__" : Str)) = false := by decide) : PE X (.Name x pos) (ZEr i) := by
 intro pins s U H Q I h
 obtain ⟨v, e, h⟩ := h
 obtain ⟨m, hn, hl⟩ := I.loc
 obtain ⟨u, r, l⟩ := hl i x v hN e hv
 have fin : EP X pins U Q u s := ⟨v, H, I, r, h⟩
 rcases l with ⟨hk, hm⟩ | ⟨hk, c, hc, hcell⟩
 ·exact wpAny_Name (wpAny_loadName_local I.ok.kind hk hn hm fin) hd
 ·rcases hk with hk | hk
  ·exact wpAny_Name (wpAny_loadName_cell I.ok.kind hk hc hcell fin) hd
  ·exact wpAny_Name (wpAny_loadName_free I.ok.kind hk hc hcell fin hcd) hd
theorem ZG1 {i j pos} : PE X (.Constant (.int i) j pos) (tC (.int i)) := fun _ _ _ H _ I h => wpAny_Constant_int ⟨.int i, H, I.tok _, ⟨_, rfl⟩, h⟩
theorem ZH3 {b j pos} : PE X (.Constant (.bool b) j pos) (tC (.bl b)) := fun _ _ _ H _ I h => Constant_bool ⟨.bl b, H, I, rfl, h⟩
theorem ZG2 {j pos} : PE X (.Constant .none j pos) (tC .non) := fun _ _ _ H _ I h => Constant_none ⟨.non, H, I, rfl, h⟩
def Gl (X : Cx) (x : Str) : Prop := X.env.kindOf x = some .globalImplicit
theorem ZBC {E : Value -> Shared -> Prop} {pins : List (Addr × Obj)} {s : Shared} {U : St} {H : Hp} {x : Str} {u : Value} {pos : Pos} {Q : Value -> Shared -> Prop} (I : Inv X pins U H s) (hg : Gl X x) (hm : X.mg x = some u) (h : Q u s)
  (hd : (x == ("__debug__" : Str)) = false := by decide) : wpAny (model X.prog X.w) X.A (eval (.Name x pos) X.env) Q E s :=
 Calls.Name_function_global I.ok.kind hg (Calls.loadGlobal_global (by rw [I.ok.glob]; exact I.mod.glob.keeps I.bk) hm h) hd
theorem Ji {E : Value -> Shared -> Prop} {pins : List (Addr × Obj)} {s : Shared} {U : St} {H : Hp} {x : Str} {u : Value} {pos : Pos} {Q : Value -> Shared -> Prop} (I : Inv X pins U H s) (hg : Gl X x) (hm : X.mg x = none) (hv : bootBuiltins x = some u) (h : Q u s)
  (hn : x ≠ "__name__" := by decide) (hd : (x == ("__debug__" : Str)) = false := by decide) : wpAny (model X.prog X.w) X.A (eval (.Name x pos) X.env) Q E s := by
 obtain ⟨mb, h1, h2⟩ := I.mod.blt
 exact Calls.Name_function_global I.ok.kind hg (Calls.loadGlobal_builtin (by rw [I.ok.glob]; exact I.mod.glob.keeps I.bk) hm (by rw [I.ok.blt]; exact h1.keeps I.bk) ((h2 x hn).trans hv) h) hd
variable {a b : Expr} {ta tb : TE} {pos : Pos}
variable {tA tB' : TT} {Y1 : List Expr}
def tOr (t u : TT) : TT := fun U H Q => t U H fun c H1 => if c = true then Q true H1 else u U H1 Q
theorem ZG3 (ha : PT X a tA) : PW X (.BoolOp .Or [a] pos) tA := by
 intro wh pins s U H Q I h
 refine isTrue_or (thn (ha pins s U H Q I h) fun c s1 e => ?_)
 cases c with
 | false => exact isTrue_or_nil e
 | true => exact e
theorem ZH4 (ha : PT X a tA) (hb : PW X (.BoolOp .Or (b :: Y1) pos) tB') : PW X (.BoolOp .Or (a :: b :: Y1) pos) (tOr tA tB') := by
 intro wh pins s U H Q I h
 refine isTrue_or (thn (ha pins s U H _ I h) fun c s1 ⟨H1, I1, q1⟩ => ?_)
 cases c with
 | true => exact ⟨H1, I1, q1⟩
 | false => exact hb wh pins s1 U H1 Q I1 q1
end
def SqL (K : W.Frag) (H : Hp) (a : Addr) (xs : List V) : Prop :=
 Rd H a (.lst xs) \/
  ∃ (o : Obj) (its : Array Value) (n : Nat), K.lookup a = some o /\ o.cls = .type "list" /\ o.dict = none /\ o.data = .seq its n /\ its.size <= sizeLine /\ YB xs its.toList
def SqT (K : W.Frag) (H : Hp) (a : Addr) (xs : List V) : Prop :=
 Rd H a (.tup xs) \/
  ∃ (o : Obj) (its : Array Value) (n : Nat), K.lookup a = some o /\ o.cls = .type "tuple" /\ o.data = .seq its n /\ its.size <= sizeLine /\ YB xs its.toList
def ZIS : Value -> Option V
 | .none => some .non
 | .bool b => some (.bl b)
 | .int i _ => some (.int i)
 | .str x _ => some (.str x)
 | .bytes b _ => some (.byt b)
 | .float b _ => some (.flt b)
 | .ref a => some (.ref a)
 | .type n => some (.ty n)
 | _ => none
theorem YE.abs {x : V} {u : Value} (r : YE x u) : ZIS u = some x := by
 cases x with
 | non => cases r; rfl
 | bl _ => cases r; rfl
 | int _ => obtain ⟨t, rfl⟩ := r; rfl
 | str _ => obtain ⟨t, rfl⟩ := r; rfl
 | byt _ => obtain ⟨t, rfl⟩ := r; rfl
 | flt _ => obtain ⟨t, rfl⟩ := r; rfl
 | ref _ => cases r; rfl
 | ty _ => cases r; rfl
theorem YE.inj {x y : V} {u : Value} (r : YE x u) (q : YE y u) : x = y := Option.some.inj (r.abs.symm.trans q.abs)
theorem YB.inj : ∀ {xs ys : List V} {us : List Value}, YB xs us -> YB ys us -> xs = ys
 | _, _, _, .nil, .nil => rfl
 | _, _, _, .cons r t, .cons r' t' => by rw [r.inj r', YB.inj t t']
section
variable {X : Cx} {pins : List (Addr × Obj)} {U : St} {H : Hp} {s : Shared} {a : Addr} {xs ys : List V}
theorem SqL.of {K : W.Frag} (h : H a = some (.lst xs)) : SqL K H a xs := .inl (.inl h)
theorem SqT.of {K : W.Frag} (h : H a = some (.tup xs)) : SqT K H a xs := .inl (.inl h)
theorem Inv.list (I : Inv X pins U H s) (h : SqL X.K H a xs) : ∃ its : List Value, YB xs its /\ PlainL s.heap a its.toArray /\ xs.length <= sizeLine := by
 rcases h with h | ⟨o, its, n, hk, hc, hd, hs, hz, r⟩
 ·obtain ⟨z, its, n, r, e⟩ := h.ok I.hok
  exact ⟨its, r, ⟨_, n, e, rfl, rfl, rfl⟩, z⟩
 ·refine ⟨its.toList, r, ⟨o, n, I.kIn a o hk, hc, hd, by simpa using hs⟩, ?_⟩
  have e := r.length
  simp only [Ug] at e
  omega
theorem Inv.tuple (I : Inv X pins U H s) (h : SqT X.K H a xs) : ∃ its : List Value, YB xs its /\ IsTup s.heap a its.toArray /\ xs.length <= sizeLine := by
 rcases h with h | ⟨o, its, n, hk, hc, hs, hz, r⟩
 ·obtain ⟨z, its, r, p⟩ := h.ok I.hok
  exact ⟨its, r, p, z.1⟩
 ·refine ⟨its.toList, r, ⟨o, I.kIn a o hk, hc, n, by simpa using hs⟩, ?_⟩
  have e := r.length
  simp only [Ug] at e
  omega
theorem Inv.list_inj (I : Inv X pins U H s) (h : SqL X.K H a xs) (h' : SqL X.K H a ys) : xs = ys := by
 obtain ⟨its, r, ⟨o, n, e, _, _, d⟩, _⟩ := I.list h
 obtain ⟨its', r', ⟨o', n', e', _, _, d'⟩, _⟩ := I.list h'
 rw [e] at e'; cases e'
 rw [d] at d'
 injection d' with d1 _
 have : its = its' := by simpa using congrArg Array.toList d1
 subst this
 exact r.inj r'
theorem Inv.tuple_inj (I : Inv X pins U H s) (h : SqT X.K H a xs) (h' : SqT X.K H a ys) : xs = ys := by
 obtain ⟨its, r, ⟨o, e, _, n, d⟩, _⟩ := I.tuple h
 obtain ⟨its', r', ⟨o', e', _, n', d'⟩, _⟩ := I.tuple h'
 rw [e] at e'; cases e'
 rw [d] at d'
 injection d' with d1 _
 have : its = its' := by simpa using congrArg Array.toList d1
 subst this
 exact r.inj r'
end
abbrev Cx.wish (X : Cx) (E : Value -> Shared -> Prop) : Cx := { X with xe := E }
abbrev Cx.nox (X : Cx) : Cx := X.wish fun _ _ => False
theorem Cx.Ok.wish {X : Cx} (ok : X.Ok) (E : Value -> Shared -> Prop) : (X.wish E).Ok :=
 ⟨ok.mod, ok.kind, ok.glob, ok.blt, ok.above, ok.inj, ok.has, ok.cab, ok.hd, ok.frames, ok.stk, ok.exf, ok.bs, ok.bsz, ok.noex, ok.exfs, ok.funs, ok.frf⟩
theorem Cx.Ok.unwish {X : Cx} {E : Value -> Shared -> Prop} (ok : (X.wish E).Ok) : X.Ok :=
 ⟨ok.mod, ok.kind, ok.glob, ok.blt, ok.above, ok.inj, ok.has, ok.cab, ok.hd, ok.frames, ok.stk, ok.exf, ok.bs, ok.bsz, ok.noex, ok.exfs, ok.funs, ok.frf⟩
section
variable {X : Cx} {pins : List (Addr × Obj)} {U : St} {H : Hp} {s : Shared} {E : Value -> Shared -> Prop}
theorem Inv.wish (I : Inv X pins U H s) (E : Value -> Shared -> Prop) : Inv (X.wish E) pins U H s := ⟨I.ok.wish E, I.os, I.bare, I.base, I.loc, I.cell, I.free, I.freeC, I.pin, I.hok, I.len⟩
theorem Inv.unwish (I : Inv (X.wish E) pins U H s) : Inv X pins U H s := ⟨I.ok.unwish, I.os, I.bare, I.base, I.loc, I.cell, I.free, I.freeC, I.pin, I.hok, I.len⟩
theorem SP.unwish {D : Yi} {f : Flow} {s' : Shared} (h : SP (X.wish E) pins D f s') : SP X pins D f s' := by
 cases f with
 | next => obtain ⟨U', H', I, q⟩ := h; exact ⟨U', H', I.unwish, q⟩
 | brk => obtain ⟨U', H', I, q⟩ := h; exact ⟨U', H', I.unwish, q⟩
 | cont => obtain ⟨U', H', I, q⟩ := h; exact ⟨U', H', I.unwish, q⟩
 | ret u => obtain ⟨v, U', H', I, r, q⟩ := h; exact ⟨v, U', H', I.unwish, r, q⟩
theorem PSs.nox {st : List Stmt} {t : TS} (h : PSs X.nox st t) : PSs X st t := fun pins s U H D I hw =>
 UC (h pins s U H D (I.wish _) hw) (fun _ _ q => q.unwish) fun _ _ z => False.elim z
end
section
variable {X : Cx} {st : Stmt} {Y1 : List Stmt} {t u : TS} {e : Expr} {te : TE} {pos : Pos}
def ZDF : TS := fun D U H => D.nx U H
def ZEs (t u : TS) : TS := fun D U H => t { D with nx := u D } U H
theorem ZF7 : PSs X [] ZDF := fun _ _ U H _ I h => wpAny_execs_nil ⟨U, H, I, h⟩
theorem ZEt (h1 : PS X st t) (h2 : PSs X Y1 u) : PSs X (st :: Y1) (ZEs t u) := by
 intro pins s U H D I h
 refine wpAny_execs_cons (thn (h1 pins s U H { D with nx := u D } I h) fun f s1 q => ?_)
 cases f with
 | next =>
  obtain ⟨U', H', I', q⟩ := q
  exact h2 pins s1 U' H' D I' q
 | ret v => exact q
 | brk => exact q
 | cont => exact q
theorem ZF8 (h1 : PS X st t) : PSs X [st] t := by
 intro pins s U H D I h
 refine wpAny_execs_cons (thn (h1 pins s U H D I h) fun f s1 q => ?_)
 cases f with
 | next => exact wpAny_execs_nil q
 | ret v => exact q
 | brk => exact q
 | cont => exact q
theorem Inv.quiet {pins : List (Addr × Obj)} {U : St} {H : Hp} {s : Shared} (I : Inv X pins U H s) : interactive X.env = false := by simp [interactive, I.ok.kind]
def ZBl (te : TE) : TS := fun D U H => te U H fun _ H1 => D.nx U H1
theorem ZF9 (he : PE X e te) (hs : swapsWith e none pos.line X.env = pure false := by rfl) : PS X (.Expr e pos) (ZBl te) := by
 intro pins s U H D I h
 exact wpAny_Expr_any (thn (he pins s U H _ I h) fun v s1 ⟨x, H1, I1, r1, q1⟩ => ⟨U, H1, I1, q1⟩) I.quiet hs
def ZEu (te : TE) : TS := fun D U H => te U H D.rt
theorem ZG4 (he : PE X e te) : PS X (.Return (some e) pos) (ZEu te) := by
 intro pins s U H D I h
 exact wpAny_Return_some (thn (he pins s U H _ I h) fun v s1 ⟨x, H1, I1, r1, q1⟩ => ⟨x, U, H1, I1, r1, q1⟩)
def ZBw (c : TT) (t u : TS) : TS := fun D U H => c U H fun b H1 => if b = true then t D U H1 else u D U H1
theorem ZH5 {c : Expr} {a b : List Stmt} {tc : TT} (hc : PT X c tc) (ha : PSs X a t) (hb : PSs X b u) : PS X (.If c a b pos) (ZBw tc t u) := by
 intro pins s U H D I h
 refine wpAny_If (thn (hc pins s U H _ I h) fun d s1 ⟨H1, I1, q1⟩ => ?_)
 cases d with
 | true => exact ha pins s1 U H1 D I1 q1
 | false => exact hb pins s1 U H1 D I1 q1
end
abbrev TG := V -> St -> Hp -> (St -> Hp -> Prop) -> Prop
abbrev TGs := List V -> St -> Hp -> (St -> Hp -> Prop) -> Prop
def PG (X : Cx) (target : Expr) (t : TG) : Prop :=
 ∀ (pins : List (Addr × Obj)) (s : Shared) (U : St) (H : Hp) (v : V) (u : Value) (Q : St -> Hp -> Prop), Inv X pins U H s -> YE v u -> t v U H Q ->
  wpAny (model X.prog X.w) X.A (assign target X.env u) (fun _ s' => ∃ U' H', Inv X pins U' H' s' /\ Q U' H') X.xe s
def PGs (X : Cx) (ts : List Expr) (t : TGs) : Prop :=
 ∀ (pins : List (Addr × Obj)) (s : Shared) (U : St) (H : Hp) (vs : List V) (us : List Value) (Q : St -> Hp -> Prop), Inv X pins U H s -> YB vs us -> t vs U H Q ->
  wpAny (model X.prog X.w) X.A (assignInOrder ((assignEach ts X.env).map (·.2)) us) (fun _ s' => ∃ U' H', Inv X pins U' H' s' /\ Q U' H') X.xe s
abbrev ZBx := V -> V -> V -> Hp -> (Hp -> Prop) -> Prop
def ZEv (X : Cx) (t : ZBx) : Prop :=
 ∀ (pins : List (Addr × Obj)) (s : Shared) (U : St) (H : Hp) (o i v : V) (ov iv u : Value) (Q : Hp -> Prop), Inv X pins U H s -> YE o ov -> YE i iv -> YE v u -> t o i v H Q ->
  wpAny (model X.prog X.w) X.A (setItem ov iv u) (fun _ s' => ∃ H', Inv X pins U H' s' /\ Q H') X.xe s
abbrev TIp := V -> V -> Hp -> VK -> Prop
def PIp (X : Cx) (op : Operator) (t : TIp) : Prop :=
 ∀ (pins : List (Addr × Obj)) (s : Shared) (U : St) (H : Hp) (x y : V) (v u : Value) (Q : VK), Inv X pins U H s -> YE x v -> YE y u -> t x y H Q ->
  wpAny (model X.prog X.w) X.A (inplaceOp op v u) (EP X pins U Q) X.xe s
section
variable {X : Cx} {pos : Pos}
def JY (i : Nat) : TG := fun v U H Q => Q (U.set i (some v)) H
theorem ZGA {i : Nat} {x : Str} (hN : X.N.Nodup) (hi : X.N[i]? = some x) (hx : Loc X.env.scope x) (hf : X.fn x = true \/ X.env.scope.names.lookup x = some .local := by first | exact .inl rfl | exact .inr rfl | assumption) : PG X (.Name x pos) (JY i) := by
 intro pins s U H v u Q I r h
 exact wpAny_assign_Name (ZAc I hN hi hx r (fun s' I' => ⟨_, H, I', h⟩) hf)
def ZEw : TGs := fun vs U H Q => vs = [] /\ Q U H
def ZDG (t : TG) (u : TGs) : TGs := fun vs U H Q => ∃ v r, vs = v :: r /\ t v U H fun U' H' => u r U' H' Q
theorem ZGB : PGs X [] ZEw := by
 intro pins s U H vs us Q I r h
 obtain ⟨e, h⟩ := h
 subst e
 cases r
 exact assignInOrder_nil ⟨U, H, I, h⟩
theorem ZEx {e : Expr} {es : List Expr} {t : TG} {u : TGs} (h1 : PG X e t) (h2 : PGs X es u)
  (hs : (assignEach (e :: es) X.env).map (·.2) = assign e X.env :: (assignEach es X.env).map (·.2) := by rfl) : PGs X (e :: es) (ZDG t u) := by
 intro pins s U H vs us Q I r h
 obtain ⟨v, vr, e1, h⟩ := h
 subst e1
 cases r with
 | cons r rr =>
  rw [hs]
  refine assignInOrder_cons (thn (h1 pins s U H _ _ _ I r h) fun _ s1 ⟨U1, H1, I1, q1⟩ => ?_)
  exact h2 pins s1 U1 H1 _ _ Q I1 rr q1
def ZDH (K : W.Frag) (n : Nat) (t : TGs) : TG := fun v U H Q => ∃ a xs, v = .ref a /\ SqT K H a xs /\ xs.length = n /\ t xs U H Q
theorem ZG5 {es : List Expr} {k : Nat} {t : TGs} {n : Nat} (hc : X.calm = true) (h : PGs X es t)
  (hn : (assignEach es X.env).length = n := by rfl) (hst : (assignEach es X.env).findIdx? (·.1) = none := by rfl) : PG X (.Tuple es k pos) (ZDH X.K n t) := by
 intro pins s U H v u Q I r hw
 obtain ⟨a, xs, e1, hq, hl, hw⟩ := hw
 subst e1
 cases r
 obtain ⟨its, rv, ht, hz⟩ := I.tuple hq
 refine assign_Tuple_tuple (I.ok.hd hc) ht (by simp [hn, <- hl, rv.length]) hst fun h' hx => ?_
 have I1 : Inv X pins U H { s with heap := h' } := I.kept (t' := s.toks) fun b o e => hx b o (Uz (Uh e)) e
 exact h pins _ U H xs _ Q I1 (by simpa using rv) hw
def ZEy (to ti : TE) (t : ZBx) : TG := fun v U H Q => to U H fun o H1 => ti U H1 fun i H2 => t o i v H2 fun H3 => Q U H3
theorem ZG6 {o i : Expr} {to ti : TE} {t : ZBx} (ho : PE X o to) (hi : PE X i ti) (hs : ZEv X t)
  (ha : ∀ v, assign (.Subscript o i pos) X.env v = (do
   let ov <- holding [v] (eval o X.env)
   let iv <- holding [v, ov] (eval i X.env)
   standAt pos
   holding [v, ov, iv] (setItem ov iv v)
   release [v, ov, iv] []) := by intro _; rfl) : PG X (.Subscript o i pos) (ZEy to ti t) := by
 intro pins s U H v u Q I r h
 rw [ha]
 refine Ua (UG (thn (ho pins s U H _ I h) fun ov s1 ⟨x, H1, I1, r1, q1⟩ => ?_))
 refine Ua (UG (thn (hi pins s1 U H1 _ I1 q1) fun iv s2 ⟨y, H2, I2, r2, q2⟩ => ?_))
 refine Ua (wpAny_standAt (Ua (UG (thn (hs pins s2 U H2 x y v ov iv u _ I2 r1 r2 r q2) fun _ s3 ⟨H3, I3, q3⟩ => ?_))))
 exact wpAny_release ⟨U, H3, I3, q3⟩
def ZAd (te : TE) (g : TG) : TS := fun D U H => te U H fun x H1 => g x U H1 D.nx
theorem ZG7 {tg e : Expr} {te : TE} {g : TG} (he : PE X e te) (hg : PG X tg g) (hs : swapsWithSole [tg] e pos.line X.env = pure false := by rfl) (hw : swappedStores [tg] e X.env = pure none := by rfl)
  (h1 : (assignEach [tg] X.env).map (·.2) = [assign tg X.env] := by rfl) : PS X (.Assign [tg] e pos) (ZAd te g) := by
 intro pins s U H D I h
 refine wpAny_Assign_stores (thn (he pins s U H _ I h) fun v s1 ⟨x, H1, I1, r1, q1⟩ => ?_) hs hw
 rw [h1]
 exact thn (hg pins s1 U H1 x v _ I1 r1 q1) fun _ s2 q => q
theorem ZG8 {i : Nat} {x : Str} {e : Expr} {te : TE} {pos' : Pos} (hN : X.N.Nodup) (hi : X.N[i]? = some x) (hx : Loc X.env.scope x) (he : PE X e te) (hs : swapsWith e (some (.Name x pos')) pos.line X.env = pure false := by rfl) (hf : X.fn x = true \/ X.env.scope.names.lookup x = some .local := by first | exact .inl rfl | exact .inr rfl | assumption) :
  PS X (.Assign [.Name x pos'] e pos) (ZAd te (JY i)) := by
 intro pins s U H D I h
 refine wpAny_Assign_Name (thn (he pins s U H _ I h) fun v s1 ⟨y, H1, I1, r1, q1⟩ => ?_) hs
 exact ZAc I1 hN hi hx r1 (fun s2 I2 => ⟨_, H1, I2, q1⟩) hf
def ZEz (i : Nat) (te : TE) (ti : TIp) : TS := fun D U H => ∃ x, U[i]? = some (some x) /\ te U H fun y H1 => ti x y H1 fun z H2 => D.nx (U.set i (some z)) H2
theorem ZG9 {i : Nat} {x : Str} {e : Expr} {te : TE} {op : Operator} {ti : TIp} {pos' : Pos} (hN : X.N.Nodup) (hi : X.N[i]? = some x) (hx : Loc X.env.scope x) (he : PE X e te) (ho : PIp X op ti) (hf : X.fn x = true \/ X.env.scope.names.lookup x = some .local := by first | exact .inl rfl | exact .inr rfl | assumption) :
  PS X (.AugAssign (.Name x pos') op e pos) (ZEz i te ti) := by
 intro pins s U H D I h
 obtain ⟨v, e1, h⟩ := h
 obtain ⟨m, hn, hl⟩ := I.loc
 have vis : Vis X.env.scope x := by rcases hx with k | k; exact .inl k; exact .inr (.inl k)
 obtain ⟨u, r, l⟩ := hl i x v hi e1 vis
 refine wpAny_AugAssign_Name ?_
 have go : wpAny (model X.prog X.w) X.A (eval e X.env) (fun w s₂ => wpAny (model X.prog X.w) X.A (inplaceOp op u w) (fun r s₃ => wpAny (model X.prog X.w) X.A (storeName X.env x r) (fun _ => SP X pins D .next) X.xe s₃) X.xe s₂) X.xe s := by
  refine thn (he pins s U H _ I h) fun w s1 ⟨y, H1, I1, r1, q1⟩ => ?_
  refine thn (ho pins s1 U H1 v y u w _ I1 r r1 q1) fun z s2 ⟨zv, H2, I2, r2, q2⟩ => ?_
  exact ZAc I2 hN hi hx r2 (fun s3 I3 => ⟨_, H2, I3, q2⟩) hf
 rcases l with ⟨hk, hm⟩ | ⟨hk, c, hc, hcell⟩
 ·exact wpAny_loadName_local I.ok.kind hk hn hm go
 ·rcases hk with hk | hk
  ·exact wpAny_loadName_cell I.ok.kind hk hc hcell go
  ·rcases hx with k | k
   ·have : X.env.scope.names.lookup x = some .free := hk
    rw [k] at this; cases this
   ·have : X.env.scope.names.lookup x = some .free := hk
    rw [k] at this; cases this
end
structure It where
 go : Nat -> Hp -> Prop
 yld : Nat -> Hp -> V -> Hp -> Prop
 stop : Nat -> Hp -> Prop
def Yv (X : Cx) (pins : List (Addr × Obj)) (H : Hp) (b : Addr) : Prop :=
 H b = none /\ b ≠ X.env.locals /\ b ∉ X.fs /\ (b ∈ X.ex \/ X.s₀.heap.objs.size <= b) /\ (∀ x c, X.env.cells.lookup x = some c -> c ≠ b) /\ ∀ p ∈ X.pn ++ pins, p.1 ≠ b
theorem Inv.fpOk {X : Cx} {pins : List (Addr × Obj)} {U : St} {H H' : Hp} {s : Shared} {b : Addr} (I : Inv X pins U H s) (hb : s.heap.objs.size <= b) (hn : H' b = none) : Yv X pins H' b := by
 refine ⟨hn, Nat.ne_of_gt (Ue I.lt hb), I.nofs hb, .inr (UF I.sz hb), fun x c e z => ?_, fun p hp z => ?_⟩
 ·obtain ⟨v, q⟩ := I.cell x c e
  exact absurd (Ue q.lt (by rw [z]; exact hb)) (Nat.lt_irrefl _)
 ·exact absurd (Ue (Uh (I.pin p hp).1) (by rw [z]; exact hb)) (Nat.lt_irrefl _)
structure ZDI (P : Program) (w : World) (K : W.Frag) (tg : Expr) (J : It) (fp : List Addr) (it : Addr) (tn : Nat -> Heap -> Prop) : Prop where
 mem : it ∈ fp
 obj : ∀ i h, tn i h -> ∀ b ∈ fp, ∃ o, h.get? b = some o /\ ∀ v, o.data ≠ .cell v
 keep : ∀ i h h', tn i h -> (∀ b ∈ fp, ∀ o, h.get? b = some o -> h'.get? b = some o) -> tn i h'
 item : ∀ (X : Cx), X.prog = P -> X.w = w -> X.K = K -> X.calm = true -> ∀ (i : Nat) (pins : List (Addr × Obj)) (s : Shared) (U : St) (H : Hp) (E : Value -> Shared -> Prop), Inv X pins U H s -> (∀ b ∈ fp, Yv X pins H b) -> tn i s.heap -> J.go i H ->
  wpAny (model P w) X.A (pyNext (.ref it)) (fun r s1 => ∃ u, r = some u /\
   wpAny (model P w) X.A (letOwnedTupleGo tg (.ref it) u) (fun _ s2 => ∃ x H', Inv X pins U H' s2 /\ YE x u /\ J.yld i H x H' /\ tn (i + 1) s2.heap /\ ∀ b ∈ fp, H' b = none) E s1) E s
 done : ∀ (X : Cx), X.prog = P -> X.w = w -> X.K = K -> X.calm = true -> ∀ (i : Nat) (pins : List (Addr × Obj)) (s : Shared) (U : St) (H : Hp) (E : Value -> Shared -> Prop), Inv X pins U H s -> (∀ b ∈ fp, Yv X pins H b) -> tn i s.heap -> J.stop i H ->
  wpAny (model P w) X.A (pyNext (.ref it)) (fun r s1 => r = none /\ Inv X pins U H s1) E s
 self : ∀ (A : Around) (i : Nat) (s : Shared) (Q : Value -> Shared -> Prop) (E : Value -> Shared -> Prop), tn i s.heap -> Q (.ref it) s -> wpAny (model P w) A (pyIter (.ref it)) Q E s
abbrev TI := St -> Hp -> (It -> Hp -> Prop) -> Prop
def PIE (X : Cx) (pins : List (Addr × Obj)) (U : St) (tg : Expr) (R : It -> Hp -> Prop) (itv : Value) (s2 : Shared) : Prop :=
 ∃ (it : Addr) (fp : List Addr) (tn : Nat -> Heap -> Prop) (J : It) (H' : Hp), itv = .ref it /\ Inv X pins U H' s2 /\ ZDI X.prog X.w X.K tg J fp it tn /\ tn 0 s2.heap /\ (∀ b ∈ fp, Yv X pins H' b) /\ R J H'
def PI (X : Cx) (tg iter : Expr) (wi : TI) : Prop :=
 ∀ (pins : List (Addr × Obj)) (s : Shared) (U : St) (H : Hp) (R : It -> Hp -> Prop), Inv X pins U H s -> wi U H R ->
  wpAny (model X.prog X.w) X.A (eval iter X.env) (fun v s1 => wpAny (model X.prog X.w) X.A (pyIter v) (PIE X pins U tg R) X.xe s1) X.xe s
theorem ZDJ {M : Model} {A : Around} {E : Value -> Shared -> Prop} {s : Shared} {tg : Expr} {it : Addr} {u : Value} {o : Obj} {n : String} {vs : Array Value} {Q : Unit -> Shared -> Prop} (ho : s.heap.get? it = some o) (hc : o.cls = .type n) (hd : o.data = .fields vs)
    (hn : ["enumerate", "zip", "dict_itemiterator", "dict_reverseitemiterator", "odict_iterator", "itertools.zip_longest", "itertools.pairwise"].contains n = false) (hQ : Q () s) : wpAny M A (letOwnedTupleGo tg (.ref it) u) Q E s := by
  unfold letOwnedTupleGo
  cases tg <;> first
    | exact Us hQ
    | (cases u <;> first
        | exact Us hQ
        | (refine Ua (wpAny_load ho ?_)
           rw [hc, hd]
           show wpAny M A (if (["enumerate", "zip", "dict_itemiterator", "dict_reverseitemiterator", "odict_iterator", "itertools.zip_longest", "itertools.pairwise"].contains n && vs[0]? == some (rawInt _)) = true then _ else _) Q E s
           rw [if_neg (by intro h; rw [hn, Bool.false_and] at h; cases h)]
           exact Us hQ))
def Itl (K : W.Frag) (a : Addr) : It :=
 ⟨fun i H => ∃ xs x, SqL K H a xs /\ xs[i]? = some x, fun i H x H' => H' = H /\ ∀ xs, SqL K H a xs -> xs[i]? = some x, fun i H => ∃ xs, SqL K H a xs /\ xs.length <= i⟩
def Itt (K : W.Frag) (a : Addr) : It :=
 ⟨fun i H => ∃ xs x, SqT K H a xs /\ xs[i]? = some x, fun i H x H' => H' = H /\ ∀ xs, SqT K H a xs -> xs[i]? = some x, fun i H => ∃ xs, SqT K H a xs /\ xs.length <= i⟩
def Itr (lo : Int) (n : Nat) : It := ⟨fun i _ => i < n, fun i H x H' => H' = H /\ x = .int (lo + i), fun i _ => n <= i⟩
theorem ZDy {P : Program} {w : World} {K : W.Frag} {tg : Expr} (a it : Addr) : ZDI P w K tg (Itl K a) [it] it (fun i h => h.IsListIter it a i) where
 mem := by simp
 obj := fun i h st b hb => by
  have e : b = it := by simpa using hb
  subst e
  obtain ⟨o, e, c, d⟩ := st
  exact ⟨o, e, fun v z => by rw [d] at z; cases z⟩
 keep := fun i h h' st k => st.at fun o e => k it (by simp) o e
 item := by
  intro X hP hw hK hc i pins s U H E I hf st hg
  subst hP hw hK
  obtain ⟨xs, x, hq, hx⟩ := hg
  obtain ⟨its, rv, p, hz⟩ := I.list hq
  obtain ⟨u, hu, ru⟩ := rv.get hx
  obtain ⟨f0, f1, f2, f3, f4, f5⟩ := hf it (by simp)
  refine wpAny_pyNext_list_item st p.isList (x := u) (by simpa using hu) fun h' st' sb => ?_
  have I1 : Inv X pins U H { s with heap := h' } := I.turned (t' := s.toks) (fun b o hb e => (sb.2 b hb).trans e) f0 f1 f3 f4 f5
  obtain ⟨o, e, c, d⟩ := id st'
  exact ⟨u, rfl, ZDJ (s := { s with heap := h' }) e c d (by decide) ⟨x, H, I1, ru, ⟨rfl, fun ys hy => by rw [I.list_inj hy hq]; exact hx⟩, st', fun b hb => (hf b hb).1⟩⟩
 done := by
  intro X hP hw hK hc i pins s U H E I hf st hg
  subst hP hw hK
  obtain ⟨xs, hq, hx⟩ := hg
  obtain ⟨its, rv, p, hz⟩ := I.list hq
  obtain ⟨f0, f1, f2, f3, f4, f5⟩ := hf it (by simp)
  have hl := rv.length
  exact wpAny_pyNext_list_end (I.ok.hd hc) st p.isList (by simp; omega) fun h' eb => ⟨rfl, I.turned (t' := s.toks) (fun b o hb e => eb b o hb e) f0 f1 f3 f4 f5⟩
 self := fun _ _ _ _ _ st h => wpAny_pyIter_listiter st h
theorem ZDK {P : Program} {w : World} {K : W.Frag} {tg : Expr} (a it : Addr) : ZDI P w K tg (Itt K a) [it] it (fun i h => h.IsTupleIter it a i) where
 mem := by simp
 obj := fun i h st b hb => by
  have e : b = it := by simpa using hb
  subst e
  obtain ⟨o, e, c, d⟩ := st
  exact ⟨o, e, fun v z => by rw [d] at z; cases z⟩
 keep := fun i h h' st k => st.at fun o e => k it (by simp) o e
 item := by
  intro X hP hw hK hc i pins s U H E I hf st hg
  subst hP hw hK
  obtain ⟨xs, x, hq, hx⟩ := hg
  obtain ⟨its, rv, p, hz⟩ := I.tuple hq
  obtain ⟨u, hu, ru⟩ := rv.get hx
  obtain ⟨f0, f1, f2, f3, f4, f5⟩ := hf it (by simp)
  refine wpAny_pyNext_tuple_item st (show s.heap.IsTuple a its.toArray from p) (x := u) (by simpa using hu) fun h' st' sb => ?_
  have I1 : Inv X pins U H { s with heap := h' } := I.turned (t' := s.toks) (fun b o hb e => (sb.2 b hb).trans e) f0 f1 f3 f4 f5
  obtain ⟨o, e, c, d⟩ := id st'
  exact ⟨u, rfl, ZDJ (s := { s with heap := h' }) e c d (by decide) ⟨x, H, I1, ru, ⟨rfl, fun ys hy => by rw [I.tuple_inj hy hq]; exact hx⟩, st', fun b hb => (hf b hb).1⟩⟩
 done := by
  intro X hP hw hK hc i pins s U H E I hf st hg
  subst hP hw hK
  obtain ⟨xs, hq, hx⟩ := hg
  obtain ⟨its, rv, p, hz⟩ := I.tuple hq
  obtain ⟨f0, f1, f2, f3, f4, f5⟩ := hf it (by simp)
  have hl := rv.length
  exact wpAny_pyNext_tuple_end (I.ok.hd hc) st (show s.heap.IsTuple a its.toArray from p) (by simp; omega) fun h' eb => ⟨rfl, I.turned (t' := s.toks) (fun b o hb e => eb b o hb e) f0 f1 f3 f4 f5⟩
 self := fun _ _ _ _ _ st h => wpAny_pyIter_tupleiter st h
theorem ZDL {P : Program} {w : World} {K : W.Frag} {tg : Expr} (it : Addr) (lo : Int) (n : Nat) : ZDI P w K tg (Itr lo n) [it] it (fun i h => IsRangeIter h it (lo + (i : Nat) * 1) ((n : Int) - (i : Nat)) 1) where
 mem := by simp
 obj := fun i h st b hb => by
  have e : b = it := by simpa using hb
  subst e
  exact ⟨_, st, fun v z => by
   have z' : Data.fields _ = Data.cell v := z
   cases z'⟩
 keep := fun i h h' st k => k it (by simp) _ st
 item := by
  intro X hP hw hK hc i pins s U H E I hf st hg
  subst hP hw hK
  obtain ⟨f0, f1, f2, f3, f4, f5⟩ := hf it (by simp)
  have W := Walks.range (prog := X.prog) (w := X.w) (I.ok.hd hc) it lo 1 n
  refine W.item i s _ _ hg st fun v h' tk hv st' kk => ?_
  obtain ⟨t, rfl⟩ := hv
  have I1 : Inv X pins U H { s with heap := h', toks := tk } := I.turned (fun b o hb e => kk b o (by simpa using hb) e) f0 f1 f3 f4 f5
  refine ⟨_, rfl, ZDJ (s := { s with heap := h', toks := tk }) (n := "range_iterator") st' rfl rfl (by decide) ⟨.int (lo + i), H, I1, ⟨t, ?_⟩, ⟨rfl, rfl⟩, st', fun b hb => (hf b hb).1⟩⟩
  rw [Int.mul_one]
 done := by
  intro X hP hw hK hc i pins s U H E I hf st hg
  subst hP hw hK
  obtain ⟨f0, f1, f2, f3, f4, f5⟩ := hf it (by simp)
  exact wpAny_pyNext_range_end (I.ok.hd hc) st (by have : n <= i := hg; omega) fun h' eb => ⟨rfl, I.turned (t' := s.toks) (fun b o hb e => eb b o hb e) f0 f1 f3 f4 f5⟩
 self := fun _ _ _ _ _ st h => wpAny_pyIter_rangeiter st h
section
variable {X : Cx} {tg : Expr}
def ZBm (K : W.Frag) (tl : TE) : TI := fun U H R => tl U H fun x H1 => ∃ a, x = .ref a /\ (∃ xs, SqL K H1 a xs) /\ R (Itl K a) H1
def ZDM (K : W.Frag) (tl : TE) : TI := fun U H R => tl U H fun x H1 => ∃ a, x = .ref a /\ (∃ xs, SqT K H1 a xs) /\ R (Itt K a) H1
theorem ZGC {l : Expr} {tl : TE} (hl : PE X l tl) : PI X tg l (ZBm X.K tl) := by
 intro pins s U H R I h
 refine thn (hl pins s U H _ I h) fun v s1 ⟨x, H1, I1, r1, q1⟩ => ?_
 obtain ⟨a, e, ⟨xs, hq⟩, q⟩ := q1
 subst e
 cases r1
 obtain ⟨its, rv, p, hz⟩ := I1.list hq
 refine wpAny_pyIter_list p.isList ?_
 refine ⟨s1.heap.objs.size, [s1.heap.objs.size], _, _, H1, rfl, I1.kept (t' := s1.toks) fun b o e => Ub _ e, ZDy a _, ⟨_, Uj _ rfl, rfl, rfl⟩, fun b hb => ?_, q⟩
 have e : b = s1.heap.objs.size := by simpa using hb
 subst e
 exact I1.fpOk (Ud _) (I1.hok.fresh (Ud _))
theorem ZHA {l : Expr} {tl : TE} (hl : PE X l tl) : PI X tg l (ZDM X.K tl) := by
 intro pins s U H R I h
 refine thn (hl pins s U H _ I h) fun v s1 ⟨x, H1, I1, r1, q1⟩ => ?_
 obtain ⟨a, e, ⟨xs, hq⟩, q⟩ := q1
 subst e
 cases r1
 obtain ⟨its, rv, p, hz⟩ := I1.tuple hq
 refine wpAny_pyIter_tuple (show s1.heap.IsTuple a its.toArray from p) ?_
 refine ⟨s1.heap.objs.size, [s1.heap.objs.size], _, _, H1, rfl, I1.kept (t' := s1.toks) fun b o e => Ub _ e, ZDK a _, ⟨_, Uj _ rfl, rfl, rfl⟩, fun b hb => ?_, q⟩
 have e : b = s1.heap.objs.size := by simpa using hb
 subst e
 exact I1.fpOk (Ud _) (I1.hok.fresh (Ud _))
theorem ZE0 {pins : List (Addr × Obj)} {U : St} {H : Hp} {s : Shared} {R : It -> Hp -> Prop} {E : Value -> Shared -> Prop} {lo hi : Int} {t u v : Tok} {tk : Nat} (I : Inv X pins U H s) (h1 : -(2 ^ 62) <= lo) (h2 : lo < 2 ^ 62) (h3 : -(2 ^ 62) <= hi) (h4 : hi < 2 ^ 62)
  (q : R (Itr lo (hi - lo).toNat) H) : wpAny (model X.prog X.w) X.A (pyIter (.ref s.heap.objs.size)) (PIE X pins U tg R) E { s with heap := s.heap.push { cls := .type "range", data := .fields #[.int lo t, .int hi u, .int 1 v] }, toks := tk } := by
 refine wpAny_pyIter_range (IsRange.new ..) (small_one h1 h2 h3 h4) ?_
 have I1 : Inv X pins U H { s with heap := s.heap.push { cls := .type "range", data := .fields #[.int lo t, .int hi u, .int 1 v] }, toks := tk } := I.kept fun b o e => Ub _ e
 refine ⟨(s.heap.push { cls := .type "range", data := .fields #[.int lo t, .int hi u, .int 1 v] }).objs.size, [(s.heap.push { cls := .type "range", data := .fields #[.int lo t, .int hi u, .int 1 v] }).objs.size], _, _, H, rfl,
  I1.kept (t' := tk) fun b o e => Ub _ e, ZDL _ lo (hi - lo).toNat, ?_, fun b hb => ?_, q⟩
 ·have e1 : lo + ((0 : Nat) : Int) * 1 = lo := by simp
  have e2 : (((hi - lo).toNat : Nat) : Int) - ((0 : Nat) : Int) = Builtin.Range.rangeSize lo hi 1 := by rw [rangeSize_one]; split <;> omega
  show IsRangeIter _ _ (lo + ((0 : Nat) : Int) * 1) ((((hi - lo).toNat : Nat) : Int) - ((0 : Nat) : Int)) 1
  rw [e1, e2]
  exact Uj _ rfl
 ·have e : b = (s.heap.push { cls := .type "range", data := .fields #[.int lo t, .int hi u, .int 1 v] }).objs.size := by simpa using hb
  subst e
  exact I1.fpOk (Ud _) (I1.hok.fresh (Ud _))
def ZDN (ta : TA) : TI := fun U H R => ta U H fun vs H1 => ∃ j : Int, vs = [.int j] /\ -(2 ^ 62) <= j /\ j < 2 ^ 62 /\ R (Itr 0 j.toNat) H1
theorem ZDz {a : Expr} {ta : TA} {p pos : Pos} (hg : Gl X "range") (hm : X.mg "range" = none) (ha : PA X [a] ta) (hs : starEach [a] X.env = [(false, eval a X.env)] := by rfl) : PI X tg (.Call (.Name "range" p) [a] [] pos) (ZDN ta) := by
 intro pins s U H R I h
 refine Call_ (Ji I hg hm boot_range (PyProof.Rows.callWith_type1 (thn (ha pos pins s U H _ I h) fun us s1 ⟨vs, H1, I1, r1, q1⟩ => ?_) hs rfl))
 obtain ⟨j, e, q1, q2, q⟩ := q1
 subst e
 cases r1 with
 | cons r rr =>
  cases rr
  obtain ⟨t, rfl⟩ := r
  exact call_range_1 (ZE0 I1 (by omega) (by omega) q1 q2 (by simpa using q))
def ZE1 (wi : TI) (g : TG) (tb : TS) : TS := fun D U H => wi U H fun J H1 => ∃ W : Nat -> Nat -> St -> Hp -> Prop, (∃ m, W 0 m U H1) /\ ∀ i m U H, W i m U H ->
 (J.stop i H /\ D.nx U H) \/ (J.go i H /\ ∃ N : St -> Hp -> Prop, (∀ U' H', N U' H' -> ∃ m', m' < m /\ W (i + 1) m' U' H') /\ ∀ x H', J.yld i H x H' -> g x U H' fun U2 H2 => tb { D with nx := N, ct := N, bk := D.nx } U2 H2)
def J7 (fp : List Addr) (h : Heap) : List (Addr × Obj) := fp.filterMap fun b => (h.get? b).map fun o => (b, o)
theorem JJ {fp : List Addr} {h : Heap} {b : Addr} {o : Obj} (hb : b ∈ fp) (e : h.get? b = some o) : (b, o) ∈ J7 fp h := List.mem_filterMap.mpr ⟨b, hb, by rw [e]; rfl⟩
theorem ZD0 {fp : List Addr} {h : Heap} {p : Addr × Obj} (hp : p ∈ J7 fp h) : p.1 ∈ fp /\ h.get? p.1 = some p.2 := by
 obtain ⟨b, hb, e⟩ := List.mem_filterMap.mp hp
 cases q : h.get? b with
 | none => rw [q] at e; cases e
 | some o =>
  rw [q] at e
  have e' : (b, o) = p := Option.some.inj e
  subst e'
  exact ⟨hb, q⟩
theorem Inv.pinned {pins : List (Addr × Obj)} {U : St} {H : Hp} {s : Shared} {fp : List Addr} (I : Inv X pins U H s) (hf : ∀ b ∈ fp, Yv X pins H b) (ho : ∀ b ∈ fp, ∃ o, s.heap.get? b = some o /\ ∀ v, o.data ≠ .cell v) : Inv X (pins ++ J7 fp s.heap) U H s :=
 I.pins_of fun p hp => (UT.mp hp).elim (fun z => I.pin p (Um _ z)) fun z => by
  obtain ⟨hb, e⟩ := ZD0 z
  obtain ⟨f0, f1, f2, _⟩ := hf p.1 hb
  obtain ⟨o, e', d⟩ := ho p.1 hb
  rw [e] at e'; cases e'
  exact ⟨e, f0, f1, f2, d⟩
theorem Inv.unpinned {pins pl : List (Addr × Obj)} {U : St} {H : Hp} {s : Shared} (I : Inv X (pins ++ pl) U H s) : Inv X pins U H s := I.pins_of fun p hp => I.pin p (Um _ (List.mem_append_left _ hp))
theorem ZHB {iter : Expr} {body : List Stmt} {wi : TI} {g : TG} {tb : TS} {pos : Pos} (hp : PassesOwn (model X.prog X.w) X.A X.env X.xe) (hc : X.calm = true) (hi : PI X tg iter wi) (hg : PG X tg g) (hb : PSs X body tb)
  (hs : ∀ x, foldedSetIterable iter X.env x = pure x := by intro _; rfl) : PS X (.For tg iter body [] pos) (ZE1 wi g tb) := by
 intro pins s U H D I h
 refine wpAny_For (thn (hi pins s U H _ I h) fun v s1 h1 => thn h1 fun itv s2 h2 => ?_) hs
 obtain ⟨it, fp, tn, J, H2, e, I2, T, st2, f2, W, ⟨m0, w0⟩, turn⟩ := h2
 subst e
 -- what stays true of the iterator's objects through the loop
 have stat : ∀ {H' : Hp}, (∀ b ∈ fp, H' b = none) -> ∀ b ∈ fp, Yv X pins H' b := fun hn b hb => ⟨hn b hb, (f2 b hb).2⟩
 refine codeAny_forLoop_any (fun n s' => ∃ i U' H', Inv X pins U' H' s' /\ tn i s'.heap /\ (∀ b ∈ fp, H' b = none) /\ W i n U' H') ?_ m0 ⟨0, U, H2, I2, st2, fun b hb => (f2 b hb).1, w0⟩
 rintro n s3 ⟨i, U3, H3, I3, st3, fr3, w3⟩
 rcases turn i n U3 H3 w3 with ⟨stop, qn⟩ | ⟨go, N, hN, step⟩
 ·refine wpAny_passesOwn hp (thn (T.done X rfl rfl rfl hc i pins s3 U3 H3 X.xe I3 (stat fr3) st3 stop) fun r s4 ⟨hr, I4⟩ => ?_)
  subst hr
  exact wpAny_execs_nil ⟨U3, H3, I4, qn⟩
 ·refine wpAny_passesOwn hp (thn (T.item X rfl rfl rfl hc i pins s3 U3 H3 X.xe I3 (stat fr3) st3 go) fun r s4 ⟨u, hr, h4⟩ => ?_)
  subst hr
  refine wpAny_passesOwn hp (thn h4 fun _ s5 ⟨x, H5, I5, r5, y5, st5, fr5⟩ => ?_)
  have I5' := I5.pinned (stat fr5) (T.obj _ _ st5)
  refine wpAny_passesOwn hp (thn (hg _ s5 U3 H5 x u _ I5' r5 (step x H5 y5)) fun _ s6 ⟨U6, H6, I6, q6⟩ => ?_)
  refine wpAny_passesOwn hp (thn (hb _ s6 U6 H6 _ I6 q6) fun f s7 q7 => ?_)
  have again : ∀ {U7 : St} {H7 : Hp}, Inv X (pins ++ J7 fp s5.heap) U7 H7 s7 -> N U7 H7 -> ∃ m, m < n /\ ∃ i U' H', Inv X pins U' H' s7 /\ tn i s7.heap /\ (∀ b ∈ fp, H' b = none) /\ W i m U' H' := fun {U7 H7} I7 n7 => by
   obtain ⟨m', hm, w7⟩ := hN U7 H7 n7
   refine ⟨m', hm, i + 1, U7, H7, I7.unpinned, T.keep _ _ _ st5 fun b hb o e => (I7.pin (b, o) (Um _ (Um _ (JJ hb e)))).1, fun b hb => ?_, w7⟩
   obtain ⟨o, e, d⟩ := T.obj _ _ st5 b hb
   exact (I7.pin (b, o) (Um _ (Um _ (JJ hb e)))).2.1
  cases f with
  | next => obtain ⟨U7, H7, I7, n7⟩ := q7; exact again I7 n7
  | cont => obtain ⟨U7, H7, I7, n7⟩ := q7; exact again I7 n7
  | brk => obtain ⟨U7, H7, I7, q7⟩ := q7; exact ⟨U7, H7, I7.unpinned, q7⟩
  | ret v => obtain ⟨x7, U7, H7, I7, r7, q7⟩ := q7; exact ⟨x7, U7, H7, I7.unpinned, r7, q7⟩
end
theorem ZE2 {K : W.Frag} {a : Addr} {xs : List V} {g : TG} {tb : TS} {D : Yi} {U : St} {H : Hp} (Pv : Nat -> St -> Hp -> Prop) (h0 : Pv 0 U H) (hl : ∀ i U H, i <= xs.length -> Pv i U H -> SqL K H a xs)
  (hs : ∀ i x U H, xs[i]? = some x -> Pv i U H -> g x U H fun U2 H2 => tb { D with nx := Pv (i + 1), ct := Pv (i + 1), bk := D.nx } U2 H2) (hd : ∀ U H, Pv xs.length U H -> D.nx U H) :
  ∃ W : Nat -> Nat -> St -> Hp -> Prop, (∃ m, W 0 m U H) /\ ∀ i m U H, W i m U H ->
   ((Itl K a).stop i H /\ D.nx U H) \/ ((Itl K a).go i H /\ ∃ N : St -> Hp -> Prop, (∀ U' H', N U' H' -> ∃ m', m' < m /\ W (i + 1) m' U' H') /\ ∀ x H', (Itl K a).yld i H x H' -> g x U H' fun U2 H2 => tb { D with nx := N, ct := N, bk := D.nx } U2 H2) := by
 refine ⟨fun i m U H => m = xs.length - i /\ i <= xs.length /\ Pv i U H, ⟨xs.length, by simp, UI _, h0⟩, ?_⟩
 rintro i m U H ⟨rfl, hi, p⟩
 have q := hl i U H hi p
 by_cases hlt : i < xs.length
 ·refine .inr ⟨⟨xs, xs[i], q, by simp [hlt]⟩, Pv (i + 1), fun U' H' p' => ⟨xs.length - (i + 1), by omega, rfl, hlt, p'⟩, fun x H' y => ?_⟩
  obtain ⟨e, y⟩ := y
  subst e
  exact hs i x U _ (y xs q) p
 ·have e : i = xs.length := by omega
  subst e
  exact .inl ⟨⟨xs, q, Ud _⟩, hd U H p⟩
theorem ZD1 {lo : Int} {n : Nat} {g : TG} {tb : TS} {D : Yi} {U : St} {H : Hp} (Pv : Nat -> St -> Hp -> Prop) (h0 : Pv 0 U H)
  (hs : ∀ i U H, i < n -> Pv i U H -> g (.int (lo + i)) U H fun U2 H2 => tb { D with nx := Pv (i + 1), ct := Pv (i + 1), bk := D.nx } U2 H2) (hd : ∀ U H, Pv n U H -> D.nx U H) :
  ∃ W : Nat -> Nat -> St -> Hp -> Prop, (∃ m, W 0 m U H) /\ ∀ i m U H, W i m U H ->
   ((Itr lo n).stop i H /\ D.nx U H) \/ ((Itr lo n).go i H /\ ∃ N : St -> Hp -> Prop, (∀ U' H', N U' H' -> ∃ m', m' < m /\ W (i + 1) m' U' H') /\ ∀ x H', (Itr lo n).yld i H x H' -> g x U H' fun U2 H2 => tb { D with nx := N, ct := N, bk := D.nx } U2 H2) := by
 refine ⟨fun i m U H => m = n - i /\ i <= n /\ Pv i U H, ⟨n, by simp, UI _, h0⟩, ?_⟩
 rintro i m U H ⟨rfl, hi, p⟩
 by_cases hlt : i < n
 ·refine .inr ⟨hlt, Pv (i + 1), fun U' H' p' => ⟨n - (i + 1), by omega, rfl, hlt, p'⟩, fun x H' y => ?_⟩
  obtain ⟨e, y⟩ := y
  subst e y
  exact hs i U _ hlt p
 ·have e : i = n := by omega
  subst e
  exact .inl ⟨Ud _, hd U H p⟩
abbrev R2 := V -> V -> Hp -> VK -> Prop
def OpR (X : Cx) (f : Value -> Value -> Sem Value) (r : R2) : Prop :=
 ∀ (pins : List (Addr × Obj)) (s : Shared) (U : St) (H : Hp) (x y : V) (v u : Value) (Q : VK), Inv X pins U H s -> YE x v -> YE y u -> r x y H Q ->
  wpAny (model X.prog X.w) X.A (f v u) (EP X pins U Q) X.xe s
def UnR (X : Cx) (f : Value -> Sem Value) (r : V -> Hp -> VK -> Prop) : Prop :=
 ∀ (pins : List (Addr × Obj)) (s : Shared) (U : St) (H : Hp) (x : V) (v : Value) (Q : VK), Inv X pins U H s -> YE x v -> r x H Q ->
  wpAny (model X.prog X.w) X.A (f v) (EP X pins U Q) X.xe s
def Yj (X : Cx) (f : Value) (r : List V -> Hp -> VK -> Prop) : Prop :=
 ∀ (pins : List (Addr × Obj)) (s : Shared) (U : St) (H : Hp) (xs : List V) (us : List Value) (Q : VK), Inv X pins U H s -> YB xs us -> r xs H Q ->
  wpAny (model X.prog X.w) X.A (call f us) (EP X pins U Q) X.xe s
def tOp (r : R2) (ta tb : TE) : TE := fun U H Q => ta U H fun x H1 => tb U H1 fun y H2 => r x y H2 Q
def tUn (r : V -> Hp -> VK -> Prop) (ta : TE) : TE := fun U H Q => ta U H fun x H1 => r x H1 Q
def rI (C : Int -> Int -> Prop) (g : Int -> Int -> V) : R2 := fun x y H Q => ∃ i j, x = .int i /\ y = .int j /\ C i j /\ Q (g i j) H
def rI0 (g : Int -> Int -> V) : R2 := fun x y H Q => ∃ i j, x = .int i /\ y = .int j /\ Q (g i j) H
def rU (g : Int -> V) : V -> Hp -> VK -> Prop := fun x H Q => ∃ i, x = .int i /\ Q (g i) H
section
variable {X : Cx} {a b c : Expr} {ta tb tc : TE} {pos : Pos}
theorem ZHC (ha : PE X a ta) (hb : PE X b tb) {pins : List (Addr × Obj)} {s : Shared} {U : St} {H : Hp} {R : V -> V -> Hp -> Prop} (I : Inv X pins U H s)
  (h : ta U H fun x H1 => tb U H1 fun y H2 => R x y H2) {Q : Value -> Shared -> Prop} {f : Value -> Value -> Sem Value}
  (hf : ∀ v u s2 x y H2, Inv X pins U H2 s2 -> YE x v -> YE y u -> R x y H2 -> wpAny (model X.prog X.w) X.A (f v u) Q X.xe s2) :
  wpAny (model X.prog X.w) X.A (eval a X.env) (fun v s₁ => wpAny (model X.prog X.w) X.A (eval b X.env) (fun u s₂ => wpAny (model X.prog X.w) X.A (f v u) Q X.xe s₂) X.xe s₁) X.xe s := by
 refine thn (ha pins s U H _ I h) fun v s1 ⟨x, H1, I1, r1, q1⟩ => ?_
 refine thn (hb pins s1 U H1 _ I1 q1) fun u s2 ⟨y, H2, I2, r2, q2⟩ => ?_
 exact hf v u s2 x y H2 I2 r1 r2 q2
theorem ZH6 {op : Operator} {r : R2} (ho : OpR X (binaryOp op) r) (ha : PE X a ta) (hb : PE X b tb) : PE X (.BinOp a op b pos) (tOp r ta tb) := by
 intro pins s U H Q I h
 exact wpAny_BinOp (ZHC ha hb I h fun v u s2 x y H2 I2 rx ry q => ho pins s2 U H2 x y v u Q I2 rx ry q)
theorem ZH7 {op : UnaryOp} {r : V -> Hp -> VK -> Prop} (ho : UnR X (unaryOp op) r) (ha : PE X a ta) : PE X (.UnaryOp op a pos) (tUn r ta) := by
 intro pins s U H Q I h
 exact UnaryOp_ (thn (ha pins s U H _ I h) fun v s1 ⟨x, H1, I1, r1, q1⟩ => ho pins s1 U H1 x v Q I1 r1 q1)
theorem opI {f : Value -> Value -> Sem Value} {C : Int -> Int -> Prop} {g : Int -> Int -> Int}
  (rule : ∀ (i j : Int) (t u : Tok) (s : Shared) (Q : Value -> Shared -> Prop) (E : Value -> Shared -> Prop), C i j -> Q (.int (g i j) s.toks) { s with toks := s.toks + 1 } -> wpAny (model X.prog X.w) X.A (f (.int i t) (.int j u)) Q E s) :
  OpR X f (rI C fun i j => .int (g i j)) := by
 intro pins s U H x y v u Q I rx ry h
 obtain ⟨i, j, rfl, rfl, hc, q⟩ := h
 obtain ⟨t, rfl⟩ := rx
 obtain ⟨t', rfl⟩ := ry
 exact rule i j t t' s _ _ hc ⟨.int (g i j), H, I.tok _, ⟨_, rfl⟩, q⟩
theorem ZE3 {f : Value -> Value -> Sem Value} {g : Int -> Int -> Int}
  (rule : ∀ (i j : Int) (t u : Tok) (s : Shared) (Q : Value -> Shared -> Prop) (E : Value -> Shared -> Prop), Q (.int (g i j) s.toks) { s with toks := s.toks + 1 } -> wpAny (model X.prog X.w) X.A (f (.int i t) (.int j u)) Q E s) :
  OpR X f (rI0 fun i j => .int (g i j)) := by
 intro pins s U H x y v u Q I rx ry h
 obtain ⟨i, j, rfl, rfl, q⟩ := h
 obtain ⟨t, rfl⟩ := rx
 obtain ⟨t', rfl⟩ := ry
 exact rule i j t t' s _ _ ⟨.int (g i j), H, I.tok _, ⟨_, rfl⟩, q⟩
theorem ZHD {f : Value -> Value -> Sem Value} {g : Int -> Int -> Bool}
  (rule : ∀ (i j : Int) (t u : Tok) (s : Shared) (Q : Value -> Shared -> Prop) (E : Value -> Shared -> Prop), Q (.bool (g i j)) s -> wpAny (model X.prog X.w) X.A (f (.int i t) (.int j u)) Q E s) :
  OpR X f (rI0 fun i j => .bl (g i j)) := by
 intro pins s U H x y v u Q I rx ry h
 obtain ⟨i, j, rfl, rfl, q⟩ := h
 obtain ⟨t, rfl⟩ := rx
 obtain ⟨t', rfl⟩ := ry
 exact rule i j t t' s _ _ ⟨.bl (g i j), H, I, rfl, q⟩
def ZE4 (i j : Int) : Prop := 0 <= j /\ j <= 1000000 /\ i.natAbs < 2 ^ 64
theorem JO : OpR X (binaryOp .Add) (rI0 fun i j => .int (i + j)) := ZE3 fun _ _ _ _ _ _ _ q => add_int q
theorem Y5 : OpR X (binaryOp .Sub) (rI0 fun i j => .int (i - j)) := ZE3 fun _ _ _ _ _ _ _ q => sub_int q
theorem J8 : OpR X (binaryOp .Mod) (rI (fun _ j => 0 < j) fun i j => .int (i % j)) := opI fun i j _ _ _ _ _ hc q => by
 have h1 : (0 : Int) < j := hc
 exact mod_int' (by omega) (by rw [Int.fmod_eq_emod_of_nonneg i (by omega)]; exact q)
theorem Jj : OpR X (binaryOp .Pow) (rI ZE4 fun i j => .int (i ^ j.toNat)) := opI fun _ _ _ _ _ _ _ hc q => pow_int_small hc.1 hc.2.1 hc.2.2 q
theorem ZGD : OpR X (inplaceOp .Add) (rI0 fun i j => .int (i + j)) := ZE3 fun _ _ _ _ _ _ _ q => iadd_int q
theorem unI {f : Value -> Sem Value} {g : Int -> Int}
  (rule : ∀ (i : Int) (t : Tok) (s : Shared) (Q : Value -> Shared -> Prop) (E : Value -> Shared -> Prop), Q (.int (g i) s.toks) { s with toks := s.toks + 1 } -> wpAny (model X.prog X.w) X.A (f (.int i t)) Q E s) :
  UnR X f (rU fun i => .int (g i)) := by
 intro pins s U H x v Q I rx h
 obtain ⟨i, rfl, q⟩ := h
 obtain ⟨t, rfl⟩ := rx
 exact rule i t s _ _ ⟨.int (g i), H, I.tok _, ⟨_, rfl⟩, q⟩
theorem ZAt : UnR X (unaryOp .USub) (rU fun i => .int (-i)) := unI fun _ _ _ _ _ q => neg_int q
end
def ZHE : V -> V -> Bool
 | .non, .non => true | .non, .int _ => true | .int _, .non => true | .non, .bl _ => true | .bl _, .non => true | .non, .str _ => true | .str _, .non => true
 | .int _, .int _ => true | .bl _, .bl _ => true | .str _, .str _ => true | .byt _, .byt _ => true
 | .int _, .str _ => true | .str _, .int _ => true | .bl _, .str _ => true | .str _, .bl _ => true
 | _, _ => false
def rEq : R2 := fun x y H Q => ZHE x y = true /\ Q (.bl (decide (x = y))) H
def rNe : R2 := fun x y H Q => ZHE x y = true /\ Q (.bl (!decide (x = y))) H
theorem ZCj {i j : Int} : decide (V.int i = V.int j) = (i == j) := by
 rw [Bool.eq_iff_iff]
 simp
theorem ZD2 {i j : Bool} : decide (V.bl i = V.bl j) = (i == j) := by
 rw [Bool.eq_iff_iff]
 simp
theorem ZCk {i j : Str} : decide (V.str i = V.str j) = (i == j) := by
 rw [Bool.eq_iff_iff]
 simp
theorem ZCl {i j : Array UInt8} : decide (V.byt i = V.byt j) = (i.toList == j.toList) := by
 rw [Bool.eq_iff_iff]
 cases i
 cases j
 simp
section
variable {X : Cx} {a b c : Expr} {ta tb tc : TE} {pos : Pos}
theorem YH {pins : List (Addr × Obj)} {U : St} {H : Hp} {s : Shared} {Q : VK} {k k' : Bool} (I : Inv X pins U H s) (q : Q (.bl k) H) (e : k = k') : EP X pins U Q (.bool k') s := by
 subst e
 exact ⟨.bl k, H, I, rfl, q⟩
theorem ZAO : OpR X (compareOp .Eq) rEq := by
 intro pins s U H x y v u Q I rx ry h
 obtain ⟨hs, q⟩ := h
 cases x with
 | non =>
  cases rx
  cases y with
  | non => cases ry; exact PySem.EqNone.eq_none_none (YH I q (by simp))
  | bl j => cases ry; exact PySem.EqNone.eq_none_bool (YH I q (by simp))
  | int j => obtain ⟨t', rfl⟩ := ry; exact PySem.EqNone.eq_none_int (YH I q (by simp))
  | str j => obtain ⟨t', rfl⟩ := ry; exact PySem.EqNone.eq_none_str (YH I q (by simp))
  | _ => exact absurd (show false = true from hs) Uw
 | bl i =>
  cases rx
  cases y with
  | non => cases ry; exact PySem.EqNone.eq_bool_none (YH I q (by simp))
  | bl j => cases ry; exact eq_bool (YH I q ZD2)
  | str j => obtain ⟨t', rfl⟩ := ry; exact PySem.EqMixed.eq_bool_str (YH I q (by simp))
  | _ => exact absurd (show false = true from hs) Uw
 | int i =>
  obtain ⟨t, rfl⟩ := rx
  cases y with
  | non => cases ry; exact PySem.EqNone.eq_int_none (YH I q (by simp))
  | int j => obtain ⟨t', rfl⟩ := ry; exact eq_int (YH I q ZCj)
  | str j => obtain ⟨t', rfl⟩ := ry; exact PySem.EqMixed.eq_int_str (YH I q (by simp))
  | _ => exact absurd (show false = true from hs) Uw
 | str i =>
  obtain ⟨t, rfl⟩ := rx
  cases y with
  | non => cases ry; exact PySem.EqNone.eq_str_none (YH I q (by simp))
  | bl j => cases ry; exact PySem.EqMixed.eq_str_bool (YH I q (by simp))
  | int j => obtain ⟨t', rfl⟩ := ry; exact PySem.EqMixed.eq_str_int (YH I q (by simp))
  | str j => obtain ⟨t', rfl⟩ := ry; exact eq_str (YH I q ZCk)
  | _ => exact absurd (show false = true from hs) Uw
 | byt i =>
  obtain ⟨t, rfl⟩ := rx
  cases y with
  | byt j => obtain ⟨t', rfl⟩ := ry; exact PySem.W.eq_bytes (YH I q ZCl)
  | _ => exact absurd (show false = true from hs) Uw
 | _ => cases y <;> exact absurd (show false = true from hs) Uw
theorem ZFq : OpR X (compareOp .NotEq) rNe := by
 intro pins s U H x y v u Q I rx ry h
 obtain ⟨hs, q⟩ := h
 cases x with
 | non =>
  cases rx
  cases y with
  | non => cases ry; exact PySem.EqNone.ne_none_none (YH I q (by simp))
  | bl j => cases ry; exact PySem.EqNone.ne_none_bool (YH I q (by simp))
  | int j => obtain ⟨t', rfl⟩ := ry; exact PySem.EqNone.ne_none_int (YH I q (by simp))
  | str j => obtain ⟨t', rfl⟩ := ry; exact PySem.EqNone.ne_none_str (YH I q (by simp))
  | _ => exact absurd (show false = true from hs) Uw
 | bl i =>
  cases rx
  cases y with
  | non => cases ry; exact PySem.EqNone.ne_bool_none (YH I q (by simp))
  | bl j => cases ry; exact ne_bool (YH I q (congrArg not ZD2))
  | str j => obtain ⟨t', rfl⟩ := ry; exact PySem.EqMixed.ne_bool_str (YH I q (by simp))
  | _ => exact absurd (show false = true from hs) Uw
 | int i =>
  obtain ⟨t, rfl⟩ := rx
  cases y with
  | non => cases ry; exact PySem.EqNone.ne_int_none (YH I q (by simp))
  | int j => obtain ⟨t', rfl⟩ := ry; exact ne_int (YH I q (congrArg not ZCj))
  | str j => obtain ⟨t', rfl⟩ := ry; exact PySem.EqMixed.ne_int_str (YH I q (by simp))
  | _ => exact absurd (show false = true from hs) Uw
 | str i =>
  obtain ⟨t, rfl⟩ := rx
  cases y with
  | non => cases ry; exact PySem.EqNone.ne_str_none (YH I q (by simp))
  | bl j => cases ry; exact PySem.EqMixed.ne_str_bool (YH I q (by simp))
  | int j => obtain ⟨t', rfl⟩ := ry; exact PySem.EqMixed.ne_str_int (YH I q (by simp))
  | str j => obtain ⟨t', rfl⟩ := ry; exact ne_str (YH I q (congrArg not ZCk))
  | _ => exact absurd (show false = true from hs) Uw
 | byt i =>
  obtain ⟨t, rfl⟩ := rx
  cases y with
  | byt j => obtain ⟨t', rfl⟩ := ry; exact PySem.W.ne_bytes (YH I q (congrArg not ZCl))
  | _ => exact absurd (show false = true from hs) Uw
 | _ => cases y <;> exact absurd (show false = true from hs) Uw
theorem ZH8 : OpR X (compareOp .Lt) (rI0 fun i j => .bl (decide (i < j))) := ZHD fun _ _ _ _ _ _ _ q => lt_int q
theorem ZFr : OpR X (compareOp .Gt) (rI0 fun i j => .bl (decide (j < i))) := ZHD fun _ _ _ _ _ _ _ q => gt_int q
theorem Yt (b : Expr) {op : CmpOp} (h : op ≠ .In := by decide) (h2 : op ≠ .NotIn := by decide) : behindInMarks op b = false := by
 have e1 : (op == CmpOp.In) = false := by cases op <;> first | rfl | exact absurd rfl h
 have e2 : (op == CmpOp.NotIn) = false := by cases op <;> first | rfl | exact absurd rfl h2
 cases b <;> simp [behindInMarks, e1, e2]
def ZDO (t : TE) : TT := fun U H Q => t U H fun x H' => ∃ k, x = .bl k /\ Q k H'
theorem ZGE {op : CmpOp} {r : R2} (ho : OpR X (compareOp op) r) (ha : PE X a ta) (hb : PE X b tb) (hm : behindInMarks op b = false) : PT X (.Compare a [op] [b] pos) (ZDO (tOp r ta tb)) := by
 intro pins s U H Q I h
 refine wpAny_isTrue_Compare1 (thn (ha pins s U H _ I h) fun v s1 ⟨x, H1, I1, r1, q1⟩ => thn (hb pins s1 U H1 _ I1 q1) fun u s2 ⟨y, H2, I2, r2, q2⟩ =>
  thn (ho pins s2 U H2 x y v u _ I2 r1 r2 q2) fun c s3 ⟨z, H3, I3, r3, k, e, q3⟩ => ?_) hm
 subst e
 cases r3
 exact wpAny_truthy_bool ⟨H3, I3, q3⟩
theorem ZAu : (sizeLine : Nat) < 2 ^ 63 := by rw [sizeLine_eq]; decide
theorem ZDP {x : V} {us : List Value} (r : YB [x] us) : ∃ u, us = [u] /\ YE x u := by
 cases r with
 | cons r1 r2 => cases r2; exact ⟨_, rfl, r1⟩
theorem ZFs {x y : V} {us : List Value} (r : YB [x, y] us) : ∃ u w', us = [u, w'] /\ YE x u /\ YE y w' := by
 cases r with
 | cons r1 r2 =>
  cases r2 with
  | cons r3 r4 => cases r4; exact ⟨_, _, rfl, r1, r3⟩
theorem ZE5 : Yj X (.builtin "abs") (fun xs H Q => ∃ i, xs = [.int i] /\ Q (.int (if i < 0 then -i else i)) H) := by
 intro pins s U H xs us Q I r h
 obtain ⟨i, rfl, q⟩ := h
 obtain ⟨u, rfl, t, rfl⟩ := ZDP r
 exact call_abs_int fun u tk => ⟨.int (if i < 0 then -i else i), H, I.tok _, ⟨_, rfl⟩, q⟩
theorem ZD3 (hc : X.calm = true) : Yj X (.builtin "max") (fun xs H Q => ∃ i j, xs = [.int i, .int j] /\ Q (.int (if j > i then j else i)) H) := by
 intro pins s U H xs us Q I r h
 obtain ⟨i, j, rfl, q⟩ := h
 obtain ⟨u, w', rfl, ⟨t, rfl⟩, ⟨t', rfl⟩⟩ := ZFs r
 refine max_two_ints (I.ok.hd hc) fun h' tk k => ⟨_, H, I.kept k, ?_, q⟩
 by_cases hj : j > i
 ·rw [if_pos hj, if_pos hj]; exact ⟨_, rfl⟩
 ·rw [if_neg hj, if_neg hj]; exact ⟨_, rfl⟩
end
structure Room (k : Nat) (A : Around) : Prop where
 hd : A.handled = none
 dp : A.depth + 3 * k + 5 < recursionLimit
 un : A.units + 16 * k + 200 < cLine
 gd : A.guards = some []
theorem Room.mono {j k : Nat} {A : Around} (r : Room k A) (h : j <= k) : Room j A := ⟨r.hd, by have := r.dp; omega, by have := r.un; omega, r.gd⟩
theorem Room.deeper {k : Nat} {A : Around} (r : Room (k + 1) A) (env : Env) : Room k (A.deeper env) :=
 ⟨r.hd, by have := r.dp; show A.depth + 1 + 3 * k + 5 < _; omega, by have := r.un; show A.units + 3 + 16 * k + 200 < _; omega, r.gd⟩
theorem Room.in1 {k : Nat} {A : Around} (r : Room (k + 1) A) : Room k A.in1 :=
 ⟨r.hd, by have := r.dp; show A.depth + 3 * k + 5 < _; omega, by have := r.un; show A.units + 1 + 16 * k + 200 < _; omega, r.gd⟩
theorem Room.depth {k : Nat} {A : Around} (r : Room k A) : A.depth < recursionLimit := by have := r.dp; omega
theorem Room.units {k : Nat} {A : Around} (r : Room k A) : A.units + 64 < cLine := by have := r.un; omega
def ZE6 : TA := fun _ H Q => Q [] H
def ZBn (ta : TE) (tr : TA) : TA := fun U H Q => ta U H fun x H1 => tr U H1 fun xs H2 => Q (x :: xs) H2
section
variable {X : Cx} {e : Expr} {es : List Expr} {te : TE} {t : TA} {pos : Pos}
theorem ZHF : PA X [] ZE6 := fun _ _ _ _ H Q I h => Calls.spliced_nil ⟨[], H, I, .nil, h⟩
theorem ZGF (ha : PE X e te) (hr : PA X es t) (hs : starEach (e :: es) X.env = (false, eval e X.env) :: starEach es X.env := by rfl) : PA X (e :: es) (ZBn te t) := by
 intro pos pins s U H Q I h
 rw [hs]
 show wpAny _ _ (spliced ((false, eval e X.env) :: backTo pos (starEach es X.env))) _ _ s
 refine Calls.spliced_cons (thn (ha pins s U H _ I h) fun u s1 ⟨x, H1, I1, r1, q1⟩ => ?_)
 exact thn (hr pos pins s1 U H1 _ I1 q1) fun us s2 ⟨xs, H2, I2, r2, q2⟩ => ⟨x :: xs, H2, I2, .cons r1 r2, q2⟩
def ZE7 (t : TA) : TE := fun U H Q => t U H fun xs H1 => xs.length <= sizeLine /\ ∀ p, H1 p = none -> Q (.ref p) (upd H1 p (.tup xs))
def ZE8 (t : TA) : TE := fun U H Q => t U H fun xs H1 => xs.length <= sizeLine /\ ∀ p, H1 p = none -> Q (.ref p) (upd H1 p (.lst xs))
theorem ZHG {x1} (h : PA X es t) : PE X (.Tuple es x1 pos) (ZE7 t) := by
 intro pins s U H Q I hq
 refine wpAny_Tuple_spliced (thn (h pos pins s U H _ I hq) fun us s1 ⟨xs, H1, I1, r, z, q⟩ => ⟨by rw [<- r.length]; exact z, ?_⟩)
 have hf : H1 s1.heap.objs.size = none := I1.hok.fresh (Ud _)
 refine ⟨.ref s1.heap.objs.size, upd H1 s1.heap.objs.size (.tup xs), I1.laid (t' := s1.toks) (fun b u e => Ub _ e) (Ud _) ?_, rfl, q _ hf⟩
 exact ⟨⟨z, fun _ => ⟨_, Uj _ rfl, rfl, rfl⟩⟩, us, r, ⟨_, Uj _ rfl, rfl, _, rfl⟩⟩
theorem ZHH (h : PA X es t) : PE X (.List es pos) (ZE8 t) := by
 intro pins s U H Q I hq
 refine wpAny_List_spliced (thn (h pos pins s U H _ I hq) fun us s1 ⟨xs, H1, I1, r, z, q⟩ => ⟨by rw [<- r.length]; exact z, ?_⟩)
 have hf : H1 s1.heap.objs.size = none := I1.hok.fresh (Ud _)
 refine ⟨.ref s1.heap.objs.size, upd H1 s1.heap.objs.size (.lst xs), I1.laid (t' := s1.toks) (fun b u e => Ub _ e) (Ud _) ?_, rfl, q _ hf⟩
 exact ⟨z, us, 0, r, Uj _ rfl⟩
end
abbrev Sp := List V -> Hp -> VK -> XK -> Prop
abbrev CXT := List Env -> Hp -> Shared -> XK -> Value -> Shared -> Prop
structure ZAe (P : Program) (w : World) (K : W.Frag) (mg : Str -> Option Value) (base : Heap) (A : Around) (outer : List Env) (s : Shared) (H : Hp) : Prop where
 frames : A.frames = some outer
 mod : Mod K mg base
 bs : ∀ b o, base.get? b = some o -> s.heap.get? b = some o /\ H b = none
 bsz : base.objs.size <= s.heap.objs.size
 funs : s.heap.FunFrames base outer
 frf : ∀ b ∈ frs outer, H b = none
 hok : HOk P w H s.heap
 bare : AllBare s.gens
def CE (outer : List Env) (P : Program) (w : World) (H : Hp) (s : Shared) (Q : VK) (u : Value) (s' : Shared) : Prop :=
 ∃ v H', s'.os = s.os /\ AllBare s'.gens /\ Un (frs outer) [] H H' s.heap s'.heap /\ HOk P w H' s'.heap /\ YE v u /\ Q v H'
def CR (CX : CXT) (outer : List Env) (P : Program) (w : World) (H : Hp) (s : Shared) (Q : VK) (E : XK) (r : Result) (s' : Shared) : Prop :=
 match r with
 | .ok (.ret u) => CE outer P w H s Q u s'
 | .ok _ => False
 | .error e => CX outer H s E e s'
structure YZ (P : Program) (w : World) (K : W.Frag) (mg : Str -> Option Value) (base : Heap) (CX : CXT) (k : Nat) (f : Addr) (fd : FuncData) (ps : List Str) (sp : Sp) : Prop where
 len : ∀ vs H Q E, sp vs H Q E -> vs.length = ps.length
 run : ∀ (A : Around) (outer : List Env) (s : Shared) (H : Hp) (args : Args) (us : List Value) (vs : List V) (Q : VK) (E : XK), Room k A -> ZAe P w K mg base A outer s H -> BindsTo s fd args (ps.zip us) -> YB vs us -> sp vs H Q E ->
  codeAny (model P w) A (.call (.ref f) args) (CR CX outer P w H s Q E) s
theorem ZAe.in1 {P : Program} {w : World} {K : W.Frag} {mg : Str -> Option Value} {base : Heap} {A : Around} {outer : List Env} {s : Shared} {H : Hp} (e : ZAe P w K mg base A outer s H) :
 ZAe P w K mg base A.in1 outer s H := ⟨e.frames, e.mod, e.bs, e.bsz, e.funs, e.frf, e.hok, e.bare⟩
section
variable {X : Cx} {pins : List (Addr × Obj)} {U : St} {H : Hp} {s s' : Shared}
theorem Inv.env0 (I : Inv X pins U H s) : ZAe X.prog X.w X.K X.mg X.base X.A X.stack s H :=
 ⟨I.ok.frames, I.ok.mod, I.bs, UF I.ok.bsz I.sz, I.stack, I.stkFree, I.hok, I.bare⟩
theorem Inv.after {Q : VK} {u : Value} (I : Inv X pins U H s) (h : CE X.stack X.prog X.w H s Q u s') : EP X pins U Q u s' := by
 obtain ⟨v, H', os, bare, un, hok, r, q⟩ := h
 obtain ⟨hh, g, d, t, os'⟩ := s'
 obtain rfl : os' = s.os := os
 exact ⟨v, H', I.call (h' := hh) (g' := g) (d' := d) (t' := t) (ch := []) un hok bare (fun b z => absurd z (by simp)), r, q⟩
end
def ZAv (sp : Sp) (dvs : List V) (E : XK) (t : TA) : TE := fun U H Q => t U H fun vs H1 => sp (vs ++ dvs) H1 Q E
def YS (K : W.Frag) (fd : FuncData) (ps : List Str) (ds : List Value) : Prop :=
 ∀ (s : Shared) (us : List Value), K.In s.heap -> (us ++ ds).length = ps.length -> BindsTo s fd ⟨us, []⟩ (ps.zip (us ++ ds))
theorem YS.all {K : W.Frag} {fd : FuncData} {ps : List Str} (h : ∀ us : List Value, us.length = ps.length -> bindArgs fd ⟨us, []⟩ = pure (ps.zip us)) : YS K fd ps [] := fun s us _ hl => by
 rw [List.append_nil] at hl ⊢
 exact .of_eq (h us hl)
def J9 (CX : CXT) (X : Cx) (E : XK) : Prop := ∀ (pins : List (Addr × Obj)) (U : St) (H : Hp) (s : Shared) (e : Value) (s' : Shared), Inv X pins U H s -> CX X.stack H s E e s' -> X.xe e s'
section
variable {X : Cx} {CX : CXT} {k : Nat} {f C : Addr} {fd : FuncData} {ps : List Str} {sp : Sp} {dvs : List V} {ds : List Value} {E : XK} {x m : Str} {p pos apos : Pos} {e o : Expr} {es : List Expr} {ta : TE} {t : TA}
theorem ZHI {pins : List (Addr × Obj)} {U : St} {H : Hp} {s : Shared} {Q : VK} {us : List Value} {vs : List V} (F : YZ X.prog X.w X.K X.mg X.base CX k f fd ps sp) (hr : Room k X.A) (hb : YS X.K fd ps ds) (hd : YB dvs ds) (hx : J9 CX X E)
  (I : Inv X pins U H s) (r : YB vs us) (h : sp (vs ++ dvs) H Q E) : wpAny (model X.prog X.w) X.A (call (.ref f) us) (EP X pins U Q) X.xe s := by
 have r2 : YB (vs ++ dvs) (us ++ ds) := r.append hd
 have hl : (us ++ ds).length = ps.length := by rw [<- r2.length]; exact F.len _ _ _ _ h
 refine wpAny_call (codeAny_mono (F.run X.A X.stack s H ⟨us, []⟩ (us ++ ds) (vs ++ dvs) Q E hr I.env0 (hb s us I.kIn hl) r2 h) fun r s' hq => ?_)
 cases r with
 | error e => exact hx pins U H s e s' I hq
 | ok fl =>
  cases fl with
  | ret u => exact I.after hq
  | next => exact False.elim hq
  | brk => exact False.elim hq
  | cont => exact False.elim hq
theorem ZGG (F : YZ X.prog X.w X.K X.mg X.base CX k f fd ps sp) (hr : Room k X.A) (hg : Gl X x) (hm : X.mg x = some (.ref f)) (hk : W.keepIn X.K (.ref f) = true) (hb : YS X.K fd ps ds) (hd : YB dvs ds) (hx : J9 CX X E)
  (ha : PA X (e :: es) t) (hdb : (x == ("__debug__" : Str)) = false := by decide) (he : starEach (e :: es) X.env = (false, eval e X.env) :: starEach es X.env := by rfl) (hpl : (backTo pos (starEach es X.env)).any (·.1) = false := by rfl) :
  PE X (.Call (.Name x p) (e :: es) [] pos) (ZAv sp dvs E t) := by
 intro pins s U H Q I h
 refine wpAny_Call_Name_kw (ZBC I hg hm ?_ hdb)
 refine PySem.W.callWith_K (h₀ := X.base) I.ok.mod.kin hk (thn (ha pos pins s U H _ I h) fun us s1 ⟨vs, H1, I1, r, q⟩ => ⟨I1.kIn, ?_⟩) he hpl
 exact ZHI F hr hb hd hx I1 r q
end
structure Yf (N P : List Str) (sc : Scope) : Prop where
 kind : sc.kind = .function
 co : sc.isCoroutine = false
 gen : sc.isGenerator = false
 nd : N.Nodup
 pre : N.take P.length = P
 par : ∀ x ∈ P, sc.names.lookup x = some .local \/ sc.names.lookup x = some .cell
 nofree : ∀ y ∈ sc.names, y.2 ≠ .free
theorem ZBK {kindOf : Str -> Option NameKind} {x : Str} : ∀ {binds : List (Str × Value)} {m : Str -> Option Value}, (∀ v, (x, v) ∉ binds) -> bindL kindOf binds m x = m x
 | [], _, _ => rfl
 | (n, v) :: r, m, h => by
  unfold bindL
  rw [ZBK fun w hw => h w (Ur _ hw)]
  split
  ·have : x ≠ n := by rintro rfl; exact h v Uy
   simp [this]
  ·rfl
theorem ZBL {kindOf : Str -> Option NameKind} {x : Str} : ∀ {binds : List (Str × Value)} {m : Str -> Option Value}, (∀ v, (x, v) ∉ binds) -> bindC kindOf binds m x = m x
 | [], _, _ => rfl
 | (n, v) :: r, m, h => by
  unfold bindC
  rw [ZBL fun w hw => h w (Ur _ hw)]
  split
  ·rfl
  ·have : x ≠ n := by rintro rfl; exact h v Uy
   simp [this]
theorem ZBM {kindOf : Str -> Option NameKind} {x : Str} {v : Value} : ∀ {P : List Str} {vs : List Value} {i : Nat} {m : Str -> Option Value}, P.Nodup -> P[i]? = some x -> vs[i]? = some v -> kindOf x = some .local ->
  bindL kindOf (P.zip vs) m x = some v
 | [], _, _, _, _, h, _, _ => by simp at h
 | _ :: _, [], _, _, _, _, h, _ => by simp at h
 | p :: P, w :: vs, 0, m, nd, h1, h2, hk => by
  simp at h1 h2; subst h1; subst h2
  show bindL kindOf ((p, w) :: P.zip vs) m p = _
  unfold bindL
  rw [ZBK fun v hv => (List.nodup_cons.mp nd).1 (List.of_mem_zip hv).1, if_pos hk]
  simp
 | p :: P, w :: vs, i + 1, m, nd, h1, h2, hk => by
  show bindL kindOf ((p, w) :: P.zip vs) m x = _
  unfold bindL
  exact ZBM (i := i) (List.nodup_cons.mp nd).2 (by simpa using h1) (by simpa using h2) hk
theorem ZBN {kindOf : Str -> Option NameKind} {x : Str} {v : Value} : ∀ {P : List Str} {vs : List Value} {i : Nat} {m : Str -> Option Value}, P.Nodup -> P[i]? = some x -> vs[i]? = some v -> kindOf x ≠ some .local ->
  bindC kindOf (P.zip vs) m x = some v
 | [], _, _, _, _, h, _, _ => by simp at h
 | _ :: _, [], _, _, _, _, h, _ => by simp at h
 | p :: P, w :: vs, 0, m, nd, h1, h2, hk => by
  simp at h1 h2; subst h1; subst h2
  show bindC kindOf ((p, w) :: P.zip vs) m p = _
  unfold bindC
  rw [ZBL fun v hv => (List.nodup_cons.mp nd).1 (List.of_mem_zip hv).1, if_neg hk]
  simp
 | p :: P, w :: vs, i + 1, m, nd, h1, h2, hk => by
  show bindC kindOf ((p, w) :: P.zip vs) m x = _
  unfold bindC
  exact ZBN (i := i) (List.nodup_cons.mp nd).2 (by simpa using h1) (by simpa using h2) hk
def start (N : List Str) (vs : List V) : St := vs.map some ++ List.replicate (N.length - vs.length) none
def ZBD (CX : CXT) (P : Program) (w : World) (K : W.Frag) (mg : Str -> Option Value) (base : Heap) (N : List Str) (qual : Str) (scope : Scope) (f : Addr) (cd : Value) (A : Around) (outer : List Env) (s : Shared) (H : Hp) (E : XK) : Cx where
 prog := P
 w := w
 K := K
 mg := mg
 base := base
 A := A.deeper (envOfC qual scope s.heap.objs.size f cd)
 N := N
 s₀ := s
 H₀ := H
 env := envOfC qual scope s.heap.objs.size f cd
 outer := outer
 stack := envOfC qual scope s.heap.objs.size f cd :: outer
 ex := []
 calm := true
 fn := fun _ => true
 pn := []
 xe := fun e s' => wpAny (model P w) (A.deeper (envOfC qual scope s.heap.objs.size f cd)) (leaving (envOfC qual scope s.heap.objs.size f cd) e) (fun _ s'' => CX outer H s E e s'') (fun e' s'' => CX outer H s E e' s'') s'
theorem ZBy {sc : Scope} {n : Nat} {x : Str} (h : sc.names.lookup x = some .cell) : ∃ c, (cellsFrom n sc.names []).lookup x = some c := by
 have q := PySem.W.cellsFrom_some sc.names n [] (.inl h)
 exact Option.isSome_iff_exists.mp q
theorem ZD4 {CX : CXT} {P : Program} {w : World} {K : W.Frag} {mg : Str -> Option Value} {base : Heap} {N ps : List Str} {qual : Str} {scope : Scope} {f : Addr} {cd : Value} {A : Around} {outer : List Env} {s s1 : Shared} {H : Hp} {E : XK} {us : List Value} {vs : List V}
  (S : Yf N ps scope) (hd : A.handled = none) (e0 : ZAe P w K mg base A outer s H) (hl : vs.length = ps.length) (r : YB vs us)
  (x : InCallC s s.heap.objs.size (bindL (envOfC qual scope s.heap.objs.size f cd).kindOf (ps.zip us) fun _ => none) (cellsFrom (s.heap.objs.size + 1) scope.names []) (bindC (envOfC qual scope s.heap.objs.size f cd).kindOf (ps.zip us) fun _ => none) s1) :
  Inv (ZBD CX P w K mg base N qual scope f cd A outer s H E) [] (start N vs) H s1 := by
 have hpl : ps.length <= N.length := by have := congrArg List.length S.pre; rw [UO] at this; omega
 obtain ⟨h1, tk, rfl, hk⟩ := x.done
 have noA : ∀ b : Addr, b ∉ (ZBD CX P w K mg base N qual scope f cd A outer s H E).ex := fun b z => absurd (show b ∈ ([] : List Addr) from z) (by simp)
 refine ⟨⟨e0.mod, S.kind, rfl, rfl, Ud _, fun y z c h1 h2 => ?_, fun y hy => ?_, fun y c _ h => ?_, fun _ => hd, Around.frames_deeper e0.frames, .inr ⟨rfl, rfl⟩, fun b z => absurd z (noA b), e0.bs, e0.bsz, fun b _ _ => noA b, fun b z => absurd z (noA b), e0.funs, e0.frf⟩,
  rfl, e0.bare, Un.kept hk, ⟨_, x.toInCall.ns, fun i y v h1 h2 h3 => ?_⟩, fun y c h => ⟨_, x.cell y c h⟩, e0.hok.fresh (Ud _), fun y c h => ?_, fun p hp => absurd (show p ∈ ([] : List (Addr × Obj)) from hp) (by simp), e0.hok.kept hk, ?_⟩
 ·exact name_of_addr x.apart (PySem.mem_of_lookup h1) (PySem.mem_of_lookup h2)
 ·have hy : scope.names.lookup y = some .cell \/ scope.names.lookup y = some .free := hy
  rcases hy with hy | hy
  ·exact ZBy hy
  ·exact absurd rfl (S.nofree _ (PySem.mem_of_lookup hy))
 ·exact Nat.le_of_lt (x.above y c (PySem.mem_of_lookup h))
 ·have hi : i < vs.length := by
   unfold start at h2
   by_cases hi : i < vs.length
   ·exact hi
   ·rw [UL (by simpa using hi)] at h2
    rw [List.getElem?_replicate] at h2
    split at h2 <;> cases h2
  have ha : vs[i]? = some v := by
   unfold start at h2
   rw [List.getElem?_append_left (by simpa using hi), UH] at h2
   cases e : vs[i]? with
   | none => rw [e] at h2; cases h2
   | some a => rw [e] at h2; cases h2; rfl
  obtain ⟨u, hu, rv⟩ := r.get ha
  have hp : ps[i]? = some y := by
   rw [<- S.pre, List.getElem?_take_of_lt (by omega)]; exact h1
  have ndP : ps.Nodup := by rw [<- S.pre]; exact S.nd.sublist (List.take_sublist _ _)
  refine ⟨u, rv, ?_⟩
  rcases S.par y (Ut hp) with k | k
  ·exact .inl ⟨k, ZBM ndP hp hu k⟩
  ·obtain ⟨c, e⟩ := ZBy (n := s.heap.objs.size + 1) k
   refine .inr ⟨.inl k, c, e, ?_⟩
   have q := x.cell y c e
   rw [ZBN ndP hp hu (by show scope.names.lookup y ≠ _; rw [k]; decide)] at q
   exact q
 ·exact e0.hok.fresh (Nat.le_of_lt (x.above y c (PySem.mem_of_lookup h)))
 ·unfold start
  show _ = N.length
  rw [UK, Uo, List.length_replicate]
  omega
theorem ZH9 {CX : CXT} {P : Program} {w : World} {K : W.Frag} {mg : Str -> Option Value} {base : Heap} {k : Nat} {f : Addr} {name qual : Str} {params : Arguments} {body : List Stmt} {scope : Scope} {dV kV doc pm cdv ct oc : Value} {an od : Option Addr}
  {osl : Array (Option Value)} {N ps : List Str} {sp : Sp} (lk : K.lookup f = some ⟨oc, od, .func (W.fnOf name qual params body scope dV kV doc pm an cdv ct), osl⟩) (hcd : W.codeIn K cdv qual = true) (S : Yf N ps scope)
  (len : ∀ vs H Q E, sp vs H Q E -> vs.length = ps.length)
  (hbody : ∀ (A : Around) (outer : List Env) (s : Shared) (H : Hp) (vs : List V) (Q : VK) (E : XK), Room k (A.deeper (envOfC qual scope s.heap.objs.size f cdv)) -> sp vs H Q E ->
   ∃ t, PSs (ZBD CX P w K mg base N qual scope f cdv A outer s H E) body t /\ t { nx := fun _ H' => Q .non H', rt := Q } (start N vs) H) :
  YZ P w K mg base CX (k + 1) f (W.fnOf name qual params body scope dV kV doc pm an cdv ct) ps sp := by
 refine ⟨len, fun A outer s H args us vs Q E hr e0 hb r hsp => ?_⟩
 have hl := len _ _ _ _ hsp
 have KX : K.In s.heap := e0.mod.kin.keeps fun b o e => (e0.bs b o e).1
 have lim : s.heap.NoLimit := e0.mod.nolimit.keeps fun b o e => (e0.bs b o e).1
 have hkind : ∀ y ∈ ps.zip us, scope.names.lookup y.1 = some .local \/ (scope.names.lookup y.1 = some .cell /\ ((cellsFrom (s.heap.objs.size + 1) scope.names []).lookup y.1).isSome = true) := fun ⟨n, v⟩ hy => by
  rcases S.par n (List.of_mem_zip hy).1 with q | q
  ·exact .inl q
  ·exact .inr ⟨q, PySem.W.cellsFrom_some _ _ _ (.inl q)⟩
 refine codeAny_call_function hr.depth (KX _ _ lk) rfl S.co S.gen rfl (PySem.W.codeRec_of KX hcd) (hb _ _ _ _ ?_)
 refine wpAny_newFunctionEnv_cells S.kind hkind fun env he s1 x => ?_
 subst he
 refine ⟨lim.keeps x.toInCall.keep, codeAny_func ?_⟩
 obtain ⟨t, ht, hq⟩ := hbody A outer s H vs Q E (hr.deeper _) hsp
 have I : Inv (ZBD CX P w K mg base N qual scope f cdv A outer s H E) [] (start N vs) H s1 := ZD4 S hr.hd e0 hl r x
 refine UC (ht [] s1 (start N vs) H _ I hq) (fun fl s' hs => ?_) fun e s' hs => hs
 have fin : ∀ {U' : St} {H' : Hp} {v : V} {u : Value}, Inv (ZBD CX P w K mg base N qual scope f cdv A outer s H E) [] U' H' s' -> YE v u -> Q v H' -> CE outer P w H s Q u s' :=
  fun {U' H' v u} J rv q => ⟨v, H', J.os, J.bare, J.base, J.hok, rv, q⟩
 cases fl with
 | ret u =>
  obtain ⟨v, U', H', J, rv, q⟩ := hs
  exact fin J rv q
 | next =>
  obtain ⟨U', H', J, q⟩ := hs
  exact fin (v := V.non) (u := Value.none) J rfl q
 | brk =>
  obtain ⟨_, _, _, q⟩ := hs
  exact False.elim q
 | cont =>
  obtain ⟨_, _, _, q⟩ := hs
  exact False.elim q
section
variable {X : Cx} {x : Str} {p pos : Pos} {e : Expr} {es : List Expr} {t : TA} {id T : String} {r : List V -> Hp -> VK -> Prop}
def tCB (r : List V -> Hp -> VK -> Prop) (t : TA) : TE := fun U H Q => t U H fun vs H1 => r vs H1 Q
theorem ZE9 (hc : Yj X (.builtin id) r) (hg : Gl X x) (hm : X.mg x = none) (hv : bootBuiltins x = some (.builtin id)) (ha : PA X (e :: es) t) (hn : x ≠ "__name__" := by decide) (hdb : (x == ("__debug__" : Str)) = false := by decide)
  (he : starEach (e :: es) X.env = (false, eval e X.env) :: starEach es X.env := by rfl) (hpl : (backTo pos (starEach es X.env)).any (·.1) = false := by rfl) : PE X (.Call (.Name x p) (e :: es) [] pos) (tCB r t) := by
 intro pins s U H Q I h
 refine wpAny_Call_Name_kw (Ji I hg hm hv ?_ hn hdb)
 exact PyProof.Rows.callWith_builtin1 (thn (ha pos pins s U H _ I h) fun us s1 ⟨vs, H1, I1, r1, q1⟩ => hc pins s1 U H1 vs us Q I1 r1 q1) he hpl
theorem ZD5 (hc : Yj X (.type T) r) (hg : Gl X x) (hm : X.mg x = none) (hv : bootBuiltins x = some (.type T)) (ha : PA X (e :: es) t) (hn : x ≠ "__name__" := by decide) (hdb : (x == ("__debug__" : Str)) = false := by decide)
  (he : starEach (e :: es) X.env = (false, eval e X.env) :: starEach es X.env := by rfl) (hpl : (backTo pos (starEach es X.env)).any (·.1) = false := by rfl) : PE X (.Call (.Name x p) (e :: es) [] pos) (tCB r t) := by
 intro pins s U H Q I h
 refine wpAny_Call_Name_kw (Ji I hg hm hv ?_ hn hdb)
 exact PyProof.Rows.callWith_type1 (thn (ha pos pins s U H _ I h) fun us s1 ⟨vs, H1, I1, r1, q1⟩ => hc pins s1 U H1 vs us Q I1 r1 q1) he hpl
end
end L2
namespace HT
open PySem PyProof.Rows
section
variable {prog : Program} {w : World} {A : Around} {E : Value -> Shared -> Prop} {s : Shared}
def sIx (n d : Nat) : Option Int -> Nat
 | none => d
 | some v => if v < 0 then (v + (n : Int)).toNat else min v.toNat n
end
end HT
namespace L2
open PySem PySem.Spec PyProof.Rows
abbrev TO := St -> Hp -> (Option Int -> Hp -> Prop) -> Prop
def PO (X : Cx) (e : Option Expr) (t : TO) : Prop :=
 ∀ (pins : List (Addr × Obj)) (s : Shared) (U : St) (H : Hp) (Q : Option Int -> Hp -> Prop), Inv X pins U H s -> t U H Q ->
  wpAny (model X.prog X.w) X.A (evalPart e X.env) (fun u s' => ∃ o H', Inv X pins U H' s' /\ IsPart u o /\ Q o H') X.xe s
def ZDQ (t : TE) : TO := fun U H Q => t U H fun x H1 => ∃ i, x = .int i /\ Q (some i) H1
section
variable {X : Cx} {e : Expr} {te : TE} {lo hi : Option Expr} {tl th : TO} {pos p2 : Pos}
theorem ZGH (h : PE X e te) : PO X (some e) (ZDQ te) := by
 intro pins s U H Q I hw
 rw [evalPart_some]
 refine thn (h pins s U H _ I hw) fun u s1 ⟨x, H1, I1, r1, q1⟩ => ?_
 obtain ⟨i, rfl, q⟩ := q1
 obtain ⟨t, rfl⟩ := r1
 exact ⟨some i, H1, I1, .int i t, q⟩
def SlR (X : Cx) (r : V -> Option Int -> Option Int -> Hp -> VK -> Prop) : Prop :=
 ∀ (pins : List (Addr × Obj)) (s : Shared) (U : St) (H : Hp) (x : V) (v vl vu : Value) (lo hi : Option Int) (sl : Addr) (Q : VK), Inv X pins U H s -> YE x v -> s.heap.IsSliceOf sl vl vu .none -> IsPart vl lo -> IsPart vu hi -> r x lo hi H Q ->
  ∃ T id, typeLookup (.type T) "__getitem__" = pure (some (.builtin id)) /\ s.TypeIs v T /\ wpAny (model X.prog X.w) X.A (getItem v (.ref sl)) (EP X pins U Q) X.xe s
def tSl (r : V -> Option Int -> Option Int -> Hp -> VK -> Prop) (te : TE) (tl th : TO) : TE := fun U H Q => te U H fun x H1 => tl U H1 fun l H2 => th U H2 fun u H3 => r x l u H3 Q
theorem ZFA {r : V -> Option Int -> Option Int -> Hp -> VK -> Prop} (hr : SlR X r) (he : PE X e te) (hl : PO X lo tl) (hu : PO X hi th) : PE X (.Subscript e (.Slice lo hi none p2) pos) (tSl r te tl th) := by
 intro pins s U H Q I h
 refine Subscript_ (thn (he pins s U H _ I h) fun v s1 ⟨x, H1, I1, r1, q1⟩ => ?_)
 refine wpAny_Slice (thn (hl pins s1 U H1 _ I1 q1) fun vl s2 ⟨l, H2, I2, pl, q2⟩ => thn (hu pins s2 U H2 _ I2 q2) fun vu s3 ⟨u, H3, I3, pu, q3⟩ => ?_)
 rw [evalPart_none]
 refine Us ?_
 have I4 : Inv X pins U H3 { s3 with heap := s3.heap.push { cls := .type "slice", data := .fields #[vl, vu, .none] } } := I3.kept (t' := s3.toks) fun b ob q => Ub _ q
 obtain ⟨T, id, hT, ht, hg⟩ := hr pins { s3 with heap := s3.heap.push { cls := .type "slice", data := .fields #[vl, vu, .none] } } U H3 x v vl vu l u s3.heap.objs.size Q I4 r1 (Heap.IsSliceOf.new ..) pl pu q3
 show wpAny (model X.prog X.w) X.A (subscriptTail e (.Slice lo hi none p2) v (.ref s3.heap.objs.size)) (EP X pins U Q) X.xe { s3 with heap := s3.heap.push { cls := .type "slice", data := .fields #[vl, vu, .none] } }
 exact tail_any (ops := [.ref s3.heap.objs.size, v]) ht hT hg (by with_unfolding_all rfl)
def ZAf (xs : List V) (lo hi : Option Int) : List V := (xs.drop (HT.sIx xs.length 0 lo)).take (HT.sIx xs.length xs.length hi - HT.sIx xs.length 0 lo)
theorem ZAV (xs : List V) (lo hi : Option Int) : (ZAf xs lo hi).length <= xs.length := by
 unfold ZAf
 rw [UO, List.length_drop]
 omega
end
def ixN (n : Nat) (i : Int) : Option Nat := if 0 <= i then (if i < n then some i.toNat else none) else if -(n : Int) <= i then some (i + n).toNat else none
def atI {α : Type} (xs : List α) (i : Int) : Option α := (ixN xs.length i).bind fun j => xs[j]?
theorem ZCm {n : Nat} {i : Int} {j : Nat} (h : ixN n i = some j) : seqIndex? i n = some j /\ j < n /\ -(n : Int) <= i /\ i < n := by
 unfold ixN at h
 by_cases h0 : 0 <= i
 ·rw [if_pos h0] at h
  by_cases h1 : i < n
  ·rw [if_pos h1] at h
   have e : i.toNat = j := Option.some.inj h
   exact ⟨by rw [seqIndex_of h0 h1, e], by omega, by omega, h1⟩
  ·rw [if_neg h1] at h; cases h
 ·rw [if_neg h0] at h
  by_cases h1 : -(n : Int) <= i
  ·rw [if_pos h1] at h
   have e : (i + n).toNat = j := Option.some.inj h
   exact ⟨by rw [seqIndex_neg (by omega) h1, e], by omega, h1, by omega⟩
  ·rw [if_neg h1] at h; cases h
theorem ZCn {α : Type} {xs : List α} {i : Int} {v : α} (h : atI xs i = some v) : ∃ j, seqIndex? i xs.length = some j /\ xs[j]? = some v /\ j < xs.length /\ -(xs.length : Int) <= i /\ i < xs.length := by
 unfold atI at h
 cases e : ixN xs.length i with
 | none => rw [e] at h; cases h
 | some j =>
  rw [e] at h
  obtain ⟨h1, h2, h3, h4⟩ := ZCm e
  exact ⟨j, h1, h, h2, h3, h4⟩
theorem JK {α : Type} {xs : List α} {j : Nat} {v : α} (h : xs[j]? = some v) : atI xs (j : Int) = some v := by
 have hj : j < xs.length := (Ui.mp h).1
 have e : ixN xs.length (j : Int) = some j := by
  unfold ixN
  rw [if_pos (by omega), if_pos (by omega)]; simp
 unfold atI; rw [e]; exact h
def ZCo (b : Expr) : Prop := ∀ o i, subscripted b false o i = operate [o, i] (getItem o i)
def IxR (X : Cx) (r : R2) : Prop :=
 ∀ (value slice : Expr) (pins : List (Addr × Obj)) (s : Shared) (U : St) (H : Hp) (x y : V) (v u : Value) (Q : VK), Inv X pins U H s -> YE x v -> YE y u -> r x y H Q ->
  subscripted slice false v u = operate [v, u] (getItem v u) -> wpAny (model X.prog X.w) X.A (subscriptTail value slice v u) (EP X pins U Q) X.xe s
def MtR (X : Cx) (id : String) (r : V -> List V -> Hp -> VK -> Prop) : Prop :=
 ∀ (pins : List (Addr × Obj)) (s : Shared) (U : St) (H : Hp) (x : V) (xs : List V) (v : Value) (us : List Value) (Q : VK), Inv X pins U H s -> YE x v -> YB xs us -> r x xs H Q ->
  wpAny (model X.prog X.w) X.A (call (.builtin id) (v :: us)) (EP X pins U Q) X.xe s
section
variable {X : Cx} {a b : Expr} {ta tb : TE} {pos : Pos}
theorem ZIA {r : R2} (hr : IxR X r) (ha : PE X a ta) (hb : PE X b tb) (hs : ZCo b) : PE X (.Subscript a b pos) (tOp r ta tb) := by
 intro pins s U H Q I h
 exact Subscript_ (ZHC ha hb I h fun v u s2 x y H2 I2 rx ry q => hr a b pins s2 U H2 x y v u Q I2 rx ry q (hs _ _))
def ZDR (K : W.Frag) : R2 := fun x y H Q => ∃ p xs i v, x = .ref p /\ y = .int i /\ SqL K H p xs /\ atI xs i = some v /\ Q v H
def ZFB (K : W.Frag) : R2 := fun x y H Q => ∃ p xs i v, x = .ref p /\ y = .int i /\ SqT K H p xs /\ atI xs i = some v /\ Q v H
theorem ZGI : IxR X (ZDR X.K) := by
 intro value slice pins s U H x y v u Q I rx ry h hs
 obtain ⟨p, xs, i, z, rfl, rfl, hq, he, q⟩ := h
 cases rx
 obtain ⟨t, rfl⟩ := ry
 obtain ⟨its, r, pl, hz⟩ := I.list hq
 obtain ⟨j, h1, h2, h3, h4, h5⟩ := ZCn he
 obtain ⟨w, ew, rw'⟩ := r.get h2
 have hl := r.length
 have hn := ZAu
 have fin : EP X pins U Q w s := ⟨z, H, I, rw', q⟩
 by_cases h0 : 0 <= i
 ·have hj : i.toNat = j := by
   rw [seqIndex_of h0 h5] at h1
   exact Option.some.inj h1
  exact item_listR pl.isList h0 (by omega) (by rw [hj]; simpa using ew) fin hs
 ·have hj : (i + (its.toArray.size : Int)).toNat = j := by
   rw [seqIndex_neg (by omega) h4] at h1
   rw [Uf, <- hl]
   exact Option.some.inj h1
  exact subscriptTail_builtinR (x := w) pl.isList.typeIs slot_list_getitem.lookup
   (wpAny_getItem_list_neg (Q := fun r s' => r = w /\ EP X pins U Q r s') pl.isList (by omega) (by rw [Uf] <;> omega) (by omega) (by rw [hj]; simpa using ew) ⟨rfl, fin⟩) hs
theorem ZHJ : IxR X (ZFB X.K) := by
 intro value slice pins s U H x y v u Q I rx ry h hs
 obtain ⟨p, xs, i, z, rfl, rfl, hq, he, q⟩ := h
 cases rx
 obtain ⟨t, rfl⟩ := ry
 obtain ⟨its, r, pl, hz⟩ := I.tuple hq
 obtain ⟨j, h1, h2, h3, h4, h5⟩ := ZCn he
 obtain ⟨w, ew, rw'⟩ := r.get h2
 have hl := r.length
 have hn := ZAu
 have fin : EP X pins U Q w s := ⟨z, H, I, rw', q⟩
 exact subscriptTail_builtinR (x := w) pl.typeIs slot_tuple_getitem.lookup
  (getItem_tuple (j := j) (Q := fun r s' => r = w /\ EP X pins U Q r s') pl (by omega) (by omega) (by rw [Uf, <- hl]; exact h1) (by simpa using ew) ⟨rfl, fin⟩) hs
theorem ZDS (its : List Value) (n j : Nat) (u : Value) : Obj.mapSeq (·.setIfInBounds j u) { cls := .type "list", data := .seq its.toArray n } = { cls := .type "list", data := .seq (its.set j u).toArray n } := by
 simp [Obj.mapSeq]
theorem Inv.lst {pins : List (Addr × Obj)} {U : St} {H : Hp} {s : Shared} {p : Addr} {xs : List V} (I : Inv X pins U H s) (h : H p = some (.lst xs)) :
  ∃ (its : List Value) (n : Nat), YB xs its /\ s.heap.get? p = some { cls := .type "list", data := .seq its.toArray n } /\ xs.length <= sizeLine := by
 obtain ⟨z, its, n, r, e⟩ := I.hok p _ h
 exact ⟨its, n, r, e, z⟩
theorem Inv.lstUpd {pins : List (Addr × Obj)} {U : St} {H : Hp} {s : Shared} {p : Addr} {xs ys : List V} {its its' : List Value} {n n' : Nat} {f : Obj -> Obj} (I : Inv X pins U H s) (h : H p = some (.lst xs))
  (ho : s.heap.get? p = some { cls := .type "list", data := .seq its.toArray n }) (hf : f { cls := .type "list", data := .seq its.toArray n } = { cls := .type "list", data := .seq its'.toArray n' }) (r : YB ys its') (hz : ys.length <= sizeLine) (t : Nat) :
  Inv X pins U (upd H p (.lst ys)) { s with heap := s.heap.update p f, toks := t } := by
 have e : (s.heap.update p f).get? p = some { cls := .type "list", data := .seq its'.toArray n' } := by
  rw [Heap.get?_update_self f ho (by rw [hf] <;> rfl), hf]
 refine I.write (x := p) (e := p) (by rw [h]; trivial) (.inl rfl) (fun b u hb q => (Ul _ _ (Ne.symm hb)).trans q) ⟨_, e⟩ ?_
 exact ⟨hz, its', n', r, e⟩
def ZFt : V -> V -> V -> Hp -> (Hp -> Prop) -> Prop := fun o i v H Q => ∃ p xs k j, o = .ref p /\ i = .int k /\ H p = some (.lst xs) /\ ixN xs.length k = some j /\ Q (upd H p (.lst (xs.set j v)))
theorem ZBz : ZEv X ZFt := by
 intro pins s U H o i v ov iv u Q I ro ri rv h
 obtain ⟨p, xs, k, j, rfl, rfl, hp, hj, q⟩ := h
 cases ro
 obtain ⟨t, rfl⟩ := ri
 obtain ⟨its, n, r, ho, hz⟩ := I.lst hp
 obtain ⟨h1, h2, h3, h4⟩ := ZCm hj
 have hl := r.length
 have hn := ZAu
 have I' : Inv X pins U (upd H p (.lst (xs.set j v))) { s with heap := s.heap.update p (Obj.mapSeq (·.setIfInBounds j u)) } :=
  I.lstUpd hp ho (ZDS its n j u) (r.set rv j) (by rw [List.length_set]; exact hz) s.toks
 by_cases h0 : 0 <= k
 ·have hk : k.toNat = j := by
   rw [seqIndex_of h0 h4] at h1
   exact Option.some.inj h1
  exact PySem.W.ki_setAt ho h0 (by omega) (by rw [Uf, <- hl]; exact h4) (by rw [hk]; exact ⟨_, I', q⟩)
 ·have hk : (k + (its.toArray.size : Int)).toNat = j := by
   rw [seqIndex_neg (by omega) h3] at h1
   rw [Uf, <- hl]
   exact Option.some.inj h1
  exact PySem.W.ki_setBack ho (by omega) (by rw [Uf, <- hl]; exact h3) (by omega) (by rw [hk]; exact ⟨_, I', q⟩)
theorem ZB0 (lo hi : Option Int) (n : Nat) : (sliceBounds lo hi none n).1 = ((HT.sIx n 0 lo : Nat) : Int) /\ (sliceBounds lo hi none n).2.1 = ((HT.sIx n n hi : Nat) : Int) /\ (sliceBounds lo hi none n).2.2 = 1 := by
 refine ⟨?_, ?_, rfl⟩
 ·cases lo with
  | none => simp [sliceBounds, HT.sIx]
  | some i =>
   simp only [sliceBounds, HT.sIx, Option.getD_none, show (1 : Int) > 0 by decide, if_true]
   by_cases h : i < 0
   ·simp only [h, if_true] <;> omega
   ·simp only [h, if_false] <;> omega
 ·cases hi with
  | none => simp [sliceBounds, HT.sIx]
  | some i =>
   simp only [sliceBounds, HT.sIx, Option.getD_none, show (1 : Int) > 0 by decide, if_true]
   by_cases h : i < 0
   ·simp only [h, if_true] <;> omega
   ·simp only [h, if_false] <;> omega
theorem ZBb (its : List Value) (lo hi : Option Int) : slicePick its.toArray lo hi none = ((its.drop (HT.sIx its.length 0 lo)).take (HT.sIx its.length its.length hi - HT.sIx its.length 0 lo)).toArray := by
 obtain ⟨h1, h2, h3⟩ := ZB0 lo hi its.toArray.size
 unfold slicePick
 rw [h1, h2, h3]
 simp only [sliceRange_one, pick_run, Uf] <;> rfl
def ZFC (K : W.Frag) : V -> Option Int -> Option Int -> Hp -> VK -> Prop := fun x lo hi H Q => ∃ a xs, x = .ref a /\ SqL K H a xs /\ ∀ p, H p = none -> Q (.ref p) (upd H p (.lst (ZAf xs lo hi)))
theorem ZGJ : SlR X (ZFC X.K) := by
 intro pins s U H x v vl vu lo hi sl Q I rx hs pl pu h
 obtain ⟨a, xs, rfl, hx, q⟩ := h
 cases rx
 obtain ⟨its, r, ht, hz⟩ := I.list hx
 have hlen := r.length
 refine ⟨"list", _, slot_list_getitem.lookup, ht.isList.typeIs, ?_⟩
 refine wpAny_getItem_list_slice ht.isList hs pl pu .none (by simp) ?_ (by rw [Uf] <;> omega)
 rw [ZBb, <- hlen]
 refine ⟨.ref s.heap.objs.size, _, I.laid (t' := s.toks) (o := .lst (ZAf xs lo hi)) (fun b ob q => Ub _ q) (Ud _) ?_, rfl, q _ (I.hok.fresh (Ud _))⟩
 exact ⟨UF (ZAV xs lo hi) hz, _, 0, (r.drop (HT.sIx xs.length 0 lo)).take (HT.sIx xs.length xs.length hi - HT.sIx xs.length 0 lo), Uj _ rfl⟩
theorem ZB1 : Yj X (.builtin "len") (fun xs H Q => ∃ p ys, xs = [.ref p] /\ (SqL X.K H p ys \/ SqT X.K H p ys) /\ Q (.int ys.length) H) := by
 intro pins s U H xs us Q I r h
 obtain ⟨p, ys, rfl, hq, q⟩ := h
 obtain ⟨u, rfl, rx⟩ := ZDP r
 cases rx
 have hn := ZAu
 rcases hq with hq | hq
 ·obtain ⟨its, r', pl, hz⟩ := I.list hq
  have hlen := r'.length
  exact Calls.call_len_list pl.isList (by simp only [Uf] <;> omega) ⟨.int ys.length, H, I.tok _, ⟨s.toks + 1, by rw [Uf, hlen]⟩, q⟩
 ·obtain ⟨its, r', pl, hz⟩ := I.tuple hq
  have hlen := r'.length
  exact len_tuple pl (by simp only [Uf] <;> omega) ⟨.int ys.length, H, I.tok _, ⟨s.toks + 1, by rw [Uf, hlen]⟩, q⟩
theorem ZBc : Yj X (.type "tuple") (fun xs H Q => ∃ p ys, xs = [.ref p] /\ ((SqL X.K H p ys /\ ∀ l, H l = none -> Q (.ref l) (upd H l (.tup ys))) \/ (SqT X.K H p ys /\ Q (.ref p) H))) := by
 intro pins s U H xs us Q I r h
 obtain ⟨p, ys, rfl, h⟩ := h
 obtain ⟨u, rfl, rx⟩ := ZDP r
 cases rx
 rcases h with ⟨hq, q⟩ | ⟨hq, q⟩
 ·obtain ⟨its, r', pl, hz⟩ := I.list hq
  have hlen := r'.length
  refine call_tuple_list pl.isList (fun h' kp => ?_) (by simp only [Uf] <;> omega)
  have I1 : Inv X pins U H { s with heap := h' } := I.kept (t' := s.toks) kp
  have I2 : Inv X pins U (upd H h'.objs.size (.tup ys)) { s with heap := h'.push { cls := .type "tuple", data := .seq its.toArray } } :=
   I1.laid (t' := s.toks) (fun b o e => Ub _ e) (Ud _) (show Ya X.prog X.w _ _ _ (.tup ys) from ⟨⟨hz, fun _ => ⟨_, Uj _ rfl, rfl, rfl⟩⟩, its, r', IsTup.new _ _⟩)
  exact ⟨.ref h'.objs.size, _, I2, rfl, q _ (I1.hok.fresh (Ud _))⟩
 ·obtain ⟨its, r', pl, hz⟩ := I.tuple hq
  exact call_tuple_same pl ⟨.ref p, H, I, rfl, q⟩
def tyV (K : W.Frag) (T : String) (x : V) (H : Hp) : Prop := match x with
 | .str _ => T = "str"
 | .int _ => T = "int"
 | .ref p => (T = "list" /\ ∃ xs, SqL K H p xs) \/ (T = "tuple" /\ ∃ o, K.lookup p = some o /\ o.cls = .type "tuple" /\ o.dict = none) \/
  (T = "dict" /\ ((∃ kvs, H p = some (.dK kvs)) \/ ∃ kvs, H p = some (.dT kvs))) \/ (T = "set" /\ ∃ S n, H p = some (.set S n))
 | _ => False
theorem ZHK {pins : List (Addr × Obj)} {U : St} {H : Hp} {s : Shared} {T : String} {x : V} {v : Value} (I : Inv X pins U H s) (r : YE x v) (ty : tyV X.K T x H) :
  s.TypeIs v T /\ ∀ a, v = .ref a -> ∃ ob, s.heap.get? a = some ob /\ ob.dict = none := by
 cases x with
 | str z =>
  obtain ⟨t, rfl⟩ := r
  cases (show T = "str" from ty)
  exact ⟨typeIs_str s z t, fun _ e => nomatch e⟩
 | int i =>
  obtain ⟨t, rfl⟩ := r
  cases (show T = "int" from ty)
  exact ⟨typeIs_int s i t, fun _ e => nomatch e⟩
 | ref p =>
  cases r
  rcases ty with ⟨rfl, xs, hq⟩ | ⟨rfl, o, hk, hc, hd⟩ | ⟨rfl, hk⟩ | ⟨rfl, S, n, hk⟩
  ·obtain ⟨its, _, pl, _⟩ := I.list hq
   refine ⟨pl.isList.typeIs, fun a e => ?_⟩
   cases e
   obtain ⟨o, n, e, c, hd, _⟩ := pl
   exact ⟨o, e, hd⟩
  ·refine ⟨⟨o, I.kIn p o hk, hc⟩, fun a e => ?_⟩
   cases e
   exact ⟨o, I.kIn _ o hk, hd⟩
  ·have z : ∃ o, s.heap.get? p = some o /\ o.ExactDict := by
    rcases hk with ⟨kvs, hk⟩ | ⟨kvs, hk⟩
    ·obtain ⟨_, _, _, _, o, _, _, e, ex, _⟩ := I.hok p _ hk
     exact ⟨o, e, ex⟩
    ·obtain ⟨_, _, _, _, o, _, _, e, ex, _⟩ := I.hok p _ hk
     exact ⟨o, e, ex⟩
   obtain ⟨o, e, ex⟩ := z
   refine ⟨⟨o, e, ex.1⟩, fun a e2 => ?_⟩
   cases e2
   exact ⟨o, e, ex.2.1⟩
  ·obtain ⟨o, _, _, _, e, ex, _⟩ := I.hok p _ hk
   refine ⟨⟨o, e, ex.1⟩, fun a e2 => ?_⟩
   cases e2
   exact ⟨o, e, ex.2.1⟩
 | _ => exact False.elim ty
def tBM (K : W.Frag) (T : String) (r : V -> List V -> Hp -> VK -> Prop) (to : TE) (t : TA) : TE := fun U H Q => to U H fun x H1 => tyV K T x H1 /\ t U H1 fun xs H2 => r x xs H2 Q
variable {o e : Expr} {es : List Expr} {to : TE} {t : TA} {name : Str} {apos cpos : Pos} {T id : String} {r : V -> List V -> Hp -> VK -> Prop}
theorem ZIB (pa : PlainAttrs T) (slot : Slot T name id) (hty : typeOf (.builtin id) = pure (.type "method_descriptor")) (hm : MtR X id r) (ho : PE X o to) (ha : PA X (e :: es) t)
  (hbase : attributeBase o name X.env (eval o X.env) = eval o X.env := by rfl)
  (hfew : ((backTo cpos (starEach (e :: es) X.env)).all (fun x => !x.1) && (backToKw cpos (keywordEach [] X.env)).all (fun x => x.1.isSome)
   && decide ((e :: es).length + ([] : List Keyword).length + (if ([] : List Keyword).isEmpty then 0 else 1) < 30)) = true := by rfl)
  (hline : (apos.endLine == cpos.line) = true := by rfl) (hs : starEach (e :: es) X.env = (false, eval e X.env) :: starEach es X.env := by rfl) (hplain : (backTo cpos (starEach es X.env)).any (·.1) = false := by rfl) :
  PE X (.Call (.Attribute o name apos) (e :: es) [] cpos) (tBM X.K T r to t) := by
 intro pins s U H Q I h
 refine wpAny_Call_method_late hbase hfew hline rfl (thn (ho pins s U H _ I h) fun v s1 ⟨x, H1, I1, r1, ty, q1⟩ => ?_)
 obtain ⟨h1, h2⟩ := ZHK I1 r1 ty
 refine ⟨T, id, pa, slot, hty, h1, h2, ?_⟩
 have hA := ha cpos pins s1 U H1 _ I1 q1
 rw [hs] at hA ⊢
 refine Calls.callWith_builtin (by show (false || (backTo cpos (starEach es X.env)).any (·.1)) = false; rw [hplain] <;> rfl) (Calls.evalArgs_plain ?_)
 exact thn hA fun us s2 ⟨vs, H2, I2, r2, q2⟩ => hm pins s2 U H2 x vs v us Q I2 r1 r2 q2
end
def MtM (X : Cx) (id : String) (r : V -> List V -> Hp -> VK -> Prop) : Prop :=
 ∀ (pins : List (Addr × Obj)) (s : Shared) (U : St) (H : Hp) (x : V) (xs : List V) (v : Value) (us : List Value) (Q : VK), Inv X pins U H s -> YE x v -> YB xs us -> r x xs H Q ->
  wpAny (model X.prog X.w) X.A (call (.builtin id) (v :: us)) (EP X pins U Q) X.xe s
theorem YB.one : ∀ {x : V} {us : List Value}, YB [x] us -> ∃ u, us = [u] /\ YE x u
 | _, _, .cons r .nil => ⟨_, rfl, r⟩
theorem YB.two : ∀ {x y : V} {us : List Value}, YB [x, y] us -> ∃ u v, us = [u, v] /\ YE x u /\ YE y v
 | _, _, _, .cons r (.cons q .nil) => ⟨_, _, rfl, r, q⟩
section
variable {X : Cx} {pins : List (Addr × Obj)} {U : St} {H : Hp} {s : Shared} {l b : Addr} {xs ys zs : List V}
theorem Inv.lset {its its' : List Value} {n : Nat} {f : Array Value -> Array Value} {t' : Nat} (I : Inv X pins U H s) (hH : H l = some (.lst xs))
  (e : s.heap.get? l = some { cls := .type "list", data := .seq its.toArray n }) (hf : f its.toArray = its'.toArray) (hv : YB ys its') (hz : ys.length <= sizeLine) :
  Inv X pins U (upd H l (.lst ys)) { s with heap := s.heap.update l (Obj.mapSeq f), toks := t' } := by
 have q := PySem.IsL.update e f
 rw [hf] at q
 refine I.write (x := l) (e := l) (by rw [hH]; exact trivial) (.inl rfl) (fun b' u hb hu => (Ul s.heap (Obj.mapSeq f) (Ne.symm hb)).trans hu) ⟨_, q⟩ ?_
 exact ⟨hz, its', _, hv, q⟩
theorem Inv.lnew {its : List Value} {t' : Nat} (I : Inv X pins U H s) (hv : YB ys its) (hz : ys.length <= sizeLine) :
  Inv X pins U (upd H s.heap.objs.size (.lst ys)) { s with heap := s.heap.push { cls := .type "list", data := .seq its.toArray }, toks := t' } :=
 I.laid (fun _ _ q => Ub _ q) (Ud _) ⟨hz, its, 0, hv, Uj _ rfl⟩
theorem Inv.fresh (I : Inv X pins U H s) : H s.heap.objs.size = none := I.hok.fresh (Ud _)
theorem Inv.lstM (I : Inv X pins U H s) (hH : H l = some (.lst xs)) : xs.length <= sizeLine /\ ∃ (its : List Value) (n : Nat), YB xs its /\ xs.length = its.length /\ s.heap.get? l = some { cls := .type "list", data := .seq its.toArray n } := by
 obtain ⟨z, its, n, r, e⟩ := I.hok l _ hH
 exact ⟨z, its, n, r, r.length, e⟩
end
section
variable {X : Cx}
def ZCp : V -> List V -> Hp -> VK -> Prop := fun x vs H Q => ∃ l xs y, x = .ref l /\ vs = [y] /\ H l = some (.lst xs) /\ xs.length < sizeLine /\ Q .non (upd H l (.lst (xs ++ [y])))
theorem ZBO : MtM X "list.append" ZCp := by
 intro pins s U H x vs v us Q I rx rv h
 obtain ⟨l, xs, y, rfl, rfl, hH, hz, q⟩ := h
 cases rx
 obtain ⟨u, rfl, ru⟩ := rv.one
 obtain ⟨z, its, n, r, hl, e⟩ := I.lstM hH
 refine call_meets F.slot_list_append ⟨_, e, rfl⟩ F.entry_list_append (F.args_list_append_2 _ _) (PySem.list_append l its.toArray n u (by rw [Uf]; omega)) ⟨e, ?_⟩
 refine ⟨.non, _, I.lset (its' := its ++ [u]) hH e (by simp) (r.append (.cons ru .nil)) ?_, rfl, q⟩
 rw [UK, List.length_singleton]
 omega
def ZHL : R2 := fun x y H Q => ∃ l b xs zs, x = .ref l /\ y = .ref b /\ H l = some (.lst xs) /\ H b = some (.lst zs) /\ xs.length + zs.length <= sizeLine /\ ∀ p, H p = none -> Q (.ref p) (upd H p (.lst (xs ++ zs)))
theorem ZHM : OpR X (binaryOp .Add) ZHL := by
 intro pins s U H x y v u Q I rx ry h
 obtain ⟨l, b, xs, zs, rfl, rfl, hH, hB, hz, q⟩ := h
 cases rx
 cases ry
 obtain ⟨z, its, n, r, hl, e⟩ := I.lstM hH
 obtain ⟨z2, its2, n2, r2, hl2, e2⟩ := I.lstM hB
 refine PySem.P.add_list e e2 ?_ (by rw [Uf, Uf]; omega)
 have ea : its.toArray ++ its2.toArray = (its ++ its2).toArray := by simp
 rw [ea]
 exact ⟨.ref _, _, I.lnew (t' := s.toks) (r.append r2) (by rw [UK]; omega), rfl, q _ I.fresh⟩
end
end L2
namespace Att
open PySem PySem.W PySem.Calls PyProof.Rows
theorem ZAw {P : Params} {h : Heap} : ∀ (ns : List Int) (vs : List Value), WellAll P h vs (ns.map WData.int) -> IntsAre vs ns := by
 intro ns
 induction ns with
 | nil =>
  intro vs w
  rw [List.map_nil] at w
  cases w
  exact .nil
 | cons n ns ih =>
  intro vs w
  rw [UE] at w
  cases w with
  | cons a b =>
   cases a
   exact .cons _ _ (ih _ b)
theorem ZD6 {l : OpenLaw} {n : Nat} (hn : l.most = some n) {P : Params} {h : Heap} {args : List WData} {vals : List Value}
  (hpre : l.row.toRowW.claim.pre args = true) (hwl : WellAll P h vals args) :
  ∃ a vs ns, vals = [Value.ref a] /\ args = [WData.list (ns.map WData.int)] /\ h.get? a = some { cls := .type "list", data := .seq vs.toArray } /\ IntsAre vs ns /\ ns.length <= n := by
 have hsh : WShape.hasAll [] args [.list .int] = true := (pre_splitW hpre).1
 have hc : l.pre.holds [] { args := args } = true := (pre_splitW hpre).2
 obtain ⟨d, r, rfl, h1, h2⟩ := hasAllW_cons hsh
 obtain rfl := hasAllW_nil h2
 obtain ⟨xs, rfl, h3⟩ := hasW_list h1
 obtain ⟨ns, rfl⟩ := items_int h3
 have hlen : ns.length <= n := by
  unfold OpenLaw.pre at hc
  have h4 : (WTm.not (.lt (.lit (.int (n : Int))) (.len (.arg 0)))).holds [] { args := [.list (ns.map .int)] } = true := by
   have h4 := (holds_andW hc).1
   rw [hn] at h4
   exact h4
  have h5 := condW_of h4 (w_not (w_lt w_lit (w_len_list (w_arg rfl))))
  rw [Uo] at h5
  refine Nat.le_of_not_lt fun q => ?_
  have q' : (n : Int) < ((ns.length : Nat) : Int) := by omega
  first
   | (rw [decide_eq_true q'] at h5; exact absurd h5 (by decide))
   | (simp at h5; omega)
 cases hwl with
 | cons w1 w2 =>
  cases w2
  cases w1 with
  | list ho hall => exact ⟨_, _, ns, rfl, rfl, ho, ZAw ns _ hall, hlen⟩
theorem ZD7 (l : OpenLaw) (args : List WData) : l.row.toRowW.claim.post args (.bool true) args = true :=
 postW_of (r := l.row.toRowW) (X := (true == true))
  (show WShape.has [] (.bool true) .bool = true by first | rfl | decide | simp [WShape.has, WShape.arms, WShape.armsAll])
  (show (WTm.eq .res (.lit (.bool true))).value [] { args := args, res := some (.bool true), after := args } = some (.bool (true == true)) from w_eq_bool (w_res rfl) w_lit) rfl
theorem attach_call {l : OpenLaw} {n : Nat} {q : Program} {loose : List Str} {XP : (Str -> Option Value) -> Heap -> Prop} {YP : World -> Heap -> Prop} {d : DefRec}
  (hn : l.most = some n) (hdf : d.params.defaults = [])
  (call : ∀ (w : World) (s₀ s₁ : Shared) (mg mb : Str -> Option Value) (fa : Addr) (o : Obj) (pm cd doc : Value) (a : Addr) (vs : List Value) (ns : List Int),
   Ground q loose [] XP w s₀ mg mb s₁.heap -> YP w s₁.heap ->
   s₁.heap.get? fa = some o -> o.data = .func (docDef d.name d.params d.body d.scope pm cd doc) -> s₁.heap.CodeRec cd d.name -> mg d.name = some (.ref fa) ->
   s₁.heap.get? a = some { cls := .type "list", data := .seq vs.toArray } -> IntsAre vs ns -> ns.length <= n -> s₁.gens = #[] ->
   codeAny (model l.prog w) callerA (.call (.ref fa) ⟨[.ref a], []⟩) (fun r s' => r = .ok (.ret (.bool true)) /\ OldK s₁.heap s'.heap /\ s'.os = s₁.os /\ AllBare s'.gens) s₁) :
  WalkO q loose XP YP l.row.toRowW d [] (fun f vs => PySem.call f vs) := by
 intro w s₀ s₁ mg mb G Y fa o pm cd doc dV kV ho hd hcd hD hmg hg args vals as hpre hlay hrd hwl hlo
 obtain rfl : dV = .none := Dflts.none hD hdf
 obtain rfl : kV = .none := Dflts.noKw hD
 obtain ⟨a, vs, ns, rfl, rfl, hobj, hints, hlen⟩ := ZD6 hn hpre hwl
 refine enter_call (codeAny_mono (call w s₀ s₁ mg mb fa o pm cd doc a vs ns G Y ho (fd_plain hd) hcd hmg hobj hints hlen hg) fun r s' hq => ?_)
 obtain ⟨rfl, h2, h3, h4⟩ := hq
 exact ⟨.inl ⟨.bool true, .bool true, [], rfl, fun _ => rfl, .bool true, ZD7 l _, fun _ => ⟨List.Pairwise.nil, fun _ hm => (nomatch hm)⟩⟩, h2, h3, h4⟩
section
variable {prog : Program} {w : World} {A : Around} {E : Value -> Shared -> Prop} {s : Shared} {K : Frag}
def ZIb (h : Heap) (L d : Addr) : List (Addr × Obj) := (UB h.objs.size).filterMap fun a => if a = L \/ a = d then none else (h.get? a).map fun o => (a, o)
end
end Att
namespace L2
open PySem PySem.Spec PyProof.Rows
theorem ZBP : ∀ {vs : List Value} {ns : List Int}, IntsAre vs ns -> YB (ns.map V.int) vs
 | _, _, .nil => .nil
 | _, _, .cons n t h => .cons ⟨t, rfl⟩ (ZBP h)
def ZFD (H : Hp) : Prop := ∀ b, H b = none \/ ∃ o xs, H b = some (.frz o (.lst xs))
theorem ZFE {P : Program} {w : World} {K : W.Frag} {mg mb : Str -> Option Value} {CX : CXT} {k : Nat} {fa a : Addr} {fd : FuncData} {x : Str} {sp : Sp} {s₁ : Shared} {vs : List Value} {ns : List Int}
  (KX : K.In s₁.heap) (hns : s₁.heap.Ns mainGlobals mg) (hb : s₁.heap.Ns builtinsNs mb) (hbb : ∀ x : Str, x ≠ "__name__" -> mb x = bootBuiltins x) (hlim : s₁.heap.NoLimit) (hg : s₁.gens = #[])
  (ha : s₁.heap.get? a = some { cls := .type "list", data := .seq vs.toArray }) (hi : IntsAre vs ns) (hl : ns.length <= sizeLine) (hr : Room k callerA)
  (F : ∀ base : Heap, K.In base -> base.Ns mainGlobals mg -> YZ P w K mg base CX k fa fd [x] sp) (hbind : ∀ (s : Shared) (u : Value), BindsTo s fd ⟨[u], []⟩ [(x, u)])
  (hsp : ∀ H : Hp, ZFD H -> SqL K H a (ns.map V.int) -> sp [.ref a] H (fun v _ => v = .bl true) fun _ _ _ => False)
  (hCX : ∀ H e s', CX [] H s₁ (fun _ _ _ => False) e s' -> False) :
  codeAny (model P w) callerA (.call (.ref fa) ⟨[.ref a], []⟩) (fun r s' => r = .ok (.ret (.bool true)) /\ OldK s₁.heap s'.heap /\ s'.os = s₁.os /\ AllBare s'.gens) s₁ := by
 have rv := ZBP hi
 have lenV := hi.length
 -- from an abstract heap in which nothing but the script may be tracked
 have core : ∀ H : Hp, ZFD H -> SqL K H a (ns.map V.int) -> HOk P w H s₁.heap -> (∀ b, H b ≠ none -> b = a) -> (H a ≠ none -> K.lookup a = none) ->
   codeAny (model P w) callerA (.call (.ref fa) ⟨[.ref a], []⟩) (fun r s' => r = .ok (.ret (.bool true)) /\ OldK s₁.heap s'.heap /\ s'.os = s₁.os /\ AllBare s'.gens) s₁ := by
  intro H hO hS hok hA hK
  have base_of : ∀ {b : Addr} {o : Obj}, s₁.heap.get? b = some o -> H b = none -> (Jq s₁.heap H).get? b = some o := fun e n => ZEq e n
  have noA : ∀ {b : Addr} {o : Obj} {es : Array DictEntry} {ep : Nat}, s₁.heap.get? b = some o -> o.data = .dict es ep -> H b = none := fun {b o es ep} e d => by
   cases q : H b with
   | none => rfl
   | some u =>
    have e' : b = a := hA b (by rw [q]; simp)
    subst e'
    rw [ha] at e; cases e
    have d' : Data.seq vs.toArray _ = Data.dict es ep := d
    cases d'
  have nsK : ∀ {b : Addr} {m : Str -> Option Value}, s₁.heap.Ns b m -> (Jq s₁.heap H).Ns b m := fun {b m} ⟨o, es, ep, e, d, r⟩ => ⟨o, es, ep, base_of e (noA e d), d, r⟩
  have hKb : K.In (Jq s₁.heap H) := fun b o e => base_of (KX b o e) (by
   cases q : H b with
   | none => rfl
   | some u =>
    have e' : b = a := hA b (by rw [q]; simp)
    subst e'
    rw [hK (by rw [q]; simp)] at e; cases e)
  have hM : Mod K mg (Jq s₁.heap H) := ⟨hKb, nsK hns, ⟨mb, nsK hb, hbb⟩, let ⟨mc, h1, h2⟩ := hlim; ⟨mc, nsK h1, h2⟩⟩
  have e0 : ZAe P w K mg (Jq s₁.heap H) callerA [] s₁ H := ⟨rfl, hM, fun b o e => ZF5 e, Nat.le_of_eq (ZDw _ _), trivial, fun b hb => absurd (show b ∈ ([] : List Addr) from hb) (by simp), hok, .of_eq hg⟩
  refine codeAny_mono ((F _ hKb (nsK hns)).run callerA [] s₁ H ⟨[.ref a], []⟩ [.ref a] [.ref a] _ _ hr e0 (hbind s₁ (.ref a)) (.cons rfl .nil) (hsp H hO hS)) fun r s' h => ?_
  cases r with
  | error e => exact (hCX H e s' h).elim
  | ok fl =>
   cases fl with
   | next => exact False.elim h
   | brk => exact False.elim h
   | cont => exact False.elim h
   | ret u =>
    obtain ⟨v, H', os, bare, un, hok', r', q⟩ := h
    have q' : v = .bl true := q
    subst q'
    obtain rfl : u = Value.bool true := r'
    refine ⟨rfl, OldK.of_keep fun b o e => ?_, os, bare⟩
    cases q : H b with
    | none => exact un.keep b o e q (by intro z; exact absurd (show b ∈ ([] : List Addr) from z) (by simp)) (by simp)
    | some u =>
     rcases hO b with z | ⟨ob, xs, z⟩
     ·rw [q] at z; cases z
     ·have z2 := un.frzs b ob _ z
      obtain ⟨e1, _⟩ := hok b _ z
      obtain ⟨e2, _⟩ := hok' b _ z2
      rw [e] at e1; cases e1
      exact e2
 cases hk : K.lookup a with
 | some o =>
  -- the script is one of the module's own objects
  have e := KX a o hk
  rw [ha] at e
  cases e
  refine core (fun _ => none) (fun _ => .inl rfl) (.inr ⟨_, vs.toArray, _, hk, rfl, rfl, rfl, by rw [Uf, lenV]; exact hl, by simpa using rv⟩) (fun b u z => by have z' : (none : Option HO) = some u := z; cases z') (fun b z => absurd rfl z) fun z => absurd rfl z
 | none =>
  refine core (fun b => if b = a then some (.frz { cls := .type "list", data := .seq vs.toArray } (.lst (ns.map V.int))) else none) (fun b => ?_) (.inl (.inr ⟨{ cls := .type "list", data := .seq vs.toArray }, if_pos rfl⟩)) (fun b u z => ?_) (fun b z => ?_) fun _ => hk
  ·by_cases hb : b = a
   ·exact .inr ⟨_, _, if_pos hb⟩
   ·exact .inl (if_neg hb)
  ·by_cases hb : b = a
   ·have z' := (if_pos hb).symm.trans z
    cases z'
    subst hb
    exact ⟨ha, by rw [Uo]; exact hl, vs, _, rv, ha⟩
   ·have z' := (if_neg hb).symm.trans z
    cases z'
  ·by_cases hb : b = a
   ·exact hb
   ·exact absurd (if_neg hb) z
theorem walk_of {l : PySem.W.OpenLaw} {n k : Nat} {q : Program} {loose : List Str} {XP : (Str -> Option Value) -> Heap -> Prop} {YP : World -> Heap -> Prop} {d : DefRec} {K : Params -> W.Frag} {CX : World -> CXT} {sp : World -> Sp} {x : Str}
  (hn : l.most = some n) (hn2 : n <= sizeLine) (hdf : d.params.defaults = []) (hr : Room k callerA)
  (hY : ∀ (w : World) (h : Heap), YP w h -> (K w.params).In h)
  (F : ∀ (w : World) (mg : Str -> Option Value) (fa : Addr) (h : Heap), (K w.params).In h -> h.Ns mainGlobals mg -> mg d.name = some (.ref fa) ->
   ∃ fd : FuncData, (∀ (s : Shared) (u : Value), BindsTo s fd ⟨[u], []⟩ [(x, u)]) /\
    ∀ base : Heap, (K w.params).In base -> base.Ns mainGlobals mg -> YZ l.prog w (K w.params) mg base (CX w) k fa fd [x] (sp w))
  (hsp : ∀ (w : World) (H : Hp) (a : Addr) (ns : List Int), ns.length <= n -> ZFD H -> SqL (K w.params) H a (ns.map V.int) -> sp w [.ref a] H (fun v _ => v = .bl true) fun _ _ _ => False)
  (hCX : ∀ (w : World) (H : Hp) (s : Shared) (e : Value) (s' : Shared), CX w [] H s (fun _ _ _ => False) e s' -> False) :
  PySem.W.WalkO q loose XP YP l.row.toRowW d [] (fun f vs => PySem.call f vs) := by
 refine Att.attach_call hn hdf fun w s₀ s₁ mg mb fa o pm cd doc a vs ns G Y ho hd hcd hmg hobj hints hlen hg => ?_
 have KX := hY w _ Y
 obtain ⟨fd, hb, hF⟩ := F w mg fa _ KX G.T.g hmg
 exact ZFE KX G.T.g G.T.b G.T.builtins G.T.nolimit hg hobj hints (UF hlen hn2) hr hF hb (fun H hO hS => hsp w H a ns hlen hO hS) fun H e s' => hCX w H s₁ e s'
end L2
namespace L2
open PySem PySem.Spec PyProof.Rows
def Yy (s : Stmt) : Arguments := match s with
 | .FunctionDef _ a _ _ _ _ _ _ _ _ => a
 | _ => { posonlyargs := [], args := [], vararg := none, kwonlyargs := [], kw_defaults := [], kwarg := none, defaults := [] }
def Yu (s : Stmt) : List Stmt := match s with
 | .FunctionDef _ _ b _ _ _ _ _ _ _ => b
 | _ => []
def YG (s : Stmt) : Scope := match s with
 | .FunctionDef _ _ _ _ _ _ sc _ _ _ => sc
 | _ => { kind := .function, names := [], isGenerator := false, isCoroutine := false }
abbrev CX0 : CXT := fun _ _ _ _ _ _ => False
abbrev E0 : XK := fun _ _ _ => False
theorem ZIC {X : Cx} : J9 CX0 X E0 := fun _ _ _ _ _ _ _ h => h.elim
structure Fun (K : W.Frag) (x qual : Str) (st : Stmt) (f : Addr) (fd : FuncData) : Prop where
 ex : ∃ (oc : Value) (od : Option Addr) (kV doc pm : Value) (an : Option Addr) (cdv ct : Value) (osl : Array (Option Value)),
  fd = W.fnOf x qual (Yy st) (Yu st) (YG st) .none kV doc pm an cdv ct /\ K.lookup f = some ⟨oc, od, .func fd, osl⟩ /\ W.codeIn K cdv qual = true
 kp : W.keepIn K (.ref f) = true
section
variable {P : Program} {w : World} {K : W.Frag} {mg : Str -> Option Value} {base : Heap}
theorem Fun.ok {x qual : Str} {st : Stmt} {f : Addr} {fd : FuncData} {N ps : List Str} {k : Nat} {sp : Sp} (F : Fun K x qual st f fd) (S : Yf N ps (YG st)) (len : ∀ vs H Q E, sp vs H Q E -> vs.length = ps.length)
  (hbody : ∀ (cdv : Value) (A : Around) (outer : List Env) (s : Shared) (H : Hp) (vs : List V) (Q : VK) (E : XK), Room k (A.deeper (envOfC qual (YG st) s.heap.objs.size f cdv)) -> sp vs H Q E ->
   ∃ t, PSs (ZBD CX0 P w K mg base N qual (YG st) f cdv A outer s H E).nox (Yu st) t /\ t { nx := fun _ H' => Q .non H', rt := Q } (start N vs) H) : YZ P w K mg base CX0 (k + 1) f fd ps sp := by
 obtain ⟨oc, od, kV, doc, pm, an, cdv, ct, osl, rfl, lk, hcd⟩ := F.ex
 refine ZH9 lk hcd S len fun A outer s H vs Q E hr hsp => ?_
 obtain ⟨t, h, q⟩ := hbody cdv A outer s H vs Q E hr hsp
 exact ⟨t, h.nox, q⟩
theorem Fun.binds {x qual : Str} {st : Stmt} {f : Addr} {fd : FuncData} {ps : List Str} (F : Fun K x qual st f fd)
  (h : ∀ (kV doc pm : Value) (an : Option Addr) (cdv ct : Value) (us : List Value), us.length = ps.length -> bindArgs (W.fnOf x qual (Yy st) (Yu st) (YG st) .none kV doc pm an cdv ct) ⟨us, []⟩ = pure (ps.zip us)) : YS K fd ps [] := by
 obtain ⟨oc, od, kV, doc, pm, an, cdv, ct, osl, rfl, lk, hcd⟩ := F.ex
 exact .all (h kV doc pm an cdv ct)
theorem fun_mk {x qual : Str} {st : Stmt} {f : Addr} {oc : Value} {od an : Option Addr} {osl : Array (Option Value)} {kV doc pm cdv ct : Value} (l : K.lookup f = some ⟨oc, od, .func (W.fnOf x qual (Yy st) (Yu st) (YG st) .none kV doc pm an cdv ct), osl⟩)
 (c : W.codeIn K cdv qual = true) (k : W.keepIn K (.ref f) = true) : Fun K x qual st f (W.fnOf x qual (Yy st) (Yu st) (YG st) .none kV doc pm an cdv ct) := ⟨⟨oc, od, kV, doc, pm, an, cdv, ct, osl, rfl, l, c⟩, k⟩
end
theorem ZID {A : Around} {k : Nat} (hr : Room k A) : A.units + 1 < cLine := Nat.lt_of_le_of_lt (Nat.add_le_add_left (by decide : 1 <= 64) _) hr.units
theorem ZHN {A B : Prop} (h : B) : if false = true then A else B := by
 rw [if_neg Uw]
 exact h
theorem ZDT {A B : Prop} (h : A) : if true = true then A else B := by
 rw [if_pos rfl]
 exact h
def YF (H H' : Hp) : Prop := ∀ b o, H b = some o -> H' b = some o
theorem YF.refl (H : Hp) : YF H H := fun _ _ h => h
theorem YF.trans {H H1 H2 : Hp} (a : YF H H1) (b : YF H1 H2) : YF H H2 := fun c o h => b c o (a c o h)
theorem YF.seq {K : W.Frag} {H H' : Hp} {a : Addr} {xs : List V} (e : YF H H') (h : SqL K H a xs) : SqL K H' a xs := by
 rcases h with (h | ⟨o, h⟩) | h
 ·exact .inl (.inl (e _ _ h))
 ·exact .inl (.inr ⟨o, e _ _ h⟩)
 ·exact .inr h
end L2
namespace L2
open PySem PySem.Spec PyProof.Rows PySem.W
def evT (c : Nat -> Nat -> Bool) {α : Type} : KasT α -> α
 | .ret a => a
 | .ask i j k => evT c (k (c i j))
theorem JA (c : Nat -> Nat -> Bool) {α β : Type} (f : α -> KasT β) : ∀ t : KasT α, evT c (t.bind f) = evT c (f (evT c t))
 | .ret _ => rfl
 | .ask i j k => JA c f (k (c i j))
abbrev gt0 (p : Array Nat) (i : Nat) : Nat := p.getD i 0
section
variable {c : Nat -> Nat -> Bool} {n : Nat}
structure Ord (c : Nat -> Nat -> Bool) (n : Nat) : Prop where
 tr : ∀ i j k, c i j = true -> c j k = true -> c i k = true
 asy : ∀ i j, c i j = true -> c j i = false
 tot : ∀ i j, i < n -> j < n -> i ≠ j -> c i j = false -> c j i = true
structure Ixs (p : Array Nat) (n : Nat) : Prop where
 size : p.size = n
 lt : ∀ i, i < n -> gt0 p i < n
 inj : ∀ i j, i < n -> j < n -> gt0 p i = gt0 p j -> i = j
theorem ZAx {p : Array Nat} {i v : Nat} (h : p[i]? = some v) : gt0 p i = v := by
 simp [gt0, h]
theorem Y2 {p : Array Nat} {i : Nat} (h : i < p.size) : p[i]? = some (gt0 p i) := by
 simp [gt0, h]
theorem Ixs.of_perm {p : Array Nat} (h : p.toList.Perm (UB n)) : Ixs p n := by
 have hs : p.size = n := by have := h.length_eq; simpa using this
 refine ⟨hs, fun i hi => ?_, fun i j hi hj e => ?_⟩
 ·have hm : gt0 p i ∈ p.toList := by
   have := Y2 (p := p) (i := i) (by omega)
   exact Array.mem_toList_iff.mpr (Array.mem_of_getElem? this)
  exact List.mem_range.mp (h.mem_iff.mp hm)
 ·have hn : p.toList.Nodup := h.nodup_iff.mpr List.nodup_range
  have h1 : p.toList[i]? = some (gt0 p i) := by rw [UN]; exact Y2 (by omega)
  have h2 : p.toList[j]? = some (gt0 p i) := by rw [UN, e]; exact Y2 (by omega)
  have hi' : i < p.toList.length := by simp; omega
  have hj' : j < p.toList.length := by simp; omega
  rw [Uc hi'] at h1
  rw [Uc hj'] at h2
  have hpw := Ux.mp (Uu.mp hn)
  have ee : p.toList[i] = p.toList[j] := by rw [Option.some.inj h1, Option.some.inj h2]
  rcases Nat.lt_trichotomy i j with z | z | z
  ·exact absurd ee (hpw i j hi' hj' z)
  ·exact z
  ·exact absurd ee.symm (hpw j i hj' hi' z)
def Up (c : Nat -> Nat -> Bool) (p : Array Nat) (m : Nat) : Prop := ∀ a b, a < b -> b < m -> c (gt0 p a) (gt0 p b) = true
theorem ZAW (O : Ord c n) {p : Array Nat} {m : Nat} (h : ∀ i, 1 <= i -> i < m -> c (gt0 p (i - 1)) (gt0 p i) = true) : Up c p m := by
 intro a b hab hb
 obtain ⟨d, rfl⟩ := Nat.exists_eq_add_of_lt hab
 induction d with
 | zero => have := h (a + 1) (by omega) hb; simpa using this
 | succ d ih =>
  have h1 := ih (by omega) (by omega)
  have h2 := h (a + (d + 1) + 1) (by omega) hb
  have e : a + (d + 1) + 1 - 1 = a + d + 1 := by omega
  rw [e] at h2
  exact O.tr _ _ _ h1 h2
theorem ZAy (p : Array Nat) : ∀ (f a : Nat), a <= evT c (kas_asc p f a) /\ evT c (kas_asc p f a) <= a + f /\ (∀ i, a <= i -> i < evT c (kas_asc p f a) -> c (gt0 p i) (gt0 p (i - 1)) = false) /\
  (evT c (kas_asc p f a) = a + f \/ c (gt0 p (evT c (kas_asc p f a))) (gt0 p (evT c (kas_asc p f a) - 1)) = true)
 | 0, a => ⟨Ud _, Ud _, fun i h1 h2 => absurd h2 (by show ¬ i < a; omega), .inl rfl⟩
 | f + 1, a => by
  have e : evT c (kas_asc p (f + 1) a) = evT c (if c (gt0 p a) (gt0 p (a - 1)) = true then KasT.ret a else kas_asc p f (a + 1)) := rfl
  rw [e]
  cases hc : c (gt0 p a) (gt0 p (a - 1)) with
  | true =>
   rw [if_pos rfl]
   exact ⟨Ud _, Nat.le_add_right _ _, fun i h1 h2 => absurd h2 (by show ¬ i < a; omega), .inr hc⟩
  | false =>
   rw [if_neg (by decide)]
   obtain ⟨h1, h2, h3, h4⟩ := ZAy p f (a + 1)
   refine ⟨by omega, by omega, fun i g1 g2 => ?_, ?_⟩
   ·by_cases z : i = a
    ·rw [z]; exact hc
    ·exact h3 i (by omega) g2
   ·rcases h4 with h4 | h4
    ·left; omega
    ·right; exact h4
theorem ZCq (O : Ord c n) {p : Array Nat} (P : Ixs p n) : ∀ (f a : Nat), 1 <= a -> a + f <= n -> ∃ m, evT c (kas_desc f p a 0) = (p, m, 0) /\ a <= m /\ m <= a + f /\ ∀ i, a <= i -> i < m -> c (gt0 p i) (gt0 p (i - 1)) = true
 | 0, a, _, _ => ⟨a, rfl, Ud _, Ud _, fun i h1 h2 => absurd h2 (by omega)⟩
 | f + 1, a, h1, h2 => by
  have e : evT c (kas_desc (f + 1) p a 0) = evT c (if c (gt0 p a) (gt0 p (a - 1)) = true then (if 0 > 0 then kas_desc f (kas_rev p (a - (0 + 1)) a) (a + 1) 0 else kas_desc f p (a + 1) 0)
   else .ask (p.getD (a - 1) 0) (p.getD a 0) fun d => if d = true then .ret (p, a, 0) else kas_desc f p (a + 1) (0 + 1)) := rfl
  rw [e]
  cases hc : c (gt0 p a) (gt0 p (a - 1)) with
  | true =>
   rw [if_pos rfl, if_neg (by decide)]
   obtain ⟨m, g1, g2, g3, g4⟩ := ZCq O P f (a + 1) (by omega) (by omega)
   refine ⟨m, g1, by omega, by omega, fun i k1 k2 => ?_⟩
   by_cases z : i = a
   ·rw [z]; exact hc
   ·exact g4 i (by omega) k2
  | false =>
   rw [if_neg (by decide)]
   have hd : c (gt0 p (a - 1)) (gt0 p a) = true := O.tot _ _ (P.lt _ (by omega)) (P.lt _ (by omega)) (fun z => by have := P.inj _ _ (by omega) (by omega) z; omega) hc
   have e2 : evT c (KasT.ask (p.getD (a - 1) 0) (p.getD a 0) fun d => if d = true then KasT.ret (p, a, 0) else kas_desc f p (a + 1) (0 + 1)) = evT c (if c (gt0 p (a - 1)) (gt0 p a) = true then KasT.ret (p, a, 0) else kas_desc f p (a + 1) (0 + 1)) := rfl
   rw [e2, hd, if_pos rfl]
   exact ⟨a, rfl, Ud _, by omega, fun i k1 k2 => absurd k2 (by omega)⟩
theorem ZB2 (p : Array Nat) (i j : Nat) : (kas_rev p i j).toList.Perm p.toList := UD.mp (mirror_perm p i j _)
theorem ZCr {p : Array Nat} {m : Nat} (hm : m <= p.size) (k : Nat) (hk : k < m) : gt0 (kas_rev p 0 m) k = gt0 p (m - 1 - k) := by
 refine ZAx ?_
 have e : (kas_rev p 0 m)[k]? = if 0 <= k /\ k < m then p[0 + m - 1 - k]? else p[k]? := getElem?_mirror_all (i := 0) hm k
 rw [e, if_pos ⟨by omega, hk⟩]
 have e2 : 0 + m - 1 - k = m - 1 - k := by omega
 rw [e2]
 exact Y2 (by omega)
theorem ZCs (O : Ord c n) {p : Array Nat} (P : Ixs p n) {m f : Nat} (h1 : 1 <= m) (h : Up c p m) (hf : m + f <= n) : Up c p (evT c (kas_asc p f m)) := by
 obtain ⟨g1, g2, g3, _⟩ := ZAy (c := c) p f m
 refine ZAW O fun i hi1 hi2 => ?_
 by_cases z : i < m
 ·exact h (i - 1) i (by omega) z
 ·have := g3 i (by omega) hi2
  exact O.tot _ _ (P.lt _ (by omega)) (P.lt _ (by omega)) (fun e => by have := P.inj _ _ (by omega) (by omega) e; omega) this
theorem ZFF (O : Ord c n) {p : Array Nat} (hp : p.toList.Perm (UB n)) (hn : 1 <= n) : (evT c (kas_count n p)).2.toList.Perm (UB n) /\ 1 <= (evT c (kas_count n p)).1 /\ (evT c (kas_count n p)).1 <= n /\ Up c (evT c (kas_count n p)).2 (evT c (kas_count n p)).1 := by
 have P := Ixs.of_perm hp
 unfold kas_count
 rw [JA]
 obtain ⟨g1, g2, g3, g4⟩ := ZAy (c := c) p (n - 1) 1
 have hup := ZCs O P (m := 1) (f := n - 1) (Ud _) (fun a b h1 h2 => by omega) (by omega)
 generalize hm : evT c (kas_asc p (n - 1) 1) = m at *
 by_cases h1 : (m == n) = true
 ·rw [if_pos h1]
  exact ⟨hp, g1, by show m <= n; omega, hup⟩
 ·rw [if_neg h1]
  have hmn : m < n := by
   have : m ≠ n := fun z => h1 (by simp [z])
   omega
  by_cases h2 : m > 1
  ·rw [if_pos h2]
   have hc : c (gt0 p 0) (gt0 p (m - 1)) = true := hup 0 (m - 1) (by omega) (by omega)
   have e : evT c (KasT.ask (p.getD 0 0) (p.getD (m - 1) 0) fun c => if c = true then KasT.ret (m, p) else kas_descPart m n (kas_rev p 0 m)) = evT c (if c (gt0 p 0) (gt0 p (m - 1)) = true then KasT.ret (m, p) else kas_descPart m n (kas_rev p 0 m)) := rfl
   rw [e, hc, if_pos rfl]
   exact ⟨hp, by show 1 <= m; omega, by show m <= n; omega, hup⟩
  ·rw [if_neg h2]
   have hm1 : m = 1 := by omega
   subst hm1
   have h10 : c (gt0 p 1) (gt0 p 0) = true := by
    rcases g4 with g4 | g4
    ·omega
    ·exact g4
   unfold kas_descPart
   rw [JA]
   obtain ⟨m, k1, k2, k3, k4⟩ := ZCq O P (n - (1 + 1)) (1 + 1) (by omega) (by omega)
   rw [k1]
   rw [if_neg (show ¬ ((p, m, 0) : Array Nat × Nat × Nat).2.2 > 0 by show ¬ 0 > 0; omega)]
   show (evT c (kas_tail3 m n p)).2.toList.Perm (UB n) /\ _
   unfold kas_tail3
   rw [JA]
   have hrp : (kas_rev p 0 m).toList.Perm (UB n) := (ZB2 p 0 m).trans hp
   have R := Ixs.of_perm hrp
   have hupr : Up c (kas_rev p 0 m) m := by
    refine ZAW O fun i hi1 hi2 => ?_
    rw [ZCr (by rw [P.size]; omega) _ (by omega), ZCr (by rw [P.size]; omega) _ hi2]
    have e : m - 1 - (i - 1) = m - i := by omega
    have e2 : m - 1 - i = m - i - 1 := by omega
    rw [e, e2]
    by_cases z : m - i = 1
    ·rw [z]; exact h10
    ·exact k4 (m - i) (by omega) (by omega)
   have hfin := ZCs O R (m := m) (f := n - m) (by omega) hupr (by omega)
   obtain ⟨q1, q2, _, _⟩ := ZAy (c := c) (kas_rev p 0 m) (n - m) m
   exact ⟨hrp, by show 1 <= evT c _; omega, by show evT c _ <= n; omega, hfin⟩
theorem ZAg (O : Ord c n) {p : Array Nat} (P : Ixs p n) {k : Nat} (hk : k < n) (h : Up c p k) : ∀ (f l r : Nat), l <= r -> r <= k -> r - l <= f -> (∀ i, i < l -> c (gt0 p i) (gt0 p k) = true) -> (∀ i, r <= i -> i < k -> c (gt0 p k) (gt0 p i) = true) ->
  ∃ m, evT c (kas_place p k f l r) = m /\ m <= k /\ (∀ i, i < m -> c (gt0 p i) (gt0 p k) = true) /\ (∀ i, m <= i -> i < k -> c (gt0 p k) (gt0 p i) = true)
 | 0, l, r, h1, h2, h3, h4, h5 => ⟨l, rfl, by omega, h4, fun i g1 g2 => h5 i (by omega) g2⟩
 | f + 1, l, r, h1, h2, h3, h4, h5 => by
  by_cases hlr : l >= r
  ·have e : evT c (kas_place p k (f + 1) l r) = l := by
    show evT c (if l >= r then KasT.ret l else _) = l
    rw [if_pos hlr]
    rfl
   exact ⟨l, e, by omega, h4, fun i g1 g2 => h5 i (by omega) g2⟩
  ·have e : evT c (kas_place p k (f + 1) l r) = evT c (if c (gt0 p k) (gt0 p ((l + r) / 2)) = true then kas_place p k f l ((l + r) / 2) else kas_place p k f ((l + r) / 2 + 1) r) := by
    show evT c (if l >= r then KasT.ret l else _) = _
    rw [if_neg hlr]
    rfl
   rw [e]
   cases hc : c (gt0 p k) (gt0 p ((l + r) / 2)) with
   | true =>
    rw [if_pos rfl]
    refine ZAg O P hk h f l ((l + r) / 2) (by omega) (by omega) (by omega) h4 fun i g1 g2 => ?_
    by_cases z : i = (l + r) / 2
    ·rw [z]; exact hc
    ·exact O.tr _ _ _ hc (h ((l + r) / 2) i (by omega) g2)
   | false =>
    rw [if_neg (by decide)]
    have hd : c (gt0 p ((l + r) / 2)) (gt0 p k) = true := O.tot _ _ (P.lt _ hk) (P.lt _ (by omega)) (fun z => by have := P.inj _ _ hk (by omega) z; omega) hc
    refine ZAg O P hk h f ((l + r) / 2 + 1) r (by omega) h2 (by omega) (fun i g1 => ?_) h5
    by_cases z : i = (l + r) / 2
    ·rw [z]; exact hd
    ·exact O.tr _ _ _ (h i ((l + r) / 2) (by omega) (by omega)) hd
theorem ZCt {p : Array Nat} {k l : Nat} (hk : k < p.size) (hl : l <= k) (i : Nat) (hi : i < p.size) : gt0 (bubble p k (k - l)) i = if i = l then gt0 p k else if l < i /\ i <= k then gt0 p (i - 1) else gt0 p i := by
 refine ZAx ?_
 rw [getElem?_bubble hk (k - l) (by omega)]
 have e : k - (k - l) = l := by omega
 rw [e]
 by_cases h1 : i = l
 ·rw [if_pos h1, if_pos h1]; exact Y2 hk
 ·rw [if_neg h1, if_neg h1]
  by_cases h2 : l < i /\ i <= k
  ·rw [if_pos h2, if_pos h2]; exact Y2 (by omega)
  ·rw [if_neg h2, if_neg h2]; exact Y2 hi
theorem ZD8 (O : Ord c n) : ∀ (f : Nat) (p : Array Nat) (k : Nat), p.toList.Perm (UB n) -> k + f = n -> Up c p k -> (evT c (kas_bin f p k)).toList.Perm (UB n) /\ Up c (evT c (kas_bin f p k)) n
 | 0, p, k, hp, hk, h => by
  have e : k = n := by omega
  refine ⟨hp, ?_⟩
  show Up c p n
  rw [<- e]
  exact h
 | f + 1, p, k, hp, hk, h => by
  have P := Ixs.of_perm hp
  show (evT c ((kas_place p k k 0 k).bind fun l => kas_bin f (bubble p k (k - l)) (k + 1))).toList.Perm (UB n) /\ Up c (evT c ((kas_place p k k 0 k).bind fun l => kas_bin f (bubble p k (k - l)) (k + 1))) n
  rw [JA]
  obtain ⟨m, e, g1, g2, g3⟩ := ZAg O P (k := k) (by omega) h k 0 k (by omega) (Ud _) (by omega) (fun i hi => by omega) (fun i h1 h2 => by omega)
  rw [e]
  refine ZD8 O f (bubble p k (k - m)) (k + 1) ((UD.mp (bubble_perm p k _)).trans hp) (by omega) fun a b hab hb => ?_
  rw [ZCt (by rw [P.size]; omega) g1 a (by rw [P.size]; omega), ZCt (by rw [P.size]; omega) g1 b (by rw [P.size]; omega)]
  by_cases ha : a = m
  ·rw [if_pos ha, if_neg (by omega), if_pos ⟨by omega, by omega⟩]
   exact g3 (b - 1) (by omega) (by omega)
  ·rw [if_neg ha]
   by_cases hb2 : b = m
   ·rw [if_pos hb2, if_neg (by omega)]
    exact g2 a (by omega)
   ·rw [if_neg hb2]
    by_cases ha3 : m < a /\ a <= k
    ·rw [if_pos ha3, if_pos ⟨by omega, by omega⟩]
     exact h (a - 1) (b - 1) (by omega) (by omega)
    ·rw [if_neg ha3]
     by_cases hb3 : m < b /\ b <= k
     ·rw [if_pos hb3]
      by_cases z : a = b - 1
      ·omega
      ·exact h a (b - 1) (by omega) (by omega)
     ·rw [if_neg hb3]
      exact h a b hab (by omega)
theorem ZGK (O : Ord c n) (hn : 1 <= n) : (evT c (kas_sort n)).toList.Perm (UB n) /\ Up c (evT c (kas_sort n)) n := by
 unfold kas_sort
 rw [JA]
 obtain ⟨h1, h2, h3, h4⟩ := ZFF O (p := List.toArray (UB n)) (List.Perm.refl _) hn
 generalize evT c (kas_count n (List.toArray (UB n))) = r at *
 by_cases h : r.1 < n
 ·rw [if_pos h]
  have e : max r.1 1 = r.1 := by omega
  rw [e]
  exact ZD8 O (n - r.1) r.2 r.1 h1 (by omega) h4
 ·rw [if_neg h]
  refine ⟨h1, ?_⟩
  have e : r.1 = n := by omega
  rw [e] at h4
  exact h4
end
section
variable {X : Cx}
theorem Jk : OpR X (binaryOp .Mult) (rI IntMulOk fun i j => .int (i * j)) := opI fun _ _ _ _ _ _ _ hc q => mul_int q hc
def JZ (_ j : Int) : Prop := 0 < j /\ j.natAbs.log2 < 9000
theorem ZFG : OpR X (binaryOp .FloorDiv) (rI JZ fun i j => .int (i / j)) := opI fun i j _ _ _ _ _ hc q => by
 have h1 : (0 : Int) < j := hc.1
 exact floordiv_int (by omega) (by rw [Int.fdiv_eq_ediv_of_nonneg i (by omega)]; exact q) (.inl (PyProof.noPylong_of_log2 hc.2))
theorem JZ.of {i j : Int} (h : 0 < j) {k : Nat} (h2 : j < 2 ^ k) (hk : k <= 9000) : JZ i j := by
 refine ⟨h, ?_⟩
 have h3 : j.natAbs < 2 ^ k := by
  have e : ((j.natAbs : Nat) : Int) = j := by omega
  have e2 : ((2 ^ k : Nat) : Int) = (2 : Int) ^ k := by simp
  have : ((j.natAbs : Nat) : Int) < ((2 ^ k : Nat) : Int) := by rw [e, e2]; exact h2
  exact Int.ofNat_lt.mp this
 have h4 : j.natAbs.log2 < k := (Nat.log2_lt (by omega)).mpr h3
 omega
theorem ZIT {i j : Int} (h1 : -(2 ^ 64) < i) (h2 : i < 2 ^ 64) : IntMulOk i j := .of_left (intBits_le_64 h1 h2)
theorem ZIU {i j : Int} (h1 : -(2 ^ 64) < j) (h2 : j < 2 ^ 64) : IntMulOk i j := .of_right (intBits_le_64 h1 h2)
end
theorem ZBd {l : List (Str × Addr)} {x : Str} {c : Addr} (h : (x, c) ∈ l) : ∃ d, l.lookup x = some d := by
 induction l with
 | nil => cases h
 | cons p r ih =>
  obtain ⟨y, d⟩ := p
  cases hx : x == y with
  | true => exact ⟨d, by simp [List.lookup_cons, hx]⟩
  | false =>
   have hr : (x, c) ∈ r := by
    rcases UA.mp h with e | e
    ·cases e
     simp at hx
    ·exact e
   obtain ⟨d', e⟩ := ih hr
   exact ⟨d', by simp only [List.lookup_cons, hx]; exact e⟩
theorem JP {env : Env} : ∀ (names : List (Str × NameKind)) (acc : List (Str × Addr)), (∀ y ∈ names, y.2 = NameKind.free -> ∃ c, env.cells.lookup y.1 = some c) -> (∀ p ∈ acc, env.cells.lookup p.1 = some p.2) ->
  ∃ cl : List (Str × Addr), (forIn names acc fun (x : Str × NameKind) (r : List (Str × Addr)) => (match x with | (name, kind) => if (kind == NameKind.free) = true then (do let a <- cellOf env name; pure (ForInStep.yield ((name, a) :: r))) else pure (ForInStep.yield r) : Sem (ForInStep (List (Str × Addr))))) = pure cl
   /\ (∀ p ∈ cl, env.cells.lookup p.1 = some p.2) /\ (∀ p ∈ acc, p ∈ cl) /\ ∀ y ∈ names, y.2 = NameKind.free -> ∃ c, (y.1, c) ∈ cl
 | [], acc, _, ha => ⟨acc, by simp, ha, fun _ h => h, fun y h => by cases h⟩
 | (n, k) :: r, acc, h, ha => by
  by_cases hk : k = NameKind.free
  ·subst hk
   obtain ⟨c, hc⟩ := h (n, .free) Uy rfl
   obtain ⟨cl, e, h1, h2, h3⟩ := JP r ((n, c) :: acc) (fun y hy => h y (Ur _ hy)) (fun p hp => by
    rcases UA.mp hp with rfl | hp
    ·exact hc
    ·exact ha p hp)
   refine ⟨cl, ?_, h1, fun p hp => h2 p (Ur _ hp), fun y hy hf => ?_⟩
   ·rw [List.forIn_cons]
    simp only [beq_self_eq_true, if_true, cellOf, hc, pure_bind]
    exact e
   ·rcases UA.mp hy with rfl | hy
    ·exact ⟨c, h2 _ Uy⟩
    ·exact h3 y hy hf
  ·obtain ⟨cl, e, h1, h2, h3⟩ := JP r acc (fun y hy => h y (Ur _ hy)) ha
   have hb : (k == NameKind.free) = false := by simpa using hk
   refine ⟨cl, ?_, h1, h2, fun y hy hf => ?_⟩
   ·rw [List.forIn_cons]
    simp only [hb, Uk, if_false, pure_bind]
    exact e
   ·rcases UA.mp hy with rfl | hy
    ·exact absurd hf hk
    ·exact h3 y hy hf
theorem ZDU {scope : Scope} {env : Env} (h : ∀ y ∈ scope.names, y.2 = NameKind.free -> ∃ c, env.cells.lookup y.1 = some c) :
  ∃ cl, closureFor scope env = pure cl /\ (∀ x c, cl.lookup x = some c -> env.cells.lookup x = some c) /\ ∀ y ∈ scope.names, y.2 = .free -> ∃ c, cl.lookup y.1 = some c := by
 obtain ⟨cl, e, h1, _, h3⟩ := JP scope.names [] h (fun p hp => by cases hp)
 refine ⟨cl, ?_, fun x c hx => h1 (x, c) (PySem.mem_of_lookup hx), fun y hy hf => ?_⟩
 ·simp only [closureFor]
  rw [e]
  rfl
 ·obtain ⟨c, hc⟩ := h3 y hy hf
  exact ZBd hc
theorem Jl {env : Env} : ∀ (names : List (Str × NameKind)) (x : Str),
  (names.map fun (n, k) => if (k == NameKind.free && env.scope.kind == .function && env.kindOf n == some .cell) then (n, NameKind.cell) else (n, k)).lookup x =
   (names.lookup x).map fun k => if (k == NameKind.free && env.scope.kind == .function && env.kindOf x == some .cell) then NameKind.cell else k
 | [], _ => rfl
 | (n, k) :: r, x => by
  have ih := Jl (env := env) r x
  show List.lookup x ((if (k == NameKind.free && env.scope.kind == .function && env.kindOf n == some .cell) = true then (n, NameKind.cell) else (n, k)) :: _) = _
  cases hx : x == n with
  | true =>
   have e : x = n := eq_of_beq hx
   subst e
   by_cases hc : (k == NameKind.free && env.scope.kind == .function && env.kindOf x == some .cell) = true
   ·rw [if_pos hc]
    simp only [List.lookup_cons, beq_self_eq_true, Option.map_some]
    rw [if_pos hc]
   ·rw [if_neg hc]
    simp only [List.lookup_cons, beq_self_eq_true, Option.map_some]
    rw [if_neg hc]
  | false =>
   by_cases hc : (k == NameKind.free && env.scope.kind == .function && env.kindOf n == some .cell) = true
   ·rw [if_pos hc]; simp only [List.lookup_cons, hx]; exact ih
   ·rw [if_neg hc]; simp only [List.lookup_cons, hx]; exact ih
structure ZD9 (N : List Str) (sc : Scope) (own caps : List Str) (ks : List Nat) (scope : Scope) : Prop where
 kind : scope.kind = .function
 nocell : ∀ y ∈ scope.names, y.2 ≠ .cell
 names : ∀ y ∈ scope.names, y.2 = .local -> scope.names.lookup y.1 = some .local
 free : ∀ y ∈ scope.names, y.2 = .free -> sc.names.lookup y.1 = some .cell
 nd : (own ++ caps).Nodup
 cap : ks.map (fun k => N[k]?) = caps.map some
 fr : ∀ x ∈ caps, scope.names.lookup x = some .free
def Yh (X : Cx) (N' : List Str) (scope : Scope) (cl : List (Str × Addr)) (C : Addr) (s₂ : Shared) (H₂ : Hp) (fp : List Addr) : Cx :=
 { X with N := N', s₀ := s₂, H₀ := H₂, env := compEnvC scope cl C X.env, outer := X.stack, stack := X.stack, ex := fp, fn := fun _ => false, pn := [], xe := fun _ _ => False }
def Jr (own : Nat) (ks : List Nat) (U : St) : St := List.replicate own none ++ ks.map fun k => (U[k]?).join
section
variable {prog : Program} {w : World} {A : Around} {R : Result -> Shared -> Prop} {s : Shared}
theorem Js {elt target iter : Expr} {ifs : List Expr} {scope : Scope} {pos : Pos} {it acc : Value} {env : Env} (I : Nat -> Shared -> Prop)
  (turn : ∀ n s, I n s -> wpAny (model prog w) A (pyNext it) (fun r s₁ => match r with
   | none => R (.ok .next) s₁
   | some v => wpAny (model prog w) A (letOwnedTupleGo target it v) (fun _ s₁' => wpAny (model prog w) A (assign target env v) (fun _ s₂ =>
    wpAny (model prog w) A (forIn ifs true fun c r => if r = true then do let ok <- isTrue c env (eval c env); pure (ForInStep.yield ok) else pure (ForInStep.yield r)) (fun ok s₃ =>
     if ok = true then wpAny (model prog w) A (eval elt env) (fun x s₄ =>
      wpAny (model prog w) A (call (.builtin "list.append") [acc, x]) (fun _ s₅ => ∃ m, m < n /\ I m s₅) (notedBy (model prog w) A env fun e s' => R (.error e) s') s₄) (notedBy (model prog w) A env fun e s' => R (.error e) s') s₃
     else ∃ m, m < n /\ I m s₃) (notedBy (model prog w) A env fun e s' => R (.error e) s') s₂) (notedBy (model prog w) A env fun e s' => R (.error e) s') s₁') (notedBy (model prog w) A env fun e s' => R (.error e) s') s₁) (notedBy (model prog w) A env fun e s' => R (.error e) s') s)
  (n : Nat) (h : I n s) :
  codeAny (model prog w) A (.compLoop (.ListComp elt [⟨target, iter, ifs, 0⟩] scope pos) 0 it acc env) R s := by
 refine codeAny_loop rfl I (fun n s hI => ?_) n h
 show wpAny _ A ((compTurn (.ListComp elt [⟨target, iter, ifs, 0⟩] scope pos) 0 it acc env).onRaise (fun x => do noteFrame x env; theTreesLotGoes x)) _ _ s
 refine wpAny_noted ?_
 rw [compTurn_list]
 refine Ua (wpAny_standAt (Ua (UC (turn n s hI) (fun r s₁ h₁ => ?_) fun _ _ h' => h')))
 cases r with
 | none => exact Us h₁
 | some v =>
  refine Ua (UC h₁ (fun _ s₁' h₁' => ?_) fun _ _ h' => h')
  refine Ua (UC h₁' (fun _ s₂ h₂ => Ua (UC h₂ (fun ok s₃ h₃ => ?_) fun _ _ h' => h')) fun _ _ h' => h')
  cases ok with
  | false => exact Us ⟨rfl, h₃⟩
  | true =>
   exact Ua (Ua (UC h₃ (fun x s₄ h₄ => Ua (UC h₄ (fun _ s₅ h₅ => Us (Us ⟨rfl, h₅⟩)) fun _ _ h' => h')) fun _ _ h' => h'))
end
def ZFH (X : Cx) (ifs : List Expr) (t : TT) : Prop :=
 ∀ (pins : List (Addr × Obj)) (s : Shared) (U : St) (H : Hp) (Q : Bool -> Hp -> Prop), Inv X pins U H s -> t U H Q ->
  wpAny (model X.prog X.w) X.A (forIn ifs true fun c r => if r = true then do let ok <- isTrue c X.env (eval c X.env); pure (ForInStep.yield ok) else pure (ForInStep.yield r)) (TP X pins U Q) X.xe s
def ZDV : TT := fun _ H Q => Q true H
section
variable {X : Cx}
theorem ZFI : ZFH X [] ZDV := fun _ _ _ H _ I h => wpAny_tests_nil ⟨H, I, h⟩
def ZDW (own : Nat) (ks : List Nat) (wi : TI) (g : TG) (tt : TT) (te : TE) : TE := fun U H Q => wi U H fun J H1 => ∀ l, H1 l = none ->
 ∃ W : Nat -> Nat -> St -> Hp -> Prop, (∃ m, W 0 m (Jr own ks U) (upd H1 l (.lst []))) /\ ∀ i m U' H', W i m U' H' ->
  (J.stop i H' /\ Q (.ref l) H') \/ (J.go i H' /\ ∃ N : St -> Hp -> Prop, (∀ U2 H2, N U2 H2 -> ∃ m', m' < m /\ W (i + 1) m' U2 H2) /\
   ∀ x H'', J.yld i H' x H'' -> g x U' H'' fun U2 H2 => tt U2 H2 fun b H3 =>
    if b = true then te U2 H3 fun v H4 => ∃ xs, H4 l = some (.lst xs) /\ xs.length < sizeLine /\ N U2 (upd H4 l (.lst (xs ++ [v]))) else N U2 H3)
theorem ZEA {α : Type} {o : Option (Option α)} {v : α} (h : o.join = some v) : o = some (some v) := by
 cases o with
 | none => cases h
 | some x => exact congrArg some h
theorem ZGL {N : List Str} {sc : Scope} {own caps : List Str} {ks : List Nat} {elt tg iter : Expr} {ifs : List Expr} {scope : Scope} {pos : Pos} {wi : TI} {g : TG} {tt : TT} {te : TE}
  (hN : X.N = N) (hsc : X.env.scope = sc) (hc : X.calm = true) (S : ZD9 N sc own caps ks scope) (hi : PI X tg iter wi)
  (hg : ∀ cl C s₂ H₂ fp, PG (Yh X (own ++ caps) scope cl C s₂ H₂ fp) tg g)
  (ht : ∀ cl C s₂ H₂ fp, ZFH (Yh X (own ++ caps) scope cl C s₂ H₂ fp) ifs tt)
  (he : ∀ cl C s₂ H₂ fp, PE (Yh X (own ++ caps) scope cl C s₂ H₂ fp) elt te)
  (hs : ∀ x, foldedSetIterable iter X.env x = pure x := by intro _; rfl) :
  PE X (.ListComp elt [⟨tg, iter, ifs, 0⟩] scope pos) (ZDW own.length ks wi g tt te) := by
 intro pins s U H Q I h
 subst hN hsc
 rw [eval_ListComp]
 obtain ⟨cl, hclos, hcl, hclf⟩ := ZDU (scope := scope) (env := X.env) fun y hy hf => I.ok.has y.1 (.inl (S.free y hy hf))
 refine wpAny_comprehension_free (use := none) rfl hs hclos S.kind S.names (UC (hi pins s U H _ I h) (fun xv s₁ h₁ => UC h₁ (fun it s₂ h₂ => ?_) fun _ _ e => e) fun _ _ e => e)
 obtain ⟨it, fp, tn, J, H2, e, I2, T, st2, f2, q⟩ := h₂
 subst e
 refine wpAny_newObj_type (wpAny_newFunctionEnv S.nocell (by intro y hy; simp at hy) (fun h₁ hns₁ hsb₁ => ?_) S.kind)
 dsimp only at hns₁ hsb₁ ⊢
 generalize hH2 : s₂.heap.push { cls := .type "list", dict := none, data := .seq ([] : List Value).toArray } = HP at hns₁ hsb₁ ⊢
 have hC : HP.objs.size = s₂.heap.objs.size + 1 := by rw [<- hH2, Heap.size_push]
 have hDC : s₂.heap.objs.size ≠ HP.objs.size := by rw [hC]; exact Uz (Nat.lt_succ_self _)
 have hCle : s₂.heap.objs.size <= HP.objs.size := by rw [hC]; exact Nat.le_succ _
 have old : ∀ b o, s₂.heap.get? b = some o -> h₁.get? b = some o := fun b o e => by
  have hb : b < s₂.heap.objs.size := Uh e
  exact hsb₁.extBut b o (by rw [hC]; exact Uz (Nat.lt_succ_of_lt hb)) (Ub _ (hH2 ▸ Ub _ e))
 have hacc : h₁.get? s₂.heap.objs.size = some { cls := .type "list", dict := none, data := .seq ([] : List Value).toArray } := hsb₁.extBut _ _ hDC (Ub _ (hH2 ▸ Uj _ rfl))
 have fpl : ∀ b ∈ fp, b < s₂.heap.objs.size := fun b hb => by
  obtain ⟨o, e, _⟩ := T.obj _ _ st2 b hb
  exact Uh e
 have hfD : H2 s₂.heap.objs.size = none := I2.hok.fresh (Ud _)
 obtain ⟨W, ⟨m0, w0⟩, turn⟩ := q s₂.heap.objs.size hfD
 have hkr : ∀ x, (compEnvC scope cl HP.objs.size X.env).kindOf x = (scope.names.lookup x).map fun k => if (k == NameKind.free && X.env.scope.kind == .function && X.env.kindOf x == some .cell) then NameKind.cell else k := fun x => Jl (env := X.env) scope.names x
 have cellOfN : ∀ x, scope.names.lookup x = some .free -> X.env.kindOf x = some .cell := fun x e => S.free (x, .free) (PySem.mem_of_lookup e) rfl
 -- the context within
 have ok : (Yh X (own ++ caps) scope cl HP.objs.size s₂ H2 fp).Ok := by
  refine ⟨I2.ok.mod, S.kind, I2.ok.glob, I2.ok.blt, hCle, fun x y c e1 e2 => I2.ok.inj x y c (hcl x c e1) (hcl y c e2), fun x hx => ?_, fun x c z => (by cases z), I2.ok.hd, I2.ok.frames, .inl rfl, fun b hb => ⟨?_, fun x c e => (f2 b hb).2.2.2.2.1 x c (hcl x c e)⟩,
   I2.bs, UF I2.ok.bsz I2.sz, fun b o e hb => ?_, fun b hb z => ?_, I2.stack, I2.stkFree⟩
  ·have hx' : (scope.names.lookup x).map (fun k => if (k == NameKind.free && X.env.scope.kind == .function && X.env.kindOf x == some .cell) then NameKind.cell else k) = some .cell \/
     (scope.names.lookup x).map (fun k => if (k == NameKind.free && X.env.scope.kind == .function && X.env.kindOf x == some .cell) then NameKind.cell else k) = some .free := by rw [<- hkr x]; exact hx
   cases e : scope.names.lookup x with
   | none => rw [e] at hx'; rcases hx' with z | z <;> cases z
   | some k =>
    have hm := PySem.mem_of_lookup e
    have hk : k = .free := by
     by_cases hkf : k = .free
     ·exact hkf
     ·have hb : (k == NameKind.free) = false := by simpa using hkf
      rw [e] at hx'
      simp only [Option.map_some, hb, Bool.false_and, Uk, if_false, Option.some.injEq] at hx'
      rcases hx' with z | z
      ·exact absurd z (S.nocell _ hm)
      ·exact z
    exact hclf _ hm hk
  ·exact Uz (Ue (fpl b hb) hCle)
  ·rcases (f2 b hb).2.2.2.1 with z | z
   ·exact I2.ok.noex b o e z
   ·exact absurd (Ue (Uh e) (UF I2.ok.bsz z)) (Nat.lt_irrefl _)
  ·rcases UA.mp (I2.stkSub b z) with r | r
   ·exact (f2 b hb).2.1 r
   ·exact (f2 b hb).2.2.1 r
 have hlen : (Jr own.length ks U).length = (own ++ caps).length := by
  have := congrArg List.length S.cap
  simp only [Uo] at this
  simp [Jr, this]
 have I4 : Inv (Yh X (own ++ caps) scope cl HP.objs.size s₂ H2 fp) [] (Jr own.length ks U) (upd H2 s₂.heap.objs.size (.lst [])) { s₂ with heap := h₁, toks := s₂.toks + ([] : List (Str × Value)).length } := by
  obtain ⟨mX, hnX, hlX⟩ := I2.loc
  refine ⟨ok, rfl, I2.bare, Un.laid old (Ud _) hfD, ⟨_, hns₁, fun i x v e1 e2 e3 => ?_⟩, fun x c e => ?_, ?_, fun x c e => ?_, fun p hp => (by cases hp), I2.hok.laid old (Ud _) ⟨UI _, [], 0, .nil, hacc⟩, hlen⟩
  ·have e1 : (own ++ caps)[i]? = some x := e1
   by_cases hio : i < own.length
   ·unfold Jr at e2
    rw [List.getElem?_append_left (by simpa using hio), List.getElem?_replicate] at e2
    rw [if_pos hio] at e2
    cases e2
   ·unfold Jr at e2
    rw [UL (by simpa using hio), List.length_replicate, UH] at e2
    rw [UL (by simpa using hio)] at e1
    cases ek : ks[i - own.length]? with
    | none => rw [ek] at e2; cases e2
    | some k =>
     rw [ek] at e2
     have e2' := ZEA (Option.some.inj e2)
     have hcap := congrArg (fun l => l[i - own.length]?) S.cap
     simp only [UH, ek, e1, Option.map_some] at hcap
     have hNk : X.N[k]? = some x := Option.some.inj hcap
     have hfx := S.fr x (Ut e1)
     have hkX := cellOfN x hfx
     obtain ⟨u, ru, lk⟩ := hlX k x v hNk e2' (.inr (.inl hkX))
     refine ⟨u, ru, .inr ⟨.inl ?_, ?_⟩⟩
     ·show (compEnvC scope cl HP.objs.size X.env).kindOf x = some .cell
      rw [hkr x, hfx]
      simp [I2.ok.kind, hkX]
     ·rcases lk with ⟨z, _⟩ | ⟨_, c, ec, o, ho, hd⟩
      ·rw [hkX] at z; cases z
      ·obtain ⟨c', ec'⟩ := hclf (x, .free) (PySem.mem_of_lookup hfx) rfl
       have := hcl _ _ ec'
       rw [ec] at this
       cases this
       exact ⟨c, ec', o, old _ _ ho, hd⟩
  ·obtain ⟨v, o, ho, hd⟩ := I2.cell x c (hcl x c e)
   exact ⟨v, o, old _ _ ho, hd⟩
  ·show upd H2 s₂.heap.objs.size (.lst []) HP.objs.size = none
   rw [YI (Ne.symm hDC)]
   exact I2.hok.fresh hCle
  ·obtain ⟨v, o, ho, hd⟩ := I2.cell x c (hcl x c e)
   show upd H2 s₂.heap.objs.size (.lst []) c = none
   rw [YI (Uz (Uh ho))]
   exact I2.freeC x c (hcl x c e)
 -- the way out
 have out : ∀ {U' : St} {H' : Hp} {s' : Shared}, Inv (Yh X (own ++ caps) scope cl HP.objs.size s₂ H2 fp) [] U' H' s' -> Q (.ref s₂.heap.objs.size) H' ->
   ∃ m, s'.heap.Ns HP.objs.size m /\ ∀ h', Heap.SameBut HP.objs.size s'.heap h' -> EP X pins U Q (.ref s₂.heap.objs.size) { s' with heap := h' } := fun {U' H' s'} I' q' => by
  obtain ⟨m, hn, _⟩ := I'.loc
  refine ⟨m, hn, fun h' hs' => ⟨.ref s₂.heap.objs.size, H', ?_, rfl, q'⟩⟩
  have hfree : H' HP.objs.size = none := I'.free
  have neC : ∀ {b : Addr} {o : Obj}, s₂.heap.get? b = some o -> b ≠ HP.objs.size := fun e => Uz (Ue (Uh e) hCle)
  refine I2.call' (ch := fp) (s' := { s' with heap := h' }) I'.os ⟨fun b o e n hb hx => ?_, fun b o e n hb hx => ?_, I'.base.free, fun b o e hx => ?_, I'.base.tups, I'.base.frzs, I'.base.tbls⟩ (fun b ob e => ?_) I'.bare fun b hb => ⟨(f2 b hb).2.2.2.1, (f2 b hb).2.1, (f2 b hb).2.2.2.2.1, (f2 b hb).2.2.2.2.2⟩
  ·exact (hs'.2 b (neC e)).trans (I'.base.keep b o e n hb hx)
  ·obtain ⟨sl, e1⟩ := I'.base.slot b o e n hb hx
   exact ⟨sl, (hs'.2 b (neC e)).trans e1⟩
  ·obtain ⟨o', e1⟩ := I'.base.there b o e hx
   exact ⟨o', (hs'.2 b (neC e)).trans e1⟩
  ·refine (I'.hok b ob e).stay (fun c w' hc q => (hs'.2 c ?_).trans q) (fun _ q => q) fun _ _ q => q
   rintro rfl
   rcases hc with rfl | hc
   ·rw [hfree] at e; cases e
   ·rw [hfree] at hc; cases hc
 have stat : ∀ {H' : Hp}, (∀ b ∈ fp, H' b = none) -> ∀ b ∈ fp, Yv (Yh X (own ++ caps) scope cl HP.objs.size s₂ H2 fp) [] H' b := fun hn b hb =>
  ⟨hn b hb, Uz (Ue (fpl b hb) hCle), ok.exfs b hb, .inl hb, (ok.exf b hb).2, fun p hp => by cases hp⟩
 have fr4 : ∀ b ∈ fp, upd H2 s₂.heap.objs.size (.lst []) b = none := fun b hb => by
  rw [YI (Uz (fpl b hb))]
  exact (f2 b hb).1
 have tn4 : tn 0 h₁ := T.keep _ _ _ st2 fun b _ o e => old b o e
 have loop : ∀ s4 : Shared, s4 = { s₂ with heap := h₁, toks := s₂.toks + ([] : List (Str × Value)).length } ->
   codeAny (model X.prog X.w) X.A (.compLoop (.ListComp elt [⟨tg, iter, ifs, 0⟩] scope pos) 0 (.ref it) (.ref s₂.heap.objs.size) (compEnvC scope cl HP.objs.size X.env))
    (compPost (model X.prog X.w) X.A X.xe none (EP X pins U Q) (.ref s₂.heap.objs.size) HP.objs.size) s4 := by
  rintro s4 rfl
  refine Js (fun n s' => ∃ i U' H', Inv (Yh X (own ++ caps) scope cl HP.objs.size s₂ H2 fp) [] U' H' s' /\ tn i s'.heap /\ (∀ b ∈ fp, H' b = none) /\ W i n U' H') ?_ m0 ⟨0, _, _, I4, tn4, fr4, w0⟩
  rintro n s3 ⟨i, U3, H3, I3, st3, fr3, w3⟩
  rcases turn i n U3 H3 w3 with ⟨stop, qn⟩ | ⟨go, N, hN, step⟩
  ·refine UC (T.done (Yh X (own ++ caps) scope cl HP.objs.size s₂ H2 fp) rfl rfl rfl hc i [] s3 U3 H3 (fun _ _ => False) I3 (stat fr3) st3 stop) (fun r s4 ⟨hr, I4'⟩ => ?_) fun _ _ z => False.elim z
   subst hr
   exact out I4' qn
  ·refine UC (T.item (Yh X (own ++ caps) scope cl HP.objs.size s₂ H2 fp) rfl rfl rfl hc i [] s3 U3 H3 (fun _ _ => False) I3 (stat fr3) st3 go) (fun r s4 ⟨u, hr, h4⟩ => ?_) fun _ _ z => False.elim z
   subst hr
   refine UC h4 (fun _ s5 ⟨x, H5, I5, r5, y5, st5, fr5⟩ => ?_) fun _ _ z => False.elim z
   have I5' := I5.pinned (stat fr5) (T.obj _ _ st5)
   have back : ∀ {s7 : Shared} {U7 : St} {H7 : Hp}, Inv (Yh X (own ++ caps) scope cl HP.objs.size s₂ H2 fp) ([] ++ J7 fp s5.heap) U7 H7 s7 -> N U7 H7 ->
     ∃ m, m < n /\ ∃ i U' H', Inv (Yh X (own ++ caps) scope cl HP.objs.size s₂ H2 fp) [] U' H' s7 /\ tn i s7.heap /\ (∀ b ∈ fp, H' b = none) /\ W i m U' H' := fun {s7 U7 H7} I7 n7 => by
    obtain ⟨m', hm, w7⟩ := hN U7 H7 n7
    refine ⟨m', hm, i + 1, U7, H7, I7.unpinned, T.keep _ _ _ st5 fun b hb o e => (I7.pin (b, o) (Um _ (Um _ (JJ hb e)))).1, fun b hb => ?_, w7⟩
    obtain ⟨o, e, d⟩ := T.obj _ _ st5 b hb
    exact (I7.pin (b, o) (Um _ (Um _ (JJ hb e)))).2.1
   refine UC (hg _ _ _ _ _ _ s5 U3 H5 x u _ I5' r5 (step x H5 y5)) (fun _ s6 ⟨U6, H6, I6, q6⟩ => ?_) fun _ _ z => False.elim z
   refine UC (ht _ _ _ _ _ _ s6 U6 H6 _ I6 q6) (fun b s7 ⟨H7, I7, q7⟩ => ?_) fun _ _ z => False.elim z
   cases b with
   | false =>
    rw [if_neg Uw]
    rw [if_neg Uw] at q7
    exact back I7 q7
   | true =>
    rw [if_pos rfl]
    rw [if_pos rfl] at q7
    refine UC (he _ _ _ _ _ _ s7 U6 H7 _ I7 q7) (fun y s8 ⟨v, H8, I8, r8, xs, hx8, hz8, n8⟩ => ?_) fun _ _ z => False.elim z
    refine UC (ZBO (X := Yh X (own ++ caps) scope cl HP.objs.size s₂ H2 fp) _ s8 U6 H8 (.ref s₂.heap.objs.size) [v] (.ref s₂.heap.objs.size) [y] (fun _ H' => N U6 H') I8 rfl (.cons r8 .nil) ⟨_, xs, v, rfl, rfl, hx8, hz8, n8⟩) (fun _ s9 ⟨_, H9, I9, _, n9⟩ => ?_) fun _ _ z => False.elim z
    exact back I9 n9
 exact codeAny_compStart_list (loop _ rfl) (T.self _ 0 _ _ _ tn4 (loop _ rfl))
end
theorem ZB3 : bootBuiltins "tuple" = some (.type "tuple") := by decide +kernel
theorem ZEB : bootBuiltins "len" = some (.builtin "len") := by decide +kernel
theorem ZEC : bootBuiltins "abs" = some (.builtin "abs") := by decide +kernel
theorem ZED : bootBuiltins "max" = some (.builtin "max") := by decide +kernel
theorem ZHO : bootBuiltins "min" = some (.builtin "min") := by decide +kernel
theorem ZAA : bootBuiltins "sorted" = some (.builtin "sorted") := by decide +kernel
def Y6 : Expr -> Bool
 | .Starred _ _ => true
 | _ => false
def YX (es : List Expr) : Bool := es.all fun e => !Y6 e
theorem JG {e : Expr} {es : List Expr} {env : Env} (h : Y6 e = false) : starEach (e :: es) env = (false, eval e env) :: starEach es env := by
 cases e <;> first | rfl | cases h
theorem Jm {e : Expr} {es : List Expr} {env : Env} (h : YX (e :: es) = true) : starEach (e :: es) env = (false, eval e env) :: starEach es env := by
 refine JG ?_
 unfold YX at h
 rw [List.all_cons, Bool.and_eq_true] at h
 simpa using h.1
theorem JQ {pos : Pos} {env : Env} : ∀ {es : List Expr}, YX es = true -> (backTo pos (starEach es env)).any (·.1) = false
 | [], _ => rfl
 | e :: es, h => by
  rw [Jm h]
  have h2 : YX es = true := by
   unfold YX at h ⊢
   rw [List.all_cons, Bool.and_eq_true] at h
   exact h.2
  exact JQ h2
theorem Ja {e : Expr} {es : List Expr} (h : YX (e :: es) = true) : YX es = true := by
 unfold YX at h ⊢
 rw [List.all_cons, Bool.and_eq_true] at h
 exact h.2
section
variable {X : Cx} {CX : CXT} {k : Nat} {f : Addr} {fd : FuncData} {ps : List Str} {sp : Sp} {dvs : List V} {ds : List Value} {E : XK} {x : Str} {p pos : Pos} {e : Expr} {es : List Expr} {te : TE} {t : TA} {id T : String} {r : List V -> Hp -> VK -> Prop}
theorem ZIV (ha : PE X e te) (hr : PA X es t) (hs : Y6 e = false := by rfl) : PA X (e :: es) (ZBn te t) := ZGF ha hr (JG hs)
theorem ZFJ (F : YZ X.prog X.w X.K X.mg X.base CX k f fd ps sp) (hr : Room k X.A) (hg : Gl X x) (hm : X.mg x = some (.ref f)) (hk : W.keepIn X.K (.ref f) = true) (hb : YS X.K fd ps ds) (hd : YB dvs ds) (hx : J9 CX X E)
  (ha : PA X (e :: es) t) (hns : YX (e :: es) = true := by rfl) (hdb : (x == ("__debug__" : Str)) = false := by decide) : PE X (.Call (.Name x p) (e :: es) [] pos) (ZAv sp dvs E t) :=
 ZGG F hr hg hm hk hb hd hx ha hdb (Jm hns) (JQ (Ja hns))
theorem ZEE (hc : Yj X (.builtin id) r) (hg : Gl X x) (hm : X.mg x = none) (hv : bootBuiltins x = some (.builtin id)) (ha : PA X (e :: es) t) (hns : YX (e :: es) = true := by rfl) (hn : x ≠ "__name__" := by decide) (hdb : (x == ("__debug__" : Str)) = false := by decide) :
 PE X (.Call (.Name x p) (e :: es) [] pos) (tCB r t) := ZE9 hc hg hm hv ha hn hdb (Jm hns) (JQ (Ja hns))
theorem ZDX (hc : Yj X (.type T) r) (hg : Gl X x) (hm : X.mg x = none) (hv : bootBuiltins x = some (.type T)) (ha : PA X (e :: es) t) (hns : YX (e :: es) = true := by rfl) (hn : x ≠ "__name__" := by decide) (hdb : (x == ("__debug__" : Str)) = false := by decide) :
 PE X (.Call (.Name x p) (e :: es) [] pos) (tCB r t) := ZD5 hc hg hm hv ha hn hdb (Jm hns) (JQ (Ja hns))
end
def Y3 : Expr -> Bool
 | .ListComp _ _ _ _ => true
 | .SetComp _ _ _ _ => true
 | .DictComp _ _ _ _ _ => true
 | _ => false
theorem Jt {e : Expr} {tg : Option Expr} {n : Nat} {env : Env} (h : Y3 e = false) : swapsWith e tg n env = pure false := by
 cases e <;> first | rfl | cases h
section
variable {X : Cx} {e : Expr} {te : TE} {pos : Pos}
theorem ZFK (he : PE X e te) (hs : Y3 e = false := by rfl) : PS X (.Expr e pos) (ZBl te) := ZF9 he (Jt hs)
theorem ZGM {i : Nat} {x : Str} {pos' : Pos} (hN : X.N.Nodup) (hi : X.N[i]? = some x) (hx : Loc X.env.scope x) (he : PE X e te) (hs : Y3 e = false := by rfl) (hf : X.fn x = true \/ X.env.scope.names.lookup x = some .local := by first | exact .inl rfl | exact .inr rfl | assumption) :
 PS X (.Assign [.Name x pos'] e pos) (ZAd te (JY i)) := ZG8 hN hi hx he (Jt hs) hf
end
def ZDY (K : W.Frag) : List V -> Hp -> VK -> Prop := fun xs H Q => ∃ p ys, xs = [.ref p] /\ (SqL K H p ys \/ SqT K H p ys) /\ Q (.int ys.length) H
def ZHP : List V -> Hp -> VK -> Prop := fun xs H Q => ∃ i, xs = [.int i] /\ Q (.int (if i < 0 then -i else i)) H
def ZHQ : List V -> Hp -> VK -> Prop := fun xs H Q => ∃ i j, xs = [.int i, .int j] /\ Q (.int (if j > i then j else i)) H
def ZB4 (K : W.Frag) : List V -> Hp -> VK -> Prop := fun xs H Q => ∃ p ys, xs = [.ref p] /\ ((SqL K H p ys /\ ∀ l, H l = none -> Q (.ref l) (upd H l (.tup ys))) \/ (SqT K H p ys /\ Q (.ref p) H))
section
variable {X : Cx}
theorem ZHR : Yj X (.builtin "len") (ZDY X.K) := ZB1
theorem ZEF : Yj X (.builtin "abs") ZHP := ZE5
theorem ZHS (hc : X.calm = true) : Yj X (.builtin "max") ZHQ := ZD3 hc
theorem ZFL : Yj X (.type "tuple") (ZB4 X.K) := ZBc
end
section
variable {K : W.Frag} {U : St} {H : Hp} {Q : VK} {D : Yi}
theorem ZHT {t u : TS} (h : t { D with nx := u D } U H) : ZEs t u D U H := h
theorem ZHU {te : TE} (h : te U H D.rt) : ZEu te D U H := h
theorem ZGN {te : TE} (h : te U H fun _ H1 => D.nx U H1) : ZBl te D U H := h
theorem ZGO (h : D.nx U H) : ZDF D U H := h
theorem ZHV {te : TE} {g : TG} (h : te U H fun x H1 => g x U H1 D.nx) : ZAd te g D U H := h
theorem ZFM {i : Nat} {v : V} {R : St -> Hp -> Prop} (h : R (U.set i (some v)) H) : JY i v U H R := h
theorem ZGP {R : St -> Hp -> Prop} (h : R U H) : ZEw [] U H R := ⟨rfl, h⟩
theorem ZFN {t : TG} {u : TGs} {v : V} {r : List V} {R : St -> Hp -> Prop} (h : t v U H fun U' H' => u r U' H' R) : ZDG t u (v :: r) U H R := ⟨v, r, rfl, h⟩
theorem ZGQ {to ti : TE} {t : ZBx} {v : V} {R : St -> Hp -> Prop} (h : to U H fun o H1 => ti U H1 fun i H2 => t o i v H2 fun H3 => R U H3) : ZEy to ti t v U H R := h
theorem ZHW {c : TT} {t u : TS} (h : c U H fun b H1 => if b = true then t D U H1 else u D U H1) : ZBw c t u D U H := h
theorem ZGR {t : TE} {R : Bool -> Hp -> Prop} (h : t U H fun x H' => ∃ k, x = .bl k /\ R k H') : ZDO t U H R := h
theorem ZIW {b : Bool} {R : Bool -> Prop} (h : R b) : ∃ k, V.bl b = .bl k /\ R k := ⟨b, rfl, h⟩
theorem ZIE {t u : TT} {R : Bool -> Hp -> Prop} (h : t U H fun c H1 => if c = true then R true H1 else u U H1 R) : tOr t u U H R := h
theorem ZHX {i : Nat} {v : V} (e : U[i]? = some (some v)) (h : Q v H) : ZEr i U H Q := ⟨v, e, h⟩
theorem ZB5 {i j : Int} (h1 : 0 <= j) (h2 : j <= 1000000) (h3 : i.natAbs < 2 ^ 64) : ZE4 i j := ⟨h1, h2, h3⟩
theorem ZIX {v : V} (h : Q v H) : tC v U H Q := h
theorem ZIF {r : R2} {ta tb : TE} (h : ta U H fun x H1 => tb U H1 fun y H2 => r x y H2 Q) : tOp r ta tb U H Q := h
theorem ZIG {r : V -> Hp -> VK -> Prop} {ta : TE} (h : ta U H fun x H1 => r x H1 Q) : tUn r ta U H Q := h
theorem ZIH {g : Int -> Int -> V} {i j : Int} (h : Q (g i j) H) : rI0 g (.int i) (.int j) H Q := ⟨i, j, rfl, rfl, h⟩
theorem ZFO {C : Int -> Int -> Prop} {g : Int -> Int -> V} {i j : Int} (c : C i j) (h : Q (g i j) H) : rI C g (.int i) (.int j) H Q := ⟨i, j, rfl, rfl, c, h⟩
theorem ZIY {g : Int -> V} {i : Int} (h : Q (g i) H) : rU g (.int i) H Q := ⟨i, rfl, h⟩
theorem ZHY {i j : Int} (h : Q (.bl (decide (V.int i = V.int j))) H) : rEq (.int i) (.int j) H Q := ⟨rfl, h⟩
theorem ZII {r : List V -> Hp -> VK -> Prop} {t : TA} (h : t U H fun vs H1 => r vs H1 Q) : tCB r t U H Q := h
theorem ZGS {sp : Sp} {dvs : List V} {E : XK} {t : TA} (h : t U H fun vs H1 => sp (vs ++ dvs) H1 Q E) : ZAv sp dvs E t U H Q := h
theorem ZGT {ta : TE} {tr : TA} {R : List V -> Hp -> Prop} (h : ta U H fun x H1 => tr U H1 fun xs H2 => R (x :: xs) H2) : ZBn ta tr U H R := h
theorem ZHZ {R : List V -> Hp -> Prop} (h : R [] H) : ZE6 U H R := h
def ZFP (n : Nat) (o : HO) (H : Hp) (Q : VK) : Prop := n <= sizeLine /\ ∀ p, H p = none -> Q (.ref p) (upd H p o)
theorem ZHa {t : TA} (h : t U H fun xs H1 => ZFP xs.length (.tup xs) H1 Q) : ZE7 t U H Q := h
theorem ZHb {t : TA} (h : t U H fun xs H1 => ZFP xs.length (.lst xs) H1 Q) : ZE8 t U H Q := h
theorem Yq {n : Nat} {o : HO} (hz : n <= sizeLine) (h : ∀ p H2, H p = none -> H2 p = some o -> YF H H2 -> Q (.ref p) H2) : ZFP n o H Q :=
 ⟨hz, fun p hp => h p _ hp YQ (fun b u e => by rw [YI (YO e hp)]; exact e)⟩
theorem ZAB {p : Addr} {xs : List V} {i : Int} {v : V} (h1 : SqL K H p xs) (h2 : atI xs i = some v) (h : Q v H) : ZDR K (.ref p) (.int i) H Q := ⟨p, xs, i, v, rfl, rfl, h1, h2, h⟩
theorem ZAC {p : Addr} {xs : List V} {i : Int} {v : V} (h1 : SqT K H p xs) (h2 : atI xs i = some v) (h : Q v H) : ZFB K (.ref p) (.int i) H Q := ⟨p, xs, i, v, rfl, rfl, h1, h2, h⟩
theorem ZCu {p : Addr} {xs : List V} {k : Int} {j : Nat} {v : V} {R : Hp -> Prop} (h1 : H p = some (.lst xs)) (h2 : ixN xs.length k = some j)
  (h : ∀ H2, H2 p = some (.lst (xs.set j v)) -> (∀ q o, H q = some o -> q ≠ p -> H2 q = some o) -> R H2) : ZFt (.ref p) (.int k) v H R :=
 ⟨p, xs, k, j, rfl, rfl, h1, h2, h _ YQ fun q o e n => by rw [YI n]; exact e⟩
def rFor (J : It) (g : TG) (tb : TS) (D : Yi) (U : St) (H : Hp) : Prop := ∃ W : Nat -> Nat -> St -> Hp -> Prop, (∃ m, W 0 m U H) /\ ∀ i m U H, W i m U H ->
 (J.stop i H /\ D.nx U H) \/ (J.go i H /\ ∃ N : St -> Hp -> Prop, (∀ U' H', N U' H' -> ∃ m', m' < m /\ W (i + 1) m' U' H') /\ ∀ x H', J.yld i H x H' -> g x U H' fun U2 H2 => tb { D with nx := N, ct := N, bk := D.nx } U2 H2)
theorem ZHc {wi : TI} {g : TG} {tb : TS} (h : wi U H fun J H1 => rFor J g tb D U H1) : ZE1 wi g tb D U H := h
def ZFu (vs : List V) (H : Hp) (R : It -> Hp -> Prop) : Prop := ∃ j : Int, vs = [.int j] /\ -(2 ^ 62) <= j /\ j < 2 ^ 62 /\ R (Itr 0 j.toNat) H
theorem ZGU {ta : TA} {R : It -> Hp -> Prop} (h : ta U H fun vs H1 => ZFu vs H1 R) : ZDN ta U H R := h
theorem ZEG {j : Int} {R : It -> Hp -> Prop} (h1 : -(2 ^ 62) <= j) (h2 : j < 2 ^ 62) (h : R (Itr 0 j.toNat) H) : ZFu [.int j] H R := ⟨j, rfl, h1, h2, h⟩
theorem ZHd {i : Int} (h : Q (.int (if i < 0 then -i else i)) H) : ZHP [.int i] H Q := ⟨i, rfl, h⟩
theorem ZHe {i j : Int} (h : Q (.int (if j > i then j else i)) H) : ZHQ [.int i, .int j] H Q := ⟨i, j, rfl, h⟩
theorem ZGV {p : Addr} {ys : List V} (h1 : SqL K H p ys) (h : Q (.int ys.length) H) : ZDY K [.ref p] H Q := ⟨p, ys, rfl, .inl h1, h⟩
theorem ZGW {p : Addr} {ys : List V} (h1 : SqT K H p ys) (h : Q (.int ys.length) H) : ZDY K [.ref p] H Q := ⟨p, ys, rfl, .inr h1, h⟩
theorem ZGX {n : Nat} {t : TGs} {p : Addr} {xs : List V} {R : St -> Hp -> Prop} (h1 : SqT K H p xs) (h2 : xs.length = n) (h : t xs U H R) : ZDH K n t (.ref p) U H R := ⟨p, xs, rfl, h1, h2, h⟩
theorem ZCv {p : Addr} {ys : List V} (h1 : SqL K H p ys) (h : ∀ l H2, H l = none -> H2 l = some (.tup ys) -> YF H H2 -> Q (.ref l) H2) :
  ZB4 K [.ref p] H Q :=
 ⟨p, ys, rfl, .inl ⟨h1, fun l hl => h l _ hl YQ (fun b u e => by rw [YI (YO e hl)]; exact e)⟩⟩
theorem ZHf {p : Addr} {xs : List V} {lo hi : Option Int} (h1 : SqL K H p xs) (h : ∀ l H2, H l = none -> H2 l = some (.lst (ZAf xs lo hi)) -> YF H H2 -> Q (.ref l) H2) : ZFC K (.ref p) lo hi H Q :=
 ⟨p, xs, rfl, h1, fun l hl => h l _ hl YQ (fun b u e => by rw [YI (YO e hl)]; exact e)⟩
theorem ZHg {p q : Addr} {xs zs : List V} (h1 : H p = some (.lst xs)) (h2 : H q = some (.lst zs)) (hz : xs.length + zs.length <= sizeLine) (h : ∀ l H2, H l = none -> H2 l = some (.lst (xs ++ zs)) -> YF H H2 -> Q (.ref l) H2) : ZHL (.ref p) (.ref q) H Q :=
 ⟨p, q, xs, zs, rfl, rfl, h1, h2, hz, fun l hl => h l _ hl YQ (fun b u e => by rw [YI (YO e hl)]; exact e)⟩
theorem ZIJ {r : V -> Option Int -> Option Int -> Hp -> VK -> Prop} {te : TE} {tl th : TO} (h : te U H fun x H1 => tl U H1 fun l H2 => th U H2 fun u H3 => r x l u H3 Q) : tSl r te tl th U H Q := h
theorem ZGY {t : TE} {R : Option Int -> Hp -> Prop} (h : t U H fun x H1 => ∃ i, x = .int i /\ R (some i) H1) : ZDQ t U H R := h
theorem ZIZ {i : Int} {R : Int -> Prop} (h : R i) : ∃ j, V.int i = .int j /\ R j := ⟨i, rfl, h⟩
theorem JR {c A B : Prop} [Decidable c] (h1 : c -> A) (h2 : ¬ c -> B) : if decide c = true then A else B := by
 by_cases h : c
 ·rw [decide_eq_true h]; exact ZDT (h1 h)
 ·rw [decide_eq_false h]; exact ZHN (h2 h)
theorem ZFv {c A B : Prop} [Decidable c] (h1 : ¬ c -> A) (h2 : c -> B) : if (!decide c) = true then A else B := by
 by_cases h : c
 ·rw [decide_eq_true h]; exact ZHN (h2 h)
 ·rw [decide_eq_false h]; exact ZDT (h1 h)
theorem ZCw {lo : Int} {n : Nat} {g : TG} {tb : TS} (Pv : Nat -> St -> Hp -> Prop) (h0 : Pv 0 U H)
 (hs : ∀ i U H, i < n -> Pv i U H -> g (.int (lo + i)) U H fun U2 H2 => tb { D with nx := Pv (i + 1), ct := Pv (i + 1), bk := D.nx } U2 H2) (hd : ∀ U H, Pv n U H -> D.nx U H) :
 rFor (Itr lo n) g tb D U H := ZD1 Pv h0 hs hd
theorem ZGZ {a : Addr} {xs : List V} {g : TG} {tb : TS} (Pv : Nat -> St -> Hp -> Prop) (h0 : Pv 0 U H) (hl : ∀ i U H, i <= xs.length -> Pv i U H -> SqL K H a xs)
 (hs : ∀ i x U H, xs[i]? = some x -> Pv i U H -> g x U H fun U2 H2 => tb { D with nx := Pv (i + 1), ct := Pv (i + 1), bk := D.nx } U2 H2) (hd : ∀ U H, Pv xs.length U H -> D.nx U H) :
 rFor (Itl K a) g tb D U H := ZE2 Pv h0 hl hs hd
def ZFw (J : It) (g : TG) (tt : TT) (te : TE) (l : Addr) (U0 : St) (H : Hp) (Q : VK) : Prop :=
 ∃ W : Nat -> Nat -> St -> Hp -> Prop, (∃ m, W 0 m U0 (upd H l (.lst []))) /\ ∀ i m U' H', W i m U' H' ->
  (J.stop i H' /\ Q (.ref l) H') \/ (J.go i H' /\ ∃ N : St -> Hp -> Prop, (∀ U2 H2, N U2 H2 -> ∃ m', m' < m /\ W (i + 1) m' U2 H2) /\
   ∀ x H'', J.yld i H' x H'' -> g x U' H'' fun U2 H2 => tt U2 H2 fun b H3 =>
    if b = true then te U2 H3 fun v H4 => ∃ xs, H4 l = some (.lst xs) /\ xs.length < sizeLine /\ N U2 (upd H4 l (.lst (xs ++ [v]))) else N U2 H3)
theorem ZCx {J : It} {g : TG} {tt : TT} {te : TE} {U0 : St} {l : Addr} (n : Nat) (Pv : Nat -> St -> Hp -> Prop) (h0 : Pv 0 U0 (upd H l (.lst [])))
  (stop : ∀ U H, Pv n U H -> J.stop n H /\ Q (.ref l) H)
  (go : ∀ i U H, i < n -> Pv i U H -> J.go i H /\ ∀ x H', J.yld i H x H' -> g x U H' fun U2 H2 => tt U2 H2 fun b H3 =>
   if b = true then te U2 H3 fun v H4 => ∃ xs, H4 l = some (.lst xs) /\ xs.length < sizeLine /\ Pv (i + 1) U2 (upd H4 l (.lst (xs ++ [v]))) else Pv (i + 1) U2 H3) :
  ZFw J g tt te l U0 H Q := by
 refine ⟨fun i m U H => m = n - i /\ i <= n /\ Pv i U H, ⟨n, by simp, UI _, h0⟩, ?_⟩
 rintro i m U H ⟨rfl, hi, p⟩
 by_cases hlt : i < n
 ·obtain ⟨hgo, h⟩ := go i U H hlt p
  exact .inr ⟨hgo, Pv (i + 1), fun U' H' p' => ⟨n - (i + 1), by omega, rfl, hlt, p'⟩, h⟩
 ·have e : i = n := by omega
  subst e
  exact .inl (stop U H p)
theorem ZGa {own : Nat} {ks : List Nat} {wi : TI} {g : TG} {tt : TT} {te : TE} (h : wi U H fun J H1 => ∀ l, H1 l = none -> ZFw J g tt te l (Jr own ks U) H1 Q) : ZDW own ks wi g tt te U H Q := h
def ZHh (K : W.Frag) (x : V) (H : Hp) (R : It -> Hp -> Prop) : Prop := ∃ a, x = .ref a /\ (∃ xs, SqT K H a xs) /\ R (Itt K a) H
def ZHi (K : W.Frag) (x : V) (H : Hp) (R : It -> Hp -> Prop) : Prop := ∃ a, x = .ref a /\ (∃ xs, SqL K H a xs) /\ R (Itl K a) H
theorem ZGb {tl : TE} {R : It -> Hp -> Prop} (h : tl U H fun x H1 => ZHh K x H1 R) : ZDM K tl U H R := h
theorem ZFQ {tl : TE} {R : It -> Hp -> Prop} (h : tl U H fun x H1 => ZHi K x H1 R) : ZBm K tl U H R := h
theorem ZHj {p : Addr} {xs : List V} {R : It -> Hp -> Prop} (h1 : SqT K H p xs) (h : R (Itt K p) H) : ZHh K (.ref p) H R := ⟨p, rfl, ⟨xs, h1⟩, h⟩
theorem ZEH {p : Addr} {xs : List V} {R : It -> Hp -> Prop} (h1 : SqL K H p xs) (h : R (Itl K p) H) : ZHi K (.ref p) H R := ⟨p, rfl, ⟨xs, h1⟩, h⟩
theorem ZGc {R : Bool -> Hp -> Prop} (h : R true H) : ZDV U H R := h
end
theorem YF.seqT {K : W.Frag} {H H' : Hp} {a : Addr} {xs : List V} (e : YF H H') (h : SqT K H a xs) : SqT K H' a xs := by
 rcases h with (h | ⟨o, h⟩) | h
 ·exact .inl (.inl (e _ _ h))
 ·exact .inl (.inr ⟨o, e _ _ h⟩)
 ·exact .inr h
def Kp (p : Addr) (H H' : Hp) : Prop := ∀ q o, H q = some o -> q ≠ p -> H' q = some o
theorem Kp.trans {p : Addr} {H H1 H2 : Hp} (a : Kp p H H1) (b : Kp p H1 H2) : Kp p H H2 := fun q o h n => b q o (a q o h n) n
theorem Kp.upd {p : Addr} {H : Hp} {o : HO} : Kp p H (upd H p o) := fun q u h n => by rw [YI n]; exact h
theorem Kp.same {p : Addr} {H H' : Hp} (a : YF H H') : Kp p H H' := fun q o h _ => a q o h
theorem YF.new {H : Hp} {l : Addr} {o : HO} (h : H l = none) : YF H (upd H l o) := fun b u e => by rw [YI (YO e h)]; exact e
def Pot (H : Hp) (p : Addr) : Prop := ∃ a b : Int, H p = some (.lst [.int a, .int b]) /\ 0 <= a /\ 0 <= b /\ b < 2147483648
theorem Pot.same {H H' : Hp} {p : Addr} (h : Pot H p) (s : YF H H') : Pot H' p := by
 obtain ⟨x, y, h, r⟩ := h
 exact ⟨x, y, s _ _ h, r⟩
theorem Pot.neN {H : Hp} {p l : Addr} (h : Pot H p) (hl : H l = none) : l ≠ p := by
 obtain ⟨x, y, h, r⟩ := h
 exact (YO h hl).symm
theorem Kp.then {H H1 H2 : Hp} {p : Addr} (h : Kp p H H1) (s : YF H1 H2) : Kp p H H2 := h.trans (Kp.same s)
theorem Kp.free {H H1 : Hp} {p l : Addr} (h : Kp p H H1) (hp : Pot H1 p) (hl : H1 l = none) : H l = none := by
 cases e : H l with
 | none => rfl
 | some o =>
  have := h l o e (hp.neN hl)
  rw [hl] at this
  cases this
theorem Kp.fresh {H H1 : Hp} {p : Addr} (h : Kp p H H1) (hp : H p = none) : YF H H1 := fun q o e => h q o e (YO e hp)
structure QE (X : Cx) (e : Expr) (t : TE) : Prop where
 h : PE X e t
structure QT (X : Cx) (e : Expr) (t : TT) : Prop where
 h : PT X e t
structure QW (X : Cx) (e : Expr) (t : TT) : Prop where
 h : PW X e t
structure QA (X : Cx) (es : List Expr) (t : TA) : Prop where
 h : PA X es t
structure QS (X : Cx) (st : Stmt) (t : TS) : Prop where
 h : PS X st t
structure QB (X : Cx) (st : List Stmt) (t : TS) : Prop where
 h : PSs X st t
structure QG (X : Cx) (e : Expr) (t : TG) : Prop where
 h : PG X e t
structure QGs (X : Cx) (es : List Expr) (t : TGs) : Prop where
 h : PGs X es t
structure QI (X : Cx) (tg e : Expr) (t : TI) : Prop where
 h : PI X tg e t
structure QF (X : Cx) (es : List Expr) (t : TT) : Prop where
 h : ZFH X es t
structure QO (X : Cx) (e : Option Expr) (t : TO) : Prop where
 h : PO X e t
def ZFx : Expr -> Bool
 | .Slice _ _ _ _ => true
 | _ => false
theorem ZGd {b : Expr} (h : ZFx b = false) : ZCo b := by
 intro o i
 cases b <;> first | rfl | cases h
section
variable {X : Cx} {a b c e o : Expr} {es Y1 : List Expr} {ta tb tc te to ti : TE} {tA tB' : TT} {t tr : TA} {pos p p2 pos' : Pos} {x : Str}
theorem qv (i : Nat) {x : Str} {pos : Pos} (hN : X.N[i]? = some x := by rfl) (hv : Vis X.env.scope x := by first | exact Or.inl rfl | exact Or.inr (Or.inl rfl) | exact Or.inr (Or.inr rfl)) (hd : (x == ("__debug__" : Str)) = false := by decide)
 (hcd : (x == ("__classdict__" : Str)) = false := by decide) : QE X (.Name x pos) (ZEr i) := ⟨ZG0 hN hv hd hcd⟩
theorem Z7 {i j pos} : QE X (.Constant (.int i) j pos) (tC (.int i)) := ⟨ZG1⟩
theorem ZFy {b j pos} : QE X (.Constant (.bool b) j pos) (tC (.bl b)) := ⟨ZH3⟩
theorem ZEI {j pos} : QE X (.Constant .none j pos) (tC .non) := ⟨ZG2⟩
theorem YJ {op : Operator} {r : R2} (ho : OpR X (binaryOp op) r) (ha : QE X a ta) (hb : QE X b tb) : QE X (.BinOp a op b pos) (tOp r ta tb) := ⟨ZH6 ho ha.h hb.h⟩
theorem ZBo {op : UnaryOp} {r : V -> Hp -> VK -> Prop} (ho : UnR X (unaryOp op) r) (ha : QE X a ta) : QE X (.UnaryOp op a pos) (tUn r ta) := ⟨ZH7 ho ha.h⟩
theorem Yo {op : CmpOp} {r : R2} (ho : OpR X (compareOp op) r) (ha : QE X a ta) (hb : QE X b tb) (hm : behindInMarks op b = false) : QT X (.Compare a [op] [b] pos) (ZDO (tOp r ta tb)) := ⟨ZGE ho ha.h hb.h hm⟩
theorem QW.pt (h : QW X e tA) : QT X e tA := ⟨h.h.pt⟩
theorem ZHk (ha : QT X a tA) : QW X (.BoolOp .Or [a] pos) tA := ⟨ZG3 ha.h⟩
theorem ZIK (ha : QT X a tA) (hb : QW X (.BoolOp .Or (b :: Y1) pos) tB') : QW X (.BoolOp .Or (a :: b :: Y1) pos) (tOr tA tB') := ⟨ZH4 ha.h hb.h⟩
theorem Z9 : QA X [] ZE6 := ⟨ZHF⟩
theorem Z8 (ha : QE X e te) (hr : QA X es t) (hs : Y6 e = false := by rfl) : QA X (e :: es) (ZBn te t) := ⟨ZIV ha.h hr.h hs⟩
theorem Y7 {x1} (h : QA X es t) : QE X (.Tuple es x1 pos) (ZE7 t) := ⟨ZHG h.h⟩
theorem ZAz (h : QA X es t) : QE X (.List es pos) (ZE8 t) := ⟨ZHH h.h⟩
theorem Yn {r : R2} (hr : IxR X r) (ha : QE X a ta) (hb : QE X b tb) (hs : ZFx b = false := by rfl) : QE X (.Subscript a b pos) (tOp r ta tb) := ⟨ZIA hr ha.h hb.h (ZGd hs)⟩
theorem ZCy (h : QE X e te) : QO X (some e) (ZDQ te) := ⟨ZGH h.h⟩
theorem ZFR {lo hi : Option Expr} {tl th : TO} {r : V -> Option Int -> Option Int -> Hp -> VK -> Prop} (hr : SlR X r) (he : QE X e te) (hl : QO X lo tl) (hu : QO X hi th) : QE X (.Subscript e (.Slice lo hi none p2) pos) (tSl r te tl th) := ⟨ZFA hr he.h hl.h hu.h⟩
theorem ZFS {CX : CXT} {k : Nat} {f : Addr} {fd : FuncData} {ps : List Str} {sp : Sp} {dvs : List V} {ds : List Value} {E : XK} (F : YZ X.prog X.w X.K X.mg X.base CX k f fd ps sp) (hr : Room k X.A) (hg : Gl X x) (hm : X.mg x = some (.ref f)) (hk : W.keepIn X.K (.ref f) = true) (hb : YS X.K fd ps ds) (hd : YB dvs ds) (hx : J9 CX X E)
 (ha : QA X (e :: es) t) (hns : YX (e :: es) = true := by rfl) (hdb : (x == ("__debug__" : Str)) = false := by decide) : QE X (.Call (.Name x p) (e :: es) [] pos) (ZAv sp dvs E t) := ⟨ZFJ F hr hg hm hk hb hd hx ha.h hns hdb⟩
theorem YY {id : String} {r : List V -> Hp -> VK -> Prop} (hc : Yj X (.builtin id) r) (hg : Gl X x) (hm : X.mg x = none) (hv : bootBuiltins x = some (.builtin id)) (ha : QA X (e :: es) t) (hns : YX (e :: es) = true := by rfl) (hn : x ≠ "__name__" := by decide) (hdb : (x == ("__debug__" : Str)) = false := by decide) :
 QE X (.Call (.Name x p) (e :: es) [] pos) (tCB r t) := ⟨ZEE hc hg hm hv ha.h hns hn hdb⟩
theorem ZA0 {T : String} {r : List V -> Hp -> VK -> Prop} (hc : Yj X (.type T) r) (hg : Gl X x) (hm : X.mg x = none) (hv : bootBuiltins x = some (.type T)) (ha : QA X (e :: es) t) (hns : YX (e :: es) = true := by rfl) (hn : x ≠ "__name__" := by decide) (hdb : (x == ("__debug__" : Str)) = false := by decide) :
 QE X (.Call (.Name x p) (e :: es) [] pos) (tCB r t) := ⟨ZDX hc hg hm hv ha.h hns hn hdb⟩
theorem ZB6 : QF X [] ZDV := ⟨ZFI⟩
theorem ZGe {tg : Expr} (hl : QE X e te) : QI X tg e (ZBm X.K te) := ⟨ZGC hl.h⟩
theorem ZHl {tg : Expr} (hl : QE X e te) : QI X tg e (ZDM X.K te) := ⟨ZHA hl.h⟩
theorem ZBQ {tg : Expr} (hg : Gl X "range") (hm : X.mg "range" = none) (ha : QA X [a] t) (hs : Y6 a = false := by rfl) : QI X tg (.Call (.Name "range" p) [a] [] pos) (ZDN t) := ⟨ZDz hg hm ha.h (JG hs)⟩
theorem Jn {i : Nat} (hN : X.N.Nodup) (hi : X.N[i]? = some x) (hx : Loc X.env.scope x) (hf : X.fn x = true \/ X.env.scope.names.lookup x = some .local := by first | exact .inl rfl | exact .inr rfl | assumption) : QG X (.Name x pos) (JY i) := ⟨ZGA hN hi hx hf⟩
theorem ZBE : QGs X [] ZEw := ⟨ZGB⟩
theorem ZEJ {e : Expr} {es : List Expr} {env : Env} (h : Y6 e = false) : (assignEach (e :: es) env).map (·.2) = assign e env :: (assignEach es env).map (·.2) := by
 cases e <;> first | rfl | cases h
theorem JB {g : TG} {u : TGs} (h1 : QG X e g) (h2 : QGs X es u) (hs : Y6 e = false := by rfl) : QGs X (e :: es) (ZDG g u) := ⟨ZEx h1.h h2.h (ZEJ hs)⟩
theorem ZHm {k : Nat} {u : TGs} {n : Nat} (hc : X.calm = true) (h : QGs X es u) (hn : (assignEach es X.env).length = n := by rfl) (hst : (assignEach es X.env).findIdx? (·.1) = none := by rfl) : QG X (.Tuple es k pos) (ZDH X.K n u) := ⟨ZG5 hc h.h hn hst⟩
theorem ZEK {s : ZBx} (ho : QE X o to) (hi : QE X e ti) (hs : ZEv X s)
 (ha : ∀ v, assign (.Subscript o e pos) X.env v = (do
  let ov <- holding [v] (eval o X.env)
  let iv <- holding [v, ov] (eval e X.env)
  standAt pos
  holding [v, ov, iv] (setItem ov iv v)
  release [v, ov, iv] []) := by intro _; rfl) : QG X (.Subscript o e pos) (ZEy to ti s) := ⟨ZG6 ho.h hi.h hs ha⟩
theorem ZCz {N : List Str} {sc : Scope} {own caps : List Str} {ks : List Nat} {elt tg iter : Expr} {ifs : List Expr} {scope : Scope} {wi : TI} {g : TG} {tt : TT}
  (hN : X.N = N) (hsc : X.env.scope = sc) (hc : X.calm = true) (S : ZD9 N sc own caps ks scope) (hi : QI X tg iter wi)
  (hg : ∀ cl C s₂ H₂ fp, QG (Yh X (own ++ caps) scope cl C s₂ H₂ fp) tg g)
  (ht : ∀ cl C s₂ H₂ fp, QF (Yh X (own ++ caps) scope cl C s₂ H₂ fp) ifs tt)
  (he : ∀ cl C s₂ H₂ fp, QE (Yh X (own ++ caps) scope cl C s₂ H₂ fp) elt te)
  (hs : ∀ x, foldedSetIterable iter X.env x = pure x := by intro _; rfl) :
  QE X (.ListComp elt [⟨tg, iter, ifs, 0⟩] scope pos) (ZDW own.length ks wi g tt te) :=
 ⟨ZGL hN hsc hc S hi.h (fun cl C s₂ H₂ fp => (hg cl C s₂ H₂ fp).h) (fun cl C s₂ H₂ fp => (ht cl C s₂ H₂ fp).h) (fun cl C s₂ H₂ fp => (he cl C s₂ H₂ fp).h) hs⟩
theorem ZIL {T : String} {name : Str} {id : String} {r : V -> List V -> Hp -> VK -> Prop} {apos cpos : Pos} (pa : PlainAttrs T) (slot : Slot T name id) (hty : typeOf (.builtin id) = pure (.type "method_descriptor")) (hm : MtR X id r) (ho : QE X o to) (ha : QA X (e :: es) t)
  (hst : YX (e :: es) = true := by rfl) (hbase : attributeBase o name X.env (eval o X.env) = eval o X.env := by rfl)
  (hfew : ((backTo cpos (starEach (e :: es) X.env)).all (fun x => !x.1) && (backToKw cpos (keywordEach [] X.env)).all (fun x => x.1.isSome)
   && decide ((e :: es).length + ([] : List Keyword).length + (if ([] : List Keyword).isEmpty then 0 else 1) < 30)) = true := by rfl)
  (hline : (apos.endLine == cpos.line) = true := by rfl) : QE X (.Call (.Attribute o name apos) (e :: es) [] cpos) (tBM X.K T r to t) :=
 ⟨ZIB pa slot hty hm ho.h ha.h hbase hfew hline (Jm hst) (JQ (Ja hst))⟩
end
section
variable {X : Cx} {st : Stmt} {Y1 sa sb : List Stmt} {t u : TS} {e c : Expr} {te : TE} {tA : TT} {pos pos' : Pos} {x : Str}
theorem Yr : QB X [] ZDF := ⟨ZF7⟩
theorem YC (h1 : QS X st t) (h2 : QB X Y1 u) : QB X (st :: Y1) (ZEs t u) := ⟨ZEt h1.h h2.h⟩
theorem YK (h1 : QS X st t) : QB X [st] t := ⟨ZF8 h1.h⟩
theorem ZFT (he : QE X e te) (hs : Y3 e = false := by rfl) : QS X (.Expr e pos) (ZBl te) := ⟨ZFK he.h hs⟩
theorem Yd (he : QE X e te) : QS X (.Return (some e) pos) (ZEu te) := ⟨ZG4 he.h⟩
theorem Y8 (hc : QT X c tA) (ha : QB X sa t) (hb : QB X sb u) : QS X (.If c sa sb pos) (ZBw tA t u) := ⟨ZH5 hc.h ha.h hb.h⟩
theorem ZGf {i : Nat} (hN : X.N.Nodup) (hi : X.N[i]? = some x) (hx : Loc X.env.scope x) (he : QE X e te) (hs : Y3 e = false := by rfl) (hf : X.fn x = true \/ X.env.scope.names.lookup x = some .local := by first | exact .inl rfl | exact .inr rfl | assumption) :
 QS X (.Assign [.Name x pos'] e pos) (ZAd te (JY i)) := ⟨ZGM hN hi hx he.h hs hf⟩
theorem ZEL {tg : Expr} {g : TG} (he : QE X e te) (hg : QG X tg g) (hs : Y3 e = false := by rfl) (hw : swappedStores [tg] e X.env = pure none := by rfl)
 (h1 : (assignEach [tg] X.env).map (·.2) = [assign tg X.env] := by rfl) : QS X (.Assign [tg] e pos) (ZAd te g) := ⟨ZG7 he.h hg.h (Jt hs) hw h1⟩
theorem ZB7 {tg iter : Expr} {wi : TI} {g : TG} (hp : PassesOwn (model X.prog X.w) X.A X.env X.xe) (hc : X.calm = true) (hi : QI X tg iter wi) (hg : QG X tg g) (hb : QB X sa t)
 (hs : ∀ x, foldedSetIterable iter X.env x = pure x := by intro _; rfl) : QS X (.For tg iter sa [] pos) (ZE1 wi g t) := ⟨ZHB hp hc hi.h hg.h hb.h hs⟩
end
section
variable {X : Cx} {e : Expr} {es : List Expr} {te : TE} {pos : Pos} (K : W.Frag) (h : X.K = K)
include h
theorem ZEM : Yj X (.builtin "len") (ZDY K) := h ▸ ZHR
theorem ZB8 : Yj X (.type "tuple") (ZB4 K) := h ▸ ZFL
theorem Yz : IxR X (ZDR K) := h ▸ ZGI
theorem Y9 : IxR X (ZFB K) := h ▸ ZHJ
theorem ZGg : SlR X (ZFC K) := h ▸ ZGJ
theorem ZGh {tg : Expr} (hl : QE X e te) : QI X tg e (ZBm K te) := h ▸ ZGe hl
theorem ZEN {tg : Expr} (hl : QE X e te) : QI X tg e (ZDM K te) := h ▸ ZHl hl
theorem ZB9 {k : Nat} {u : TGs} {n : Nat} (hc : X.calm = true) (hg : QGs X es u) (hn : (assignEach es X.env).length = n := by rfl) (hst : (assignEach es X.env).findIdx? (·.1) = none := by rfl) : QG X (.Tuple es k pos) (ZDH K n u) := h ▸ ZHm hc hg hn hst
end
mutual
inductive Dat (K : W.Frag) (H : Hp) : V -> PyData -> Prop
 | non : Dat K H .non .none
 | bl (b : Bool) : Dat K H (.bl b) (.bool b)
 | int (i : Int) : Dat K H (.int i) (.int i)
 | str (x : Str) : Dat K H (.str x) (.str x)
 | tup {a : Addr} {xs : List V} {ds : List PyData} (h : SqT K H a xs) (r : Yx K H xs ds) : Dat K H (.ref a) (.tuple ds)
 | lst {a : Addr} {xs : List V} {ds : List PyData} (h : SqL K H a xs) (r : Yx K H xs ds) : Dat K H (.ref a) (.list ds)
inductive Yx (K : W.Frag) (H : Hp) : List V -> List PyData -> Prop
 | nil : Yx K H [] []
 | cons {x : V} {d : PyData} {xs : List V} {ds : List PyData} (h : Dat K H x d) (r : Yx K H xs ds) : Yx K H (x :: xs) (d :: ds)
end
section
variable {X : Cx} {pins : List (Addr × Obj)} {U : St} {H : Hp} {s : Shared}
mutual
theorem Dat.reads (I : Inv X pins U H s) : ∀ {x : V} {d : PyData} {u : Value}, Dat X.K H x d -> YE x u -> ∃ as, Reads s.heap u d as
 | _, _, u, .non, r => by cases (show u = Value.none from r); exact ⟨_, .none⟩
 | _, _, u, .bl b, r => by cases (show u = Value.bool b from r); exact ⟨_, .bool b⟩
 | _, _, u, .int i, r => by obtain ⟨t, rfl⟩ := (show ∃ t, u = Value.int i t from r); exact ⟨_, .int i t⟩
 | _, _, u, .str x, r => by obtain ⟨t, rfl⟩ := (show ∃ t, u = Value.str x t from r); exact ⟨_, .str x t⟩
 | _, _, u, @Dat.tup _ _ a xs ds h rs, r => by
  cases (show u = Value.ref a from r)
  obtain ⟨its, rv, ⟨o, ho, hc, n, hd⟩, _⟩ := I.tuple h
  obtain ⟨as, ra⟩ := Yx.reads I rs rv
  exact ⟨_, .tuple ho hc hd (by simpa using ra)⟩
 | _, _, u, @Dat.lst _ _ a xs ds h rs, r => by
  cases (show u = Value.ref a from r)
  obtain ⟨its, rv, ⟨o, n, ho, hc, _, hd⟩, _⟩ := I.list h
  obtain ⟨as, ra⟩ := Yx.reads I rs rv
  exact ⟨_, .list ho hc hd (by simpa using ra)⟩
theorem Yx.reads (I : Inv X pins U H s) : ∀ {xs : List V} {ds : List PyData} {us : List Value}, Yx X.K H xs ds -> YB xs us -> ∃ as, ReadsAll s.heap us ds as
 | _, _, _, .nil, .nil => ⟨_, .nil⟩
 | _, _, _, .cons h r, .cons r1 r2 => by
  obtain ⟨as, ra⟩ := Dat.reads I h r1
  obtain ⟨bs, rb⟩ := Yx.reads I r r2
  exact ⟨_, .cons ra rb⟩
end
end
section
variable {X : Cx}
def ZDZ (K : W.Frag) : R2 := fun x y H Q => ∃ d e, Dat K H x d /\ Dat K H y e /\ d.canLay0 = true /\ e.canLay0 = true /\ d.depth <= 60 /\ Q (.bl (PyData.eqv d e)) H
theorem ZHn (K : W.Frag) (hK : X.K = K) (hu : X.A.units + 64 < cLine) : OpR X (compareOp .Eq) (ZDZ K) := by
 subst hK
 intro pins s U H x y v u Q I rx ry h
 obtain ⟨d, e, h1, h2, c1, c2, hd, q⟩ := h
 obtain ⟨as, ra⟩ := h1.reads I rx
 obtain ⟨bs, rb⟩ := h2.reads I ry
 exact SeqAt.compareEq_reads ra rb c1 c2 (by have := Nat.min_le_left d.depth e.depth; omega) ⟨.bl _, H, I, rfl, q⟩
theorem ZHo {K : W.Frag} {H : Hp} {Q : VK} {x y : V} {d e : PyData} (h1 : Dat K H x d) (h2 : Dat K H y e) (c1 : d.canLay0 = true) (c2 : e.canLay0 = true) (hd : d.depth <= 60) (h : Q (.bl (PyData.eqv d e)) H) : ZDZ K x y H Q := ⟨d, e, h1, h2, c1, c2, hd, h⟩
theorem ZIM {K : W.Frag} {T : String} {r : V -> List V -> Hp -> VK -> Prop} {to : TE} {t : TA} {U : St} {H : Hp} {Q : VK} (h : to U H fun x H1 => tyV K T x H1 /\ t U H1 fun xs H2 => r x xs H2 Q) : tBM K T r to t U H Q := h
theorem tyL {K : W.Frag} {H : Hp} {p : Addr} {xs : List V} (h : H p = some (.lst xs)) : tyV K "list" (.ref p) H := .inl ⟨rfl, xs, SqL.of h⟩
theorem ZEO {H : Hp} {Q : VK} {p : Addr} {xs : List V} {y : V} (h1 : H p = some (.lst xs)) (hz : xs.length < sizeLine) (h : ∀ H2, H2 p = some (.lst (xs ++ [y])) -> Kp p H H2 -> Q .non H2) : ZCp (.ref p) [y] H Q :=
 ⟨p, xs, y, rfl, rfl, h1, hz, h _ YQ Kp.upd⟩
end
def Yb (p : Int × Int) : PyData := .tuple [.int p.1, .int p.2]
def YA (H : Hp) (vs : List V) (l : PL) : Prop := Paired (fun v (p : Int × Int) => ∃ a, v = V.ref a /\ H a = some (.tup [.int p.1, .int p.2])) vs l
theorem YA.same {H H' : Hp} {vs : List V} {l : PL} (h : YA H vs l) (s : YF H H') : YA H' vs l := Paired.mapP h fun _ _ ⟨a, e, z⟩ => ⟨a, e, s _ _ z⟩
theorem YA.dats {K : W.Frag} {H : Hp} : ∀ {vs : List V} {l : PL}, YA H vs l -> Yx K H vs (l.map Yb)
 | _, _, .nil => .nil
 | _, _, .cons ⟨a, e, z⟩ t => by
  subst e
  exact .cons (.tup (SqT.of z) (.cons (.int _) (.cons (.int _) .nil))) (YA.dats t)
theorem ZAD : ∀ l : PL, PyData.canLayAll0 (l.map Yb) = true
 | [] => rfl
 | p :: l => by
  show (PyData.canLay0 (Yb p) && PyData.canLayAll0 (l.map Yb)) = true
  rw [ZAD l]
  rfl
section
variable {κ : Type} [DecidableEq κ]
def Je (kvs : List (κ × V)) (k : κ) : Option V := (kvs.find? fun kv => decide (kv.1 = k)).map (·.2)
def JC (kvs : List (κ × V)) (k : κ) (v : V) : List (κ × V) :=
 if (kvs.any fun kv => decide (kv.1 = k)) = true then kvs.map (fun kv => if kv.1 = k then (kv.1, v) else kv) else kvs ++ [(k, v)]
theorem ZCA {p : κ × V} {r : List (κ × V)} {k : κ} (e : p.1 = k) : Je (p :: r) k = some p.2 := by simp [Je, List.find?_cons, e]
theorem ZCB {p : κ × V} {r : List (κ × V)} {k : κ} (e : ¬ p.1 = k) : Je (p :: r) k = Je r k := by simp [Je, List.find?_cons, e]
theorem ZCC (k : κ) : ∀ kvs : List (κ × V), (kvs.any fun kv => decide (kv.1 = k)) = (Je kvs k).isSome
 | [] => rfl
 | p :: r => by
  rw [List.any_cons]
  by_cases e : p.1 = k
  ·simp only [ZCA e, decide_eq_true e, Bool.true_or, Option.isSome_some]
  ·rw [ZCB e, decide_eq_false e, Bool.false_or]; exact ZCC k r
theorem ZAX (kvs : List (κ × V)) (k : κ) (v : V) : (JC kvs k v).length <= kvs.length + 1 := by
 unfold JC
 split
 ·rw [Uo]; omega
 ·rw [UK, List.length_cons, List.length_nil]; omega
theorem ZBu.isSome_eq {o : Option V} {u : Option Value} (r : ZBu o u) : o.isSome = u.isSome := by
 cases o with
 | none => cases u with
  | none => rfl
  | some _ => exact (show False from r).elim
 | some _ => cases u with
  | none => exact (show False from r).elim
  | some _ => rfl
theorem KV.any {kvs : List (κ × V)} {vs : List (κ × Value)} (r : KV kvs vs) (k : κ) : (kvs.any fun kv => decide (kv.1 = k)) = vs.any fun kv => decide (kv.1 = k) := by
 unfold KV at r
 induction r with
 | nil => rfl
 | cons h t ih => rw [List.any_cons, List.any_cons, ih, h.1]
theorem KV.repl {kvs : List (κ × V)} {vs : List (κ × Value)} (r : KV kvs vs) (k : κ) {y : V} {u : Value} (ry : YE y u) :
  KV (kvs.map fun kv => if kv.1 = k then (kv.1, y) else kv) (vs.map fun kv => if kv.1 = k then (kv.1, u) else kv) := by
 unfold KV at r ⊢
 induction r with
 | nil => exact .nil
 | @cons p q ps qs h t ih =>
  rw [UE, UE]
  refine .cons ?_ ih
  obtain ⟨h1, h2⟩ := h
  by_cases e : p.1 = k
  ·rw [if_pos e, if_pos (h1.symm.trans e)]; exact ⟨h1, ry⟩
  ·rw [if_neg e, if_neg (fun z => e (h1.trans z))]; exact ⟨h1, h2⟩
theorem KV.put {kvs : List (κ × V)} {vs : List (κ × Value)} (r : KV kvs vs) (k : κ) {y : V} {u : Value} (ry : YE y u) : KV (JC kvs k y) (stored vs k u) := by
 unfold JC stored
 rw [r.any k]
 by_cases e : (vs.any fun kv => decide (kv.1 = k)) = true
 ·rw [if_pos e, if_pos e]; exact r.repl k ry
 ·rw [if_neg e, if_neg e]; exact Paired.snoc r ⟨rfl, ry⟩
theorem KV.length {kvs : List (κ × V)} {vs : List (κ × Value)} (r : KV kvs vs) : kvs.length = vs.length := Paired.length r
end
theorem ZFz {P : Program} {w : World} {k : Key} {u : Value} (r : YE (kV k) u) : (YW P w).is k u = true := by
 cases k with
 | inl i => obtain ⟨t, e⟩ := (show ∃ t, u = Value.int i t from r); subst e; exact ZCZ P w i t
 | inr x => obtain ⟨t, e⟩ := (show ∃ t, u = Value.str x t from r); subst e; exact ZCa P w x t
theorem ZBR {P : Program} {w : World} : ∀ {ks : List Key} {us : List Value}, YB (ks.map kV) us -> ItemsAre (YW P w) ks us
 | [], _, r => by rw [List.map_nil] at r; cases r; exact .nil
 | k :: ks, _, r => by
  rw [UE] at r
  cases r with
  | cons h t => exact .cons (ZFz h) (ZBR t)
abbrev KT (H : Hp) : List (List Key × V) -> List (List Key × Addr × Value) -> Prop := Paired fun p q => p.1 = q.1 /\ H q.2.1 = some (.tup (p.1.map kV)) /\ YE p.2 q.2.2
theorem KT.val {H : Hp} {kvs : List (List Key × V)} {xs : List (List Key × Addr × Value)} (r : KT H kvs xs) (k : List Key) : ZBu (Je kvs k) ((atKey xs k).map (·.2)) := by
 induction r with
 | nil => exact True.intro
 | @cons p q ps qs h t ih =>
  obtain ⟨h1, _, h2⟩ := h
  by_cases e : p.1 = k
  ·have e' : q.1 = k := h1.symm.trans e
   have b : atKey (q :: qs) k = some q.2 := by simp [atKey, List.find?_cons, e']
   rw [ZCA e, b]; exact h2
  ·have e' : ¬ q.1 = k := fun z => e (h1.trans z)
   have b : atKey (q :: qs) k = atKey qs k := by simp [atKey, List.find?_cons, e']
   rw [ZCB e, b]; exact ih
theorem KT.repl {H : Hp} {kvs : List (List Key × V)} {xs : List (List Key × Addr × Value)} (r : KT H kvs xs) (k : List Key) {y : V} {u : Value} (ry : YE y u) :
  KT H (kvs.map fun kv => if kv.1 = k then (kv.1, y) else kv) (xs.map (putAt k u)) := by
 induction r with
 | nil => exact .nil
 | @cons p q ps qs h t ih =>
  rw [UE, UE]
  refine .cons ?_ ih
  obtain ⟨h1, h2, h3⟩ := h
  unfold putAt
  by_cases e : p.1 = k
  ·rw [if_pos e, if_pos (h1.symm.trans e)]; exact ⟨h1, h2, ry⟩
  ·rw [if_neg e, if_neg (fun z => e (h1.trans z))]; exact ⟨h1, h2, h3⟩
theorem KT.put {H : Hp} {kvs : List (List Key × V)} {xs : List (List Key × Addr × Value)} (r : KT H kvs xs) (k : List Key) {b : Addr} {y : V} {u : Value} (hb : H b = some (.tup (k.map kV))) (ry : YE y u) :
  KT H (JC kvs k y) (storedH xs k b u) := by
 have e : (kvs.any fun kv => decide (kv.1 = k)) = (atKey xs k).isSome := by
  rw [ZCC, (r.val k).isSome_eq, Option.isSome_map]
 unfold JC storedH
 rw [e]
 by_cases q : (atKey xs k).isSome = true
 ·rw [if_pos q, if_pos q]; exact r.repl k ry
 ·rw [if_neg q, if_neg q]; exact Paired.snoc r ⟨rfl, hb, ry⟩
theorem KT.keeps {H H' : Hp} {kvs : List (List Key × V)} {xs : List (List Key × Addr × Value)} (r : KT H kvs xs) (ht : ∀ b ys, H b = some (.tup ys) -> H' b = some (.tup ys)) : KT H' kvs xs :=
 Paired.mapP r fun _ _ z => ⟨z.1, ht _ _ z.2.1, z.2.2⟩
section
variable {P : Program} {w : World} {H : Hp} {h : Heap} {a : Addr}
theorem ZF0 {u : HO} (ok : HOk P w H h) (e : Rd H a u) : Ya P w H h a u := e.ok ok
theorem ZF1 {kvs : List (Key × V)} (ok : HOk P w H h) (e : Rd H a (.dK kvs)) : kvs.length <= sizeLine /\ (a == sysModules) = false /\ ∃ vs, KV kvs vs /\ h.DictOf (YW P w) a vs :=
 show Ya P w H h a (.dK kvs) from ZF0 ok e
theorem ZBp {kvs : List (Key × V)} (ok : HOk P w H h) (e : H a = some (.dK kvs)) : kvs.length <= sizeLine /\ (a == sysModules) = false /\ ∃ vs, KV kvs vs /\ h.DictOf (YW P w) a vs := ZF1 ok (.inl e)
theorem ZEP {ks : List Key} (ok : HOk P w H h) (e : H a = some (.tup (ks.map kV))) : (tupleKind (YW P w)).is h ks a := by
 obtain ⟨_, its, r, o, h1, h2, n, h3⟩ := (show Ya P w H h a (.tup (ks.map kV)) from ok a _ e)
 exact ⟨o, its.toArray, n, h1, h2, h3, by simpa using ZBR r⟩
theorem ZF2 {kvs : List (List Key × V)} (ok : HOk P w H h) (e : Rd H a (.dT kvs)) : kvs.length <= sizeLine /\ (a == sysModules) = false /\
  ∃ xs, KT H kvs xs /\ h.DictOfH (tupleKind (YW P w)) a xs := by
 obtain ⟨z, y, xs, r, o, es, ep, h1, h2, h3, h4, h5⟩ := (show Ya P w H h a (.dT kvs) from ZF0 ok e)
 refine ⟨z, y, xs, r, o, es, ep, h1, h2, h3, h4, fun x hx => ?_, h5⟩
 have all : ∀ {l : List (List Key × V)} {m : List (List Key × Addr × Value)}, KT H l m -> ∀ x ∈ m, (tupleKind (YW P w)).is h x.1 x.2.1 := by
  intro l m q
  induction q with
  | nil => intro x hx; exact nomatch hx
  | @cons p q ps qs hq t ih =>
   intro x hx
   rcases UA.mp hx with e | hx
   ·subst e
    exact ZEP ok (by rw [<- hq.1]; exact hq.2.1)
   ·exact ih x hx
 exact all r x hx
theorem ZIN {kvs : List (List Key × V)} (ok : HOk P w H h) (e : H a = some (.dT kvs)) : kvs.length <= sizeLine /\ (a == sysModules) = false /\
 ∃ xs, KT H kvs xs /\ h.DictOfH (tupleKind (YW P w)) a xs := ZF2 ok (.inl e)
end
def ZDa (H : Hp) (a : Addr) (y : V) (r : Option V) : Prop :=
 (∃ kvs k, Rd H a (.dK kvs) /\ y = kV k /\ r = Je kvs k) \/ ∃ kvs k b, Rd H a (.dT kvs) /\ y = .ref b /\ H b = some (.tup (k.map kV)) /\ r = Je kvs k
def ZBF (H : Hp) (a : Addr) (y v : V) (H' : Hp) : Prop :=
 (∃ kvs k, H a = some (.dK kvs) /\ y = kV k /\ kvs.length < sizeLine /\ H' = upd H a (.dK (JC kvs k v))) \/
 ∃ kvs k b, H a = some (.dT kvs) /\ y = .ref b /\ H b = some (.tup (k.map kV)) /\ kvs.length < sizeLine /\ H' = upd H a (.dT (JC kvs k v))
theorem ZDa.k {H : Hp} {a : Addr} {kvs : List (Key × V)} {k : Key} (e : H a = some (.dK kvs)) : ZDa H a (kV k) (Je kvs k) := .inl ⟨kvs, k, .inl e, rfl, rfl⟩
theorem ZBF.k {H : Hp} {a : Addr} {kvs : List (Key × V)} {k : Key} {v : V} (e : H a = some (.dK kvs)) (hl : kvs.length < sizeLine) : ZBF H a (kV k) v (upd H a (.dK (JC kvs k v))) := .inl ⟨kvs, k, e, rfl, hl, rfl⟩
section
variable {X : Cx} {pins : List (Addr × Obj)} {U : St} {H : Hp} {s : Shared} {a : Addr} {y v : V} {u r : Value} {o : Option V} {A : Around} {E : Value -> Shared -> Prop}
theorem Inv.big (I : Inv X pins U H s) : sysModules < s.heap.objs.size := by
 have h : mainGlobals < s.heap.objs.size := (I.mod.glob.keeps I.bk).lt
 exact Nat.lt_trans (by decide) h
theorem ZC0 {h' : Heap} {t' : Nat} {ob : HO} (I : Inv X pins U H s) (mu : Mut (H a)) (hs : Heap.SameBut a s.heap h') (he : ∃ q, h'.get? a = some q) (new : Ya X.prog X.w (upd H a ob) h' a ob) :
  Inv X pins U (upd H a ob) { s with heap := h', toks := t' } :=
 I.write (x := a) (e := a) mu (.inl rfl) (fun b q hb z => (hs.2 b hb).trans z) he new
theorem ZHp {P : Program} {w : World} {H' : Hp} {h' : Heap} {kvs : List (Key × V)} {vs : List (Key × Value)} (z : kvs.length <= sizeLine) (hd : (a == sysModules) = false) (rel : KV kvs vs) (dd : h'.DictOf (YW P w) a vs) :
 Ya P w H' h' a (.dK kvs) := ⟨z, hd, vs, rel, dd⟩
theorem ZEQ {H' : Hp} {Q : Unit -> Shared -> Prop} (hu : A.units + 1 < cLine) (I : Inv X pins U H s) (g : ZBF H a y v H') (ry : YE y u) (rv : YE v r) (h : ∀ s', Inv X pins U H' s' -> Q () s') :
  wpAny (model X.prog X.w) A (setItem (.ref a) u r) Q E s := by
 rcases g with ⟨kvs, k, e, ey, l, eH⟩ | ⟨kvs, k, b, e, ey, eb, l, eH⟩
 ·subst ey eH
  obtain ⟨z, hd, vs, rel, dd⟩ := ZBp I.hok e
  have hz : vs.length <= sizeLine := by rw [<- rel.length]; exact z
  have hl : (JC kvs k v).length <= sizeLine := by have := ZAX kvs k v; omega
  refine wpAny_setItem_pairs (hsz := hz) (ZFz ry) dd fun h' dd' hs => h _ ?_
  have he : ∃ q, h'.get? a = some q := let ⟨q, _, _, hq, _⟩ := dd'; ⟨q, hq⟩
  exact ZC0 I (by rw [e]; exact True.intro) hs he (ZHp hl hd (rel.put k rv) dd')
 ·subst ey eH
  cases (show u = Value.ref b from ry)
  obtain ⟨z, hd, xs, rel, dd⟩ := ZIN I.hok e
  have hz : xs.length <= sizeLine := by rw [<- Paired.length rel]; exact z
  have hl : (JC kvs k v).length <= sizeLine := by have := ZAX kvs k v; omega
  refine wpAny_setItem_heap (hsz := hz) (tupleKind_room_in1 hu) (ZEP I.hok eb) dd fun h' dd' hs => h _ ?_
  obtain ⟨q, es, ep, hq, h2, h3, h4, _, h5⟩ := dd'
  refine ZC0 I (by rw [e]; exact True.intro) hs ⟨q, hq⟩ ⟨hl, hd, _, (rel.put k eb rv).keeps fun c ys ec => ?_, q, es, ep, hq, h2, h3, h4, h5⟩
  rw [YI (ZH2 ec e (fun z => nomatch z))]
  exact ec
end
theorem ZCb {X : Cx} {pins : List (Addr × Obj)} {U : St} {H : Hp} {s : Shared} {a : Addr} {y : V} {o : Option V} (I : Inv X pins U H s) (g : ZDa H a y o) :
  ∀ b, Value.ref a = .ref b -> ∃ ob, s.heap.get? b = some ob /\ ob.dict = none := fun b q => by
 cases q
 rcases g with ⟨kvs, k, e, _, _⟩ | ⟨kvs, k, b, e, _, _, _⟩
 ·obtain ⟨_, _, vs, _, ob, _, _, h1, h2, _⟩ := ZF1 I.hok e
  exact ⟨ob, h1, h2.2.1⟩
 ·obtain ⟨_, _, xs, _, ob, _, _, h1, h2, _⟩ := ZF2 I.hok e
  exact ⟨ob, h1, h2.2.1⟩
def ZDb (td ty tv : TE) : TS := fun D U H => tv U H fun v H1 => td U H1 fun x H2 => ty U H2 fun y H3 => ∃ a H4, x = .ref a /\ ZBF H3 a y v H4 /\ D.nx U H4
section
variable {X : Cx} {o i e value : Expr} {pos pos' tpos : Pos} {td ty tv : TE}
theorem ZGi (hu : X.A.units + 1 < cLine) (ho : PE X o td) (hi : PE X i ty) (hv : PE X value tv) (hs : swapsWith value (some (.Subscript o i pos')) pos.line X.env = pure false) :
  PS X (.Assign [.Subscript o i pos'] value pos) (ZDb td ty tv) := by
 intro pins s U H D I h
 refine wpAny_Assign_Subscript (thn (hv pins s U H _ I h) fun r s1 ⟨v, H1, I1, rv, q1⟩ => thn (ho pins s1 U H1 _ I1 q1) fun u s2 ⟨x, H2, I2, rx, q2⟩ => thn (hi pins s2 U H2 _ I2 q2) fun iv s3 ⟨y, H3, I3, ry, a, H4, ex, g, q3⟩ => ?_) hs
 subst ex
 obtain rfl : u = Value.ref a := rx
 exact ZEQ hu I3 g ry rv fun s4 I4 => ⟨U, H4, I4, q3⟩
end
theorem ZFU {P : Program} {w : World} {H : Hp} (h : Heap) (hb : sysModules < h.objs.size) : Ya P w H (h.push { cls := .type "dict", data := .dict #[] }) h.objs.size (.dK []) :=
 ⟨UI _, beq_eq_false_iff_ne.mpr (Ne.symm (Uz hb)), [], .nil, Heap.DictOf.new h⟩
def ZCD : TE := fun _ H Q => ∀ p, H p = none -> Q (.ref p) (upd H p (.dK []))
section
variable {X : Cx} {pos : Pos}
theorem ZFV : PE X (.Dict [] [] pos) ZCD := fun pins s U H Q I h =>
 wpAny_Dict_empty ⟨.ref s.heap.objs.size, _, I.laid (a := s.heap.objs.size) (o := .dK []) (t' := s.toks) (fun _ _ q => Ub _ q) (Ud _) (ZFU s.heap I.big), rfl, h _ (I.hok.fresh (Ud _))⟩
end
section
variable {X : Cx} {o i value : Expr} {pos pos' : Pos} {td ty tv : TE}
theorem ZGj (hu : X.A.units + 1 < cLine) (hv : QE X value tv) (ho : QE X o td) (hi : QE X i ty) (hs : Y3 value = false := by rfl) : QS X (.Assign [.Subscript o i pos'] value pos) (ZDb td ty tv) := ⟨ZGi hu ho.h hi.h hv.h (Jt hs)⟩
theorem ZFW : QE X (.Dict [] [] pos) ZCD := ⟨ZFV⟩
end
section
variable {U : St} {H : Hp} {Q : VK} {D : Yi}
def ZF3 (v x y : V) (H : Hp) (R : Hp -> Prop) : Prop := ∃ a H4, x = .ref a /\ ZBF H a y v H4 /\ R H4
theorem ZFX {td ty tv : TE} (h : tv U H fun v H1 => td U H1 fun x H2 => ty U H2 fun y H3 => ZF3 v x y H3 (D.nx U)) : ZDb td ty tv D U H := h
def ZDc (H : Hp) (Q : VK) : Prop := ∀ p, H p = none -> Q (.ref p) (upd H p (.dK []))
theorem ZFY (h : ZDc H Q) : ZCD U H Q := h
theorem ZGk (h : ∀ p H2, H p = none -> H2 p = some (.dK []) -> YF H H2 -> Q (.ref p) H2) : ZDc H Q := fun p hp => h p _ hp YQ (YF.new hp)
end
def ZAE (m : PL) (t : Int) : Option Int := (m.find? fun kv => decide (kv.1 = t)).map (·.2)
def JS (m : PL) (t h : Int) : PL := if (m.any fun kv => decide (kv.1 = t)) = true then m.map fun kv => if kv.1 = t then (kv.1, h) else kv else m ++ [(t, h)]
def dkE (p : Int × Int) : Key × V := (.inl p.1, .int p.2)
def Yl (m : PL) : List (Key × V) := m.map dkE
theorem ZER {a b : Int} : ((Sum.inl a : Key) = Sum.inl b) ↔ a = b := ⟨fun h => Sum.inl.inj h, fun h => h ▸ rfl⟩
theorem ZHq (m : PL) (t : Int) : ((Yl m).any fun kv => decide (kv.1 = Sum.inl t)) = m.any fun kv => decide (kv.1 = t) := by
 unfold Yl
 rw [List.any_map]
 congr 1
 funext p
 simp only [Function.comp, dkE, ZER]
theorem ZHr (m : PL) (t h : Int) : JC (Yl m) (.inl t) (.int h) = Yl (JS m t h) := by
 unfold JC JS
 rw [ZHq]
 by_cases c : (m.any fun kv => decide (kv.1 = t)) = true
 ·rw [if_pos c, if_pos c]
  unfold Yl
  rw [List.map_map, List.map_map]
  refine List.map_congr_left fun p _ => ?_
  simp only [Function.comp, dkE, ZER]
  split <;> simp
 ·rw [if_neg c, if_neg c]
  simp [Yl, dkE]
theorem Ju {H : Hp} {R : Hp -> Prop} {p : Addr} {m : PL} {t v : Int} (h1 : H p = some (.dK (Yl m))) (hz : m.length < sizeLine) (h : ∀ H2, H2 p = some (.dK (Yl (JS m t v))) -> Kp p H H2 -> R H2) : ZF3 (.int v) (.ref p) (.int t) H R :=
 ⟨p, _, rfl, ZBF.k (k := Sum.inl t) h1 (by simpa [Yl] using hz), by
  rw [ZHr]
  exact h _ YQ Kp.upd⟩
theorem ZFZ {H : Hp} {Q : VK} (h : ∀ p H2, H p = none -> H2 p = some (.dK (Yl [])) -> YF H H2 -> Q (.ref p) H2) : ZDc H Q := ZGk h
theorem ZFa (m : PL) (t h : Int) : (JS m t h).length <= m.length + 1 := by
 unfold JS
 split <;> simp
theorem ZES (m : PL) (t h : Int) : (JS m t h).map (·.1) = if t ∈ m.map (·.1) then m.map (·.1) else m.map (·.1) ++ [t] := by
 have ha : (m.any fun kv => decide (kv.1 = t)) = true ↔ t ∈ m.map (·.1) := by simp
 unfold JS
 by_cases c : (m.any fun kv => decide (kv.1 = t)) = true
 ·rw [if_pos c, if_pos (ha.mp c), List.map_map]
  refine List.map_congr_left fun p _ => ?_
  simp only [Function.comp]
  split <;> rfl
 ·rw [if_neg c, if_neg (fun z => c (ha.mpr z))]
  simp
theorem ZDd {m : PL} {t h : Int} (n : (m.map (·.1)).Nodup) : ((JS m t h).map (·.1)).Nodup := by
 rw [ZES]
 split
 ·exact n
 ·rename_i c
  rw [List.nodup_append]
  exact ⟨n, by simp, fun a ha b hb e => c (by simp at hb; subst hb; subst e; exact ha)⟩
theorem ZAh {t h : Int} : ∀ {m : PL}, (m.map (·.1)).Nodup -> (ZAE m t = some h ↔ (t, h) ∈ m)
 | [], _ => by simp [ZAE]
 | p :: m, n => by
  simp only [UE, List.nodup_cons] at n
  have ih := ZAh (t := t) (h := h) n.2
  by_cases e : p.1 = t
  ·have : ZAE (p :: m) t = some p.2 := by simp [ZAE, List.find?_cons, e]
   rw [this]
   constructor
   ·intro z; cases z; rw [<- e]; exact Uy
   ·intro z
    rcases UA.mp z with z | z
    ·rw [<- z]
    ·exact absurd (List.mem_map.mpr ⟨_, z, rfl⟩) (by rw [<- e] at *; exact n.1)
  ·have : ZAE (p :: m) t = ZAE m t := by simp [ZAE, List.find?_cons, e]
   rw [this, ih]
   constructor
   ·exact fun z => Ur _ z
   ·intro z
    rcases UA.mp z with z | z
    ·exact absurd (by rw [<- z]) e
    ·exact z
theorem YA.length {H : Hp} {vs : List V} {l : PL} (h : YA H vs l) : vs.length = l.length := Paired.length h
theorem YA.snoc {H : Hp} : ∀ {vs : List V} {l : PL}, YA H vs l -> ∀ {a : Addr} {p : Int × Int}, H a = some (.tup [.int p.1, .int p.2]) -> YA H (vs ++ [.ref a]) (l ++ [p])
 | _, _, .nil, a, p, z => .cons ⟨a, rfl, z⟩ .nil
 | _, _, .cons h t, a, p, z => .cons h (YA.snoc t z)
theorem YA.at {H : Hp} : ∀ {vs : List V} {l : PL}, YA H vs l -> ∀ {i : Nat} {v : V}, vs[i]? = some v -> ∃ a p, v = .ref a /\ l[i]? = some p /\ H a = some (.tup [.int p.1, .int p.2])
 | _, _, .nil, i, v, e => by simp at e
 | _, _, @Paired.cons _ _ _ _ p _ _ ⟨a, e1, z⟩ t, 0, v, e => by
  simp at e; subst e
  exact ⟨a, p, e1, rfl, z⟩
 | _, _, .cons _ t, i + 1, v, e => by
  obtain ⟨a, p, h1, h2, h3⟩ := YA.at t (by simpa using e)
  exact ⟨a, p, h1, by simpa using h2, h3⟩
theorem YA.kp {p : Addr} {H H' : Hp} (k : Kp p H H') {n : Nat} {xs : List V} (hp : H p = some (.lst xs)) : ∀ {vs : List V} {l : PL}, YA H vs l -> YA H' vs l
 | _, _, .nil => .nil
 | _, _, .cons ⟨a, e, z⟩ t => .cons ⟨a, e, k _ _ z (fun c => by subst c; rw [hp] at z; cases z)⟩ (YA.kp k (n := n) hp t)
def Asc (cv : PL) : Prop := cv.Pairwise fun a b => a.1 < b.1
def ZGl (m cv : PL) : Prop := Asc cv /\ ∀ t h, (t, h) ∈ cv ↔ ZAE m t = some h
theorem ZAP : bootBuiltins "repr" = some (.builtin "repr") := by decide +kernel
theorem ZET : bootBuiltins "divmod" = some (.builtin "divmod") := by decide +kernel
section
variable {X : Cx} {pos pos' : Pos} {e : Expr} {te : TE}
theorem ZIa {op : Operator} {r : R2} (ho : OpR X (inplaceOp op) r) : PIp X op r := ho
theorem ZHs {i : Nat} {x : Str} {op : Operator} {r : R2} (hN : X.N.Nodup) (hi : X.N[i]? = some x) (hx : Loc X.env.scope x) (ho : OpR X (inplaceOp op) r) (he : QE X e te) (hf : X.fn x = true \/ X.env.scope.names.lookup x = some .local := by first | exact .inl rfl | exact .inr rfl | assumption) :
 QS X (.AugAssign (.Name x pos') op e pos) (ZEz i te r) := ⟨ZG9 hN hi hx he.h (ZIa ho) hf⟩
theorem ZHt {i : Nat} {r : R2} {D : Yi} {U : St} {H : Hp} {x : V} (e1 : U[i]? = some (some x)) (h : te U H fun y H1 => r x y H1 fun z H2 => D.nx (U.set i (some z)) H2) : ZEz i te r D U H := ⟨x, e1, h⟩
end
theorem ZEU (p q : Int × Int) : PyData.eqv (Yb p) (Yb q) = decide (p = q) := by
 have e : PyData.eqv (Yb p) (Yb q) = ((p.1 == q.1) && ((p.2 == q.2) && true)) := rfl
 rw [e]
 obtain ⟨a, b⟩ := p
 obtain ⟨c, d⟩ := q
 by_cases h1 : a = c <;> by_cases h2 : b = d <;> simp [h1, h2]
theorem ZA1 : ∀ l m : PL, PyData.eqvAll (l.map Yb) (m.map Yb) = decide (l = m)
 | [], [] => rfl
 | [], q :: m => by simp [PyData.eqvAll]
 | p :: l, [] => by simp [PyData.eqvAll]
 | p :: l, q :: m => by
  show (PyData.eqv (Yb p) (Yb q) && PyData.eqvAll (l.map Yb) (m.map Yb)) = _
  rw [ZEU, ZA1 l m]
  by_cases h1 : p = q <;> by_cases h2 : l = m <;> simp [h1, h2]
theorem ZAF : ∀ l : PL, PyData.depthAll (l.map Yb) <= 50
 | [] => by decide
 | p :: l => by
  have ih := ZAF l
  have h0 : PyData.depth (Yb p) <= 50 := by
   show PyData.depth (.tuple [.int p.1, .int p.2]) <= 50
   simp only [PyData.depth, PyData.depthAll]
   decide
  show PyData.depthAll (Yb p :: l.map Yb) <= 50
  simp only [PyData.depthAll]
  omega
section
variable {K : W.Frag} {H : Hp} {Q : VK} {a b : Addr} {vs ws : List V} {l m : PL}
theorem ZCE (l : PL) : (PyData.tuple (l.map Yb)).depth <= 60 := by
 have := ZAF l
 simp only [PyData.depth]
 omega
theorem ZGm (h1 : SqT K H a vs) (p1 : YA H vs l) (h2 : SqT K H b ws) (p2 : YA H ws m) (h : Q (.bl (decide (l = m))) H) : ZDZ K (.ref a) (.ref b) H Q := by
 refine ZHo (.tup h1 p1.dats) (.tup h2 p2.dats) (ZAD l) (ZAD m) (ZCE l) ?_
 have e : PyData.eqv (.tuple (l.map Yb)) (.tuple (m.map Yb)) = decide (l = m) := ZA1 l m
 rw [e]
 exact h
end
theorem YF.kpN {H H1 H2 : Hp} {l : Addr} (s : YF H H1) (hl : H l = none) (k : Kp l H1 H2) : YF H H2 := fun q o e => k q o (s q o e) (YO e hl)
theorem YA.kpL {p : Addr} {H H' : Hp} (k : Kp p H H') {xs : List V} (hp : H p = some (.lst xs)) {vs : List V} {l : PL} (h : YA H vs l) : YA H' vs l := YA.kp k (n := 0) hp h
theorem YA.pot {p : Addr} {H H' : Hp} (k : Kp p H H') (hp : Pot H p) {vs : List V} {l : PL} (h : YA H vs l) : YA H' vs l := by
 obtain ⟨x, y, e, _⟩ := hp
 exact YA.kpL k e h
section
variable {K : W.Frag} {H H' : Hp} {Q : VK} {a b : Addr} {xs ys : List V} {cv l m : PL}
def PrT (H : Hp) (a : Addr) (cv : PL) : Prop := ∃ vs, H a = some (.tup vs) /\ YA H vs cv
def PrL (H : Hp) (a : Addr) (cv : PL) : Prop := ∃ vs, H a = some (.lst vs) /\ YA H vs cv
theorem PrT.same (h : PrT H a cv) (s : YF H H') : PrT H' a cv := by
 obtain ⟨vs, h1, h2⟩ := h
 exact ⟨vs, s _ _ h1, h2.same s⟩
theorem ZGn (h1 : PrT H a l) (h2 : PrT H b m) (h : Q (.bl (decide (l = m))) H) : ZDZ K (.ref a) (.ref b) H Q := by
 obtain ⟨vs, g1, p1⟩ := h1
 obtain ⟨ws, g2, p2⟩ := h2
 exact ZGm (SqT.of g1) p1 (SqT.of g2) p2 h
end
section
variable {K : W.Frag} {H H' : Hp} {a p l : Addr} {cv : PL} {xs : List V}
theorem Pot.kp (h : Pot H p) (k : Kp l H H') (n : p ≠ l) : Pot H' p := by
 obtain ⟨x, y, h, r⟩ := h
 exact ⟨x, y, k _ _ h n, r⟩
end
theorem JL (a b : Str) : (a ++ b).length = a.length + b.length := by
 show (a.cps ++ b.cps).size = a.cps.size + b.cps.size
 exact Array.size_append
section
variable {X : Cx}
theorem ZEV {H : Hp} {Q : VK} {i j : Str} (h : Q (.bl (!decide (i = j))) H) : rNe (.str i) (.str j) H Q := ⟨rfl, by
 have : decide (V.str i = V.str j) = decide (i = j) := by
  by_cases e : i = j
  ·subst e; simp
  ·rw [decide_eq_false e, decide_eq_false (fun z => e (V.str.inj z))]
 rw [this]; exact h⟩
end
def YV (n : Nat) {α : Type} : KasT α -> (α -> Prop) -> Prop
 | .ret a, R => R a
 | .ask i j k, R => i < n /\ j < n /\ ∀ b, YV n (k b) R
theorem YV.bind {n : Nat} {α β : Type} {f : α -> KasT β} {R : α -> Prop} {R' : β -> Prop} (h : ∀ a, R a -> YV n (f a) R') : ∀ t : KasT α, YV n t R -> YV n (t.bind f) R'
 | .ret a, g => h a g
 | .ask i j k, g => ⟨g.1, g.2.1, fun b => YV.bind h (k b) (g.2.2 b)⟩
theorem ZEW {n : Nat} {cmp : Nat -> Nat -> (Bool -> Shared -> Prop) -> Shared -> Prop} {c : Nat -> Nat -> Bool} {s : Shared} (hc : ∀ i j C, i < n -> j < n -> C (c i j) s -> cmp i j C s) {α : Type} {Q : α -> Shared -> Prop} {R : α -> Prop} : ∀ t : KasT α, YV n t R -> Q (evT c t) s -> t.kasWp cmp Q s
 | .ret _, _, h => h
 | .ask i j k, g, h => hc i j _ g.1 g.2.1 (ZEW hc (k (c i j)) (g.2.2 _) h)
section
variable {n : Nat}
def Inn (n : Nat) (p : Array Nat) : Prop := 0 < n /\ ∀ v ∈ p.toList, v < n
theorem Inn.at {p : Array Nat} (h : Inn n p) (i : Nat) : p.getD i 0 < n := by
 by_cases hi : i < p.size
 ·have := Y2 (p := p) hi
  exact h.2 _ (Array.mem_toList_iff.mpr (Array.mem_of_getElem? this))
 ·have : p.getD i 0 = 0 := by simp [Array.getD, hi]
  rw [this]
  exact h.1
theorem Inn.perm {p q : Array Nat} (h : Inn n p) (e : q.toList.Perm p.toList) : Inn n q := ⟨h.1, fun v hv => h.2 v (e.mem_iff.mp hv)⟩
theorem Inn.rev {p : Array Nat} (h : Inn n p) (i j : Nat) : Inn n (kas_rev p i j) := h.perm (ZB2 p i j)
theorem ZAi {p : Array Nat} (h : Inn n p) : ∀ f a, YV n (kas_asc p f a) (fun _ => True)
 | 0, _ => trivial
 | f + 1, a => ⟨h.at _, h.at _, fun b => by
  cases b with
  | true => exact trivial
  | false => exact ZAi h f (a + 1)⟩
theorem Jb : ∀ (f : Nat) {p : Array Nat} (a q : Nat), Inn n p -> YV n (kas_desc f p a q) (fun r => Inn n r.1)
 | 0, _, _, _, h => h
 | f + 1, p, a, q, h => ⟨h.at _, h.at _, fun b => by
  cases b with
  | true =>
   show YV n (if q > 0 then kas_desc f (kas_rev p (a - (q + 1)) a) (a + 1) 0 else kas_desc f p (a + 1) 0) _
   split
   ·exact Jb f _ _ (h.rev _ _)
   ·exact Jb f _ _ h
  | false =>
   refine ⟨h.at _, h.at _, fun d => ?_⟩
   cases d with
   | true => exact h
   | false => exact Jb f _ _ h⟩
theorem ZBS {p : Array Nat} (h : Inn n p) (m k : Nat) : YV n (kas_tail3 m k p) (fun r => Inn n r.2) := by
 unfold kas_tail3
 refine YV.bind (R := fun _ => True) (fun a _ => ?_) _ (ZAi (h.rev _ _) _ _)
 exact h.rev _ _
theorem ZA2 {p : Array Nat} (h : Inn n p) (m k : Nat) : YV n (kas_descPart m k p) (fun r => Inn n r.2) := by
 refine YV.bind (R := fun r => Inn n r.1) (fun r hr => ?_) _ (Jb _ _ _ h)
 show YV n (if r.2.2 > 0 then _ else _) _
 split
 ·exact ZBS (hr.rev _ _) _ _
 ·exact ZBS hr _ _
theorem ZDe {p : Array Nat} (h : Inn n p) (k : Nat) : YV n (kas_count k p) (fun r => Inn n r.2) := by
 refine YV.bind (R := fun _ => True) (fun m _ => ?_) _ (ZAi h _ _)
 show YV n (if (m == k) = true then _ else _) _
 split
 ·exact h
 ·split
  ·refine ⟨h.at _, h.at _, fun b => ?_⟩
   cases b with
   | true => exact h
   | false => exact ZA2 (h.rev _ _) _ _
  ·exact ZA2 h _ _
theorem Jv {p : Array Nat} (h : Inn n p) (k : Nat) : ∀ f l r, YV n (kas_place p k f l r) (fun _ => True)
 | 0, _, _ => trivial
 | f + 1, l, r => by
  show YV n (if l >= r then _ else _) _
  split
  ·exact trivial
  ·refine ⟨h.at _, h.at _, fun b => ?_⟩
   cases b with
   | true => exact Jv h k f _ _
   | false => exact Jv h k f _ _
theorem ZCF : ∀ (f : Nat) {p : Array Nat} (k : Nat), Inn n p -> YV n (kas_bin f p k) (fun _ => True)
 | 0, _, _, _ => trivial
 | f + 1, p, k, h => YV.bind (R := fun _ => True) (fun l _ => ZCF f _ (h.perm (UD.mp (bubble_perm p k _)))) _ (Jv h k _ _ _)
theorem ZEX (hn : 0 < n) : YV n (kas_sort n) (fun _ => True) := by
 have h : Inn n (List.toArray (UB n)) := ⟨hn, fun v hv => by simpa using hv⟩
 refine YV.bind (R := fun r => Inn n r.2) (fun r hr => ?_) _ (ZDe h _)
 show YV n (if r.1 < n then _ else _) _
 split
 ·exact ZCF _ _ hr
 ·exact trivial
end
def ltP (p q : Int × Int) : Bool := decide (p.1 < q.1) || (decide (p.1 = q.1) && decide (p.2 < q.2))
theorem Yg {p q : Int × Int} : ltP p q = true ↔ p.1 < q.1 \/ (p.1 = q.1 /\ p.2 < q.2) := by simp [ltP]
theorem JH {p q : Int × Int} : ltP p q = false ↔ ¬ (p.1 < q.1 \/ (p.1 = q.1 /\ p.2 < q.2)) := by
 rw [<- Yg]; simp
def JE (h : Heap) (a : Addr) (v : Value) (p : Int × Int) : Prop := ∃ b t u, v = .ref b /\ b ≠ a /\ IsTup h b #[.int p.1 t, .int p.2 u]
def Ym (h : Heap) (a : Addr) (vs : List Value) (l : PL) : Prop := Paired (JE h a) vs l
theorem Ym.get {h : Heap} {a : Addr} : ∀ {vs : List Value} {l : PL}, Ym h a vs l -> ∀ {i : Nat}, i < l.length -> JE h a (vs.getD i .none) (l.getD i (0, 0))
 | _, _, .nil, i, hi => absurd hi (Nat.not_lt_zero _)
 | _, _, .cons g t, 0, _ => g
 | _, _, .cons g t, i + 1, hi => by
  have := Ym.get t (i := i) (by simpa using hi)
  simpa using this
theorem Ym.katT {h : Heap} {a : Addr} : ∀ {vs : List Value} {l : PL}, Ym h a vs l -> ∃ fs, KatTups h vs fs /\ fs.length = vs.length /\ ∀ v ∈ fs, ∃ x t, v = .int x t
 | _, _, .nil => ⟨[], .nil, rfl, fun v hv => by cases hv⟩
 | _, _, @Paired.cons _ _ _ v p _ _ ⟨b, t, u, e, _, o, ho, hc, k, hd⟩ r => by
  obtain ⟨fs, h1, h2, h3⟩ := Ym.katT r
  subst e
  refine ⟨.int p.1 t :: fs, .cons ho hc hd rfl h1, by simp [h2], fun v hv => ?_⟩
  rcases UA.mp hv with rfl | hv
  ·exact ⟨_, _, rfl⟩
  ·exact h3 v hv
section
variable {prog : Program} {w : World} {A : Around} {E : Value -> Shared -> Prop} {s : Shared}
theorem ZAY {a : Addr} {v v' : Value} {p q : Int × Int} {C : Bool -> Shared -> Prop} (hp : JE s.heap a v p) (hq : JE s.heap a v' q) (h : C (ltP p q) s) : wpAny (model prog w) A (keyLt' (tuples' true) v v') C E s := by
 obtain ⟨b, t, u, rfl, _, o, ho, hc, k, hd⟩ := hp
 obtain ⟨b', t', u', rfl, _, o', ho', hc', k', hd'⟩ := hq
 refine kat_lt ho hd ho' hd' ?_
 refine kat_cons (wpAny_eqBool_int ?_)
 by_cases e1 : p.1 = q.1
 ·rw [show (p.1 == q.1) = true by simp [e1]]
  refine kat_yes (kat_cons (wpAny_eqBool_int ?_))
  by_cases e2 : p.2 = q.2
  ·rw [show (p.2 == q.2) = true by simp [e2]]
   refine kat_yes (kat_nil ?_)
   have : ltP p q = false := by rw [JH]; omega
   rw [this] at h
   exact h
  ·rw [show (p.2 == q.2) = false by simp [e2]]
   refine kat_no (kat_one _ _ (lt_int ?_))
   have : ltP p q = decide (p.2 < q.2) := by simp [ltP, e1]
   rw [this] at h
   exact h
 ·rw [show (p.1 == q.1) = false by simp [e1]]
  refine kat_no (oneLt_int ?_)
  have : ltP p q = decide (p.1 < q.1) := by simp [ltP, e1]
  rw [this] at h
  exact h
theorem ZA3 {a : Addr} {vs : List Value} {l : PL} {n : Nat} {P : Fin -> Shared -> Prop} (ho : s.heap.get? a = some (seqObj "list" vs.toArray n))
  (hT : Ym s.heap a vs l) (hd : l.Nodup) (h64 : vs.length < 64)
  (h : ∀ (ix : List Nat), ix.Perm (UB vs.length) -> (ix.map fun i => l.getD i (0, 0)).Pairwise (fun p q => ltP p q = true) -> P (.done (.ret .none)) { s with heap := sortedHeap s.heap a vs (ix.map fun i => vs.getD i Value.none).toArray }) :
  wpAny (model prog w) A (Builtin.«list.sort» ⟨[.ref a], []⟩) P E s := by
 have hlen : vs.length = l.length := Paired.length hT
 have ha : a < s.heap.objs.size := Uh ho
 rw [list_sort_plain]
 refine Ua (listItems_at ho rfl ?_)
 refine Ua (listUpdate_at ho rfl ?_ (by rw [Uf, sizeLine_eq]; omega) (UI _))
 obtain ⟨e1, ho1⟩ : ∃ e1, (s.heap.update a (Obj.mapSeq fun _ => (#[] : Array Value))).get? a = some (seqObj "list" #[] e1) := ⟨_, get?_update_seq ho fun _ => #[]⟩
 refine Ua (seqEpoch_at ho1 rfl ?_)
 refine Ua (wpAny_newTuple ?_ (by show vs.length <= _; rw [sizeLine_eq]; omega))
 refine Ua (wpAny_newList ?_ (UI _))
 refine UG ?_
 generalize hh : (((s.heap.update a (Obj.mapSeq fun _ => (#[] : Array Value))).push (seqObj "tuple" vs.toArray 0)).push (seqObj "list" #[] 0)) = h3
 have ho3 : h3.get? a = some (seqObj "list" #[] e1) := by rw [<- hh]; exact Ub _ (Ub _ ho1)
 have keep : ∀ b o, b ≠ a -> s.heap.get? b = some o -> h3.get? b = some o := fun b o hb e => by
  rw [<- hh]
  exact Ub _ (Ub _ ((Ul _ _ (Ne.symm hb)).trans e))
 have hT3 : Ym h3 a vs l := Paired.mapP hT fun v p ⟨b, t, u, e, hb, o, hx, r⟩ => ⟨b, t, u, e, hb, o, keep b o hb hx, r⟩
 have done : ∀ (ix : List Nat), ix.Perm (UB vs.length) -> (ix.map fun i => l.getD i (0, 0)).Pairwise (fun p q => ltP p q = true) ->
   P (.done (.ret .none)) { s with heap := h3.update a (Obj.mapSeq fun _ => (ix.map fun i => vs.getD i Value.none).toArray) } := fun ix hp hs => by
  have := h ix hp hs
  unfold sortedHeap at this
  rw [hh] at this
  exact this
 show wpAny (model prog w) A _ P E { s with heap := h3 }
 dsimp only
 by_cases h2 : vs.toArray.size < 2
 ·rw [if_pos h2, if_pos h2]
  refine Ua (Us ?_)
  have hsmall : (UB vs.length).map (fun i => vs.getD i Value.none) = vs := by
   rw [Uf] at h2
   match vs, h2 with
   | [], _ => rfl
   | [v], _ => rfl
  have hpw : ((UB vs.length).map fun i => l.getD i (0, 0)).Pairwise (fun p q => ltP p q = true) := by
   rw [Uf] at h2
   match vs, h2 with
   | [], _ => exact List.Pairwise.nil
   | [v], _ => exact List.pairwise_singleton _ _
  have D := done (UB vs.length) (List.Perm.refl _) hpw
  rw [hsmall] at D
  show wpAny (model prog w) A ((pure () : StateT SortSt Sem Unit).run (SortSt.mk' general' (vs.toArray.zip vs.toArray) #[] 7 none) >>= _) P E { s with heap := h3 }
  rw [StateT.run_pure]
  refine Ua (Us ?_)
  dsimp only
  have hout : ((arrOf (SortSt.mk' general' (vs.toArray.zip vs.toArray) #[] 7 none)).map (·.2)) = vs.toArray := by
   show ((vs.toArray.zip vs.toArray).map (·.2)) = vs.toArray
   apply Array.toList_inj.mp
   rw [Array.toList_map, Array.toList_zip]
   exact List.map_snd_zip (Ud _)
  rw [hout]
  refine Ua (seqEpoch_at (s := { s with heap := h3 }) ho3 rfl ?_)
  refine Ua (listUpdate_at (s := { s with heap := h3 }) ho3 rfl ?_ (UI _) (by rw [Uf, sizeLine_eq]; omega))
  simp only [bne_self_eq_false, Uk, if_false]
  exact Us D
 ·rw [if_neg h2, if_neg h2]
  have h2' : 2 <= vs.length := by rw [Uf] at h2; omega
  obtain ⟨fs, k1, k2, k3⟩ := hT3.katT
  refine Ua (kat_kind (T := .type "int") (s := { s with heap := h3 }) k1 (by omega) (fun v hv => ?_) (by decide) ?_)
  ·obtain ⟨x, t, rfl⟩ := k3 v hv
   exact Looks.of_pure rfl
  have hkk : tuples' (Value.type "int" != Value.type "tuple") = tuples' true := by
   have : (Value.type "int" != Value.type "tuple") = true := by decide
   rw [this]
  rw [hkk]
  let c : Nat -> Nat -> Bool := fun i j => ltP (l.getD i (0, 0)) (l.getD j (0, 0))
  have O : Ord c vs.length := by
   refine ⟨fun i j k h1 h2 => ?_, fun i j h1 => ?_, fun i j hi hj hne h1 => ?_⟩
   ·have h1 := Yg.mp h1
    have h2 := Yg.mp h2
    exact Yg.mpr (by omega)
   ·have h1 := Yg.mp h1
    exact JH.mpr (by omega)
   ·have h1 := JH.mp h1
    refine Yg.mpr ?_
    have hne2 : l.getD i (0, 0) ≠ l.getD j (0, 0) := by
     intro e
     have hi' : i < l.length := by omega
     have hj' : j < l.length := by omega
     have hpw := Ux.mp (Uu.mp hd)
     have e1 : l.getD i (0, 0) = l[i] := by simp [hi']
     have e2 : l.getD j (0, 0) = l[j] := by simp [hj']
     rw [e1, e2] at e
     rcases Nat.lt_trichotomy i j with z | z | z
     ·exact hpw i j hi' hj' z e
     ·exact hne z
     ·exact hpw j i hj' hi' z e.symm
    have hne3 : ¬ ((l.getD i (0, 0)).1 = (l.getD j (0, 0)).1 /\ (l.getD i (0, 0)).2 = (l.getD j (0, 0)).2) := fun z => hne2 (Prod.ext z.1 z.2)
    omega
  obtain ⟨S1, S2⟩ := ZGK O (by omega)
  refine Ua (UC (kat_run (E := E) (vs := vs) (ks := vs) (Q := fun st' s' => s' = { s with heap := h3 } /\ arrOf st' = (evT c (kas_sort vs.length)).map (kas_item (vs.toArray.zip vs.toArray)) /\ failedOf st' = none)
   (G := fun p s' => s' = { s with heap := h3 } /\ p = evT c (kas_sort vs.length)) rfl h2' h64 (fun p st' s' a1 a2 a3 a4 => ⟨a4.1, by rw [a2, a4.2], a3⟩)
   (ZEW (c := c) (n := vs.length) (fun i j C hi hj hC => ?_) _ (ZEX (by omega)) ⟨rfl, rfl⟩)) ?_ fun _ _ e => e)
  ·exact ZAY (hT3.get (by omega)) (hT3.get (by omega)) hC
  ·rintro ⟨⟨⟩, st'⟩ s' ⟨rfl, har, hf⟩
   dsimp only
   rw [kat_snds rfl har]
   have hperm : (evT c (kas_sort vs.length)).toList.Perm (UB vs.length) := S1
   have hsz : (evT c (kas_sort vs.length)).size = vs.length := by have := S1.length_eq; simpa using this
   have hpw : ((evT c (kas_sort vs.length)).toList.map fun i => l.getD i (0, 0)).Pairwise (fun p q => ltP p q = true) := by
    rw [UQ, Ux]
    intro i j hi hj hij
    have := S2 i j hij (by simp at hj; omega)
    have e1 : gt0 (evT c (kas_sort vs.length)) i = (evT c (kas_sort vs.length)).toList[i] := ZAx (by rw [<- UN, Uc hi])
    have e2 : gt0 (evT c (kas_sort vs.length)) j = (evT c (kas_sort vs.length)).toList[j] := ZAx (by rw [<- UN, Uc hj])
    rw [e1, e2] at this
    exact this
   refine Ua (seqEpoch_at (s := { s with heap := h3 }) ho3 rfl ?_)
   refine Ua (listUpdate_at (s := { s with heap := h3 }) ho3 rfl ?_ (UI _) ?_)
   ·rw [hf]
    simp only [bne_self_eq_false, Uk, if_false]
    exact Us (done _ hperm hpw)
   ·show (((evT c (kas_sort vs.length)).toList.map fun i => vs.getD i Value.none).toArray).size <= _
    rw [Uf, Uo, Ug, hsz, sizeLine_eq]
    omega
end
section
variable {X : Cx} {pins : List (Addr × Obj)} {U : St} {H H' : Hp} {s : Shared} {h' : Heap}
theorem Inv.old (I : Inv X pins U H s) {b : Addr} {o : HO} (e : H b = some o) : b < s.heap.objs.size := by
 by_cases h : b < s.heap.objs.size
 ·exact h
 ·rw [I.hok.fresh (Nat.le_of_not_lt h)] at e
  cases e
theorem Inv.many {t' : Nat} (I : Inv X pins U H s) (k : ∀ b u, s.heap.get? b = some u -> h'.get? b = some u) (hs : ∀ b, b < s.heap.objs.size -> H' b = H b) (new : ∀ b o, s.heap.objs.size <= b -> H' b = some o -> Ya X.prog X.w H' h' b o) :
  Inv X pins U H' { s with heap := h', toks := t' } := by
 have old : ∀ b o, H b = some o -> H' b = some o := fun b o e => (hs b (I.old e)).trans e
 refine I.un ⟨fun b u q _ _ _ => k b u q, fun b u q _ _ _ => ⟨u.slots, k b u q⟩, fun b u q n _ => (hs b (Uh q)).trans n, fun b u q _ => ⟨u, k b u q⟩, fun b xs q => old _ _ q, fun b u xs q => old _ _ q, fun b ps q => ⟨#[], by rw [old _ _ q]; simp⟩⟩ fun b u e => ?_
 by_cases hb : b < s.heap.objs.size
 ·rw [hs b hb] at e
  exact (I.hok b u e).stay (fun c v _ q => k c v q) (fun c q => old _ _ q) fun c xs q => old _ _ q
 ·exact new b u (Nat.le_of_not_lt hb) e
end
section
variable {X : Cx} {o : Expr} {to : TE} {apos cpos : Pos}
def ZCG (to : TE) : (U : St) -> Hp -> (Addr -> PL -> Hp -> Prop) -> Prop := fun U H R => to U H fun x H1 => ∃ a m, x = .ref a /\ H1 a = some (.dK (Yl m)) /\ R a m H1
theorem ZDf {pins : List (Addr × Obj)} {s : Shared} {U : St} {H : Hp} {R : Addr -> PL -> Hp -> Prop} (ho : PE X o to) (I : Inv X pins U H s) (h : ZCG to U H R)
  (hbase : attributeBase o "items" X.env (eval o X.env) = eval o X.env) (hline : (apos.endLine == cpos.line) = true) :
  wpAny (model X.prog X.w) X.A (eval (.Call (.Attribute o "items" apos) [] [] cpos) X.env) (fun u s1 => ∃ r a m H1, u = .ref r /\ s1.heap.objs.size = r + 1 /\ s1.heap.IsItemsView r a /\ H1 a = some (.dK (Yl m)) /\ Inv X pins U H1 s1 /\ R a m H1) X.xe s := by
 refine wpAny_Call_method0_late hbase hline (thn (ho pins s U H _ I h) fun v s1 ⟨x, H1, I1, r1, a, m, ex, hd, q1⟩ => ?_)
 subst ex
 cases r1
 obtain ⟨z, hsm, vs, rel, dd⟩ := ZBp I1.hok hd
 refine ⟨"dict", "dict.items", PySem.F.plainAttrs_dict, PySem.F.slot_dict_items, PySem.F.type_dict_items, dd.typeIs, ZCb I1 (ZDa.k (k := Sum.inl 0) hd), ?_⟩
 refine Calls.callWith_builtin rfl (PySem.evalArgs_none ?_)
 refine call_meetsIn PySem.F.slot_dict_items dd.typeIs PySem.F.entry_dict_items (PySem.F.args_dict_items_1 _) (meets_dict_items (YW X.prog X.w) a hsm) ⟨⟨vs, dd⟩, ?_⟩
 exact ⟨_, a, m, H1, rfl, by rw [Heap.size_push], ⟨_, Uj _ rfl, rfl, rfl⟩, hd, I1.kept (t' := s1.toks) fun b o e => Ub _ e, q1⟩
end
theorem ZEY {m : PL} {vs : List (Key × Value)} (rel : KV (Yl m) vs) : vs.length = m.length /\ ∀ (j : Nat) (k : Key) (x : Value), vs[j]? = some (k, x) -> ∃ (p : Int × Int) (t : Tok), m[j]? = some p /\ k = Sum.inl p.1 /\ x = Value.int p.2 t := by
 have hl : vs.length = m.length := by
  have := rel.length
  simp [Yl] at this
  omega
 refine ⟨hl, ?_⟩
 induction m generalizing vs with
 | nil => intro j k x e; cases rel; simp at e
 | cons p m ih =>
  cases rel with
  | cons h t =>
   rename_i q vs'
   intro j k x e
   cases j with
   | zero =>
    simp at e
    obtain ⟨h1, h2⟩ := h
    rw [e] at h1 h2
    obtain ⟨t', rfl⟩ := h2
    exact ⟨p, t', rfl, h1.symm, rfl⟩
   | succ j =>
    obtain ⟨p', t', g1, g2, g3⟩ := ih t (by simpa using hl) j k x (by simpa using e)
    exact ⟨p', t', by simpa using g1, g2, g3⟩
theorem Jw {α β : Type} {F : α -> β -> Prop} : ∀ {l₁ : List α} {l₂ : List β}, l₁.length = l₂.length -> (∀ (i : Nat) a b, l₁[i]? = some a -> l₂[i]? = some b -> F a b) -> Paired F l₁ l₂
 | [], [], _, _ => .nil
 | [], _ :: _, h, _ => by simp at h
 | _ :: _, [], h, _ => by simp at h
 | a :: l₁, b :: l₂, h, f => .cons (f 0 a b rfl rfl) (Jw (by simpa using h) fun i x y e1 e2 => f (i + 1) x y (by simpa using e1) (by simpa using e2))
theorem ZGo {P : Program} {w : World} {m : PL} {vs : List (Key × Value)} {lo : Addr} {h : Heap} {as : List Addr} (rel : KV (Yl m) vs) (hl : as.length = vs.length) (g : KdxG (YW P w) vs lo h as) (a : Addr) (hna : ∀ b ∈ as, b ≠ a) :
  Ym h a (as.map Value.ref) m := by
 obtain ⟨hvl, hv⟩ := ZEY rel
 refine Jw (by rw [Uo]; omega) fun i v p e1 e2 => ?_
 rw [UH] at e1
 cases hb : as[i]? with
 | none => rw [hb] at e1; cases e1
 | some b =>
  rw [hb] at e1
  cases e1
  obtain ⟨key, k, x, g1, g2, g3⟩ := g.pairs i b hb
  obtain ⟨p', t', e3, e4, e5⟩ := hv i k x g1
  rw [e2] at e3
  cases e3
  subst e4 e5
  rcases YU (k := Sum.inl p.1) (v := key) g2 with ⟨y, t, z1, z2⟩ | ⟨y, t, z1, z2⟩
  ·cases z1
   subst z2
   exact ⟨b, t, t', rfl, hna b (Ut hb), _, g3, rfl, _, rfl⟩
  ·cases z1
theorem ZBT {P : Program} {w : World} {h : Heap} {a b : Addr} {p : Int × Int} {Hn : Hp} (e : JE h a (.ref b) p) : Ya P w Hn h b (.tup [.int p.1, .int p.2]) := by
 obtain ⟨b', t, u, e1, _, ht⟩ := e
 cases e1
 exact ⟨⟨by show 2 <= sizeLine; decide, fun z => absurd rfl (z p.1)⟩, [.int p.1 t, .int p.2 u], .cons ⟨t, rfl⟩ (.cons ⟨u, rfl⟩ .nil), ht⟩
def ZAG (H : Hp) (as : List Addr) (ps : PL) (l : Addr) (vs : List V) (n : Nat) : Hp := fun b => if b < n then H b else if b = l then some (.lst vs) else ((as.zip ps).lookup b).map fun p => .tup [.int p.1, .int p.2]
theorem ZDg {as : List Addr} {ps : PL} (hn : as.Nodup) : ∀ {i : Nat} {b : Addr} {p : Int × Int}, as[i]? = some b -> ps[i]? = some p -> (as.zip ps).lookup b = some p := by
 induction as generalizing ps with
 | nil => intro i b p e; simp at e
 | cons a as ih =>
  intro i b p e1 e2
  rw [List.nodup_cons] at hn
  cases ps with
  | nil => simp at e2
  | cons q ps =>
   cases i with
   | zero => simp at e1 e2; subst e1 e2; simp [List.lookup]
   | succ i =>
    have e1 : as[i]? = some b := by simpa using e1
    have hb : b ≠ a := fun z => hn.1 (z ▸ Ut e1)
    have hb' : (b == a) = false := by simpa using hb
    have := ih hn.2 (ps := ps) e1 (by simpa using e2)
    simpa [List.lookup, hb'] using this
theorem ZBG {as : List Addr} {ps : PL} : ∀ {b : Addr} {p : Int × Int}, (as.zip ps).lookup b = some p -> ∃ i : Nat, as[i]? = some b /\ ps[i]? = some p := by
 induction as generalizing ps with
 | nil => intro b p e; simp [List.lookup] at e
 | cons a as ih =>
  intro b p e
  cases ps with
  | nil => simp [List.lookup] at e
  | cons q ps =>
   by_cases hb : b = a
   ·subst hb
    simp [List.lookup] at e
    subst e
    exact ⟨0, rfl, rfl⟩
   ·have hb' : (b == a) = false := by simpa using hb
    have e : (as.zip ps).lookup b = some p := by simpa [List.lookup, hb'] using e
    obtain ⟨i, h1, h2⟩ := ih e
    exact ⟨i + 1, by simpa using h1, by simpa using h2⟩
theorem ZBU {α : Type} {l : List α} {d : α} {ix : List Nat} (h : ix.Perm (UB l.length)) : (ix.map fun i => l.getD i d).Perm l := by
 have e : (UB l.length).map (fun i => l.getD i d) = l := by
  apply List.ext_getElem
  ·simp
  ·intro i h1 h2
   simp at h1 ⊢
   rw [Uc h1]
   rfl
 have := h.map fun i => l.getD i d
 rw [e] at this
 exact this
def ZAH : Addr -> PL -> Hp -> VK -> Prop := fun a m H Q => m.Nodup /\ m.length < 64 /\
 ∀ (l : Addr) (vs : List V) (cv : PL) (H' : Hp), H l = none -> H' l = some (.lst vs) -> YA H' vs cv -> cv.Perm m -> cv.Pairwise (fun p q => ltP p q = true) -> YF H H' -> Q (.ref l) H'
section
variable {X : Cx} {o : Expr} {to : TE} {apos cpos pos p : Pos}
theorem ZCH {pins : List (Addr × Obj)} {s : Shared} {U : St} {H : Hp} {Q : VK} {a r : Addr} {m : PL} (hc : X.calm = true) (I : Inv X pins U H s) (hd : H a = some (.dK (Yl m))) (hr : s.heap.objs.size = r + 1) (hv : s.heap.IsItemsView r a) (h : ZAH a m H Q) :
  wpAny (model X.prog X.w) X.A (call (.builtin "sorted") [.ref r]) (EP X pins U Q) X.xe s := by
 obtain ⟨hnd, h64, q⟩ := h
 obtain ⟨z, hsm, kvs, rel, dd⟩ := ZBp I.hok hd
 obtain ⟨ep, dd⟩ := dd.dictAt
 obtain ⟨hkl, _⟩ := ZEY rel
 refine Calls.call_function_entry kind_sorted plain_sorted entry_sorted (args_sorted1 _) ?_
 unfold Builtin.«sorted»
 refine Ua (m := checkCount "sorted" 1 1 _) (Us ?_)
 refine Ua (kdx_collect (A := X.A.in1) (knd := YW X.prog X.w) (I.ok.hd hc) hv dd (by rw [sizeLine_eq]; omega) fun h1 tk as hk hl hG => ?_)
 refine Ua (wpAny_newList ?_ (by rw [Uo, sizeLine_eq]; omega))
 have hoL : (h1.push (seqObj "list" (as.map Value.ref).toArray 0)).get? h1.objs.size = some (seqObj "list" (as.map Value.ref).toArray 0) := Uj _ rfl
 have hT : Ym (h1.push (seqObj "list" (as.map Value.ref).toArray 0)) h1.objs.size (as.map Value.ref) m := by
  have := ZGo rel hl hG h1.objs.size fun b hb => Uz (hG.there hb)
  exact Paired.mapP this fun v p ⟨b, t, u, e, hb, ot, ho, rr⟩ => ⟨b, t, u, e, hb, ot, Ub _ ho, rr⟩
 show wpAny _ _ _ _ _ { s with heap := h1.push (seqObj "list" (as.map Value.ref).toArray 0), toks := tk }
 refine Ua (UG (wpAny_call_entry slot_list_sort ⟨_, hoL, rfl⟩ entry_list_sort (ZA3 (s := { s with heap := h1.push (seqObj "list" (as.map Value.ref).toArray 0), toks := tk }) hoL hT hnd (by rw [Uo]; omega) fun ix hp hs => ⟨_, rfl, ?_⟩) (args_list_sort _)))
 refine Us ⟨_, rfl, ?_⟩
 generalize hout : (ix.map fun i => (as.map Value.ref).getD i Value.none).toArray = out
 obtain ⟨e, he⟩ := sortedHeap_at (out := out) hoL
 generalize hh2 : sortedHeap (h1.push (seqObj "list" (as.map Value.ref).toArray 0)) h1.objs.size (as.map Value.ref) out = h2 at he
 have hsz1 : s.heap.objs.size <= h1.objs.size := by
  obtain ⟨ov, hov, _⟩ := id hv
  rw [hr]
  exact Uh (hk r ov hov)
 have hkeep : ∀ b u, s.heap.get? b = some u -> h2.get? b = some u := fun b u e => by
  rw [<- hh2]
  have hb := Uh (hk _ _ e)
  exact (sortedHeap_old (Uz hb) (by rw [Heap.size_push]; exact Nat.lt_succ_of_lt hb)).trans (Ub _ (hk _ _ e))
 have hasn : as.Nodup := Uu.mpr (hG.rise.imp fun hab e => Uz hab e)
 have hlm : as.length = m.length := by omega
 have hout2 : out.toList = (ix.map fun i => as.getD i 0).map Value.ref := by
  rw [<- hout, List.map_map]
  refine List.map_congr_left fun i hi => ?_
  have hi : i < as.length := by
   have := List.mem_range.mp (hp.mem_iff.mp hi)
   simpa using this
  show (as.map Value.ref).getD i Value.none = Value.ref (as.getD i 0)
  simp [hi]
 have hTm : ∀ (i : Nat) b p, as[i]? = some b -> m[i]? = some p -> JE h2 0 (.ref b) p \/ JE h2 h1.objs.size (.ref b) p := fun i b p e1 e2 => by
  have hi : i < m.length := (Ui.mp e2).1
  have g := hT.get (i := i) hi
  have e3 : (as.map Value.ref).getD i Value.none = .ref b := by simp [e1]
  have e4 : m.getD i (0, 0) = p := by simp [e2]
  rw [e3, e4] at g
  obtain ⟨b', t, u, ee, hb, ot, ho, rr⟩ := g
  refine .inr ⟨b', t, u, ee, hb, ot, ?_, rr⟩
  rw [<- hh2]
  exact (sortedHeap_old hb (Uh ho)).trans ho
 have hat : ∀ (i : Nat) b p, as[i]? = some b -> m[i]? = some p -> ZAG H as m h1.objs.size ((ix.map fun i => as.getD i 0).map V.ref) s.heap.objs.size b = some (.tup [.int p.1, .int p.2]) := fun i b p e1 e2 => by
  have hbl := hG.above b (Ut e1)
  have hbt := hG.there (Ut e1)
  unfold ZAG
  rw [if_neg (Nat.not_lt.mpr (Nat.le_of_lt hbl)), if_neg (Uz hbt), ZDg hasn e1 e2]
  rfl
 have hil : ZAG H as m h1.objs.size ((ix.map fun i => as.getD i 0).map V.ref) s.heap.objs.size h1.objs.size = some (.lst ((ix.map fun i => as.getD i 0).map V.ref)) := by
  unfold ZAG
  rw [if_neg (Nat.not_lt.mpr hsz1), if_pos rfl]
 have hixl : ix.length = as.length := by have := hp.length_eq; simpa using this
 have hSame : YF H (ZAG H as m h1.objs.size ((ix.map fun i => as.getD i 0).map V.ref) s.heap.objs.size) := fun b u e => by
  unfold ZAG
  rw [if_pos (I.old e)]
  exact e
 refine ⟨.ref h1.objs.size, _, I.many (t' := tk) (h' := h2) hkeep (fun b hb => by unfold ZAG; rw [if_pos hb]) (fun b ob hb e => ?_), rfl, q h1.objs.size _ (ix.map fun i => m.getD i (0, 0)) _ (I.hok.fresh hsz1) hil ?_ (ZBU (by rw [<- hlm]; simpa using hp)) hs hSame⟩
 ·by_cases hbl : b = h1.objs.size
  ·subst hbl
   rw [hil] at e
   cases e
   refine ⟨by rw [Uo, Uo, hixl, sizeLine_eq]; omega, out.toList, _, ?_, he⟩
   rw [hout2]
   clear hout2 hil hat hSame
   generalize (ix.map fun i => as.getD i 0) = bs
   induction bs with
   | nil => exact .nil
   | cons b bs ih => exact .cons rfl ih
  ·unfold ZAG at e
   rw [if_neg (Nat.not_lt.mpr hb), if_neg hbl] at e
   cases hlk : (as.zip m).lookup b with
   | none => rw [hlk] at e; cases e
   | some p =>
    rw [hlk] at e
    cases e
    obtain ⟨i, e1, e2⟩ := ZBG hlk
    rcases hTm i b p e1 e2 with g | g
    ·exact ZBT g
    ·exact ZBT g
 ·refine Jw (by simp) fun i v p e1 e2 => ?_
  rw [UH, UH] at e1
  rw [UH] at e2
  cases hi : ix[i]? with
  | none => rw [hi] at e1; cases e1
  | some j =>
   rw [hi] at e1 e2
   cases e1
   cases e2
   have hj : j < as.length := by
    have := List.mem_range.mp (hp.mem_iff.mp (Ut hi))
    simpa using this
   have hj2 : j < m.length := by omega
   refine ⟨as.getD j 0, rfl, hat j _ _ ?_ ?_⟩
   ·simp [hj]
   ·simp [hj2]
def ZBV (to : TE) : TE := fun U H Q => ZCG to U H fun a m H1 => ZAH a m H1 Q
theorem ZCc (hc : X.calm = true) (hg : Gl X "sorted") (hm : X.mg "sorted" = none) (ho : QE X o to)
  (hbase : attributeBase o "items" X.env (eval o X.env) = eval o X.env := by rfl) (hline : (apos.endLine == cpos.line) = true := by rfl) :
  QE X (.Call (.Name "sorted" p) [.Call (.Attribute o "items" apos) [] [] cpos] [] pos) (ZBV to) := by
 refine ⟨?_⟩
 intro pins s U H Q I h
 refine wpAny_Call_Name_kw (Ji I hg hm ZAA ?_ (by decide) (by decide))
 refine PyProof.Rows.callWith_builtin1 ?_ rfl rfl
 show wpAny _ _ (spliced ((false, eval (.Call (.Attribute o "items" apos) [] [] cpos) X.env) :: backTo pos (starEach [] X.env))) _ _ s
 refine Calls.spliced_cons (thn (ZDf ho.h I h hbase hline) fun u s1 ⟨r, a, m, H1, eu, hsz, hv, hd, I1, q⟩ => ?_)
 subst eu
 refine Calls.spliced_nil ?_
 exact ZCH hc I1 hd hsz hv q
end
section
variable {U : St} {H : Hp} {Q : VK} {to : TE}
def ZEZ (x : V) (H : Hp) (Q : VK) : Prop := ∃ a m, x = .ref a /\ H a = some (.dK (Yl m)) /\ ZAH a m H Q
theorem ZCI (h : to U H fun x H1 => ZEZ x H1 Q) : ZBV to U H Q := h
theorem ZGp {cv : PL} (h : cv.Pairwise fun p q => ltP p q = true) (hn : (cv.map (·.1)).Nodup) : Asc cv := by
 rw [Uu, UQ] at hn
 exact (h.and hn).imp fun ⟨a, b⟩ => by
  have := Yg.mp a
  omega
theorem ZBe {m : PL} (h : (m.map (·.1)).Nodup) : m.Nodup := by
 rw [Uu, UQ] at h
 exact Uu.mpr (h.imp fun hab e => hab (by rw [e]))
theorem ZCd {p : Addr} {m : PL} (h1 : H p = some (.dK (Yl m))) (hn : (m.map (·.1)).Nodup) (hz : m.length < 64)
  (h : ∀ l H2 cv, H l = none -> PrL H2 l cv -> ZGl m cv -> cv.length = m.length -> YF H H2 -> Q (.ref l) H2) : ZEZ (.ref p) H Q := by
 refine ⟨p, m, rfl, h1, ZBe hn, hz, fun l vs cv H2 n2 f2 hP hperm hpw S2 => h l H2 cv n2 ⟨vs, f2, hP⟩ ⟨?_, fun t x => ?_⟩ hperm.length_eq S2⟩
 ·exact ZGp hpw ((hperm.map (·.1)).nodup_iff.mpr hn)
 ·rw [hperm.mem_iff, ZAh hn]
end
def Bn (n : Nat) (x : Int) : Prop := x.natAbs < 2 ^ n
theorem Bn.mono {m n : Nat} {x : Int} (h : Bn m x) (hm : m <= n) : Bn n x := Ue h (Nat.pow_le_pow_right (by decide) hm)
theorem Bn.of {n : Nat} {x : Int} (h1 : -(2 ^ n) < x) (h2 : x < 2 ^ n) : Bn n x := by
 unfold Bn
 have e : ((2 ^ n : Nat) : Int) = (2 : Int) ^ n := by simp
 have : (x.natAbs : Int) < ((2 ^ n : Nat) : Int) := by rw [e]; omega
 exact Int.ofNat_lt.mp this
theorem ZHu {m n : Nat} {x y : Int} (h : Bn m x) (g : Bn n y) (hm : m + n <= 8000) : IntMulOk x y := by
 have h1 : Builtin.Int.intBits x <= m := intBits_le h
 have h2 : Builtin.Int.intBits y <= n := intBits_le g
 unfold IntMulOk
 have : Builtin.Int.intTooBig ((Builtin.Int.intBits x : Int) + (Builtin.Int.intBits y : Int)) = false := by
  unfold Builtin.Int.intTooBig
  refine decide_eq_false ?_
  have hb : (8000 : Int) <= bitsLine := by decide
  omega
 rw [this]
 simp
theorem ZC1 : ∀ (ts : List Str) (B : Nat), (∀ t ∈ ts, t.length <= B) -> (Str.join ", " ts).length <= ts.length * (B + 2) := by
 intro ts B hB
 by_cases hne : ts = []
 ·subst hne
  rw [List.length_nil, Nat.zero_mul]
  exact Nat.le_of_eq rfl
 ·have h1 := PySem.join_length_add ts hne
  have h2 : piled ts <= ts.length * (B + 2) := by
   clear h1 hne
   induction ts with
   | nil => rw [List.length_nil, Nat.zero_mul, piled_nil]; exact Ud _
   | cons t ts ih =>
    have := ih fun x hx => hB x (Ur _ hx)
    have h3 := hB t Uy
    rw [List.length_cons, Nat.succ_mul]
    show piled (t :: ts) <= _
    rw [piled_cons]
    omega
  omega
theorem ZBH {i : Int} (h : Bn 1900 i) : ((PyData.int i).shown).length <= 1921 /\ (PyData.int i).showable = true := by
 have hl : i.natAbs.log2 < 1920 := by
  by_cases z : i.natAbs = 0
  ·rw [z]; decide
  ·exact Ue ((Nat.log2_lt z).mpr h) (by decide)
 refine ⟨?_, ?_⟩
 ·rw [PyData.shown_int]
  exact int_text_len_1921 hl
 ·simp only [PyData.showable]
  exact decide_eq_true hl
theorem ZEa {xs : List PyData} {B : Nat} (h : ∀ x ∈ xs, x.shown.length <= B) : (PyData.tuple xs).shown.length <= xs.length * (B + 2) + 3 := by
 rw [PyData.shown_tuple, JL, JL]
 have h1 : (Str.join ", " (PyData.shownAll xs)).length <= xs.length * (B + 2) := by
  have := ZC1 (PyData.shownAll xs) B (fun t ht => by
   have : ∀ ys : List PyData, (∀ y ∈ ys, y.shown.length <= B) -> ∀ t ∈ PyData.shownAll ys, t.length <= B := by
    intro ys
    induction ys with
    | nil => intro _ t ht; rw [PyData.shownAll_nil] at ht; cases ht
    | cons y ys ih =>
     intro hy t ht
     rw [PyData.shownAll_cons] at ht
     rcases UA.mp ht with rfl | ht
     ·exact hy y Uy
     ·exact ih (fun z hz => hy z (Ur _ hz)) t ht
   exact this xs h t ht)
  rw [PyData.shownAll_length] at this
  exact this
 have h2 : (((if xs.length == 1 then ",)" else ")" : String)) : Str).length <= 2 := by split <;> decide
 have h3 : (("(" : Str)).length = 1 := rfl
 omega
theorem ZGq {xs : List PyData} (h : ∀ x ∈ xs, x.showable = true) : PyData.showableAll xs = true := by
 induction xs with
 | nil => simp only [PyData.showableAll]
 | cons x xs ih =>
  simp only [PyData.showableAll]
  rw [h x Uy, ih fun y hy => h y (Ur _ hy)]
  rfl
theorem ZHv {xs : List PyData} (h : ∀ x ∈ xs, x.canLay0 = true) : PyData.canLayAll0 xs = true := by
 induction xs with
 | nil => rfl
 | cons x xs ih =>
  show (PyData.canLay0 x && PyData.canLayAll0 xs) = true
  rw [h x Uy, ih fun y hy => h y (Ur _ hy)]
  rfl
theorem ZHw {xs : List PyData} {B : Nat} (h : ∀ x ∈ xs, x.depth <= B) : PyData.depthAll xs <= B := by
 induction xs with
 | nil => exact UI _
 | cons x xs ih =>
  have h1 := h x Uy
  have h2 := ih fun y hy => h y (Ur _ hy)
  simp only [PyData.depthAll]
  omega
inductive Jo (H : Hp) : V -> Option (PL) -> Prop where
 | non : Jo H .non Option.none
 | pr {c : Addr} {qs : PL} (h : PrT H c qs) (hl : qs.length = 4) : Jo H (.ref c) (Option.some qs)
def ZBq : Option (PL) -> PyData
 | none => .none
 | some qs => .tuple (qs.map Yb)
section
variable {X : Cx}
inductive Yw (K : W.Frag) (H : Hp) : V -> Str -> Prop where
 | int {i : Int} (h : Bn 1900 i) : Yw K H (.int i) ((toString i : String) : Str)
 | bl (b : Bool) : Yw K H (.bl b) (if b then "True" else "False" : Str)
 | non : Yw K H .non "None"
 | str {x : Str} (h : (reprText x).length <= sizeLine) : Yw K H (.str x) (reprText x)
 | dat {a : Addr} {d : PyData} (h : Dat K H (.ref a) d) (h2 : d.showable = true) (h3 : d.hasDict = false) (h4 : d.depth <= 60) (h5 : d.shown.length <= sizeLine) : Yw K H (.ref a) d.shown
 | dct {a : Addr} {k v : Int} (h : H a = Option.some (.dK [(Sum.inl k, .int v)])) (hk : Bn 1900 k) (hv : Bn 1900 v) : Yw K H (.ref a) (PyData.dict [(.int k, .int v)]).shown
mutual
theorem Dat.same {K : W.Frag} {H H' : Hp} (s : YF H H') : ∀ {x : V} {d : PyData}, Dat K H x d -> Dat K H' x d
 | _, _, .non => .non
 | _, _, .bl b => .bl b
 | _, _, .int i => .int i
 | _, _, .str x => .str x
 | _, _, .tup h r => .tup (s.seqT h) (Yx.same s r)
 | _, _, .lst h r => .lst (s.seq h) (Yx.same s r)
theorem Yx.same {K : W.Frag} {H H' : Hp} (s : YF H H') : ∀ {x : List V} {d : List PyData}, Yx K H x d -> Yx K H' x d
 | _, _, .nil => .nil
 | _, _, .cons h r => .cons (Dat.same s h) (Yx.same s r)
end
theorem ZHx {i : Int} (h : Bn 1900 i) : i.natAbs.log2 < 1920 := by
 by_cases z : i.natAbs = 0
 ·rw [z]; decide
 ·exact Ue ((Nat.log2_lt z).mpr h) (by decide)
theorem ZFb {k v : Int} (hk : Bn 1900 k) (hv : Bn 1900 v) : (PyData.dict [(.int k, .int v)]).shown.length <= sizeLine /\ (PyData.dict [(.int k, .int v)]).showable = true /\ (PyData.dict [(.int k, .int v)]).depth <= 10 := by
 have h1 := ZBH hk
 have h2 := ZBH hv
 refine ⟨?_, ?_, ?_⟩
 ·rw [PyData.shown_dict, JL, JL, PyData.shownKv_cons, PyData.shownKv_nil]
  have hj := ZC1 [(PyData.int k).shown ++ ": " ++ (PyData.int v).shown] 3900 (fun t ht => by
   simp only [UA, List.not_mem_nil, or_false] at ht
   rw [ht, JL, JL]
   have : ((": " : Str)).length = 2 := rfl
   omega)
  have e1 : (("{" : Str)).length = 1 := rfl
  have e2 : (("}" : Str)).length = 1 := rfl
  rw [e1, e2]
  refine UF (Nat.add_le_add_right (Nat.add_le_add_left hj 1) 1) ?_
  show 1 + 1 * (3900 + 2) + 1 <= sizeLine
  decide
 ·simp only [PyData.showable, PyData.showableKv]
  have a1 := h1.2
  have a2 := h2.2
  simp only [PyData.showable] at a1 a2
  rw [a1, a2]
  rfl
 ·simp only [PyData.depth, PyData.depthKv]
  decide
def ZEb (K : W.Frag) : List V -> Hp -> VK -> Prop := fun xs H Q => ∃ x t, xs = [x] /\ Yw K H x t /\ Q (.str t) H
theorem Jx (K : W.Frag) (hK : X.K = K) (hg : X.A.guards = some []) (hu : X.A.units + 64 < cLine) : Yj X (.builtin "repr") (ZEb K) := by
 subst hK
 intro pins s U H xs us Q I r h
 obtain ⟨x, t, rfl, hS, q⟩ := h
 obtain ⟨u, rfl, ru⟩ := r.one
 cases hS with
 | @int i h =>
  obtain ⟨tk, rfl⟩ := (show ∃ t, u = Value.int i t from ru)
  exact PySem.P.repr_of_int (ZHx h) ⟨.str _, H, I.kept (t' := s.toks + 1) fun _ _ e => e, ⟨_, rfl⟩, q⟩
 | bl b =>
  cases (show u = Value.bool b from ru)
  exact PySem.P.repr_of_bool ⟨.str _, H, I.kept (t' := s.toks + 1) fun _ _ e => e, ⟨_, rfl⟩, q⟩
 | non =>
  cases (show u = Value.none from ru)
  exact PySem.P.repr_of_none ⟨.str _, H, I.kept (t' := s.toks + 1) fun _ _ e => e, ⟨_, rfl⟩, q⟩
 | @str x h =>
  obtain ⟨tk, rfl⟩ := (show ∃ t, u = Value.str x t from ru)
  exact PySem.P.repr_of_str ⟨.str _, H, I.kept (t' := s.toks + 1) fun _ _ e => e, ⟨_, rfl⟩, q⟩ h
 | @dat a d hD hs hnd hd hz =>
  obtain ⟨as, ra⟩ := hD.reads I ru
  cases ru
  exact repr_of_reads' ra hs (PyData.noDict_hsm hnd) hg (by omega) (fun _ _ e => e) (fun h' u tk hk => ⟨.str d.shown, H, I.kept (t' := tk) hk, ⟨u, rfl⟩, q⟩) hz
 | @dct a k v h hk hv =>
  cases ru
  obtain ⟨z, hsm, vs, rel, dd⟩ := ZBp I.hok h
  obtain ⟨hz, hs, hd⟩ := ZFb hk hv
  cases rel with
  | @cons p q0 ps qs h0 t0 =>
   cases t0
   obtain ⟨e1, t2, e2⟩ := h0
   obtain ⟨qk, qv⟩ := q0
   simp only at e1 e2
   subst e1 e2
   have ra : Reads s.heap (.ref a) (.dict [(.int k, .int v)]) (a :: ([] ++ [])) := PyProof.V.reads_dictOf (enc := fun (k : Key) => match k with | .inl i => PyData.int i | .inr x => PyData.str x) (fun k key e => by
    rcases YU e with ⟨i, t, rfl, rfl⟩ | ⟨x, t, rfl, rfl⟩
    ·exact .int i t
    ·exact .str x t) dd (.cons (.int v t2) .nil)
   exact repr_of_reads' ra hs (fun _ z => by simp at z; rw [z] at hsm; simp at hsm) hg (by omega) (fun _ _ e => e) (fun h' u tk hk => ⟨.str _, H, I.kept (t' := tk) hk, ⟨u, rfl⟩, q⟩) hz
theorem Jy {K : W.Frag} {H : Hp} {Q : VK} {x : V} {t : Str} (h1 : Yw K H x t) (h : Q (.str t) H) : ZEb K [x] H Q := ⟨x, t, rfl, h1, h⟩
end
def Sm (n k : Nat) (d : PyData) : Prop := d.shown.length <= n /\ d.showable = true /\ d.canLay0 = true /\ d.depth <= k
theorem Sm.mono {n k m j : Nat} {d : PyData} (h : Sm n k d) (h1 : n <= m) (h2 : k <= j) : Sm m j d := ⟨UF h.1 h1, h.2.1, h.2.2.1, UF h.2.2.2 h2⟩
theorem Sm.int {i : Int} (h : Bn 1900 i) : Sm 2000 3 (.int i) := by
 have := ZBH h
 exact ⟨UF this.1 (by decide), this.2, rfl, by simp only [PyData.depth]; decide⟩
theorem Sm.non : Sm 2000 3 .none := by
 refine ⟨?_, by simp only [PyData.showable], rfl, by simp only [PyData.depth]; decide⟩
 rw [PyData.shown_none]
 decide
theorem Sm.tup {n k : Nat} {xs : List PyData} (h : ∀ x ∈ xs, Sm n k x) (hl : xs.length <= 4) : Sm (4 * (n + 2) + 3) (k + 5) (.tuple xs) := by
 refine ⟨?_, ?_, ?_, ?_⟩
 ·have := ZEa fun x hx => (h x hx).1
  have h2 : xs.length * (n + 2) <= 4 * (n + 2) := Nat.mul_le_mul_right _ hl
  omega
 ·simp only [PyData.showable]
  exact ZGq fun x hx => (h x hx).2.1
 ·show PyData.canLayAll0 xs = true
  exact ZHv fun x hx => (h x hx).2.2.1
 ·have := ZHw fun x hx => (h x hx).2.2.2
  simp only [PyData.depth]
  omega
theorem Yw.of {K : W.Frag} {H : Hp} {a : Addr} {d : PyData} (h : Dat K H (.ref a) d) (hs : Sm 100000 50 d) : Yw K H (.ref a) d.shown :=
 .dat h hs.2.1 (PyData.hasDict_of_canLay _ hs.2.2.1) (UF hs.2.2.2 (by decide)) (UF hs.1 (by decide))
section
variable {X : Cx} {pins : List (Addr × Obj)} {U : St} {H : Hp} {s : Shared}
theorem ZBW {h' : Heap} {a : Addr} (I : Inv X pins U H s) (k : ∀ b o, s.heap.get? b = some o -> h'.get? b = some o) (ha : s.heap.objs.size <= a) :
  ∀ {us : List V} {m : PL} {its : List Value}, YA H us m -> YB us its -> Ym h' a its m
 | _, _, _, .nil, .nil => .nil
 | _, _, _, .cons (b := p) ⟨b, e, z⟩ t, .cons r q => by
  subst e
  cases r
  obtain ⟨its, rv, hp, _⟩ := I.tuple (SqT.of z)
  obtain ⟨o, ho, hc, n, hd⟩ := hp
  have hb : b < s.heap.objs.size := Uh ho
  obtain ⟨u1, u2, e2, r1, r2⟩ := rv.two
  obtain ⟨t1, rfl⟩ := r1
  obtain ⟨t2, rfl⟩ := r2
  subst e2
  exact .cons ⟨b, t1, t2, rfl, fun z => Nat.lt_irrefl _ (Ue (z ▸ hb) ha), o, k _ _ ho, hc, n, hd⟩ (ZBW I k ha t q)
end
theorem ZGr : ∀ {us : List V} {its : List Value}, YB us its -> ∀ (ix : List Nat), (∀ i ∈ ix, i < us.length) -> YB (ix.map fun i => us.getD i .non) (ix.map fun i => its.getD i Value.none) := by
 intro us its rv ix
 induction ix with
 | nil => intro _; exact .nil
 | cons i ix ih =>
  intro h
  have hi := h i (Uy ..)
  obtain ⟨u, hu, ru⟩ := rv.get (Uc hi)
  have e1 : us.getD i .non = us[i] := by simp [hi]
  have e2 : its.getD i Value.none = u := by simp [hu]
  refine .cons ?_ (ih fun j hj => h j (Ur _ hj))
  show YE (us.getD i .non) (its.getD i Value.none)
  rw [e1, e2]
  exact ru
theorem ZFc {H : Hp} {us : List V} {m : PL} (hP : YA H us m) : ∀ (ix : List Nat), (∀ i ∈ ix, i < us.length) -> YA H (ix.map fun i => us.getD i .non) (ix.map fun i => m.getD i (0, 0)) := by
 intro ix
 induction ix with
 | nil => intro _; exact .nil
 | cons i ix ih =>
  intro h
  have hi := h i (Uy ..)
  obtain ⟨c, p, e, hp, hc⟩ := hP.at (Uc hi)
  have e1 : us.getD i .non = us[i] := by simp [hi]
  have e2 : m.getD i (0, 0) = p := by simp [hp]
  refine .cons ⟨c, ?_, ?_⟩ (ih fun j hj => h j (Ur _ hj))
  ·show us.getD i .non = _
   rw [e1, e]
  ·show H c = some (.tup [.int (m.getD i (0, 0)).1, .int (m.getD i (0, 0)).2])
   rw [e2]; exact hc
def ZCJ : List V -> Hp -> VK -> Prop := fun xs H Q => ∃ i j, xs = [.int i, .int j] /\ JZ i j /\ ∀ p, H p = none -> Q (.ref p) (upd H p (.tup [.int (i / j), .int (i % j)]))
theorem ZCK {X : Cx} : Yj X (.builtin "divmod") ZCJ := by
 intro pins s U H xs us Q I r h
 obtain ⟨i, j, rfl, ⟨h1, h2⟩, q⟩ := h
 obtain ⟨u, w', rfl, ⟨t, rfl⟩, ⟨t', rfl⟩⟩ := ZFs r
 refine divmod_int (by omega) ?_ (.inl (PyProof.noPylong_of_log2 h2))
 rw [Int.fdiv_eq_ediv_of_nonneg i (by omega), Int.fmod_eq_emod_of_nonneg i (by omega)]
 have hn : H s.heap.objs.size = none := I.hok.fresh (Ud _)
 refine ⟨.ref s.heap.objs.size, _, ?_, rfl, q _ hn⟩
 refine I.laid (fun b o e => Ub _ e) (Ud _) ⟨⟨by simp only [List.length_cons, List.length_nil]; rw [sizeLine_eq]; decide, fun z => absurd rfl (z (i / j))⟩, [.int (i / j) s.toks, .int (i % j) (s.toks + 1)], .cons ⟨_, rfl⟩ (.cons ⟨_, rfl⟩ .nil), ?_⟩
 exact ⟨_, Uj s.heap rfl, rfl, 0, rfl⟩
theorem ZEc {H : Hp} {Q : VK} {i j : Int} (h1 : JZ i j) (h : ∀ p H2, H p = none -> H2 p = some (.tup [.int (i / j), .int (i % j)]) -> YF H H2 -> Q (.ref p) H2) : ZCJ [.int i, .int j] H Q :=
 ⟨i, j, rfl, h1, fun p hp => h p _ hp YQ (YF.new hp)⟩
section
variable {X : Cx} {k : Nat} {f : Addr} {fd : FuncData} {ps : List Str} {sp : Sp}
theorem ZAQ {pins : List (Addr × Obj)} {U : St} {H : Hp} {s : Shared} {Q : VK} {us : List Value} {vs : List V} {E1 : Value -> Shared -> Prop} (F : YZ X.prog X.w X.K X.mg X.base CX0 k f fd ps sp) (hr : Room k X.A.in1) (hb : YS X.K fd ps [])
  (I : Inv X pins U H s) (r : YB vs us) (h : sp vs H Q E0) : wpAny (model X.prog X.w) X.A.in1 (call (.ref f) us) (EP X pins U Q) E1 s := by
 have hl : (us ++ []).length = ps.length := by rw [List.append_nil, <- r.length]; exact F.len _ _ _ _ h
 refine wpAny_call (codeAny_mono (F.run X.A.in1 X.stack s H ⟨us, []⟩ (us ++ []) vs Q E0 hr I.env0.in1 (hb s us I.kIn hl) (by rw [List.append_nil]; exact r) h) fun r s' hq => ?_)
 cases r with
 | error e => exact False.elim hq
 | ok fl =>
  cases fl with
  | ret u => exact I.after hq
  | next => exact False.elim hq
  | brk => exact False.elim hq
  | cont => exact False.elim hq
theorem Inv.pin2 {pins : List (Addr × Obj)} {U : St} {H : Hp} {s : Shared} {a b : Addr} {oa ob : Obj} (I : Inv X pins U H s) (fa : Yv X pins H a) (fb : Yv X pins H b) (ha : s.heap.get? a = some oa) (hb : s.heap.get? b = some ob) (ca : ∀ v, oa.data ≠ .cell v) (cb : ∀ v, ob.data ≠ .cell v) :
  Inv X ((a, oa) :: (b, ob) :: pins) U H s := I.pins_of fun p hp => by
 rcases UA.mp hp with rfl | hp
 ·exact ⟨ha, fa.1, fa.2.1, fa.2.2.1, ca⟩
 ·rcases UA.mp hp with rfl | hp
  ·exact ⟨hb, fb.1, fb.2.1, fb.2.2.1, cb⟩
  ·exact I.pin p (Um _ hp)
theorem Inv.unpin2 {pins : List (Addr × Obj)} {U : St} {H : Hp} {s : Shared} {a b : Addr} {oa ob : Obj} (I : Inv X ((a, oa) :: (b, ob) :: pins) U H s) : s.heap.get? a = some oa /\ s.heap.get? b = some ob /\ Inv X pins U H s :=
 ⟨(I.pin (a, oa) (Um _ (.head _))).1, (I.pin (b, ob) (Um _ (.tail _ (.head _)))).1, I.pins_of fun p hp => I.pin p (Um _ (.tail _ (.tail _ hp)))⟩
theorem Inv.turnedAt {pins : List (Addr × Obj)} {U : St} {H : Hp} {s : Shared} {h' : Heap} {t' : Nat} {it : Addr} (I : Inv X pins U H s) (fa : Yv X pins H it) (k : ∀ b o, b ≠ it -> s.heap.get? b = some o -> h'.get? b = some o) : Inv X pins U H { s with heap := h', toks := t' } := by
 obtain ⟨f0, f1, f2, f3, f4, f5⟩ := fa
 exact I.turned k f0 f1 f3 f4 f5
theorem ZBf {pins : List (Addr × Obj)} {U : St} {H : Hp} (hc : X.calm = true) (F : YZ X.prog X.w X.K X.mg X.base CX0 k f fd ps sp) (hr : Room k X.A.in1) (hb : YS X.K fd ps []) {l I S : Addr} {us : List V} (kf : Nat -> Int) (hSI : S ≠ I) (hS : SqT X.K H l us)
  (fI : Yv X pins H I) (fS : Yv X pins H S) (turn : ∀ i v, us[i]? = some v -> ∀ Q : VK, Q (.int (kf i)) H -> sp [v] H Q E0) {R : Result -> Shared -> Prop}
  (hR : ∀ i v u s', us[i]? = some v -> YE v u -> (∀ j, j < us.length -> kf i <= kf j /\ (j < i -> kf i < kf j)) -> Inv X pins U H s' -> R (.ok (.ret u)) s') :
  ∀ (r j i : Nat) (s : Shared) (v : V) (vb : Value) (tb : Tok) (c : Nat), us.length - (j + 1) = r -> j + 1 <= us.length -> Inv X pins U H s -> s.heap.get? S = some (seqObj "list" #[vb, .int (kf i) tb] c) -> s.heap.IsTupleIter I l (j + 1) ->
   us[i]? = some v -> YE v vb -> i <= j -> (∀ j', j' <= j -> kf i <= kf j' /\ (j' < i -> kf i < kf j')) ->
   codeAny (model X.prog X.w) X.A (.builtin "min.loop" ⟨[.ref I, .ref f, .ref S], []⟩) R s := by
 have hname : (toString "min" ++ toString ".loop" : String) = "min.loop" := by decide
 intro r
 induction r with
 | zero =>
  intro j i s v vb tb c hr' hj J nS hit hv rv hij hbest
  have hin : j + 1 = us.length := by omega
  obtain ⟨its, rvs, p, hz⟩ := J.tuple hS
  have hl := rvs.length
  refine codeAny_builtin PySem.F.entry_min_loop ?_
  rw [Around.under_plainId PySem.F.plain_min_loop _]
  show wpAny _ X.A.in1 (seqItems? (.ref S) >>= _) _ _ _
  refine Ua (wpAny_seqItems nS rfl ?_)
  show wpAny _ X.A.in1 (tryCatch (pyNext (.ref I)) _ >>= _) _ _ _
  refine Ua (wpAny_tryCatch (wpAny_pyNext_tuple_end (J.ok.hd hc) hit (show s.heap.IsTuple l its.toArray from p) (by simp; omega) fun h' eb => ?_))
  have J1 : Inv X pins U H { s with heap := h' } := J.turnedAt (t' := s.toks) fI fun b o hb e => eb b o hb e
  have hS' : h'.get? S = some (seqObj "list" #[vb, .int (kf i) tb] c) := eb S _ hSI nS
  show wpAny _ X.A.in1 (updateSeq S (fun _ => #[]) >>= _) _ _ _
  refine Ua ?_
  refine wpAny_updateSeq hS' rfl (Ua (wpAny_letGo (Us ?_)))
  exact hR i v vb _ hv rv (fun j' hj' => hbest j' (by omega)) (J1.turnedAt (t' := s.toks) fS fun b o hb e => (Ul _ _ (Ne.symm hb)).trans e)
 | succ r ih =>
  intro j i s v vb tb c hr' hj J nS hit hv rv hij hbest
  have hlt : j + 1 < us.length := by omega
  obtain ⟨its, rvs, p, hz⟩ := J.tuple hS
  have hx : us[j + 1]? = some us[j + 1] := Uc hlt
  obtain ⟨u, hu, ru⟩ := rvs.get hx
  refine codeAny_builtin PySem.F.entry_min_loop ?_
  rw [Around.under_plainId PySem.F.plain_min_loop _]
  show wpAny _ X.A.in1 (seqItems? (.ref S) >>= _) _ _ _
  refine Ua (wpAny_seqItems nS rfl ?_)
  show wpAny _ X.A.in1 (tryCatch (pyNext (.ref I)) _ >>= _) _ _ _
  refine Ua (wpAny_tryCatch (wpAny_pyNext_tuple_item hit (show s.heap.IsTuple l its.toArray from p) (x := u) (by simpa using hu) fun h' st' sb => ?_))
  have J1 : Inv X pins U H { s with heap := h' } := J.turnedAt (t' := s.toks) fI fun b o hb e => (sb.2 b hb).trans e
  have hS' : h'.get? S = some (seqObj "list" #[vb, .int (kf i) tb] c) := (sb.2 S hSI).trans nS
  obtain ⟨oI, hoI, hoc, hod⟩ := id st'
  have J2 := J1.pin2 (s := { s with heap := h' }) fS fI hS' hoI (fun v z => by cases z) (fun v z => by rw [hod] at z; cases z)
  show wpAny _ X.A.in1 (tryCatch (holding [u] (call (.ref f) [u])) _ >>= _) _ _ _
  refine Ua (wpAny_tryCatch (UG (UC (ZAQ (E1 := fun _ _ => False) F hr hb J2 (.cons ru .nil) (turn (j + 1) _ hx (fun v H' => v = .int (kf (j + 1)) /\ H' = H) ⟨rfl, rfl⟩)) (fun x s'' he => ?_) fun _ _ hF => hF.elim)))
  obtain ⟨v2, H2, J3, r2, e2, e3⟩ := he
  subst e2 e3
  obtain ⟨t2, rfl⟩ := r2
  obtain ⟨nS2, nI2, J4⟩ := J3.unpin2
  have hit2 : s''.heap.IsTupleIter I l (j + 1 + 1) := ⟨oI, nI2, hoc, hod⟩
  show wpAny _ X.A.in1 (tryCatch (holding [u, .int (kf (j + 1)) t2] (richCompare .Lt (.int (kf (j + 1)) t2) (.int (kf i) tb) >>= _)) _ >>= _) _ _ _
  refine Ua (wpAny_tryCatch (UG (Ua (CmpOf.ints_lt (prog := X.prog) (w := X.w) (A := X.A.in1) (P := fun i v => ∃ t, v = .int (kf i) t) kf (fun i v h => h) (j + 1) i _ _ _ _ _ ⟨t2, rfl⟩ ⟨tb, rfl⟩ ?_))))
  refine Ua (UG (wpAny_truthy_bool ?_))
  refine Ua (wpAny_letGo (Us ?_))
  by_cases hb' : kf (j + 1) < kf i
  ·obtain ⟨c2, hc2⟩ : ∃ c2, (s''.heap.update S (Obj.mapSeq fun _ => #[u, .int (kf (j + 1)) t2])).get? S = some (seqObj "list" #[u, .int (kf (j + 1)) t2] c2) := ⟨_, get?_update_seq nS2 fun _ => #[u, .int (kf (j + 1)) t2]⟩
   simp only [hb', decide_true, if_true]
   refine Ua ?_
   refine wpAny_updateSeq nS2 rfl (Ua (wpAny_letGo ?_))
   rw [hname]
   refine Us ⟨plainId_quiet PySem.F.plain_min_loop _, ih (j + 1) (j + 1) _ _ u t2 c2 (by omega) hlt (J4.turnedAt (t' := s''.toks) fS fun b o hb e => (Ul _ _ (Ne.symm hb)).trans e) hc2 ⟨oI, (Ul _ _ hSI).trans nI2, hoc, hod⟩ hx ru (Ud _) fun j' hj' => ?_⟩
   by_cases e : j' = j + 1
   ·subst e
    exact ⟨by omega, fun _ => by omega⟩
   ·have hb1 := hbest j' (by omega)
    have hb2 := hb1.1
    exact ⟨by omega, fun _ => by omega⟩
  ·simp only [hb', decide_false, Uk, if_false]
   refine Ua (wpAny_letGo ?_)
   rw [hname]
   refine Us ⟨plainId_quiet PySem.F.plain_min_loop _, ih (j + 1) i _ v vb tb c (by omega) hlt J4 nS2 hit2 hv rv (by omega) fun j' hj' => ?_⟩
   by_cases e : j' = j + 1
   ·subst e
    exact ⟨by omega, fun _ => by omega⟩
   ·exact hbest j' (by omega)
theorem ZBg {pins : List (Addr × Obj)} {U : St} {H : Hp} {s : Shared} {Q : VK} {E1 : Value -> Shared -> Prop} (hc : X.calm = true) (F : YZ X.prog X.w X.K X.mg X.base CX0 k f fd ps sp) (hr : Room k X.A.in1) (hb : YS X.K fd ps []) {l : Addr} {us : List V} (kf : Nat -> Int) (J : Inv X pins U H s) (hS : SqT X.K H l us) (hne : us ≠ [])
  (turn : ∀ i v, us[i]? = some v -> ∀ Q : VK, Q (.int (kf i)) H -> sp [v] H Q E0) (hQ : ∀ i v, us[i]? = some v -> (∀ j, j < us.length -> kf i <= kf j /\ (j < i -> kf i < kf j)) -> Q v H) :
  wpAny (model X.prog X.w) X.A (call (.builtin "min") [.ref l] [(Str.ofString "key", .ref f)]) (EP X pins U Q) E1 s := by
 have hname : (toString "min" ++ toString ".loop" : String) = "min.loop" := by decide
 have hpos : 0 < us.length := List.length_pos_iff.mpr hne
 obtain ⟨its, rvs, p, hz⟩ := J.tuple hS
 have hls : s.heap.IsTuple l its.toArray := p
 refine kmk_tree PySem.F.kind_min PySem.F.plain_min PySem.F.entry_min (kmk_min_key _ _) ?_
 show wpAny _ X.A.in1 (Builtin.Builtins.bindParams "min" ["key", "default"] 0 ⟨[], [(Str.ofString "key", .ref f)]⟩ >>= _) _ _ s
 refine Ua (wpAny_of_eq (show Builtin.Builtins.bindParams "min" ["key", "default"] 0 ⟨[], [(Str.ofString "key", .ref f)]⟩ = pure [some (.ref f), none] from rfl) ?_)
 refine Ua (Us ?_)
 refine Ua (wpAny_pyIter_tuple hls ?_)
 refine Ua (wpAny_newList ?_ (UI _))
 rw [hname]
 refine Us ⟨plainId_quiet PySem.F.plain_min_loop _, ?_⟩
 generalize hO : ({ cls := .type "tuple_iterator", data := .fields #[.ref l, .int 0 0] } : Obj) = O
 have hSs : (s.heap.push O).objs.size = s.heap.objs.size + 1 := size_push' ..
 have hSI : (s.heap.push O).objs.size ≠ s.heap.objs.size := by rw [hSs]; exact Nat.ne_of_gt (Nat.lt_succ_self _)
 have gI : ((s.heap.push O).push (seqObj "list" #[] 0)).get? s.heap.objs.size = some O := Ub _ (Uj _ (by rw [<- hO]; rfl))
 have gS : ((s.heap.push O).push (seqObj "list" #[] 0)).get? (s.heap.push O).objs.size = some (seqObj "list" #[] 0) := Uj _ rfl
 have fI : Yv X pins H s.heap.objs.size := J.fpOk (Ud _) (J.hok.fresh (Ud _))
 have fS : Yv X pins H (s.heap.push O).objs.size := J.fpOk (by rw [hSs]; exact Nat.le_succ _) (J.hok.fresh (by rw [hSs]; exact Nat.le_succ _))
 have J0 : Inv X pins U H { s with heap := (s.heap.push O).push (seqObj "list" #[] 0) } := J.kept (t' := s.toks) fun b o e => Ub _ (Ub _ e)
 obtain ⟨its0, rvs0, p0, hz0⟩ := J0.tuple hS
 have hx : us[0]? = some us[0] := Uc hpos
 obtain ⟨u, hu, ru⟩ := rvs0.get hx
 refine codeAny_builtin PySem.F.entry_min_loop ?_
 rw [Around.under_plainId PySem.F.plain_min_loop _]
 show wpAny _ X.A.in1 (seqItems? (.ref _) >>= _) _ _ _
 refine Ua (wpAny_seqItems gS rfl ?_)
 show wpAny _ X.A.in1 (tryCatch (pyNext (.ref s.heap.objs.size)) _ >>= _) _ _ _
 refine Ua (wpAny_tryCatch (wpAny_pyNext_tuple_item (s := { s with heap := (s.heap.push O).push (seqObj "list" #[] 0) }) (i := 0) ⟨O, gI, by rw [<- hO], by rw [<- hO]; rfl⟩ (show ((s.heap.push O).push (seqObj "list" #[] 0)).IsTuple l its0.toArray from p0) (x := u) (by simpa using hu) fun h' st' sb => ?_))
 have J1 : Inv X pins U H { s with heap := h' } := J0.turnedAt (t' := s.toks) fI fun b o hb e => (sb.2 b hb).trans e
 have hS' : h'.get? (s.heap.push O).objs.size = some (seqObj "list" #[] 0) := (sb.2 _ hSI).trans gS
 obtain ⟨oI, hoI, hoc, hod⟩ := id st'
 have J2 := J1.pin2 (s := { s with heap := h' }) fS fI hS' hoI (fun v z => by cases z) (fun v z => by rw [hod] at z; cases z)
 show wpAny _ X.A.in1 (tryCatch (holding [u] (call (.ref f) [u])) _ >>= _) _ _ _
 refine Ua (wpAny_tryCatch (UG (UC (ZAQ (E1 := fun _ _ => False) F hr hb J2 (.cons ru .nil) (turn 0 _ hx (fun v H' => v = .int (kf 0) /\ H' = H) ⟨rfl, rfl⟩)) (fun x s'' he => ?_) fun _ _ hF => hF.elim)))
 obtain ⟨v2, H2, J3, r2, e2, e3⟩ := he
 subst e2 e3
 obtain ⟨t2, rfl⟩ := r2
 obtain ⟨nS2, nI2, J4⟩ := J3.unpin2
 obtain ⟨c2, hc2⟩ : ∃ c2, (s''.heap.update (s.heap.push O).objs.size (Obj.mapSeq fun _ => #[u, .int (kf 0) t2])).get? (s.heap.push O).objs.size = some (seqObj "list" #[u, .int (kf 0) t2] c2) := ⟨_, get?_update_seq nS2 fun _ => #[u, .int (kf 0) t2]⟩
 show wpAny _ X.A.in1 (updateSeq (s.heap.push O).objs.size (fun _ => #[u, .int (kf 0) t2]) >>= _) _ _ _
 refine Ua ?_
 refine wpAny_updateSeq nS2 rfl ?_
 rw [hname]
 refine Us ⟨plainId_quiet PySem.F.plain_min_loop _, ZBf hc F hr hb kf hSI hS fI fS turn (fun i v u s' hv rv hbest J' => ⟨v, _, J', rv, hQ i v hv hbest⟩) _ 0 0 _ _ u t2 c2 rfl hpos (J4.turnedAt (t' := s''.toks) fS fun b o hb e => (Ul _ _ (Ne.symm hb)).trans e) hc2 ⟨oI, (Ul _ _ hSI).trans nI2, hoc, hod⟩ hx ru (Ud _) fun j' hj' => ?_⟩
 have e : j' = 0 := by omega
 subst e
 exact ⟨by omega, fun h => absurd h (Nat.lt_irrefl _)⟩
def ZAj (K : W.Frag) (sp : Sp) (vs : List V) (H : Hp) (Q : VK) : Prop := ∃ (l : Addr) (us : List V) (kf : Nat -> Int), vs = [.ref l] /\ SqT K H l us /\ us ≠ [] /\ (∀ i v, us[i]? = some v -> ∀ Q : VK, Q (.int (kf i)) H -> sp [v] H Q E0) /\
 ∀ i v, us[i]? = some v -> (∀ j, j < us.length -> kf i <= kf j /\ (j < i -> kf i < kf j)) -> Q v H
def ZCL (K : W.Frag) (sp : Sp) (t : TA) : TE := fun U H Q => t U H fun vs H1 => ZAj K sp vs H1 Q
theorem ZDh {x : Str} {e : Expr} {t : TA} {p kp kpos pos : Pos} (K : W.Frag) (hK : X.K = K) (hc : X.calm = true) (F : YZ X.prog X.w X.K X.mg X.base CX0 k f fd ps sp) (hr : Room (k + 1) X.A) (hgm : Gl X "min") (hmm : X.mg "min" = none) (hg : Gl X x) (hm : X.mg x = some (.ref f)) (hb : YS X.K fd ps []) (ha : QA X [e] t)
  (hs : Y6 e = false := by rfl) (hd : (x == ("__debug__" : Str)) = false := by decide) : QE X (.Call (.Name "min" p) [e] [⟨some "key", .Name x kp, kpos⟩] pos) (ZCL K sp t) := by
 subst hK
 refine ⟨?_⟩
 intro pins s U H Q I h
 refine wpAny_Call_Name_kw (Ji I hgm hmm ZHO ?_ (by decide) (by decide))
 have hse := JG (e := e) (es := []) (env := X.env) hs
 refine PyProof.Rows.callWith_kw (thn (ha.h pos pins s U H _ I h) fun us s1 ⟨vs, H1, I1, r1, q1⟩ => PyProof.Rows.kws_cons (ZBC I1 hg hm (PyProof.Rows.kws_nil ?_) hd)) (by rw [hse]; rfl) (by rw [hse]; rfl)
 obtain ⟨l, ws, kf, e1, g1, g2, g3, g4⟩ := q1
 subst e1
 obtain ⟨u, rfl, ru⟩ := r1.one
 cases ru
 exact ZBg hc F hr.in1 hb kf I1 g1 g2 g3 g4
theorem ZDi {K : W.Frag} {H : Hp} {Q : VK} {sp : Sp} {l : Addr} {us : List V} (kf : Nat -> Int) (h1 : SqT K H l us) (h2 : us ≠ []) (h3 : ∀ i v, us[i]? = some v -> ∀ Q : VK, Q (.int (kf i)) H -> sp [v] H Q E0)
 (h : ∀ i v, us[i]? = some v -> (∀ j, j < us.length -> kf i <= kf j /\ (j < i -> kf i < kf j)) -> Q v H) : ZAj K sp [.ref l] H Q := ⟨l, us, kf, rfl, h1, h2, h3, h⟩
theorem ZCe {K : W.Frag} {sp : Sp} {t : TA} {U : St} {H : Hp} {Q : VK} (h : t U H fun vs H1 => ZAj K sp vs H1 Q) : ZCL K sp t U H Q := h
theorem ZBh {pins : List (Addr × Obj)} {U : St} {H : Hp} (hc : X.calm = true) (F : YZ X.prog X.w X.K X.mg X.base CX0 k f fd ps sp) (hr : Room k X.A.in1) (hb : YS X.K fd ps []) {l I S : Addr} {us : List V} (kf : Nat -> Int) (hSI : S ≠ I) (hS : SqT X.K H l us)
  (fI : Yv X pins H I) (fS : Yv X pins H S) (turn : ∀ i v, us[i]? = some v -> ∀ Q : VK, Q (.int (kf i)) H -> sp [v] H Q E0) {R : Result -> Shared -> Prop}
  (hR : ∀ i v u s', us[i]? = some v -> YE v u -> (∀ j, j < us.length -> kf i >= kf j /\ (j < i -> kf i > kf j)) -> Inv X pins U H s' -> R (.ok (.ret u)) s') :
  ∀ (r j i : Nat) (s : Shared) (v : V) (vb : Value) (tb : Tok) (c : Nat), us.length - (j + 1) = r -> j + 1 <= us.length -> Inv X pins U H s -> s.heap.get? S = some (seqObj "list" #[vb, .int (kf i) tb] c) -> s.heap.IsTupleIter I l (j + 1) ->
   us[i]? = some v -> YE v vb -> i <= j -> (∀ j', j' <= j -> kf i >= kf j' /\ (j' < i -> kf i > kf j')) ->
   codeAny (model X.prog X.w) X.A (.builtin "max.loop" ⟨[.ref I, .ref f, .ref S], []⟩) R s := by
 have hname : (toString "max" ++ toString ".loop" : String) = "max.loop" := by decide
 intro r
 induction r with
 | zero =>
  intro j i s v vb tb c hr' hj J nS hit hv rv hij hbest
  have hin : j + 1 = us.length := by omega
  obtain ⟨its, rvs, p, hz⟩ := J.tuple hS
  have hl := rvs.length
  refine codeAny_builtin PySem.F.entry_max_loop ?_
  rw [Around.under_plainId PySem.F.plain_max_loop _]
  show wpAny _ X.A.in1 (seqItems? (.ref S) >>= _) _ _ _
  refine Ua (wpAny_seqItems nS rfl ?_)
  show wpAny _ X.A.in1 (tryCatch (pyNext (.ref I)) _ >>= _) _ _ _
  refine Ua (wpAny_tryCatch (wpAny_pyNext_tuple_end (J.ok.hd hc) hit (show s.heap.IsTuple l its.toArray from p) (by simp; omega) fun h' eb => ?_))
  have J1 : Inv X pins U H { s with heap := h' } := J.turnedAt (t' := s.toks) fI fun b o hb e => eb b o hb e
  have hS' : h'.get? S = some (seqObj "list" #[vb, .int (kf i) tb] c) := eb S _ hSI nS
  show wpAny _ X.A.in1 (updateSeq S (fun _ => #[]) >>= _) _ _ _
  refine Ua ?_
  refine wpAny_updateSeq hS' rfl (Ua (wpAny_letGo (Us ?_)))
  exact hR i v vb _ hv rv (fun j' hj' => hbest j' (by omega)) (J1.turnedAt (t' := s.toks) fS fun b o hb e => (Ul _ _ (Ne.symm hb)).trans e)
 | succ r ih =>
  intro j i s v vb tb c hr' hj J nS hit hv rv hij hbest
  have hlt : j + 1 < us.length := by omega
  obtain ⟨its, rvs, p, hz⟩ := J.tuple hS
  have hx : us[j + 1]? = some us[j + 1] := Uc hlt
  obtain ⟨u, hu, ru⟩ := rvs.get hx
  refine codeAny_builtin PySem.F.entry_max_loop ?_
  rw [Around.under_plainId PySem.F.plain_max_loop _]
  show wpAny _ X.A.in1 (seqItems? (.ref S) >>= _) _ _ _
  refine Ua (wpAny_seqItems nS rfl ?_)
  show wpAny _ X.A.in1 (tryCatch (pyNext (.ref I)) _ >>= _) _ _ _
  refine Ua (wpAny_tryCatch (wpAny_pyNext_tuple_item hit (show s.heap.IsTuple l its.toArray from p) (x := u) (by simpa using hu) fun h' st' sb => ?_))
  have J1 : Inv X pins U H { s with heap := h' } := J.turnedAt (t' := s.toks) fI fun b o hb e => (sb.2 b hb).trans e
  have hS' : h'.get? S = some (seqObj "list" #[vb, .int (kf i) tb] c) := (sb.2 S hSI).trans nS
  obtain ⟨oI, hoI, hoc, hod⟩ := id st'
  have J2 := J1.pin2 (s := { s with heap := h' }) fS fI hS' hoI (fun v z => by cases z) (fun v z => by rw [hod] at z; cases z)
  show wpAny _ X.A.in1 (tryCatch (holding [u] (call (.ref f) [u])) _ >>= _) _ _ _
  refine Ua (wpAny_tryCatch (UG (UC (ZAQ (E1 := fun _ _ => False) F hr hb J2 (.cons ru .nil) (turn (j + 1) _ hx (fun v H' => v = .int (kf (j + 1)) /\ H' = H) ⟨rfl, rfl⟩)) (fun x s'' he => ?_) fun _ _ hF => hF.elim)))
  obtain ⟨v2, H2, J3, r2, e2, e3⟩ := he
  subst e2 e3
  obtain ⟨t2, rfl⟩ := r2
  obtain ⟨nS2, nI2, J4⟩ := J3.unpin2
  have hit2 : s''.heap.IsTupleIter I l (j + 1 + 1) := ⟨oI, nI2, hoc, hod⟩
  show wpAny _ X.A.in1 (tryCatch (holding [u, .int (kf (j + 1)) t2] (richCompare .Gt (.int (kf (j + 1)) t2) (.int (kf i) tb) >>= _)) _ >>= _) _ _ _
  refine Ua (wpAny_tryCatch (UG (Ua (CmpOf.ints_gt (prog := X.prog) (w := X.w) (A := X.A.in1) (P := fun i v => ∃ t, v = .int (kf i) t) kf (fun i v h => h) (j + 1) i _ _ _ _ _ ⟨t2, rfl⟩ ⟨tb, rfl⟩ ?_))))
  refine Ua (UG (wpAny_truthy_bool ?_))
  refine Ua (wpAny_letGo (Us ?_))
  by_cases hb' : kf (j + 1) > kf i
  ·obtain ⟨c2, hc2⟩ : ∃ c2, (s''.heap.update S (Obj.mapSeq fun _ => #[u, .int (kf (j + 1)) t2])).get? S = some (seqObj "list" #[u, .int (kf (j + 1)) t2] c2) := ⟨_, get?_update_seq nS2 fun _ => #[u, .int (kf (j + 1)) t2]⟩
   simp only [hb', decide_true, if_true]
   refine Ua ?_
   refine wpAny_updateSeq nS2 rfl (Ua (wpAny_letGo ?_))
   rw [hname]
   refine Us ⟨plainId_quiet PySem.F.plain_max_loop _, ih (j + 1) (j + 1) _ _ u t2 c2 (by omega) hlt (J4.turnedAt (t' := s''.toks) fS fun b o hb e => (Ul _ _ (Ne.symm hb)).trans e) hc2 ⟨oI, (Ul _ _ hSI).trans nI2, hoc, hod⟩ hx ru (Ud _) fun j' hj' => ?_⟩
   by_cases e : j' = j + 1
   ·subst e
    exact ⟨by omega, fun _ => by omega⟩
   ·have hb1 := hbest j' (by omega)
    have hb2 := hb1.1
    exact ⟨by omega, fun _ => by omega⟩
  ·simp only [hb', decide_false, Uk, if_false]
   refine Ua (wpAny_letGo ?_)
   rw [hname]
   refine Us ⟨plainId_quiet PySem.F.plain_max_loop _, ih (j + 1) i _ v vb tb c (by omega) hlt J4 nS2 hit2 hv rv (by omega) fun j' hj' => ?_⟩
   by_cases e : j' = j + 1
   ·subst e
    exact ⟨by omega, fun _ => by omega⟩
   ·exact hbest j' (by omega)
theorem ZBi {pins : List (Addr × Obj)} {U : St} {H : Hp} {s : Shared} {Q : VK} {E1 : Value -> Shared -> Prop} (hc : X.calm = true) (F : YZ X.prog X.w X.K X.mg X.base CX0 k f fd ps sp) (hr : Room k X.A.in1) (hb : YS X.K fd ps []) {l : Addr} {us : List V} (kf : Nat -> Int) (J : Inv X pins U H s) (hS : SqT X.K H l us) (hne : us ≠ [])
  (turn : ∀ i v, us[i]? = some v -> ∀ Q : VK, Q (.int (kf i)) H -> sp [v] H Q E0) (hQ : ∀ i v, us[i]? = some v -> (∀ j, j < us.length -> kf i >= kf j /\ (j < i -> kf i > kf j)) -> Q v H) :
  wpAny (model X.prog X.w) X.A (call (.builtin "max") [.ref l] [(Str.ofString "key", .ref f)]) (EP X pins U Q) E1 s := by
 have hname : (toString "max" ++ toString ".loop" : String) = "max.loop" := by decide
 have hpos : 0 < us.length := List.length_pos_iff.mpr hne
 obtain ⟨its, rvs, p, hz⟩ := J.tuple hS
 have hls : s.heap.IsTuple l its.toArray := p
 refine kmk_tree PySem.F.kind_max PySem.F.plain_max PySem.F.entry_max (kmk_max_key _ _) ?_
 show wpAny _ X.A.in1 (Builtin.Builtins.bindParams "max" ["key", "default"] 0 ⟨[], [(Str.ofString "key", .ref f)]⟩ >>= _) _ _ s
 refine Ua (wpAny_of_eq (show Builtin.Builtins.bindParams "max" ["key", "default"] 0 ⟨[], [(Str.ofString "key", .ref f)]⟩ = pure [some (.ref f), none] from rfl) ?_)
 refine Ua (Us ?_)
 refine Ua (wpAny_pyIter_tuple hls ?_)
 refine Ua (wpAny_newList ?_ (UI _))
 rw [hname]
 refine Us ⟨plainId_quiet PySem.F.plain_max_loop _, ?_⟩
 generalize hO : ({ cls := .type "tuple_iterator", data := .fields #[.ref l, .int 0 0] } : Obj) = O
 have hSs : (s.heap.push O).objs.size = s.heap.objs.size + 1 := size_push' ..
 have hSI : (s.heap.push O).objs.size ≠ s.heap.objs.size := by rw [hSs]; exact Nat.ne_of_gt (Nat.lt_succ_self _)
 have gI : ((s.heap.push O).push (seqObj "list" #[] 0)).get? s.heap.objs.size = some O := Ub _ (Uj _ (by rw [<- hO]; rfl))
 have gS : ((s.heap.push O).push (seqObj "list" #[] 0)).get? (s.heap.push O).objs.size = some (seqObj "list" #[] 0) := Uj _ rfl
 have fI : Yv X pins H s.heap.objs.size := J.fpOk (Ud _) (J.hok.fresh (Ud _))
 have fS : Yv X pins H (s.heap.push O).objs.size := J.fpOk (by rw [hSs]; exact Nat.le_succ _) (J.hok.fresh (by rw [hSs]; exact Nat.le_succ _))
 have J0 : Inv X pins U H { s with heap := (s.heap.push O).push (seqObj "list" #[] 0) } := J.kept (t' := s.toks) fun b o e => Ub _ (Ub _ e)
 obtain ⟨its0, rvs0, p0, hz0⟩ := J0.tuple hS
 have hx : us[0]? = some us[0] := Uc hpos
 obtain ⟨u, hu, ru⟩ := rvs0.get hx
 refine codeAny_builtin PySem.F.entry_max_loop ?_
 rw [Around.under_plainId PySem.F.plain_max_loop _]
 show wpAny _ X.A.in1 (seqItems? (.ref _) >>= _) _ _ _
 refine Ua (wpAny_seqItems gS rfl ?_)
 show wpAny _ X.A.in1 (tryCatch (pyNext (.ref s.heap.objs.size)) _ >>= _) _ _ _
 refine Ua (wpAny_tryCatch (wpAny_pyNext_tuple_item (s := { s with heap := (s.heap.push O).push (seqObj "list" #[] 0) }) (i := 0) ⟨O, gI, by rw [<- hO], by rw [<- hO]; rfl⟩ (show ((s.heap.push O).push (seqObj "list" #[] 0)).IsTuple l its0.toArray from p0) (x := u) (by simpa using hu) fun h' st' sb => ?_))
 have J1 : Inv X pins U H { s with heap := h' } := J0.turnedAt (t' := s.toks) fI fun b o hb e => (sb.2 b hb).trans e
 have hS' : h'.get? (s.heap.push O).objs.size = some (seqObj "list" #[] 0) := (sb.2 _ hSI).trans gS
 obtain ⟨oI, hoI, hoc, hod⟩ := id st'
 have J2 := J1.pin2 (s := { s with heap := h' }) fS fI hS' hoI (fun v z => by cases z) (fun v z => by rw [hod] at z; cases z)
 show wpAny _ X.A.in1 (tryCatch (holding [u] (call (.ref f) [u])) _ >>= _) _ _ _
 refine Ua (wpAny_tryCatch (UG (UC (ZAQ (E1 := fun _ _ => False) F hr hb J2 (.cons ru .nil) (turn 0 _ hx (fun v H' => v = .int (kf 0) /\ H' = H) ⟨rfl, rfl⟩)) (fun x s'' he => ?_) fun _ _ hF => hF.elim)))
 obtain ⟨v2, H2, J3, r2, e2, e3⟩ := he
 subst e2 e3
 obtain ⟨t2, rfl⟩ := r2
 obtain ⟨nS2, nI2, J4⟩ := J3.unpin2
 obtain ⟨c2, hc2⟩ : ∃ c2, (s''.heap.update (s.heap.push O).objs.size (Obj.mapSeq fun _ => #[u, .int (kf 0) t2])).get? (s.heap.push O).objs.size = some (seqObj "list" #[u, .int (kf 0) t2] c2) := ⟨_, get?_update_seq nS2 fun _ => #[u, .int (kf 0) t2]⟩
 show wpAny _ X.A.in1 (updateSeq (s.heap.push O).objs.size (fun _ => #[u, .int (kf 0) t2]) >>= _) _ _ _
 refine Ua ?_
 refine wpAny_updateSeq nS2 rfl ?_
 rw [hname]
 refine Us ⟨plainId_quiet PySem.F.plain_max_loop _, ZBh hc F hr hb kf hSI hS fI fS turn (fun i v u s' hv rv hbest J' => ⟨v, _, J', rv, hQ i v hv hbest⟩) _ 0 0 _ _ u t2 c2 rfl hpos (J4.turnedAt (t' := s''.toks) fS fun b o hb e => (Ul _ _ (Ne.symm hb)).trans e) hc2 ⟨oI, (Ul _ _ hSI).trans nI2, hoc, hod⟩ hx ru (Ud _) fun j' hj' => ?_⟩
 have e : j' = 0 := by omega
 subst e
 exact ⟨by omega, fun h => absurd h (Nat.lt_irrefl _)⟩
def ZAk (K : W.Frag) (sp : Sp) (vs : List V) (H : Hp) (Q : VK) : Prop := ∃ (l : Addr) (us : List V) (kf : Nat -> Int), vs = [.ref l] /\ SqT K H l us /\ us ≠ [] /\ (∀ i v, us[i]? = some v -> ∀ Q : VK, Q (.int (kf i)) H -> sp [v] H Q E0) /\
 ∀ i v, us[i]? = some v -> (∀ j, j < us.length -> kf i >= kf j /\ (j < i -> kf i > kf j)) -> Q v H
def ZCM (K : W.Frag) (sp : Sp) (t : TA) : TE := fun U H Q => t U H fun vs H1 => ZAk K sp vs H1 Q
theorem ZDj {x : Str} {e : Expr} {t : TA} {p kp kpos pos : Pos} (K : W.Frag) (hK : X.K = K) (hc : X.calm = true) (F : YZ X.prog X.w X.K X.mg X.base CX0 k f fd ps sp) (hr : Room (k + 1) X.A) (hgm : Gl X "max") (hmm : X.mg "max" = none) (hg : Gl X x) (hm : X.mg x = some (.ref f)) (hb : YS X.K fd ps []) (ha : QA X [e] t)
  (hs : Y6 e = false := by rfl) (hd : (x == ("__debug__" : Str)) = false := by decide) : QE X (.Call (.Name "max" p) [e] [⟨some "key", .Name x kp, kpos⟩] pos) (ZCM K sp t) := by
 subst hK
 refine ⟨?_⟩
 intro pins s U H Q I h
 refine wpAny_Call_Name_kw (Ji I hgm hmm ZED ?_ (by decide) (by decide))
 have hse := JG (e := e) (es := []) (env := X.env) hs
 refine PyProof.Rows.callWith_kw (thn (ha.h pos pins s U H _ I h) fun us s1 ⟨vs, H1, I1, r1, q1⟩ => PyProof.Rows.kws_cons (ZBC I1 hg hm (PyProof.Rows.kws_nil ?_) hd)) (by rw [hse]; rfl) (by rw [hse]; rfl)
 obtain ⟨l, ws, kf, e1, g1, g2, g3, g4⟩ := q1
 subst e1
 obtain ⟨u, rfl, ru⟩ := r1.one
 cases ru
 exact ZBi hc F hr.in1 hb kf I1 g1 g2 g3 g4
theorem ZDk {K : W.Frag} {H : Hp} {Q : VK} {sp : Sp} {l : Addr} {us : List V} (kf : Nat -> Int) (h1 : SqT K H l us) (h2 : us ≠ []) (h3 : ∀ i v, us[i]? = some v -> ∀ Q : VK, Q (.int (kf i)) H -> sp [v] H Q E0)
 (h : ∀ i v, us[i]? = some v -> (∀ j, j < us.length -> kf i >= kf j /\ (j < i -> kf i > kf j)) -> Q v H) : ZAk K sp [.ref l] H Q := ⟨l, us, kf, rfl, h1, h2, h3, h⟩
theorem ZCf {K : W.Frag} {sp : Sp} {t : TA} {U : St} {H : Hp} {Q : VK} (h : t U H fun vs H1 => ZAk K sp vs H1 Q) : ZCM K sp t U H Q := h
end
def Cov (B : Heap) (H' : Hp) (h0 h' : Heap) (fs : List Addr) : Prop := ∀ b o, h'.get? b = some o -> b ∉ fs -> ((∃ u, H' b = some u) \/ ∃ o0, h0.get? b = some o0) -> B.get? b = some o
def Fl (X : Cx) (H1 : Hp) (s0 : Shared) (e : Addr) (C : Value) (H' : Hp) (s3 : Shared) : Prop := ∃ (a0 : Value) (B : Heap), s3.os = s0.os /\ AllBare s3.gens /\ Un (frs X.stack) [] H1 H' s0.heap s3.heap /\ HOk X.prog X.w H' s3.heap /\
 s0.heap.get? e = none /\ H' e = none /\ Heap.FlyingW B X.stack e C a0 s3.heap /\ Cov B H' s0.heap s3.heap (frs X.stack)
abbrev TX := St -> Hp -> VK -> XK -> Prop
def XP (X : Cx) (pins : List (Addr × Obj)) (U : St) (E : XK) (ev : Value) (s' : Shared) : Prop := ∃ H1 s1 e C H', Inv X pins U H1 s1 /\ ev = .ref e /\ Fl X H1 s1 e C H' s' /\ E C none H'
abbrev TBX := Yi -> XK -> St -> Hp -> Prop
abbrev TH := Value -> Yi -> St -> Hp -> Prop
end L2
namespace L2
open PySem PySem.Spec PyProof.Rows PySem.W PySem.Builtin PySem.Builtin.ObjectAttr PySem.Builtin.Getset_descriptor
def fl (low tall : Int) (q : Int × Int) : Int := (q.1 - low * q.2) / (tall * q.2)
theorem JI {cv : PL} (h : Asc cv) {i j : Nat} (hi : i < cv.length) (hj : j < cv.length) (hij : i < j) : cv[i].1 < cv[j].1 := Ux.mp h i j hi hj hij
theorem ZAR {cv : PL} (h : Asc cv) {a b : Int × Int} (ha : a ∈ cv) (hb : b ∈ cv) (e : a.1 = b.1) : a = b := by
 obtain ⟨i, hi, rfl⟩ := UM ha
 obtain ⟨j, hj, rfl⟩ := UM hb
 rcases Nat.lt_trichotomy i j with hij | hij | hij
 ·have := JI h hi hj hij; omega
 ·subst hij; rfl
 ·have := JI h hj hi hij; omega
def Is4 (cv : PL) (o : Option (PL)) : Prop :=
 (o = none /\ cv = []) \/ ∃ q0 q1 q2 q3 : Int × Int, o = some [q0, q1, q2, q3] /\ q0 ∈ cv /\ q1 ∈ cv /\ q2 ∈ cv /\ q3 ∈ cv /\
  ∀ p ∈ cv, q0.1 <= p.1 /\ p.1 <= q1.1 /\ (q2.2 < p.2 \/ (q2.2 = p.2 /\ q2.1 <= p.1)) /\ (p.2 < q3.2 \/ (p.2 = q3.2 /\ q3.1 <= p.1))
theorem Is4.unique {cv : PL} {o o' : Option (PL)} (ha : Asc cv) (h : Is4 cv o) (g : Is4 cv o') : o = o' := by
 rcases h with ⟨e, hc⟩ | ⟨q0, q1, q2, q3, e, m0, m1, m2, m3, hb⟩
 ·rcases g with ⟨e', _⟩ | ⟨r0, r1, r2, r3, e', n0, _⟩
  ·rw [e, e']
  ·rw [hc] at n0; cases n0
 ·rcases g with ⟨e', hc⟩ | ⟨r0, r1, r2, r3, e', n0, n1, n2, n3, gb⟩
  ·rw [hc] at m0; cases m0
  ·have a0 := hb r0 n0
   have a1 := hb r1 n1
   have a2 := hb r2 n2
   have a3 := hb r3 n3
   have b0 := gb q0 m0
   have b1 := gb q1 m1
   have b2 := gb q2 m2
   have b3 := gb q3 m3
   have e0 : q0 = r0 := ZAR ha m0 n0 (by omega)
   have e1 : q1 = r1 := ZAR ha m1 n1 (by omega)
   have e2 : q2 = r2 := ZAR ha m2 n2 (by omega)
   have e3 : q3 = r3 := ZAR ha m3 n3 (by omega)
   rw [e, e', e0, e1, e2, e3]
theorem Is4.mem {cv : PL} {qs : PL} (h : Is4 cv (some qs)) : ∀ q ∈ qs, q ∈ cv := by
 rcases h with ⟨e, _⟩ | ⟨q0, q1, q2, q3, e, m0, m1, m2, m3, _⟩
 ·cases e
 ·cases e
  intro q hq
  simp only [UA, List.not_mem_nil, or_false] at hq
  rcases hq with rfl | rfl | rfl | rfl <;> assumption
theorem Is4.sorted {cv lo hi : PL} {p0 p1 l0 h0 : Int × Int} (ha : Asc cv) (e0 : cv[0]? = some p0) (e1 : cv[cv.length - 1]? = some p1)
  (hl : lo.Perm (cv.map fun p => (p.2, p.1))) (hh : hi.Perm (cv.map fun p => (-p.2, p.1))) (sl : lo.Pairwise fun p q => ltP p q = true) (sh : hi.Pairwise fun p q => ltP p q = true) (f0 : lo[0]? = some l0) (g0 : hi[0]? = some h0) :
  Is4 cv (some [p0, p1, (l0.2, l0.1), (h0.2, -h0.1)]) := by
 have fst : ∀ {xs : PL} {x : Int × Int}, xs.Pairwise (fun p q => ltP p q = true) -> xs[0]? = some x -> x ∈ xs /\ ∀ y ∈ xs, y = x \/ ltP x y = true := by
  intro xs x hs hx
  cases xs with
  | nil => cases hx
  | cons z zs =>
   have : z = x := by simpa using hx
   subst this
   refine ⟨Uy .., fun y hy => ?_⟩
   rcases UA.mp hy with rfl | hy
   ·exact .inl rfl
   ·exact .inr ((List.pairwise_cons.mp hs).1 y hy)
 obtain ⟨ml, bl⟩ := fst sl f0
 obtain ⟨mh, bh⟩ := fst sh g0
 obtain ⟨r2, hr2, er2⟩ := List.mem_map.mp (hl.mem_iff.mp ml)
 obtain ⟨r3, hr3, er3⟩ := List.mem_map.mp (hh.mem_iff.mp mh)
 have x2 : (l0.2, l0.1) = r2 := by rw [<- er2]
 have x3 : (h0.2, -h0.1) = r3 := by rw [<- er3]; simp
 rw [x2, x3]
 refine .inr ⟨p0, p1, r2, r3, rfl, Ut e0, Ut e1, hr2, hr3, fun p hp => ?_⟩
 obtain ⟨j, hj, rfl⟩ := UM hp
 obtain ⟨z0, y0⟩ := Ui.mp e0
 obtain ⟨z1, y1⟩ := Ui.mp e1
 have c2 := bl (cv[j].2, cv[j].1) (hl.mem_iff.mpr (List.mem_map.mpr ⟨_, List.getElem_mem hj, rfl⟩))
 have c3 := bh (-cv[j].2, cv[j].1) (hh.mem_iff.mpr (List.mem_map.mpr ⟨_, List.getElem_mem hj, rfl⟩))
 refine ⟨?_, ?_, ?_, ?_⟩
 ·by_cases h : j = 0
  ·subst h; rw [y0]; exact Int.le_refl _
  ·have := JI ha z0 hj (by omega)
   rw [y0] at this
   omega
 ·by_cases h : j = cv.length - 1
  ·subst h; rw [y1]; exact Int.le_refl _
  ·have := JI ha hj z1 (by omega)
   rw [y1] at this
   omega
 ·rw [<- er2] at c2
  rcases c2 with c2 | c2
  ·have w1 := congrArg Prod.fst c2
   have w2 := congrArg Prod.snd c2
   simp only at w1 w2
   exact .inr ⟨w1.symm, by omega⟩
  ·have := Yg.mp c2
   simp only at this
   omega
 ·rw [<- er3] at c3
  rcases c3 with c3 | c3
  ·have w1 := congrArg Prod.fst c3
   have w2 := congrArg Prod.snd c3
   simp only at w1 w2
   exact .inr ⟨by omega, by omega⟩
  ·have := Yg.mp c3
   simp only at this
   omega
theorem ZA4 {cv : PL} (ha : Asc cv) (f : Int × Int -> Int) : (cv.map fun p => (f p, p.1)).Nodup := by
 rw [Uu, UQ]
 exact ha.imp fun {a b} h e => by
  have := congrArg Prod.snd e
  simp only at this
  omega
theorem ZGs {o : Option (PL)} (hb : ∀ qs, o = some qs -> qs.length <= 4 /\ ∀ q ∈ qs, Bn 200 q.1 /\ Bn 200 q.2) : Sm 40000 30 (ZBq o) := by
 cases o with
 | none => exact Sm.non.mono (by decide) (by decide)
 | some qs =>
  refine (Sm.tup (n := 9000) (k := 20) (fun x hx => ?_) (by rw [Uo]; exact (hb qs rfl).1)).mono (by decide) (by decide)
  obtain ⟨q, hq, rfl⟩ := List.mem_map.mp hx
  have := (hb qs rfl).2 q hq
  exact (Sm.tup (xs := [.int q.1, .int q.2]) (n := 2000) (k := 10) (fun x hx => by
   simp only [UA, List.not_mem_nil, or_false] at hx
   rcases hx with rfl | rfl
   ·exact (Sm.int (this.1.mono (by decide))).mono (by decide) (by decide)
   ·exact (Sm.int (this.2.mono (by decide))).mono (by decide) (by decide)) (by show 2 <= 4; decide)).mono (by decide) (by decide)
theorem ZDl {K : W.Frag} {H : Hp} {v : V} {o : Option (PL)} (h : Jo H v o) (hb : ∀ qs, o = some qs -> ∀ q ∈ qs, Bn 200 q.1 /\ Bn 200 q.2) : Yw K H v (ZBq o).shown := by
 cases h with
 | non =>
  show Yw K H .non (PyData.none).shown
  rw [PyData.shown_none]
  exact .non
 | @pr c qs h hl =>
  obtain ⟨us, g, p⟩ := h
  exact Yw.of (d := ZBq (some qs)) (.tup (SqT.of g) p.dats) ((ZGs (o := some qs) fun qs' e => by cases e; exact ⟨Nat.le_of_eq hl, hb qs rfl⟩).mono (by decide) (by decide))
theorem Is4.minmax {cv : PL} {p0 p1 p2 p3 : Int × Int} {i2 i3 : Nat} (ha : Asc cv) (e0 : cv[0]? = some p0) (e1 : cv[cv.length - 1]? = some p1) (e2 : cv[i2]? = some p2) (e3 : cv[i3]? = some p3)
  (h2 : ∀ j, j < cv.length -> (cv.getD i2 (0, 0)).2 <= (cv.getD j (0, 0)).2 /\ (j < i2 -> (cv.getD i2 (0, 0)).2 < (cv.getD j (0, 0)).2))
  (h3 : ∀ j, j < cv.length -> (cv.getD i3 (0, 0)).2 >= (cv.getD j (0, 0)).2 /\ (j < i3 -> (cv.getD i3 (0, 0)).2 > (cv.getD j (0, 0)).2)) : Is4 cv (some [p0, p1, p2, p3]) := by
 obtain ⟨z0, y0⟩ := Ui.mp e0
 obtain ⟨z1, y1⟩ := Ui.mp e1
 obtain ⟨z2, y2⟩ := Ui.mp e2
 obtain ⟨z3, y3⟩ := Ui.mp e3
 have d : ∀ {j : Nat} (hj : j < cv.length), cv.getD j (0, 0) = cv[j] := fun {j} hj => by simp [hj]
 refine .inr ⟨p0, p1, p2, p3, rfl, Ut e0, Ut e1, Ut e2, Ut e3, fun p hp => ?_⟩
 obtain ⟨j, hj, rfl⟩ := UM hp
 have k2 := h2 j hj
 have k3 := h3 j hj
 rw [d z2, d hj, y2] at k2
 rw [d z3, d hj, y3] at k3
 refine ⟨?_, ?_, ?_, ?_⟩
 ·by_cases h : j = 0
  ·subst h; rw [y0]; exact Int.le_refl _
  ·have := JI ha z0 hj (by omega)
   rw [y0] at this
   omega
 ·by_cases h : j = cv.length - 1
  ·subst h; rw [y1]; exact Int.le_refl _
  ·have := JI ha hj z1 (by omega)
   rw [y1] at this
   omega
 ·by_cases h : i2 < j
  ·have := JI ha z2 hj h
   rw [y2] at this
   omega
  ·by_cases h' : j = i2
   ·subst h'; rw [y2]; omega
   ·have := k2.2 (by omega)
    omega
 ·by_cases h : i3 < j
  ·have := JI ha z3 hj h
   rw [y3] at this
   omega
  ·by_cases h' : j = i3
   ·subst h'; rw [y3]; omega
   ·have := k3.2 (by omega)
    omega
end L2
namespace L2
end L2
namespace L2
open PySem PySem.Spec PyProof.Rows PySem.W
end L2
namespace L2
theorem ZEd {c : TT} {t u : TS} {D : Yi} {U : St} {H : Hp} (h : ZBw c t u D U H) : ZBw c t u D U H := h
theorem ZGt {t : TS} {D : Yi} {U : St} {H : Hp} (P : St -> Hp -> Prop) (h1 : ∀ U' H', P U' H' -> D.nx U' H') (h2 : ∀ D' : Yi, D'.rt = D.rt -> (∀ U' H', P U' H' -> D'.nx U' H') -> t D' U H) : t D U H := h2 D rfl h1
end L2
namespace L2
open PySem PySem.Spec PyProof.Rows PySem.W
section
variable {K : Frag} {x qual : Str} {st : Stmt} {f : Addr} {fd : FuncData}
theorem Fun.b1 {p : Str} (F : Fun K x qual st f fd) (h : ∀ (kV doc pm : Value) (an : Option Addr) (cdv ct u : Value), bindArgs (fnOf x qual (Yy st) (Yu st) (YG st) .none kV doc pm an cdv ct) ⟨[u], []⟩ = pure ([p].zip [u])) : YS K fd [p] [] := F.binds fun _ _ _ _ _ _ us hl => match us, hl with | [_], _ => h _ _ _ _ _ _ _
theorem Fun.b2 {p q : Str} (F : Fun K x qual st f fd) (h : ∀ (kV doc pm : Value) (an : Option Addr) (cdv ct u v : Value), bindArgs (fnOf x qual (Yy st) (Yu st) (YG st) .none kV doc pm an cdv ct) ⟨[u, v], []⟩ = pure ([p, q].zip [u, v])) : YS K fd [p, q] [] := F.binds fun _ _ _ _ _ _ us hl => match us, hl with | [_, _], _ => h _ _ _ _ _ _ _ _
end
abbrev Cmp := Keyed -> Keyed -> Bool
abbrev G (xs : Array Keyed) (i : Nat) : Keyed := xs.getD i (.none, .none)
theorem ZAl {xs : Array Keyed} {i : Nat} (h : i < xs.size) : xs[i]? = some (G xs i) := by simp [G, h]
theorem ZAm {xs ys : Array Keyed} {i j : Nat} (h : xs[i]? = ys[j]?) : G xs i = G ys j := by simp [G, Array.getD_eq_getD_getElem?, h]
structure YN (C : Cmp) (a₀ : Array Keyed) : Prop where
 tr : ∀ x y z, C x y = true -> C y z = true -> C x z = true
 asy : ∀ x y, C x y = true -> C y x = false
 tot : ∀ x ∈ a₀.toList, ∀ y ∈ a₀.toList, x ≠ y -> C x y = false -> C y x = true
 nd : a₀.toList.Nodup
structure TB (kd : SortKind) (a₀ : Array Keyed) (st : SortSt) : Prop where
 perm : (arrOf st).Perm a₀
 kind : kindOf st = kd
 failed : failedOf st = none
def Sg (C : Cmp) (xs : Array Keyed) (lo n : Nat) : Prop := ∀ i j, i < j -> j < n -> C (G xs (lo + i)) (G xs (lo + j)) = true
section
variable {kd : SortKind} {a₀ : Array Keyed} {st : SortSt} {C : Cmp}
theorem TB.size (h : TB kd a₀ st) : (arrOf st).size = a₀.size := h.perm.size_eq
theorem TB.mem (h : TB kd a₀ st) {i : Nat} (hi : i < a₀.size) : G (arrOf st) i ∈ a₀.toList := by
 have hi' : i < (arrOf st).size := by rw [h.size]; exact hi
 refine (UD.mp h.perm).mem_iff.mp ?_
 have := ZAl hi'
 exact Array.mem_toList_iff.mpr (Array.mem_of_getElem? this)
theorem TB.inj (h : TB kd a₀ st) (O : YN C a₀) {i j : Nat} (hi : i < a₀.size) (hj : j < a₀.size) (hne : i ≠ j) : G (arrOf st) i ≠ G (arrOf st) j := fun e => by
 have n : (arrOf st).toList.Nodup := (UD.mp h.perm).nodup_iff.mpr O.nd
 have hi' : i < (arrOf st).toList.length := by rw [Ug, h.size]; exact hi
 have hj' : j < (arrOf st).toList.length := by rw [Ug, h.size]; exact hj
 have e1 : (arrOf st).toList[i] = G (arrOf st) i := by simp [G, Array.getD, h.size, hi]
 have e2 : (arrOf st).toList[j] = G (arrOf st) j := by simp [G, Array.getD, h.size, hj]
 have hpw := Ux.mp (Uu.mp n)
 rcases Nat.lt_or_gt_of_ne hne with z | z
 ·exact hpw i j hi' hj' z (by rw [e1, e2, e])
 ·exact hpw j i hj' hi' z (by rw [e1, e2, e])
theorem TB.setArr (h : TB kd a₀ st) {xs : Array Keyed} (hp : xs.Perm (arrOf st)) : TB kd a₀ (setArr st xs) := ⟨hp.trans h.perm, h.kind, h.failed⟩
theorem TB.tot (h : TB kd a₀ st) (O : YN C a₀) {i j : Nat} (hi : i < a₀.size) (hj : j < a₀.size) (hne : i ≠ j) (e : C (G (arrOf st) i) (G (arrOf st) j) = false) : C (G (arrOf st) j) (G (arrOf st) i) = true := O.tot _ (h.mem hi) _ (h.mem hj) (h.inj O hi hj hne) e
theorem TB.tr (h : TB kd a₀ st) (O : YN C a₀) {i j k : Nat} (hi : i < a₀.size) (hj : j < a₀.size) (hk : k < a₀.size) (e : C (G (arrOf st) i) (G (arrOf st) j) = true) (e' : C (G (arrOf st) j) (G (arrOf st) k) = true) : C (G (arrOf st) i) (G (arrOf st) k) = true := O.tr _ _ _ e e'
end
def Ys (prog : Program) (w : World) (A : Around) (E : Value -> Shared -> Prop) (s : Shared) (kd : SortKind) (a₀ : Array Keyed) (C : Cmp) : Prop :=
 ∀ x ∈ a₀.toList, ∀ y ∈ a₀.toList, ∀ (st : SortSt) (Q : Option Bool -> SortSt -> Prop), kindOf st = kd -> Q (some (C x y)) st -> wpS (model prog w) A E s (lt' x y) Q st
def ZCN (lo a nrem : Nat) : StateT SortSt Sem AscSt :=
 forIn [a:nrem] ((none, a) : AscSt) fun _ __s => do
  let __x <- ltAt' (lo + __s.snd) (lo + __s.snd - 1)
  match __x with
  | some smaller => if smaller = true then pure (ForInStep.done (none, __s.snd)) else pure (ForInStep.yield (none, __s.snd + 1))
  | _ => pure (ForInStep.done (some none, __s.snd))
def ZA5 (lo n nrem : Nat) : StateT SortSt Sem (Option Nat) := do
 reverseSlice' lo (lo + n)
 let __s <- ZCN lo n nrem
 match __s.fst with
 | some r => pure r
 | none => pure (some __s.snd)
def ZBr (lo n nrem : Nat) : StateT SortSt Sem DescSt :=
 forIn [n:nrem] ((none, n, 0) : DescSt) fun _ __s => do
  let __x <- ltAt' (lo + __s.snd.fst) (lo + __s.snd.fst - 1)
  match __x with
  | some smaller =>
   if smaller = true then
    if __s.snd.snd > 0 then do
     reverseSlice' (lo + __s.snd.fst - (__s.snd.snd + 1)) (lo + __s.snd.fst)
     pure (ForInStep.yield (none, __s.snd.fst + 1, 0))
    else pure (ForInStep.yield (none, __s.snd.fst + 1, 0))
   else do
    let __x <- ltAt' (lo + __s.snd.fst - 1) (lo + __s.snd.fst)
    match __x with
    | some larger =>
     if larger = true then pure (ForInStep.done (none, __s.snd.fst, __s.snd.snd))
     else pure (ForInStep.yield (none, __s.snd.fst + 1, __s.snd.snd + 1))
    | _ => pure (ForInStep.done (some none, __s.snd.fst, __s.snd.snd))
  | _ => pure (ForInStep.done (some none, __s.snd.fst, __s.snd.snd))
def ZAI (lo n nrem : Nat) : StateT SortSt Sem (Option Nat) := do
 liftM (rule "list.sort.descending-run")
 let __s <- ZBr lo (n + 1) nrem
 match __s.fst with
 | some r => pure r
 | none =>
  if __s.snd.snd > 0 then do
   reverseSlice' (lo + __s.snd.fst - (__s.snd.snd + 1)) (lo + __s.snd.fst)
   ZA5 lo __s.snd.fst nrem
  else ZA5 lo __s.snd.fst nrem
theorem ZCO (lo nrem : Nat) : countRun' lo nrem = (do
  let __s <- ZCN lo 1 nrem
  match __s.fst with
  | some r => pure r
  | none =>
   if (__s.snd == nrem) = true then pure (some __s.snd)
   else if __s.snd > 1 then do
    let __x <- ltAt' lo (lo + __s.snd - 1)
    match __x with
    | some rose => if rose = true then pure (some __s.snd) else do
      reverseSlice' lo (lo + __s.snd)
      ZAI lo __s.snd nrem
    | _ => pure none
   else ZAI lo __s.snd nrem) := by
 rw [countRun'_eq]
 unfold ZAI ZA5 ZBr ZCN
 refine congr (congrArg Bind.bind ?_) ?_
 ·rfl
 funext __s
 obtain ⟨r, n⟩ := __s
 cases r with
 | some r => rfl
 | none =>
  dsimp only
  split
  ·rfl
  ·split
   ·congr 1
    funext x
    cases x with
    | none => rfl
    | some rose =>
     dsimp only
     split
     ·rfl
     ·congr 1
      funext _r
      congr 1; funext _u; congr 1; congr 1; funext s2; obtain ⟨r2, n2, q2⟩ := s2
      cases r2 with
      | some r2 => rfl
      | none =>
       dsimp only
       split
       ·congr 1; funext _v; congr 1; funext _w; congr 1; funext s3; obtain ⟨r3, n3⟩ := s3; cases r3 <;> rfl
       ·congr 1; funext _w; congr 1; funext s3; obtain ⟨r3, n3⟩ := s3; cases r3 <;> rfl
   ·congr 1; funext _u; congr 1; congr 1; funext s2; obtain ⟨r2, n2, q2⟩ := s2
    cases r2 with
    | some r2 => rfl
    | none =>
     dsimp only
     split
     ·congr 1; funext _v; congr 1; funext _w; congr 1; funext s3; obtain ⟨r3, n3⟩ := s3; cases r3 <;> rfl
     ·congr 1; funext _w; congr 1; funext s3; obtain ⟨r3, n3⟩ := s3; cases r3 <;> rfl
section
variable {prog : Program} {w : World} {A : Around} {E : Value -> Shared -> Prop} {s : Shared} {kd : SortKind} {a₀ : Array Keyed} {C : Cmp}
theorem Jp (L : Ys prog w A E s kd a₀ C) {st : SortSt} {i j : Nat} {Q : Option Bool -> SortSt -> Prop} (hB : TB kd a₀ st) (hi : i < a₀.size) (hj : j < a₀.size) (h : Q (some (C (G (arrOf st) i) (G (arrOf st) j))) st) : wpS (model prog w) A E s (ltAt' i j) Q st := by
 have e1 := ZAl (xs := arrOf st) (i := i) (by rw [hB.size]; exact hi)
 have e2 := ZAl (xs := arrOf st) (i := j) (by rw [hB.size]; exact hj)
 rw [ltAt'_eq]
 refine wpS_bind (wpS_get ?_)
 show wpS _ _ _ _ (do let x <- elem' (arrOf st) i; let y <- elem' (arrOf st) j; lt' x y) Q st
 rw [elem'_eq, elem'_eq, e1, e2]
 refine wpS_bind (wpS_pure (wpS_bind (wpS_pure ?_)))
 exact L _ (hB.mem hi) _ (hB.mem hj) st Q hB.kind h
theorem ZC2 (O : YN C a₀) (L : Ys prog w A E s kd a₀ C) {st : SortSt} {lo a nrem : Nat} {Q : AscSt -> SortSt -> Prop} (hn : lo + nrem <= a₀.size) (ha : 1 <= a) (han : a <= nrem) (hB : TB kd a₀ st) (hs : Sg C (arrOf st) lo a)
  (h : ∀ n, a <= n -> n <= nrem -> Sg C (arrOf st) lo n -> (n = nrem \/ C (G (arrOf st) (lo + n)) (G (arrOf st) (lo + n - 1)) = true) -> Q (none, n) st) : wpS (model prog w) A E s (ZCN lo a nrem) Q st := by
 unfold ZCN
 refine wpS_forRange (I := fun x c st' => st' = st /\ c = (none, x) /\ Sg C (arrOf st) lo x) ?step ?fin ⟨rfl, rfl, hs⟩
 case fin =>
  rintro c st' ⟨rfl, rfl, hs'⟩
  rw [show max a nrem = nrem by omega] at hs' ⊢
  exact h nrem han (Ud _) hs' (.inl rfl)
 case step =>
  rintro x c st' hax hxn ⟨rfl, rfl, hs'⟩
  dsimp only
  refine wpS_bind (Jp L hB (by omega) (by omega) ?_)
  cases hless : C (G (arrOf st') (lo + x)) (G (arrOf st') (lo + x - 1))
  case true =>
   simp only [if_true]
   exact wpS_pure (h x hax (by omega) hs' (.inr hless))
  case false =>
   simp only [Uk, if_false]
   have hup := hB.tot O (i := lo + x) (j := lo + x - 1) (by omega) (by omega) (by omega) hless
   refine wpS_pure ⟨rfl, rfl, fun i j hij hj => ?_⟩
   by_cases hjx : j < x
   ·exact hs' i j hij hjx
   ·have hj' : j = x := by omega
    subst hj'
    by_cases hi' : i = j - 1
    ·rw [hi', show lo + (j - 1) = lo + j - 1 by omega]; exact hup
    ·have := hs' i (j - 1) (by omega) (by omega)
     rw [show lo + (j - 1) = lo + j - 1 by omega] at this
     exact hB.tr O (by omega) (by omega) (by omega) this hup
theorem ZAn {xs : Array Keyed} {i j : Nat} (hj : j <= xs.size) (k : Nat) : G (mirror xs i j ((j - i) / 2)) k = if i <= k /\ k < j then G xs (i + j - 1 - k) else G xs k := by
 have := getElem?_mirror_all (i := i) hj k
 by_cases c : i <= k /\ k < j
 ·rw [if_pos c] at this ⊢; exact ZAm this
 ·rw [if_neg c] at this ⊢; exact ZAm this
def ZCP (C : Cmp) (xs : Array Keyed) (lo n : Nat) : Prop := ∀ i j, i < j -> j < n -> C (G xs (lo + j)) (G xs (lo + i)) = true
def Blw (lo : Nat) (xs ys : Array Keyed) : Prop := ∀ k, k < lo -> G xs k = G ys k
theorem ZFd (O : YN C a₀) (L : Ys prog w A E s kd a₀ C) {st : SortSt} {lo n nrem : Nat} {Q : Option Nat -> SortSt -> Prop} (hn : lo + nrem <= a₀.size) (h1 : 1 <= n) (hnn : n <= nrem) (hB : TB kd a₀ st) (hs : ZCP C (arrOf st) lo n)
  (h : ∀ m xs, TB kd a₀ (setArr st xs) -> Blw lo xs (arrOf st) -> 1 <= m -> m <= nrem -> Sg C xs lo m -> Q (some m) (setArr st xs)) : wpS (model prog w) A E s (ZA5 lo n nrem) Q st := by
 unfold ZA5
 have hsz : lo + n <= (arrOf st).size := by rw [hB.size]; omega
 refine wpS_bind (wpS_reverse ?_)
 have hB' : TB kd a₀ (setArr st (mirror (arrOf st) lo (lo + n) ((lo + n - lo) / 2))) := hB.setArr (mirror_perm _ _ _ _)
 refine wpS_bind (ZC2 O L hn h1 hnn hB' ?_ fun m hm1 hm2 hsm _ => wpS_pure (h m _ hB' (fun k hk => ?_) (by omega) hm2 hsm))
 ·intro i j hij hj
  show C (G (mirror (arrOf st) lo (lo + n) ((lo + n - lo) / 2)) (lo + i)) (G (mirror (arrOf st) lo (lo + n) ((lo + n - lo) / 2)) (lo + j)) = true
  rw [ZAn hsz, ZAn hsz, if_pos (by omega), if_pos (by omega)]
  have := hs (n - 1 - j) (n - 1 - i) (by omega) (by omega)
  rw [show lo + (n - 1 - i) = lo + (lo + n) - 1 - (lo + i) by omega, show lo + (n - 1 - j) = lo + (lo + n) - 1 - (lo + j) by omega] at this
  exact this
 ·rw [ZAn hsz, if_neg (by omega)]
theorem ZFe (O : YN C a₀) (L : Ys prog w A E s kd a₀ C) {st : SortSt} {lo n nrem : Nat} {Q : DescSt -> SortSt -> Prop} (hn : lo + nrem <= a₀.size) (h1 : 1 <= n) (hnn : n <= nrem) (hB : TB kd a₀ st) (hs : ZCP C (arrOf st) lo n)
  (h : ∀ m, n <= m -> m <= nrem -> ZCP C (arrOf st) lo m -> Q (none, m, 0) st) : wpS (model prog w) A E s (ZBr lo n nrem) Q st := by
 unfold ZBr
 refine wpS_forRange (I := fun x c st' => st' = st /\ c = (none, x, 0) /\ ZCP C (arrOf st) lo x) ?step ?fin ⟨rfl, rfl, hs⟩
 case fin =>
  rintro c st' ⟨rfl, rfl, hs'⟩
  rw [show max n nrem = nrem by omega] at hs' ⊢
  exact h nrem hnn (Ud _) hs'
 case step =>
  rintro x c st' hax hxn ⟨rfl, rfl, hs'⟩
  dsimp only
  refine wpS_bind (Jp L hB (by omega) (by omega) ?_)
  cases hless : C (G (arrOf st') (lo + x)) (G (arrOf st') (lo + x - 1))
  case true =>
   simp only [if_true]
   rw [if_neg (by omega)]
   refine wpS_pure ⟨rfl, rfl, fun i j hij hj => ?_⟩
   by_cases hjx : j < x
   ·exact hs' i j hij hjx
   ·have hj' : j = x := by omega
    subst hj'
    by_cases hi' : i = j - 1
    ·rw [hi', show lo + (j - 1) = lo + j - 1 by omega]; exact hless
    ·have := hs' i (j - 1) (by omega) (by omega)
     rw [show lo + (j - 1) = lo + j - 1 by omega] at this
     exact hB.tr O (by omega) (by omega) (by omega) hless this
  case false =>
   simp only [Uk, if_false]
   refine wpS_bind (Jp L hB (by omega) (by omega) ?_)
   rw [hB.tot O (i := lo + x) (j := lo + x - 1) (by omega) (by omega) (by omega) hless]
   simp only [if_true]
   exact wpS_pure (h x hax (by omega) hs')
theorem ZEe (O : YN C a₀) (L : Ys prog w A E s kd a₀ C) {st : SortSt} {lo n nrem : Nat} {Q : Option Nat -> SortSt -> Prop} (hn : lo + nrem <= a₀.size) (hnn : n + 1 <= nrem) (hB : TB kd a₀ st) (hs : ZCP C (arrOf st) lo (n + 1))
  (h : ∀ m xs, TB kd a₀ (setArr st xs) -> Blw lo xs (arrOf st) -> 1 <= m -> m <= nrem -> Sg C xs lo m -> Q (some m) (setArr st xs)) : wpS (model prog w) A E s (ZAI lo n nrem) Q st := by
 unfold ZAI
 refine wpS_bind (wpS_lift (wpAny_rule ⟨rfl, ?_⟩))
 refine wpS_bind (ZFe O L hn (by omega) hnn hB hs fun m h1 h2 hm => ?_)
 dsimp only
 rw [if_neg (by omega)]
 exact ZFd O L hn (by omega) h2 hB hm h
theorem ZDm (O : YN C a₀) (L : Ys prog w A E s kd a₀ C) {st : SortSt} {lo nrem : Nat} {Q : Option Nat -> SortSt -> Prop} (hn : lo + nrem <= a₀.size) (h1 : 1 <= nrem) (hB : TB kd a₀ st)
  (h : ∀ m xs, TB kd a₀ (setArr st xs) -> Blw lo xs (arrOf st) -> 1 <= m -> m <= nrem -> Sg C xs lo m -> Q (some m) (setArr st xs)) : wpS (model prog w) A E s (countRun' lo nrem) Q st := by
 rw [ZCO]
 have h0 : ∀ m, 1 <= m -> m <= nrem -> Sg C (arrOf st) lo m -> Q (some m) st := fun m g1 g2 g3 => h m (arrOf st) hB (fun _ _ => rfl) g1 g2 g3
 refine wpS_bind (ZC2 O L hn (Ud _) h1 hB (fun i j hij hj => by omega) fun n hn1 hn2 hsn hend => ?_)
 dsimp only
 by_cases e : n = nrem
 ·rw [if_pos (by simpa using e)]
  exact wpS_pure (h0 n hn1 hn2 hsn)
 ·rw [if_neg (by simpa using e)]
  have hlt := hend.resolve_left e
  by_cases c : n > 1
  ·rw [if_pos c]
   refine wpS_bind (Jp L hB (by omega) (by omega) ?_)
   have := hsn 0 (n - 1) (by omega) (by omega)
   rw [show lo + 0 = lo by omega, show lo + (n - 1) = lo + n - 1 by omega] at this
   rw [this]
   simp only [if_true]
   exact wpS_pure (h0 n hn1 hn2 hsn)
  ·rw [if_neg c]
   obtain rfl : n = 1 := by omega
   refine ZEe O L hn (by omega) hB (fun i j hij hj => ?_) h
   obtain ⟨rfl, rfl⟩ : i = 0 /\ j = 1 := by omega
   exact hlt
theorem ZAo {xs : Array Keyed} {src d : Nat} (hs : src < xs.size) (hd : d <= src) (k : Nat) : G (bubble xs src d) k = if k = src - d then G xs src else if src - d < k /\ k <= src then G xs (k - 1) else G xs k := by
 have := getElem?_bubble hs d hd k
 by_cases c : k = src - d
 ·rw [if_pos c] at this ⊢; exact ZAm this
 ·rw [if_neg c] at this ⊢
  by_cases c2 : src - d < k /\ k <= src
  ·rw [if_pos c2] at this ⊢; exact ZAm this
  ·rw [if_neg c2] at this ⊢; exact ZAm this
theorem ZFf (O : YN C a₀) (L : Ys prog w A E s kd a₀ C) {st : SortSt} {lo n ok : Nat} {Q : Bool -> SortSt -> Prop} (hn : lo + n <= a₀.size) (h1 : 1 <= ok) (hok : ok <= n) (hB : TB kd a₀ st) (hs : Sg C (arrOf st) lo ok)
  (h : ∀ xs, TB kd a₀ (setArr st xs) -> Blw lo xs (arrOf st) -> Sg C xs lo n -> Q true (setArr st xs)) : wpS (model prog w) A E s (binarySort' lo n ok) Q st := by
 rw [binarySort'_eq]
 refine wpS_bind (wpS_mono (wpS_forRange (I := fun k c st' => c = (none, ()) /\ ∃ xs, st' = setArr st xs /\ TB kd a₀ st' /\ Blw lo xs (arrOf st) /\ Sg C xs lo (min k n))
  (Q := fun c st' => c = (none, ()) /\ ∃ xs, st' = setArr st xs /\ TB kd a₀ st' /\ Blw lo xs (arrOf st) /\ Sg C xs lo n) ?step ?fin ?init) ?post)
 case post =>
  rintro c st' ⟨rfl, xs, rfl, hB', hb, hs'⟩
  exact wpS_pure (h xs hB' hb hs')
 case init =>
  refine ⟨rfl, arrOf st, rfl, hB, fun _ _ => rfl, fun i j hij hj => hs i j hij (by omega)⟩
 case fin =>
  rintro c st' ⟨hc, xs, e, hB', hb, hs'⟩
  refine ⟨hc, xs, e, hB', hb, ?_⟩
  rwa [show min (max (max ok 1) n) n = n by omega] at hs'
 case step =>
  rintro k c st' hak hkn ⟨rfl, xs, rfl, hB', hb, hs'⟩
  rw [show min k n = k by omega] at hs'
  refine wpS_bind (wpS_mono (wpS_forRange (I := fun x c st'' => st'' = setArr st xs /\ ∃ l r, c = (none, l, r) /\ l <= r /\ r <= k /\ r - l <= k - x /\
    (∀ i, i < l -> C (G xs (lo + i)) (G xs (lo + k)) = true) /\ (∀ i, r <= i -> i < k -> C (G xs (lo + k)) (G xs (lo + i)) = true))
   (Q := fun c st'' => st'' = setArr st xs /\ ∃ l r, c = (none, l, r) /\ l <= k /\
    (∀ i, i < l -> C (G xs (lo + i)) (G xs (lo + k)) = true) /\ (∀ i, l <= i -> i < k -> C (G xs (lo + k)) (G xs (lo + i)) = true)) ?istep ?ifin ?iinit) ?ipost)
  case iinit => exact ⟨rfl, 0, k, rfl, by omega, by omega, by omega, fun i hi => by omega, fun i h1 h2 => by omega⟩
  case ifin =>
   rintro c st'' ⟨rfl, l, r, rfl, hlr, hrk, hm, hlo, hhi⟩
   have : l = r := by omega
   subst this
   exact ⟨rfl, l, l, rfl, hrk, hlo, hhi⟩
  case istep =>
   rintro x c st'' _ hxk ⟨rfl, l, r, rfl, hlr, hrk, hm, hlo, hhi⟩
   dsimp only
   by_cases hge : l >= r
   ·rw [if_pos hge]
    have : l = r := by omega
    subst this
    exact wpS_pure ⟨rfl, l, l, rfl, hrk, hlo, hhi⟩
   ·rw [if_neg hge]
    refine wpS_bind (Jp L hB' (by omega) (by omega) ?_)
    cases hless : C (G (arrOf (setArr st xs)) (lo + k)) (G (arrOf (setArr st xs)) (lo + (l + r) / 2))
    case true =>
     simp only [if_true]
     refine wpS_pure ⟨rfl, l, (l + r) / 2, rfl, by omega, by omega, by omega, hlo, fun i h1 h2 => ?_⟩
     by_cases e : i = (l + r) / 2
     ·rw [e]; exact hless
     ·exact hB'.tr O (i := lo + k) (j := lo + (l + r) / 2) (k := lo + i) (by omega) (by omega) (by omega) hless (hs' _ _ (by omega) h2)
    case false =>
     simp only [Uk, if_false]
     have hup := hB'.tot O (i := lo + k) (j := lo + (l + r) / 2) (by omega) (by omega) (by omega) hless
     refine wpS_pure ⟨rfl, (l + r) / 2 + 1, r, rfl, by omega, by omega, by omega, fun i hi => ?_, hhi⟩
     by_cases e : i = (l + r) / 2
     ·rw [e]; exact hup
     ·exact hB'.tr O (i := lo + i) (j := lo + (l + r) / 2) (k := lo + k) (by omega) (by omega) (by omega) (hs' _ _ (by omega) (by omega)) hup
  case ipost =>
   rintro c st'' ⟨rfl, l, r, rfl, hlk, hlo, hhi⟩
   dsimp only
   rw [moveDown'_eq]
   have hsz : lo + k < (arrOf (setArr st xs)).size := by rw [hB'.size]; omega
   have hd : lo + k - (lo + l) <= lo + k := by omega
   refine wpS_bind (wpS_modify (wpS_pure ⟨rfl, bubble xs (lo + k) (lo + k - (lo + l)), rfl, hB'.setArr (bubble_perm _ _ _), fun m hm => ?_, fun i j hij hj => ?_⟩))
   ·rw [ZAo hsz hd, if_neg (by omega), if_neg (by omega)]
    exact hb m hm
   ·rw [show min (k + 1) n = k + 1 by omega] at hj
    rw [ZAo hsz hd, ZAo hsz hd, show lo + k - (lo + k - (lo + l)) = lo + l by omega]
    by_cases ci : i < l
    ·rw [if_neg (by omega), if_neg (by omega)]
     by_cases cj : j < l
     ·rw [if_neg (by omega), if_neg (by omega)]; exact hs' i j hij (by omega)
     ·by_cases cj2 : j = l
      ·rw [if_pos (by omega)]; exact hlo i ci
      ·rw [if_neg (by omega), if_pos (by omega), show lo + j - 1 = lo + (j - 1) by omega]
       exact hs' i (j - 1) (by omega) (by omega)
    ·by_cases ci2 : i = l
     ·rw [if_pos (by omega), if_neg (by omega), if_pos (by omega), show lo + j - 1 = lo + (j - 1) by omega]
      exact hhi (j - 1) (by omega) (by omega)
     ·rw [if_neg (by omega), if_pos (by omega), if_neg (by omega), if_pos (by omega), show lo + i - 1 = lo + (i - 1) by omega, show lo + j - 1 = lo + (j - 1) by omega]
      exact hs' (i - 1) (j - 1) (by omega) (by omega)
end
def JM : Bool -> Keyed -> Array Keyed -> Nat -> Nat -> Nat -> StateT SortSt Sem (Option Nat) := sortPriv% PySem.Builtin.gallop
def Y4 (left : Bool) (key : Keyed) (arr : Array Keyed) (base i : Nat) : StateT SortSt Sem (Option Bool) := do
 let x <- elem' arr (base + i)
 if left then lt' x key else return (<- lt' key x).map (!·)
def ZCQ (left : Bool) (key : Keyed) (arr : Array Keyed) (base n hint : Nat) : StateT SortSt Sem (Option (Option Nat) × Nat × Nat) :=
 forIn [0:n] ((none, 0, 1) : Option (Option Nat) × Nat × Nat) fun _ s =>
  if s.2.2 >= n - hint then pure (ForInStep.done (none, s.2.1, s.2.2)) else do
   let x <- Y4 left key arr base (hint + s.2.2)
   match x with
   | some more => if (!more) = true then pure (ForInStep.done (none, s.2.1, s.2.2)) else pure (ForInStep.yield (none, s.2.2, 2 * s.2.2 + 1))
   | _ => pure (ForInStep.done (some none, s.2.1, s.2.2))
def ZCR (left : Bool) (key : Keyed) (arr : Array Keyed) (base n hint : Nat) : StateT SortSt Sem (Option (Option Nat) × Nat × Nat) :=
 forIn [0:n] ((none, 0, 1) : Option (Option Nat) × Nat × Nat) fun _ s =>
  if s.2.2 >= hint + 1 then pure (ForInStep.done (none, s.2.1, s.2.2)) else do
   let x <- Y4 left key arr base (hint - s.2.2)
   match x with
   | some found => if found = true then pure (ForInStep.done (none, s.2.1, s.2.2)) else pure (ForInStep.yield (none, s.2.2, 2 * s.2.2 + 1))
   | _ => pure (ForInStep.done (some none, s.2.1, s.2.2))
def ZA6 (left : Bool) (key : Keyed) (arr : Array Keyed) (base n lo hi : Nat) : StateT SortSt Sem (Option (Option Nat) × Nat × Nat) :=
 forIn [0:n] ((none, lo, hi) : Option (Option Nat) × Nat × Nat) fun _ s =>
  if s.2.1 >= s.2.2 then pure (ForInStep.done (none, s.2.1, s.2.2)) else do
   let x <- Y4 left key arr base (s.2.1 + (s.2.2 - s.2.1) / 2)
   match x with
   | some more => if more = true then pure (ForInStep.yield (none, s.2.1 + (s.2.2 - s.2.1) / 2 + 1, s.2.2)) else pure (ForInStep.yield (none, s.2.1, s.2.1 + (s.2.2 - s.2.1) / 2))
   | _ => pure (ForInStep.done (some none, s.2.1, s.2.2))
def ZBI (left : Bool) (key : Keyed) (arr : Array Keyed) (base n lo hi : Nat) : StateT SortSt Sem (Option Nat) := do
 let s <- ZA6 left key arr base n lo hi
 match s.1 with
 | some r => pure r
 | none => pure (some s.2.2)
theorem ZDn (left : Bool) (key : Keyed) (arr : Array Keyed) (base n hint : Nat) : JM left key arr base n hint = (do
 let x <- Y4 left key arr base hint
 match x with
 | some right =>
  if right = true then do
   let s <- ZCQ left key arr base n hint
   match s.1 with
   | some r => pure r
   | none => ZBI left key arr base n (hint + s.2.1 + 1) (hint + min s.2.2 (n - hint))
  else do
   let s <- ZCR left key arr base n hint
   match s.1 with
   | some r => pure r
   | none => ZBI left key arr base n (hint + 1 - min s.2.2 (hint + 1)) (hint - s.2.1)
 | _ => pure none) := by
 refine congrArg (Bind.bind (Y4 left key arr base hint)) (funext fun x => ?_)
 cases x with
 | none => rfl
 | some right =>
  dsimp only
  cases right with
  | true =>
   rw [if_pos rfl, if_pos rfl]
   unfold ZCQ
   refine congrArg (Bind.bind _) (funext fun s => ?_)
   obtain ⟨r, l, o⟩ := s
   cases r with
   | some r => rfl
   | none =>
    dsimp only
    unfold ZBI ZA6
    refine congrArg (Bind.bind _) (funext fun s => ?_)
    obtain ⟨r, l, o⟩ := s
    cases r <;> rfl
  | false =>
   rw [if_neg (by decide), if_neg (by decide)]
   unfold ZCR
   refine congrArg (Bind.bind _) (funext fun s => ?_)
   obtain ⟨r, l, o⟩ := s
   cases r with
   | some r => rfl
   | none =>
    dsimp only
    unfold ZBI ZA6
    refine congrArg (Bind.bind _) (funext fun s => ?_)
    obtain ⟨r, l, o⟩ := s
    cases r <;> rfl
section
variable {prog : Program} {w : World} {A : Around} {E : Value -> Shared -> Prop} {s : Shared} {kd : SortKind} {st : SortSt} {left : Bool} {key : Keyed} {arr : Array Keyed} {base n : Nat} {P : Nat -> Bool}
def ZDo (prog : Program) (w : World) (A : Around) (E : Value -> Shared -> Prop) (s : Shared) (st : SortSt) (left : Bool) (key : Keyed) (arr : Array Keyed) (base n : Nat) (P : Nat -> Bool) : Prop := ∀ i, i < n -> ∀ (Q : Option Bool -> SortSt -> Prop), Q (some (P i)) st -> wpS (model prog w) A E s (Y4 left key arr base i) Q st
theorem ZCS {lo hi : Nat} {Q : Option Nat -> SortSt -> Prop} (B : ZDo prog w A E s st left key arr base n P) (mono : ∀ i j, i <= j -> j < n -> P j = true -> P i = true) (hlh : lo <= hi) (hn : hi <= n) (h1 : ∀ i, i < lo -> P i = true) (h2 : ∀ i, hi <= i -> i < n -> P i = false)
  (h : ∀ r, r <= n -> (∀ i, i < r -> P i = true) -> (∀ i, r <= i -> i < n -> P i = false) -> Q (some r) st) : wpS (model prog w) A E s (ZBI left key arr base n lo hi) Q st := by
 unfold ZBI ZA6
 refine wpS_bind (wpS_mono (wpS_forRange (I := fun x c st' => st' = st /\ ∃ l r, c = (none, l, r) /\ l <= r /\ r <= n /\ r - l <= n - x /\ (∀ i, i < l -> P i = true) /\ (∀ i, r <= i -> i < n -> P i = false))
  (Q := fun c st' => st' = st /\ ∃ r, c = (none, r, r) /\ r <= n /\ (∀ i, i < r -> P i = true) /\ (∀ i, r <= i -> i < n -> P i = false)) ?step ?fin ⟨rfl, lo, hi, rfl, hlh, hn, by omega, h1, h2⟩) ?post)
 case post =>
  rintro c st' ⟨rfl, r, rfl, hr, g1, g2⟩
  exact wpS_pure (h r hr g1 g2)
 case fin =>
  rintro c st' ⟨rfl, l, r, rfl, hlr, hr, hm, g1, g2⟩
  obtain rfl : l = r := by omega
  exact ⟨rfl, l, rfl, hr, g1, g2⟩
 case step =>
  rintro x c st' _ hx ⟨rfl, l, r, rfl, hlr, hr, hm, g1, g2⟩
  dsimp only
  by_cases c : l >= r
  ·rw [if_pos c]
   obtain rfl : l = r := by omega
   exact wpS_pure ⟨rfl, l, rfl, hr, g1, g2⟩
  ·rw [if_neg c]
   refine wpS_bind (B _ (by omega) _ ?_)
   cases hp : P (l + (r - l) / 2)
   case true =>
    simp only [if_true]
    refine wpS_pure ⟨rfl, _, _, rfl, by omega, by omega, by omega, fun i hi => ?_, g2⟩
    exact mono i _ (by omega) (by omega) hp
   case false =>
    simp only [Uk, if_false]
    refine wpS_pure ⟨rfl, _, _, rfl, by omega, by omega, by omega, g1, fun i hi hin => ?_⟩
    cases hpi : P i with
    | false => rfl
    | true => rw [mono _ i hi hin hpi] at hp; cases hp
theorem JN {hint : Nat} {Q : Option Nat -> SortSt -> Prop} (B : ZDo prog w A E s st left key arr base n P) (mono : ∀ i j, i <= j -> j < n -> P j = true -> P i = true) (hh : hint < n)
  (h : ∀ r, r <= n -> (∀ i, i < r -> P i = true) -> (∀ i, r <= i -> i < n -> P i = false) -> Q (some r) st) : wpS (model prog w) A E s (JM left key arr base n hint) Q st := by
 rw [ZDn]
 have fls : ∀ {j}, P j = false -> ∀ i, j <= i -> i < n -> P i = false := fun {j} hj i hji hin => by
  cases hpi : P i with
  | false => rfl
  | true => rw [mono _ i hji hin hpi] at hj; cases hj
 refine wpS_bind (B _ hh _ ?_)
 cases hp : P hint
 case true =>
  dsimp only
  rw [if_pos rfl]
  unfold ZCQ
  refine wpS_bind (wpS_mono (wpS_forRange (I := fun x c st' => st' = st /\ ∃ l o, c = (none, l, o) /\ l < o /\ hint + l < n /\ x + 1 <= o /\ P (hint + l) = true)
   (Q := fun c st' => st' = st /\ ∃ l o, c = (none, l, o) /\ l < o /\ hint + l < n /\ P (hint + l) = true /\ (n - hint <= o \/ (hint + o < n /\ P (hint + o) = false))) ?step ?fin ⟨rfl, 0, 1, rfl, by omega, by omega, by omega, hp⟩) ?post)
  case post =>
   rintro c st' ⟨rfl, l, o, rfl, hlo, hl, hpl, hend⟩
   dsimp only
   refine ZCS B mono (by omega) (by omega) (fun i hi => mono i _ (by omega) hl hpl) (fun i hi hin => ?_) h
   rcases hend with he | ⟨he1, he2⟩
   ·omega
   ·exact fls he2 i (by omega) hin
  case fin =>
   rintro c st' ⟨rfl, l, o, rfl, hlo, hl, hx, hpl⟩
   exact ⟨rfl, l, o, rfl, hlo, hl, hpl, .inl (by omega)⟩
  case step =>
   rintro x c st' _ hx ⟨rfl, l, o, rfl, hlo, hl, hxo, hpl⟩
   dsimp only
   by_cases c : o >= n - hint
   ·rw [if_pos c]
    exact wpS_pure ⟨rfl, l, o, rfl, hlo, hl, hpl, .inl c⟩
   ·rw [if_neg c]
    refine wpS_bind (B _ (by omega) _ ?_)
    cases hpo : P (hint + o)
    case true =>
     simp only [Bool.not_true, Uk, if_false]
     exact wpS_pure ⟨rfl, o, _, rfl, by omega, by omega, by omega, hpo⟩
    case false =>
     simp only [Bool.not_false, if_true]
     exact wpS_pure ⟨rfl, l, o, rfl, hlo, hl, hpl, .inr ⟨by omega, hpo⟩⟩
 case false =>
  dsimp only
  rw [if_neg (by decide)]
  unfold ZCR
  refine wpS_bind (wpS_mono (wpS_forRange (I := fun x c st' => st' = st /\ ∃ l o, c = (none, l, o) /\ l < o /\ l <= hint /\ x + 1 <= o /\ P (hint - l) = false)
   (Q := fun c st' => st' = st /\ ∃ l o, c = (none, l, o) /\ l < o /\ l <= hint /\ P (hint - l) = false /\ (hint + 1 <= o \/ (o <= hint /\ P (hint - o) = true))) ?step ?fin ⟨rfl, 0, 1, rfl, by omega, by omega, by omega, hp⟩) ?post)
  case post =>
   rintro c st' ⟨rfl, l, o, rfl, hlo, hl, hpl, hend⟩
   dsimp only
   refine ZCS B mono (by omega) (by omega) (fun i hi => ?_) (fun i hi hin => fls hpl i (by omega) hin) h
   rcases hend with he | ⟨he1, he2⟩
   ·omega
   ·exact mono i _ (by omega) (by omega) he2
  case fin =>
   rintro c st' ⟨rfl, l, o, rfl, hlo, hl, hx, hpl⟩
   exact ⟨rfl, l, o, rfl, hlo, hl, hpl, .inl (by omega)⟩
  case step =>
   rintro x c st' _ hx ⟨rfl, l, o, rfl, hlo, hl, hxo, hpl⟩
   dsimp only
   by_cases c : o >= hint + 1
   ·rw [if_pos c]
    exact wpS_pure ⟨rfl, l, o, rfl, hlo, hl, hpl, .inl c⟩
   ·rw [if_neg c]
    refine wpS_bind (B _ (by omega) _ ?_)
    cases hpo : P (hint - o)
    case true =>
     simp only [if_true]
     exact wpS_pure ⟨rfl, l, o, rfl, hlo, hl, hpl, .inr ⟨by omega, hpo⟩⟩
    case false =>
     simp only [Uk, if_false]
     exact wpS_pure ⟨rfl, o, _, rfl, by omega, by omega, by omega, hpo⟩
end
def ZAS : Nat -> StateT SortSt Sem Unit := sortPriv% PySem.Builtin.setMinGallop
abbrev YD (st : SortSt) (g : Nat) : SortSt := SortSt.mk' (kindOf st) (arrOf st) (pendingOf st) g (failedOf st)
theorem Jz (g : Nat) : ZAS g = modify fun s => YD s g := rfl
theorem ZA7 {prog : Program} {w : World} {A : Around} {E : Value -> Shared -> Prop} {s : Shared} {st : SortSt} {g : Nat} {Q : Unit -> SortSt -> Prop} (h : Q () (YD st g)) : wpS (model prog w) A E s (ZAS g) Q st := by rw [Jz]; exact wpS_modify h
def ZFg : Array Keyed -> Array Keyed -> StateT SortSt Sem (Array Keyed) := sortPriv% PySem.Builtin.mergeLo
def MI (C : Cmp) (la lb o : List Keyed) (ia ib : Nat) : Prop := o.Perm (la.take ia ++ lb.take ib) /\ o.Pairwise (fun x y => C x y = true) /\ ∀ x ∈ o, (∀ y ∈ la.drop ia, C x y = true) /\ ∀ y ∈ lb.drop ib, C x y = true
section
variable {C : Cmp} {la lb o : List Keyed} {ia ib : Nat}
theorem MI.symm (h : MI C la lb o ia ib) : MI C lb la o ib ia := ⟨h.1.trans List.perm_append_comm, h.2.1, fun x hx => ⟨(h.2.2 x hx).2, (h.2.2 x hx).1⟩⟩
theorem MI.seg (h : MI C la lb o ia ib) (sa : la.Pairwise fun x y => C x y = true) {k : Nat} (hc : ∀ x ∈ (la.drop ia).take k, ∀ y ∈ lb.drop ib, C x y = true) : MI C la lb (o ++ (la.drop ia).take k) (ia + k) ib := by
 have e : la.take (ia + k) = la.take ia ++ (la.drop ia).take k := by rw [List.take_add]
 have ed : la.drop ia = (la.drop ia).take k ++ la.drop (ia + k) := by rw [<- List.drop_drop, List.take_append_drop]
 have sd : (la.drop ia).Pairwise fun x y => C x y = true := sa.sublist (List.drop_sublist _ _)
 have sd2 := sd
 rw [ed, List.pairwise_append] at sd2
 refine ⟨?_, ?_, fun x hx => ?_⟩
 ·rw [e]
  refine (h.1.append_right _).trans ?_
  rw [UR, UR]
  exact List.Perm.append_left _ List.perm_append_comm
 ·rw [List.pairwise_append]
  exact ⟨h.2.1, sd2.1, fun x hx y hy => (h.2.2 x hx).1 y (List.mem_of_mem_take hy)⟩
 ·rcases UT.mp hx with hx | hx
  ·exact ⟨fun y hy => (h.2.2 x hx).1 y (by rw [ed]; exact Um _ hy), (h.2.2 x hx).2⟩
  ·exact ⟨fun y hy => sd2.2.2 x hx y hy, hc x hx⟩
theorem MI.doneB (h : MI C la lb o ia lb.length) (sa : la.Pairwise fun x y => C x y = true) : (o ++ la.drop ia).Perm (la ++ lb) /\ (o ++ la.drop ia).Pairwise fun x y => C x y = true := by
 have := h.seg sa (k := (la.drop ia).length) (fun x _ y hy => by rw [List.drop_length] at hy; cases hy)
 rw [List.take_length] at this
 refine ⟨?_, this.2.1⟩
 have h1 := this.1
 rw [List.take_length, List.length_drop] at h1
 by_cases c : ia <= la.length
 ·rw [show ia + (la.length - ia) = la.length by omega, List.take_length] at h1
  exact h1
 ·rw [List.take_of_length_le (by omega)] at h1
  exact h1
theorem MI.lastA (O : ∀ x y z, C x y = true -> C y z = true -> C x z = true) (h : MI C la lb o ia ib) (sb : lb.Pairwise fun x y => C x y = true) (sa : la.Pairwise fun x y => C x y = true) (hl : ∀ y ∈ lb, ∀ x ∈ la.drop ia, C y x = true) : (o ++ lb.drop ib ++ la.drop ia).Perm (la ++ lb) /\ (o ++ lb.drop ib ++ la.drop ia).Pairwise fun x y => C x y = true := by
 have h1 := h.symm.seg sb (k := (lb.drop ib).length) (fun x hx y hy => hl x (List.mem_of_mem_drop (List.mem_of_mem_take hx)) y hy)
 rw [List.take_length, List.length_drop] at h1
 have h2 : MI C lb la (o ++ lb.drop ib) lb.length ia := by
  by_cases c : ib <= lb.length
  ·rw [show ib + (lb.length - ib) = lb.length by omega] at h1
   exact h1
  ·refine ⟨?_, h1.2.1, fun x hx => ⟨(fun y hy => by rw [List.drop_length] at hy; cases hy), (h1.2.2 x hx).2⟩⟩
   have := h1.1
   rw [List.take_of_length_le (by omega)] at this
   rw [List.take_length]
   exact this
 have h3 := h2.symm.doneB sa
 exact h3
end
theorem ZEf {xs : Array Keyed} {i : Nat} (h : i < xs.size) : xs.toList.drop i = G xs i :: xs.toList.drop (i + 1) := by
 have h' : i < xs.toList.length := by rw [Ug]; exact h
 rw [List.drop_eq_getElem_cons h']
 congr 1
 simp [G, Array.getD, h]
theorem J5 {xs : Array Keyed} {i : Nat} (h : i < xs.size) : (xs.toList.drop i).take 1 = [G xs i] := by rw [ZEf h]; rfl
theorem JT {xs : Array Keyed} {i : Nat} {x : Keyed} (h : x ∈ xs.toList.drop i) : ∃ j, i <= j /\ j < xs.size /\ x = G xs j := by
 obtain ⟨k, hk, e⟩ := UM h
 rw [List.length_drop, Ug] at hk
 refine ⟨i + k, by omega, by omega, ?_⟩
 rw [<- e]
 simp [G, Array.getD, show i + k < xs.size by omega]
theorem ZA8 {xs : Array Keyed} {i k : Nat} {x : Keyed} (h : x ∈ (xs.toList.drop i).take k) : ∃ j, j < k /\ i + j < xs.size /\ x = G xs (i + j) := by
 obtain ⟨j, hj, e⟩ := UM h
 rw [UO, List.length_drop, Ug] at hj
 refine ⟨j, by omega, by omega, ?_⟩
 rw [<- e]
 simp [G, Array.getD, show i + j < xs.size by omega]
theorem Yc {xs : Array Keyed} {i : Nat} (h : i < xs.size) : G xs i ∈ xs.toList := by
 have := ZAl h
 exact Array.mem_toList_iff.mpr (Array.mem_of_getElem? this)
theorem Jf {C : Cmp} {xs : Array Keyed} (h : xs.toList.Pairwise fun x y => C x y = true) {i j : Nat} (hij : i < j) (hj : j < xs.size) : C (G xs i) (G xs j) = true := by
 have := Ux.mp h i j (by rw [Ug]; omega) (by rw [Ug]; omega) hij
 simpa [G, Array.getD, hj, show i < xs.size by omega] using this
structure MP (C : Cmp) (a₀ a b : Array Keyed) : Prop where
 ma : ∀ x ∈ a.toList, x ∈ a₀.toList
 mb : ∀ x ∈ b.toList, x ∈ a₀.toList
 ne : ∀ x ∈ a.toList, ∀ y ∈ b.toList, x ≠ y
 sa : a.toList.Pairwise fun x y => C x y = true
 sb : b.toList.Pairwise fun x y => C x y = true
 a1 : 1 <= a.size
 b1 : 1 <= b.size
 h0 : C (G b 0) (G a 0) = true
 hl : C (G b (b.size - 1)) (G a (a.size - 1)) = true
def MOk (C : Cmp) (a b r : Array Keyed) : Prop := r.toList.Perm (a.toList ++ b.toList) /\ r.toList.Pairwise fun x y => C x y = true
section
variable {prog : Program} {w : World} {A : Around} {E : Value -> Shared -> Prop} {s : Shared} {kd : SortKind} {a₀ a b : Array Keyed} {C : Cmp} {st : SortSt}
theorem MP.last (O : YN C a₀) (M : MP C a₀ a b) {j : Nat} (hj : j < b.size) : C (G b j) (G a (a.size - 1)) = true := by
 by_cases c : j = b.size - 1
 ·rw [c]; exact M.hl
 ·exact O.tr _ _ _ (Jf M.sb (by omega) (by omega)) M.hl
theorem ZFh (L : Ys prog w A E s kd a₀ C) (hk : kindOf st = kd) {key : Keyed} {arr : Array Keyed} {base n : Nat} (hkey : key ∈ a₀.toList) (harr : ∀ x ∈ arr.toList, x ∈ a₀.toList) (hn : base + n <= arr.size) : ZDo prog w A E s st false key arr base n (fun i => !C key (G arr (base + i))) := fun i hi Q h => by
 unfold Y4
 rw [elem'_eq, ZAl (xs := arr) (i := base + i) (by omega)]
 refine wpS_bind (wpS_pure ?_)
 simp only [Uk, if_false]
 refine wpS_bind (L _ hkey _ (harr _ (Yc (by omega))) st _ hk ?_)
 exact wpS_pure h
theorem ZFi (L : Ys prog w A E s kd a₀ C) (hk : kindOf st = kd) {key : Keyed} {arr : Array Keyed} {base n : Nat} (hkey : key ∈ a₀.toList) (harr : ∀ x ∈ arr.toList, x ∈ a₀.toList) (hn : base + n <= arr.size) : ZDo prog w A E s st true key arr base n (fun i => C (G arr (base + i)) key) := fun i hi Q h => by
 unfold Y4
 rw [elem'_eq, ZAl (xs := arr) (i := base + i) (by omega)]
 refine wpS_bind (wpS_pure ?_)
 simp only [if_true]
 exact L _ (harr _ (Yc (by omega))) _ hkey st _ hk h
theorem ZEg (O : YN C a₀) {key : Keyed} {arr : Array Keyed} {base n : Nat} (sa : arr.toList.Pairwise fun x y => C x y = true) (hn : base + n <= arr.size) : ∀ i j, i <= j -> j < n -> (!C key (G arr (base + j))) = true -> (!C key (G arr (base + i))) = true := fun i j hij hj h => by
 rw [Bool.not_eq_true'] at h ⊢
 by_cases e : i = j
 ·rw [e]; exact h
 ·cases hc : C key (G arr (base + i)) with
  | false => rfl
  | true => rw [O.tr _ _ _ hc (Jf sa (show base + i < base + j by omega) (by omega))] at h; cases h
theorem ZEh (O : YN C a₀) {key : Keyed} {arr : Array Keyed} {base n : Nat} (sa : arr.toList.Pairwise fun x y => C x y = true) (hn : base + n <= arr.size) : ∀ i j, i <= j -> j < n -> C (G arr (base + j)) key = true -> C (G arr (base + i)) key = true := fun i j hij hj h => by
 by_cases e : i = j
 ·rw [e]; exact h
 ·exact O.tr _ _ _ (Jf sa (show base + i < base + j by omega) (by omega)) h
theorem YM {arr : Array Keyed} {i : Nat} {Q : Keyed -> SortSt -> Prop} (hi : i < arr.size) (h : Q (G arr i) st) : wpS (model prog w) A E s (elem' arr i) Q st := by
 rw [elem'_eq, ZAl hi]
 exact wpS_pure h
theorem MI.pushB (O : YN C a₀) (M : MP C a₀ a b) {o : List Keyed} {ia ib : Nat} (h : MI C a.toList b.toList o ia ib) (ha : ia < a.size) (hb : ib < b.size) (hc : C (G b ib) (G a ia) = true) : MI C a.toList b.toList (o ++ [G b ib]) ia (ib + 1) := by
 have := h.symm.seg M.sb (k := 1) fun x hx y hy => by
  rw [J5 hb] at hx
  rw [List.mem_singleton.mp hx]
  obtain ⟨j, hj, hj2, rfl⟩ := JT hy
  by_cases e : j = ia
  ·rw [e]; exact hc
  ·exact O.tr _ _ _ hc (Jf M.sa (by omega) hj2)
 rw [J5 hb] at this
 exact this.symm
theorem MI.pushA (O : YN C a₀) (M : MP C a₀ a b) {o : List Keyed} {ia ib : Nat} (h : MI C a.toList b.toList o ia ib) (ha : ia < a.size) (hb : ib < b.size) (hc : C (G b ib) (G a ia) = false) : MI C a.toList b.toList (o ++ [G a ia]) (ia + 1) ib := by
 have hab : C (G a ia) (G b ib) = true := O.tot _ (M.mb _ (Yc hb)) _ (M.ma _ (Yc ha)) (fun e => M.ne _ (Yc ha) _ (Yc hb) e.symm) hc
 have := h.seg M.sa (k := 1) fun x hx y hy => by
  rw [J5 ha] at hx
  rw [List.mem_singleton.mp hx]
  obtain ⟨j, hj, hj2, rfl⟩ := JT hy
  by_cases e : j = ib
  ·rw [e]; exact hab
  ·exact O.tr _ _ _ hab (Jf M.sb (by omega) hj2)
 rw [J5 ha] at this
 exact this
theorem YT (xs : Array Keyed) (i j : Nat) : (xs.extract i j).toList = (xs.toList.drop i).take (j - i) := by rw [Array.toList_extract]
theorem Yk (xs : Array Keyed) (i : Nat) : (xs.extract i xs.size).toList = xs.toList.drop i := by
 rw [YT, List.take_of_length_le (by rw [List.length_drop, Ug]; exact Ud _)]
theorem JU (M : MP C a₀ a b) {out : Array Keyed} {ia ib : Nat} (h : MI C a.toList b.toList out.toList ia ib) (hb : ib = b.size) : MOk C a b (out ++ a.extract ia a.size ++ b.extract ib b.size) := by
 unfold MOk
 rw [Uq, Uq, Yk, Yk, hb, <- Ug, List.drop_length, List.append_nil]
 rw [hb, <- Ug] at h
 exact h.doneB M.sa
theorem JV (O : YN C a₀) (M : MP C a₀ a b) {out : Array Keyed} {ia ib : Nat} (h : MI C a.toList b.toList out.toList ia ib) (ha : ia + 1 = a.size) : MOk C a b (out ++ b.extract ib b.size ++ a.extract ia a.size) := by
 unfold MOk
 rw [Uq, Uq, Yk, Yk]
 refine h.lastA O.tr M.sb M.sa fun y hy x hx => ?_
 obtain ⟨j, hj, hj2, rfl⟩ := JT hx
 obtain ⟨i, _, hi, rfl⟩ := JT (i := 0) (x := y) (xs := b) (by simpa using hy)
 rw [show j = a.size - 1 by omega]
 exact M.last O hi
abbrev MSt := Option (Array Keyed) × Array Keyed × Nat × Nat × Nat × Nat × Nat
def gl3 (a b out : Array Keyed) (ia ib mg k k1 : Nat) : StateT SortSt Sem (ForInStep MSt) := do
 let x <- elem' a ia
 if (ia + 1 + 1 == a.size) = true then pure (.done (some (out.push x ++ b.extract ib b.size ++ a.extract (ia + 1) a.size), out.push x, ia + 1, ib, mg, k, k1))
 else if (decide (k < 7) && decide (k1 < 7)) = true then pure (.done (none, out.push x, ia + 1, ib, mg, k, k1))
 else pure (.yield (none, out.push x, ia + 1, ib, mg, k, k1))
def gl2 (a b out : Array Keyed) (ia ib mg k bc : Nat) : StateT SortSt Sem (ForInStep MSt) := do
 let y <- elem' b ib
 if (ib + 1 == b.size) = true then pure (.done (some (out.push y ++ a.extract ia a.size ++ b.extract (ib + 1) b.size), out.push y, ia, ib + 1, mg, k, bc))
 else do
  let z <- elem' a ia
  let x <- JM true z b (ib + 1) (b.size - (ib + 1)) 0
  match x with
  | some k1 =>
   if k1 > 0 then
    if (ib + 1 + k1 == b.size) = true then pure (.done (some (out.push y ++ b.extract (ib + 1) (ib + 1 + k1) ++ a.extract ia a.size ++ b.extract (ib + 1 + k1) b.size), out.push y ++ b.extract (ib + 1) (ib + 1 + k1), ia, ib + 1 + k1, mg, k, k1))
    else gl3 a b (out.push y ++ b.extract (ib + 1) (ib + 1 + k1)) ia (ib + 1 + k1) mg k k1
   else gl3 a b (out.push y) ia (ib + 1) mg k k1
  | x => pure (.done (some (out.push y ++ a.extract ia a.size ++ b.extract (ib + 1) b.size), out.push y, ia, ib + 1, mg, k, bc))
def gl1 (a b out : Array Keyed) (ia ib mg bc ac : Nat) : StateT SortSt Sem (ForInStep MSt) := do
 ZAS mg
 let y <- elem' b ib
 let x <- JM false y a ia (a.size - ia) 0
 match x with
 | some k =>
  if k > 0 then
   if (ia + k + 1 == a.size) = true then pure (.done (some (out ++ a.extract ia (ia + k) ++ b.extract ib b.size ++ a.extract (ia + k) a.size), out ++ a.extract ia (ia + k), ia + k, ib, mg, k, bc))
   else if (ia + k == a.size) = true then pure (.done (some (out ++ a.extract ia (ia + k) ++ a.extract (ia + k) a.size ++ b.extract ib b.size), out ++ a.extract ia (ia + k), ia + k, ib, mg, k, bc))
   else gl2 a b (out ++ a.extract ia (ia + k)) (ia + k) ib mg k bc
  else gl2 a b out ia ib mg k bc
 | x => pure (.done (some (out ++ a.extract ia a.size ++ b.extract ib b.size), out, ia, ib, mg, ac, bc))
theorem ZC3 (O : YN C a₀) (M : MP C a₀ a b) {T : ForInStep MSt -> SortSt -> Prop} {lo : Nat} (hd : ∀ r c, MOk C a b r -> T (.done (some r, c)) st)
  (hn : ∀ out ia ib mg k k1, MI C a.toList b.toList out.toList ia ib -> ia + 1 < a.size -> ib < b.size -> lo <= ia + ib -> T (.done (none, out, ia, ib, mg, k, k1)) st /\ T (.yield (none, out, ia, ib, mg, k, k1)) st)
  {out : Array Keyed} {ia ib mg k k1 : Nat} (hI : MI C a.toList b.toList out.toList ia ib) (h1 : ia + 1 < a.size) (h2 : ib < b.size) (h3 : lo <= ia + ib) (hc : C (G b ib) (G a ia) = false) : wpS (model prog w) A E s (gl3 a b out ia ib mg k k1) T st := by
 unfold gl3
 refine wpS_bind (YM (by omega) ?_)
 have hI3 : MI C a.toList b.toList (out.push (G a ia)).toList (ia + 1) ib := by rw [US]; exact hI.pushA O M (by omega) h2 hc
 by_cases d1 : (ia + 1 + 1 == a.size) = true
 ·rw [if_pos d1]
  exact wpS_pure (hd _ _ (JV O M hI3 (by simpa using d1)))
 ·rw [if_neg d1]
  have d1' : ia + 1 + 1 < a.size := by simp at d1; omega
  have := hn _ _ _ mg k k1 hI3 d1' h2 (by omega)
  split
  ·exact wpS_pure this.1
  ·exact wpS_pure this.2
theorem ZC4 (O : YN C a₀) (L : Ys prog w A E s kd a₀ C) (M : MP C a₀ a b) (hk : kindOf st = kd) {T : ForInStep MSt -> SortSt -> Prop} {lo : Nat} (hd : ∀ r c, MOk C a b r -> T (.done (some r, c)) st)
  (hn : ∀ out ia ib mg k k1, MI C a.toList b.toList out.toList ia ib -> ia + 1 < a.size -> ib < b.size -> lo <= ia + ib -> T (.done (none, out, ia, ib, mg, k, k1)) st /\ T (.yield (none, out, ia, ib, mg, k, k1)) st)
  {out : Array Keyed} {ia ib mg k bc : Nat} (hI : MI C a.toList b.toList out.toList ia ib) (h1 : ia + 1 < a.size) (h2 : ib < b.size) (h3 : lo <= ia + ib) (hc : C (G b ib) (G a ia) = true) : wpS (model prog w) A E s (gl2 a b out ia ib mg k bc) T st := by
 unfold gl2
 refine wpS_bind (YM h2 ?_)
 have hI2 : MI C a.toList b.toList (out.push (G b ib)).toList ia (ib + 1) := by rw [US]; exact hI.pushB O M (by omega) h2 hc
 by_cases d1 : (ib + 1 == b.size) = true
 ·rw [if_pos d1]
  exact wpS_pure (hd _ _ (JU M hI2 (by simpa using d1)))
 rw [if_neg d1]
 have d1' : ib + 1 < b.size := by simp at d1; omega
 refine wpS_bind (YM (by omega) (wpS_bind (JN (ZFi L hk (M.ma _ (Yc (by omega))) M.mb (by omega)) (ZEh O M.sb (by omega)) (by omega) fun k1 k1n t1 t2 => ?_)))
 dsimp only
 by_cases c1 : k1 > 0
 ·rw [if_pos c1]
  have hI3 : MI C a.toList b.toList (out.push (G b ib) ++ b.extract (ib + 1) (ib + 1 + k1)).toList ia (ib + 1 + k1) := by
   rw [Uq, YT, show ib + 1 + k1 - (ib + 1) = k1 by omega]
   refine (hI2.symm.seg M.sb fun x hx y hy => ?_).symm
   obtain ⟨j, hj, hj2, rfl⟩ := ZA8 hx
   obtain ⟨j', hj', hj2', rfl⟩ := JT hy
   have := t1 j hj
   by_cases e : j' = ia
   ·rw [e]; exact this
   ·exact O.tr _ _ _ this (Jf M.sa (by omega) hj2')
  by_cases d2 : (ib + 1 + k1 == b.size) = true
  ·rw [if_pos d2]
   exact wpS_pure (hd _ _ (JU M hI3 (by simpa using d2)))
  ·rw [if_neg d2]
   have d2' : ib + 1 + k1 < b.size := by simp at d2; omega
   exact ZC3 O M hd hn hI3 h1 d2' (by omega) (t2 k1 (Ud _) (by omega))
 ·rw [if_neg c1]
  have e0 : k1 = 0 := by omega
  subst e0
  exact ZC3 O M hd hn hI2 h1 d1' (by omega) (t2 0 (Ud _) (by omega))
theorem ZC5 (O : YN C a₀) (L : Ys prog w A E s kd a₀ C) (M : MP C a₀ a b) (hk : kindOf st = kd) {T : ForInStep MSt -> SortSt -> Prop} {lo : Nat} {mg : Nat} (hd : ∀ r c, MOk C a b r -> T (.done (some r, c)) (YD st mg))
  (hn : ∀ out ia ib m k k1, MI C a.toList b.toList out.toList ia ib -> ia + 1 < a.size -> ib < b.size -> lo <= ia + ib -> T (.done (none, out, ia, ib, m, k, k1)) (YD st mg) /\ T (.yield (none, out, ia, ib, m, k, k1)) (YD st mg))
  {out : Array Keyed} {ia ib bc ac : Nat} (hI : MI C a.toList b.toList out.toList ia ib) (h1 : ia + 1 < a.size) (h2 : ib < b.size) (h3 : lo <= ia + ib) : wpS (model prog w) A E s (gl1 a b out ia ib mg bc ac) T st := by
 unfold gl1
 rw [Jz]
 refine wpS_bind (wpS_modify (wpS_bind (YM h2 (wpS_bind (JN (ZFh L (st := YD st mg) hk (M.mb _ (Yc h2)) M.ma (by omega)) (ZEg O M.sa (by omega)) (by omega) fun k kn t1 t2 => ?_)))))
 dsimp only
 have hkl : ia + k < a.size := by
  rcases Nat.lt_or_ge (ia + k) a.size with h | h
  ·exact h
  ·have := t1 (a.size - 1 - ia) (by omega)
   rw [show ia + (a.size - 1 - ia) = a.size - 1 by omega, M.last O h2] at this
   cases this
 have hc : C (G b ib) (G a (ia + k)) = true := by simpa using t2 k (Ud _) (by omega)
 by_cases c1 : k > 0
 ·rw [if_pos c1]
  have hI3 : MI C a.toList b.toList (out ++ a.extract ia (ia + k)).toList (ia + k) ib := by
   rw [Uq, YT, show ia + k - ia = k by omega]
   refine hI.seg M.sa fun x hx y hy => ?_
   obtain ⟨j, hj, hj2, rfl⟩ := ZA8 hx
   obtain ⟨j', hj', hj2', rfl⟩ := JT hy
   have h0 : C (G b ib) (G a (ia + j)) = false := by simpa using t1 j hj
   have := O.tot _ (M.mb _ (Yc h2)) _ (M.ma _ (Yc hj2)) (fun e => M.ne _ (Yc hj2) _ (Yc h2) e.symm) h0
   by_cases e : j' = ib
   ·rw [e]; exact this
   ·exact O.tr _ _ _ this (Jf M.sb (by omega) hj2')
  by_cases d1 : (ia + k + 1 == a.size) = true
  ·rw [if_pos d1]
   exact wpS_pure (hd _ _ (JV O M hI3 (by simpa using d1)))
  rw [if_neg d1]
  have d1' : ia + k + 1 < a.size := by simp at d1; omega
  rw [if_neg (show ¬ (ia + k == a.size) = true by simp; omega)]
  exact ZC4 O L M (st := YD st mg) hk hd hn hI3 d1' h2 (by omega) hc
 ·rw [if_neg c1]
  have e0 : k = 0 := by omega
  subst e0
  exact ZC4 O L M (st := YD st mg) hk hd hn hI h1 h2 (by omega) hc
theorem ZCg (O : YN C a₀) (L : Ys prog w A E s kd a₀ C) (M : MP C a₀ a b) (hk : kindOf st = kd) {Q : Array Keyed -> SortSt -> Prop} (h : ∀ r g, MOk C a b r -> Q r (YD st g)) : wpS (model prog w) A E s (ZFg a b) Q st := by
 have ha1 := M.a1
 have hb1 := M.b1
 refine wpS_bind (wpS_lift (wpAny_rule ⟨rfl, ?_⟩))
 refine wpS_bind (YM (by omega) ?_)
 dsimp only
 have I0 : MI C a.toList b.toList [G b 0] 0 1 := by
  have := MI.pushB (o := []) (ia := 0) (ib := 0) O M ⟨.nil, .nil, fun x hx => by cases hx⟩ (by omega) (by omega) M.h0
  exact this
 have h00 : ∀ r, MOk C a b r -> Q r st := fun r hr => h r (gallopOf st) hr
 by_cases c1 : (1 == b.size) = true
 ·rw [if_pos c1]
  exact wpS_pure (h00 _ (JU M (out := #[G b 0]) I0 (by simpa using c1)))
 rw [if_neg c1]
 by_cases c2 : (0 + 1 == a.size) = true
 ·rw [if_pos c2]
  exact wpS_pure (h00 _ (JV O M (out := #[G b 0]) I0 (by simpa using c2)))
 rw [if_neg c2]
 have hb2 : 1 < b.size := by simp at c1; omega
 have ha2 : 1 < a.size := by simp at c2; omega
 refine wpS_bind (wpS_get ?_)
 refine wpS_bind (wpS_mono (wpS_forRange (I := fun x c st' => (∃ g, st' = YD st g) /\ ∃ out ia ib mg, c = (none, out, ia, ib, mg) /\ MI C a.toList b.toList out.toList ia ib /\ ia + 1 < a.size /\ ib < b.size /\ x + 1 <= ia + ib)
  (Q := fun c st' => (∃ g, st' = YD st g) /\ ∃ r, c.1 = some r /\ MOk C a b r) ?step ?fin ⟨⟨_, rfl⟩, #[G b 0], 0, 1, _, rfl, I0, by omega, by omega, by omega⟩) ?post)
 case post =>
  rintro ⟨c, Y1⟩ st' ⟨⟨g, rfl⟩, r, e, hr⟩
  dsimp only at e
  subst e
  exact wpS_pure (h r g hr)
 case fin =>
  rintro c st' ⟨_, out, ia, ib, mg, rfl, hI, h1, h2, h3⟩
  exfalso
  omega
 case step =>
  rintro x c st' _ hx ⟨⟨g, rfl⟩, out, ia, ib, mg, rfl, hI, h1, h2, h3⟩
  dsimp only
  -- one by one
  refine wpS_bind (wpS_mono (wpS_forRange (I := fun y c st' => st' = YD st g /\ ∃ out ia' ib' ac bc, c = (none, out, ia', ib', ac, bc) /\ MI C a.toList b.toList out.toList ia' ib' /\ ia' + 1 < a.size /\ ib' < b.size /\ ia + ib + y <= ia' + ib')
   (Q := fun c st' => st' = YD st g /\ ((∃ r, c.1 = some r /\ MOk C a b r) \/ ∃ out ia' ib' ac bc, c = (none, out, ia', ib', ac, bc) /\ MI C a.toList b.toList out.toList ia' ib' /\ ia' + 1 < a.size /\ ib' < b.size /\ ia + ib + 1 <= ia' + ib')) ?step1 ?fin1 ⟨rfl, out, ia, ib, 0, 0, rfl, hI, h1, h2, by omega⟩) ?post1)
  case fin1 =>
   rintro c st' ⟨rfl, out, ia', ib', ac, bc, rfl, hI, g1, g2, g3⟩
   exact ⟨rfl, .inr ⟨out, ia', ib', ac, bc, rfl, hI, g1, g2, by omega⟩⟩
  case step1 =>
   rintro y c st' _ hy ⟨rfl, out, ia', ib', ac, bc, rfl, hI, g1, g2, g3⟩
   dsimp only
   refine wpS_bind (YM g2 (wpS_bind (YM (by omega) ?_)))
   refine wpS_bind (L _ (M.mb _ (Yc g2)) _ (M.ma _ (Yc (by omega))) _ _ hk ?_)
   dsimp only
   cases hc : C (G b ib') (G a ia')
   case true =>
    simp only [if_true]
    have hI2 := hI.pushB O M (by omega) g2 hc
    refine wpS_bind (YM g2 ?_)
    have hI3 : MI C a.toList b.toList (out.push (G b ib')).toList ia' (ib' + 1) := by rw [US]; exact hI2
    by_cases d1 : (ib' + 1 == b.size) = true
    ·rw [if_pos d1]
     exact wpS_pure ⟨rfl, .inl ⟨_, rfl, JU M hI3 (by simpa using d1)⟩⟩
    ·rw [if_neg d1]
     have d1' : ib' + 1 < b.size := by simp at d1; omega
     by_cases d2 : bc + 1 >= mg
     ·rw [if_pos d2]
      exact wpS_pure ⟨rfl, .inr ⟨_, _, _, _, _, rfl, hI3, g1, d1', by omega⟩⟩
     ·rw [if_neg d2]
      exact wpS_pure ⟨rfl, _, _, _, _, _, rfl, hI3, g1, d1', by omega⟩
   case false =>
    simp only [Uk, if_false]
    have hI2 := hI.pushA O M (by omega) g2 hc
    refine wpS_bind (YM (by omega) ?_)
    have hI3 : MI C a.toList b.toList (out.push (G a ia')).toList (ia' + 1) ib' := by rw [US]; exact hI2
    by_cases d1 : (ia' + 1 + 1 == a.size) = true
    ·rw [if_pos d1]
     exact wpS_pure ⟨rfl, .inl ⟨_, rfl, JV O M hI3 (by simpa using d1)⟩⟩
    ·rw [if_neg d1]
     have d1' : ia' + 1 + 1 < a.size := by simp at d1; omega
     by_cases d2 : ac + 1 >= mg
     ·rw [if_pos d2]
      exact wpS_pure ⟨rfl, .inr ⟨_, _, _, _, _, rfl, hI3, d1', g2, by omega⟩⟩
     ·rw [if_neg d2]
      exact wpS_pure ⟨rfl, _, _, _, _, _, rfl, hI3, d1', g2, by omega⟩
  case post1 =>
   rintro ⟨c1, out1, ia1, ib1, ac1, bc1⟩ st' ⟨rfl, ⟨r, e, hr⟩ | ⟨out', ia', ib', ac', bc', e, hI1, g1, g2, g3⟩⟩
   ·dsimp only at e
    subst e
    exact wpS_pure ⟨⟨g, rfl⟩, r, rfl, hr⟩
   cases e
   dsimp only
   refine wpS_bind (wpS_lift (wpAny_rule ⟨rfl, ?_⟩))
   -- by gallops
   refine wpS_bind (wpS_mono (wpS_forRange (I := fun y c st' => (∃ g, st' = YD st g) /\ ∃ out ia' ib' mg ac bc, c = (none, out, ia', ib', mg, ac, bc) /\ MI C a.toList b.toList out.toList ia' ib' /\ ia' + 1 < a.size /\ ib' < b.size /\ ia + ib + 1 <= ia' + ib')
    (Q := fun c st' => (∃ g, st' = YD st g) /\ ((∃ r, c.1 = some r /\ MOk C a b r) \/ ∃ out ia' ib' mg ac bc, c = (none, out, ia', ib', mg, ac, bc) /\ MI C a.toList b.toList out.toList ia' ib' /\ ia' + 1 < a.size /\ ib' < b.size /\ ia + ib + 1 <= ia' + ib')) ?step2 ?fin2 ⟨⟨g, rfl⟩, _, _, _, _, _, _, rfl, hI1, g1, g2, g3⟩) ?post2)
   case fin2 =>
    rintro c st' ⟨hg, out, ia', ib', mg', ac, bc, rfl, hI, g1, g2, g3⟩
    exact ⟨hg, .inr ⟨out, ia', ib', mg', ac, bc, rfl, hI, g1, g2, g3⟩⟩
   case post2 =>
    rintro ⟨c2, out2, ia2, ib2, mg2, ac2, bc2⟩ st' ⟨⟨g', rfl⟩, ⟨r, e, hr⟩ | ⟨out', ia', ib', mg', ac', bc', e, hI2, g1, g2, g3⟩⟩
    ·dsimp only at e
     subst e
     exact wpS_pure ⟨⟨g', rfl⟩, r, rfl, hr⟩
    cases e
    dsimp only
    refine wpS_bind (ZA7 ?_)
    exact wpS_pure ⟨⟨_, rfl⟩, _, _, _, _, rfl, hI2, g1, g2, by omega⟩
   case step2 =>
    rintro y c st' _ hy ⟨⟨g', rfl⟩, out, ia', ib', mg', ac, bc, rfl, hI, g1, g2, g3⟩
    dsimp only
    by_cases c0 : mg' > 1
    ·rw [if_pos c0]
     exact ZC5 O L M (st := YD st g') (lo := ia + ib + 1) hk (fun r c hr => ⟨⟨_, rfl⟩, .inl ⟨r, rfl, hr⟩⟩) (fun out ia ib m k k1 hI h1 h2 h3 => ⟨⟨⟨_, rfl⟩, .inr ⟨_, _, _, _, _, _, rfl, hI, h1, h2, h3⟩⟩, ⟨_, rfl⟩, _, _, _, _, _, _, rfl, hI, h1, h2, h3⟩) hI g1 g2 g3
    ·rw [if_neg c0]
     exact ZC5 O L M (st := YD st g') (lo := ia + ib + 1) hk (fun r c hr => ⟨⟨_, rfl⟩, .inl ⟨r, rfl, hr⟩⟩) (fun out ia ib m k k1 hI h1 h2 h3 => ⟨⟨⟨_, rfl⟩, .inr ⟨_, _, _, _, _, _, rfl, hI, h1, h2, h3⟩⟩, ⟨_, rfl⟩, _, _, _, _, _, _, rfl, hI, h1, h2, h3⟩) hI g1 g2 g3
end
def ZFj : Array Keyed -> Array Keyed -> StateT SortSt Sem (Array Keyed) := sortPriv% PySem.Builtin.mergeHi
abbrev flp (C : Cmp) : Cmp := fun x y => C y x
theorem YN.flp {C : Cmp} {a₀ : Array Keyed} (O : YN C a₀) : YN (flp C) a₀ := ⟨fun x y z h1 h2 => O.tr _ _ _ h2 h1, fun x y h => O.asy _ _ h, fun x hx y hy n h => O.tot _ hy _ hx (Ne.symm n) h, O.nd⟩
theorem Jc {xs : Array Keyed} {i : Nat} (h : i < xs.size) : G xs.reverse i = G xs (xs.size - 1 - i) := by
 refine ZAm ?_
 rw [Array.getElem?_reverse h]
section
variable {prog : Program} {w : World} {A : Around} {E : Value -> Shared -> Prop} {s : Shared} {kd : SortKind} {a₀ a b : Array Keyed} {C : Cmp} {st : SortSt}
theorem MP.flp (M : MP C a₀ a b) : MP (flp C) a₀ b.reverse a.reverse := by
 have h1 := M.a1
 have h2 := M.b1
 refine ⟨fun x hx => M.mb x (by simpa using hx), fun x hx => M.ma x (by simpa using hx), fun x hx y hy e => M.ne y (by simpa using hy) x (by simpa using hx) e.symm, ?_, ?_, by simpa using h2, by simpa using h1, ?_, ?_⟩
 ·rw [UJ]; exact List.pairwise_reverse.mpr M.sb
 ·rw [UJ]; exact List.pairwise_reverse.mpr M.sa
 ·show C (G b.reverse 0) (G a.reverse 0) = true
  rw [Jc (by omega), Jc (by omega)]
  exact M.hl
 ·show C (G b.reverse (b.reverse.size - 1)) (G a.reverse (a.reverse.size - 1)) = true
  rw [Array.size_reverse, Array.size_reverse, Jc (by omega), Jc (by omega), show b.size - 1 - (b.size - 1) = 0 by omega, show a.size - 1 - (a.size - 1) = 0 by omega]
  exact M.h0
def MH (C : Cmp) (a b out : Array Keyed) (na nb : Nat) : Prop := MI (flp C) b.reverse.toList a.reverse.toList out.toList (b.size - nb) (a.size - na) /\ na <= a.size /\ nb <= b.size
theorem MOk.flp {r r' : Array Keyed} (h : MOk (flp C) b.reverse a.reverse r') (e : r'.toList = r.toList.reverse) : MOk C a b r := by
 obtain ⟨h1, h2⟩ := h
 rw [e] at h1 h2
 refine ⟨?_, List.pairwise_reverse.mp h2⟩
 have := (List.reverse_perm r.toList).symm.trans h1
 refine this.trans ?_
 rw [UJ, UJ, <- List.reverse_append]
 exact List.reverse_perm _
theorem ZAT {xs : Array Keyed} {n : Nat} (h : n <= xs.size) : xs.reverse.toList.drop (xs.size - n) = (xs.toList.take n).reverse := by
 rw [UJ, List.drop_reverse, Ug, show xs.size - (xs.size - n) = n by omega]
theorem ZDp (xs : Array Keyed) (n : Nat) : (xs.extract 0 n).toList = xs.toList.take n := by rw [YT, List.drop_zero, Nat.sub_zero]
theorem MH.done (M : MP C a₀ a b) {out : Array Keyed} {na nb : Nat} (h : MH C a b out na nb) (hn : na = 0) : MOk C a b (a.extract 0 na ++ b.extract 0 nb ++ out.reverse) := by
 obtain ⟨h, h1, h2⟩ := h
 subst hn
 refine (JU M.flp h (by simp)).flp ?_
 have e1 := ZAT h2
 have e2 := ZAT (xs := a) (n := 0) h1
 rw [Uq, Uq, Uq, Uq, Yk, Yk, e1, e2, ZDp, ZDp, UJ]
 simp
theorem MH.first (O : YN C a₀) (M : MP C a₀ a b) {out : Array Keyed} {na nb : Nat} (h : MH C a b out na nb) (hn : nb = 1) : MOk C a b (b.extract 0 nb ++ a.extract 0 na ++ out.reverse) := by
 obtain ⟨h, h1, h2⟩ := h
 subst hn
 refine (JV O.flp M.flp h (by simp; omega)).flp ?_
 have e1 := ZAT h2
 have e2 := ZAT (xs := a) (n := na) h1
 rw [Uq, Uq, Uq, Uq, Yk, Yk, e1, e2, ZDp, ZDp, UJ]
 simp
theorem MH.pushA (O : YN C a₀) (M : MP C a₀ a b) {out : Array Keyed} {na nb : Nat} (h : MH C a b out na nb) (ha : 0 < na) (hb : 0 < nb) (hc : C (G b (nb - 1)) (G a (na - 1)) = true) : MH C a b (out.push (G a (na - 1))) (na - 1) nb := by
 obtain ⟨h, h1, h2⟩ := h
 have e1 : G a.reverse (a.size - na) = G a (na - 1) := by rw [Jc (by omega)]; congr 1; omega
 have e2 : G b.reverse (b.size - nb) = G b (nb - 1) := by rw [Jc (by omega)]; congr 1; omega
 have := h.pushB O.flp M.flp (by simp; omega) (by simp; omega) (by show C _ _ = true; rw [e1, e2]; exact hc)
 rw [e1, show a.size - na + 1 = a.size - (na - 1) by omega] at this
 refine ⟨?_, by omega, h2⟩
 rw [US]
 exact this
theorem MH.pushB (O : YN C a₀) (M : MP C a₀ a b) {out : Array Keyed} {na nb : Nat} (h : MH C a b out na nb) (ha : 0 < na) (hb : 0 < nb) (hc : C (G b (nb - 1)) (G a (na - 1)) = false) : MH C a b (out.push (G b (nb - 1))) na (nb - 1) := by
 obtain ⟨h, h1, h2⟩ := h
 have e1 : G a.reverse (a.size - na) = G a (na - 1) := by rw [Jc (by omega)]; congr 1; omega
 have e2 : G b.reverse (b.size - nb) = G b (nb - 1) := by rw [Jc (by omega)]; congr 1; omega
 have := h.pushA O.flp M.flp (by simp; omega) (by simp; omega) (by show C _ _ = false; rw [e1, e2]; exact hc)
 rw [e2, show b.size - nb + 1 = b.size - (nb - 1) by omega] at this
 refine ⟨?_, h1, by omega⟩
 rw [US]
 exact this
theorem ZDq {xs : Array Keyed} {n m : Nat} (h : n <= xs.size) (hm : m <= n) : (xs.reverse.toList.drop (xs.size - n)).take (n - m) = (xs.extract m n).reverse.toList := by
 rw [ZAT h, UJ, YT, List.take_reverse, UO, Ug, Nat.min_eq_left h, show n - (n - m) = m by omega, List.drop_take]
theorem ZEi {xs : Array Keyed} {n m : Nat} {x : Keyed} (h : n <= xs.size) (hx : x ∈ (xs.extract m n).reverse.toList) : ∃ j, m <= j /\ j < n /\ x = G xs j := by
 rw [UJ, List.mem_reverse, YT] at hx
 obtain ⟨j, hj, _, rfl⟩ := ZA8 hx
 exact ⟨m + j, by omega, by omega, rfl⟩
theorem ZC6 {xs : Array Keyed} {n : Nat} {x : Keyed} (h : n <= xs.size) (hx : x ∈ xs.reverse.toList.drop (xs.size - n)) : ∃ j, j < n /\ x = G xs j := by
 rw [ZAT h, List.mem_reverse] at hx
 obtain ⟨j, hj, _, rfl⟩ := ZA8 (i := 0) (by simpa using hx)
 exact ⟨j, hj, by rw [Nat.zero_add]⟩
theorem MH.segA (O : YN C a₀) (M : MP C a₀ a b) {out : Array Keyed} {na nb at_ : Nat} (h : MH C a b out na nb) (ha : at_ <= na) (hc : ∀ j, at_ <= j -> j < na -> C (G b (nb - 1)) (G a j) = true) : MH C a b (out ++ (a.extract at_ na).reverse) at_ nb := by
 obtain ⟨h, h1, h2⟩ := h
 have := h.symm.seg M.flp.sb (k := na - at_) fun x hx y hy => by
  rw [ZDq h1 ha] at hx
  obtain ⟨j, j1, j2, rfl⟩ := ZEi h1 hx
  obtain ⟨i, i1, rfl⟩ := ZC6 h2 hy
  show C _ _ = true
  by_cases e : i = nb - 1
  ·rw [e]; exact hc j j1 j2
  ·exact O.tr _ _ _ (Jf M.sb (show i < nb - 1 by omega) (by omega)) (hc j j1 j2)
 rw [ZDq h1 ha, show a.size - na + (na - at_) = a.size - at_ by omega] at this
 refine ⟨?_, by omega, h2⟩
 rw [Uq]
 exact this.symm
theorem MH.segB (O : YN C a₀) (M : MP C a₀ a b) {out : Array Keyed} {na nb at_ : Nat} (h : MH C a b out na nb) (hb : at_ <= nb) (hc : ∀ j, at_ <= j -> j < nb -> C (G a (na - 1)) (G b j) = true) : MH C a b (out ++ (b.extract at_ nb).reverse) na at_ := by
 obtain ⟨h, h1, h2⟩ := h
 have := h.seg M.flp.sa (k := nb - at_) fun x hx y hy => by
  rw [ZDq h2 hb] at hx
  obtain ⟨j, j1, j2, rfl⟩ := ZEi h2 hx
  obtain ⟨i, i1, rfl⟩ := ZC6 h1 hy
  show C _ _ = true
  by_cases e : i = na - 1
  ·rw [e]; exact hc j j1 j2
  ·exact O.tr _ _ _ (Jf M.sa (show i < na - 1 by omega) (by omega)) (hc j j1 j2)
 rw [ZDq h2 hb, show b.size - nb + (nb - at_) = b.size - at_ by omega] at this
 refine ⟨?_, h1, by omega⟩
 rw [Uq]
 exact this
end
abbrev HSt := Option (Array Keyed) × Nat × Nat × Array Keyed × Nat × Nat × Nat
def gh3 (a b out : Array Keyed) (na nb mg k k1 : Nat) : StateT SortSt Sem (ForInStep HSt) := do
 let x <- elem' a (na - 1)
 if (na - 1 == 0) = true then pure (.done (some (a.extract 0 (na - 1) ++ b.extract 0 nb ++ (out.push x).reverse), na - 1, nb, out.push x, mg, k, k1))
 else if (decide (k < 7) && decide (k1 < 7)) = true then pure (.done (none, na - 1, nb, out.push x, mg, k, k1))
 else pure (.yield (none, na - 1, nb, out.push x, mg, k, k1))
def gh2 (a b out : Array Keyed) (na nb mg k bc : Nat) : StateT SortSt Sem (ForInStep HSt) := do
 let y <- elem' b (nb - 1)
 if (nb - 1 == 1) = true then pure (.done (some (b.extract 0 (nb - 1) ++ a.extract 0 na ++ (out.push y).reverse), na, nb - 1, out.push y, mg, k, bc))
 else do
  let z <- elem' a (na - 1)
  let x <- JM true z b 0 (nb - 1) (nb - 1 - 1)
  match x with
  | some at_ =>
   if nb - 1 - at_ > 0 then
    if (at_ == 1) = true then pure (.done (some (b.extract 0 at_ ++ a.extract 0 na ++ (out.push y ++ (b.extract at_ (nb - 1)).reverse).reverse), na, at_, out.push y ++ (b.extract at_ (nb - 1)).reverse, mg, k, nb - 1 - at_))
    else if (at_ == 0) = true then pure (.done (some (a.extract 0 na ++ b.extract 0 at_ ++ (out.push y ++ (b.extract at_ (nb - 1)).reverse).reverse), na, at_, out.push y ++ (b.extract at_ (nb - 1)).reverse, mg, k, nb - 1 - at_))
    else gh3 a b (out.push y ++ (b.extract at_ (nb - 1)).reverse) na at_ mg k (nb - 1 - at_)
   else gh3 a b (out.push y) na (nb - 1) mg k (nb - 1 - at_)
  | x => pure (.done (some (a.extract 0 na ++ b.extract 0 (nb - 1) ++ (out.push y).reverse), na, nb - 1, out.push y, mg, k, bc))
def gh1 (a b out : Array Keyed) (na nb mg bc ac : Nat) : StateT SortSt Sem (ForInStep HSt) := do
 ZAS mg
 let y <- elem' b (nb - 1)
 let x <- JM false y a 0 na (na - 1)
 match x with
 | some at_ =>
  if na - at_ > 0 then
   if (at_ == 0) = true then pure (.done (some (a.extract 0 at_ ++ b.extract 0 nb ++ (out ++ (a.extract at_ na).reverse).reverse), at_, nb, out ++ (a.extract at_ na).reverse, mg, na - at_, bc))
   else gh2 a b (out ++ (a.extract at_ na).reverse) at_ nb mg (na - at_) bc
  else gh2 a b out na nb mg (na - at_) bc
 | x => pure (.done (some (a.extract 0 na ++ b.extract 0 nb ++ out.reverse), na, nb, out, mg, ac, bc))
section
variable {prog : Program} {w : World} {A : Around} {E : Value -> Shared -> Prop} {s : Shared} {kd : SortKind} {a₀ a b : Array Keyed} {C : Cmp} {st : SortSt}
theorem ZC7 (O : YN C a₀) (M : MP C a₀ a b) {T : ForInStep HSt -> SortSt -> Prop} {hi : Nat} (hd : ∀ r c, MOk C a b r -> T (.done (some r, c)) st)
  (hn : ∀ out na nb mg k k1, MH C a b out na nb -> 0 < na -> 1 < nb -> na + nb <= hi -> T (.done (none, na, nb, out, mg, k, k1)) st /\ T (.yield (none, na, nb, out, mg, k, k1)) st)
  {out : Array Keyed} {na nb mg k k1 : Nat} (hI : MH C a b out na nb) (h1 : 0 < na) (h2 : 1 < nb) (h3 : na + nb <= hi) (hc : C (G b (nb - 1)) (G a (na - 1)) = true) : wpS (model prog w) A E s (gh3 a b out na nb mg k k1) T st := by
 unfold gh3
 have l1 := hI.2.1
 refine wpS_bind (YM (by omega) ?_)
 have hI3 := hI.pushA O M h1 (by omega) hc
 by_cases d1 : (na - 1 == 0) = true
 ·rw [if_pos d1]
  exact wpS_pure (hd _ _ (hI3.done M (by simpa using d1)))
 ·rw [if_neg d1]
  have d1' : 0 < na - 1 := by simp at d1; omega
  have := hn _ _ _ mg k k1 hI3 d1' h2 (by omega)
  split
  ·exact wpS_pure this.1
  ·exact wpS_pure this.2
theorem ZC8 (O : YN C a₀) (L : Ys prog w A E s kd a₀ C) (M : MP C a₀ a b) (hk : kindOf st = kd) {T : ForInStep HSt -> SortSt -> Prop} {hi : Nat} (hd : ∀ r c, MOk C a b r -> T (.done (some r, c)) st)
  (hn : ∀ out na nb mg k k1, MH C a b out na nb -> 0 < na -> 1 < nb -> na + nb <= hi -> T (.done (none, na, nb, out, mg, k, k1)) st /\ T (.yield (none, na, nb, out, mg, k, k1)) st)
  {out : Array Keyed} {na nb mg k bc : Nat} (hI : MH C a b out na nb) (h1 : 0 < na) (h2 : 1 < nb) (h3 : na + nb <= hi) (hc : C (G b (nb - 1)) (G a (na - 1)) = false) : wpS (model prog w) A E s (gh2 a b out na nb mg k bc) T st := by
 unfold gh2
 have l1 := hI.2.1
 have l2 := hI.2.2
 refine wpS_bind (YM (by omega) ?_)
 have hI2 := hI.pushB O M h1 (by omega) hc
 by_cases d1 : (nb - 1 == 1) = true
 ·rw [if_pos d1]
  exact wpS_pure (hd _ _ (hI2.first O M (by simpa using d1)))
 rw [if_neg d1]
 have d1' : 1 < nb - 1 := by simp at d1; omega
 refine wpS_bind (YM (by omega) (wpS_bind (JN (ZFi L hk (M.ma _ (Yc (by omega))) M.mb (by omega)) (ZEh O M.sb (by omega)) (by omega) fun at_ atn t1 t2 => ?_)))
 dsimp only
 have p0 : C (G b 0) (G a (na - 1)) = true := by
  by_cases e : na - 1 = 0
  ·rw [e]; exact M.h0
  ·exact O.tr _ _ _ M.h0 (Jf M.sa (by omega) (by omega))
 have hat : 0 < at_ := by
  rcases Nat.eq_zero_or_pos at_ with e | e
  ·have := t2 0 (by omega) (by omega)
   simp only [Nat.add_zero] at this
   rw [p0] at this; cases this
  ·exact e
 have hlast : C (G b (at_ - 1)) (G a (na - 1)) = true := by have := t1 (at_ - 1) (by omega); rwa [Nat.zero_add] at this
 by_cases c1 : nb - 1 - at_ > 0
 ·rw [if_pos c1]
  have hI3 := hI2.segB O M (at_ := at_) (by omega) fun j j1 j2 => by
   have := t2 j j1 j2
   rw [Nat.zero_add] at this
   exact O.tot _ (M.mb _ (Yc (by omega))) _ (M.ma _ (Yc (by omega))) (fun e => M.ne _ (Yc (by omega)) _ (Yc (by omega)) e.symm) this
  by_cases d2 : (at_ == 1) = true
  ·rw [if_pos d2]
   exact wpS_pure (hd _ _ (hI3.first O M (by simpa using d2)))
  ·rw [if_neg d2, if_neg (show ¬ (at_ == 0) = true by simp; omega)]
   have d2' : 1 < at_ := by simp at d2; omega
   exact ZC7 O M hd hn hI3 h1 d2' (by omega) hlast
 ·rw [if_neg c1]
  have e0 : at_ = nb - 1 := by omega
  rw [e0] at hlast
  exact ZC7 O M hd hn hI2 h1 d1' (by omega) hlast
theorem ZC9 (O : YN C a₀) (L : Ys prog w A E s kd a₀ C) (M : MP C a₀ a b) (hk : kindOf st = kd) {T : ForInStep HSt -> SortSt -> Prop} {hi : Nat} {mg : Nat} (hd : ∀ r c, MOk C a b r -> T (.done (some r, c)) (YD st mg))
  (hn : ∀ out na nb m k k1, MH C a b out na nb -> 0 < na -> 1 < nb -> na + nb <= hi -> T (.done (none, na, nb, out, m, k, k1)) (YD st mg) /\ T (.yield (none, na, nb, out, m, k, k1)) (YD st mg))
  {out : Array Keyed} {na nb bc ac : Nat} (hI : MH C a b out na nb) (h1 : 0 < na) (h2 : 1 < nb) (h3 : na + nb <= hi) : wpS (model prog w) A E s (gh1 a b out na nb mg bc ac) T st := by
 unfold gh1
 have l1 := hI.2.1
 have l2 := hI.2.2
 rw [Jz]
 refine wpS_bind (wpS_modify (wpS_bind (YM (by omega) (wpS_bind (JN (ZFh L (st := YD st mg) hk (M.mb _ (Yc (by omega))) M.ma (by omega)) (ZEg O M.sa (by omega)) (by omega) fun at_ atn t1 t2 => ?_)))))
 dsimp only
 have hlast : 0 < at_ -> C (G b (nb - 1)) (G a (at_ - 1)) = false := fun h => by
  have := t1 (at_ - 1) (by omega)
  rw [Nat.zero_add] at this
  simpa using this
 by_cases c1 : na - at_ > 0
 ·rw [if_pos c1]
  have hI3 := hI.segA O M (at_ := at_) (by omega) fun j j1 j2 => by
   have := t2 j j1 j2
   rw [Nat.zero_add] at this
   simpa using this
  by_cases d1 : (at_ == 0) = true
  ·rw [if_pos d1]
   exact wpS_pure (hd _ _ (hI3.done M (by simpa using d1)))
  rw [if_neg d1]
  have d1' : 0 < at_ := by simp at d1; omega
  exact ZC8 O L M (st := YD st mg) hk hd hn hI3 d1' h2 (by omega) (hlast d1')
 ·rw [if_neg c1]
  have e0 : at_ = na := by omega
  subst e0
  exact ZC8 O L M (st := YD st mg) hk hd hn hI h1 h2 (by omega) (hlast h1)
theorem ZCh (O : YN C a₀) (L : Ys prog w A E s kd a₀ C) (M : MP C a₀ a b) (hk : kindOf st = kd) {Q : Array Keyed -> SortSt -> Prop} (h : ∀ r g, MOk C a b r -> Q r (YD st g)) : wpS (model prog w) A E s (ZFj a b) Q st := by
 have ha1 := M.a1
 have hb1 := M.b1
 refine wpS_bind (wpS_lift (wpAny_rule ⟨rfl, ?_⟩))
 refine wpS_bind (YM (by omega) ?_)
 dsimp only
 have I0 : MH C a b #[G a (a.size - 1)] (a.size - 1) b.size := by
  have := MH.pushA (out := #[]) (na := a.size) (nb := b.size) O M ⟨by rw [Nat.sub_self, Nat.sub_self]; exact ⟨.nil, .nil, fun x hx => by cases hx⟩, Ud _, Ud _⟩ (by omega) (by omega) M.hl
  exact this
 have h00 : ∀ r, MOk C a b r -> Q r st := fun r hr => h r (gallopOf st) hr
 by_cases c1 : (a.size - 1 == 0) = true
 ·rw [if_pos c1]
  exact wpS_pure (h00 _ (I0.done M (by simpa using c1)))
 rw [if_neg c1]
 by_cases c2 : (b.size == 1) = true
 ·rw [if_pos c2]
  exact wpS_pure (h00 _ (I0.first O M (by simpa using c2)))
 rw [if_neg c2]
 have ha2 : 0 < a.size - 1 := by simp at c1; omega
 have hb2 : 1 < b.size := by simp at c2; omega
 refine wpS_bind (wpS_get ?_)
 refine wpS_bind (wpS_mono (wpS_forRange (I := fun x c st' => (∃ g, st' = YD st g) /\ ∃ out na nb mg, c = (none, na, nb, out, mg) /\ MH C a b out na nb /\ 0 < na /\ 1 < nb /\ na + nb + x + 1 <= a.size + b.size)
  (Q := fun c st' => (∃ g, st' = YD st g) /\ ∃ r, c.1 = some r /\ MOk C a b r) ?step ?fin ⟨⟨_, rfl⟩, #[G a (a.size - 1)], a.size - 1, b.size, _, rfl, I0, by omega, by omega, by omega⟩) ?post)
 case post =>
  rintro ⟨c, Y1⟩ st' ⟨⟨g, rfl⟩, r, e, hr⟩
  dsimp only at e
  subst e
  exact wpS_pure (h r g hr)
 case fin =>
  rintro c st' ⟨_, out, na, nb, mg, rfl, hI, h1, h2, h3⟩
  exfalso
  omega
 case step =>
  rintro x c st' _ hx ⟨⟨g, rfl⟩, out, na, nb, mg, rfl, hI, h1, h2, h3⟩
  dsimp only
  -- one by one
  refine wpS_bind (wpS_mono (wpS_forRange (I := fun y c st' => st' = YD st g /\ ∃ out na' nb' ac bc, c = (none, na', nb', out, ac, bc) /\ MH C a b out na' nb' /\ 0 < na' /\ 1 < nb' /\ na' + nb' + y <= na + nb)
   (Q := fun c st' => st' = YD st g /\ ((∃ r, c.1 = some r /\ MOk C a b r) \/ ∃ out na' nb' ac bc, c = (none, na', nb', out, ac, bc) /\ MH C a b out na' nb' /\ 0 < na' /\ 1 < nb' /\ na' + nb' + 1 <= na + nb)) ?step1 ?fin1 ⟨rfl, out, na, nb, 0, 0, rfl, hI, h1, h2, by omega⟩) ?post1)
  case fin1 =>
   rintro c st' ⟨rfl, out, na', nb', ac, bc, rfl, hI, g1, g2, g3⟩
   exact ⟨rfl, .inr ⟨out, na', nb', ac, bc, rfl, hI, g1, g2, by omega⟩⟩
  case step1 =>
   rintro y c st' _ hy ⟨rfl, out, na', nb', ac, bc, rfl, hI, g1, g2, g3⟩
   have l1 := hI.2.1
   have l2 := hI.2.2
   dsimp only
   refine wpS_bind (YM (by omega) (wpS_bind (YM (by omega) ?_)))
   refine wpS_bind (L _ (M.mb _ (Yc (by omega))) _ (M.ma _ (Yc (by omega))) _ _ hk ?_)
   dsimp only
   cases hc : C (G b (nb' - 1)) (G a (na' - 1))
   case true =>
    simp only [if_true]
    have hI3 := hI.pushA O M g1 (by omega) hc
    refine wpS_bind (YM (by omega) ?_)
    by_cases d1 : (na' - 1 == 0) = true
    ·rw [if_pos d1]
     exact wpS_pure ⟨rfl, .inl ⟨_, rfl, hI3.done M (by simpa using d1)⟩⟩
    ·rw [if_neg d1]
     have d1' : 0 < na' - 1 := by simp at d1; omega
     by_cases d2 : ac + 1 >= mg
     ·rw [if_pos d2]
      exact wpS_pure ⟨rfl, .inr ⟨_, _, _, _, _, rfl, hI3, d1', g2, by omega⟩⟩
     ·rw [if_neg d2]
      exact wpS_pure ⟨rfl, _, _, _, _, _, rfl, hI3, d1', g2, by omega⟩
   case false =>
    simp only [Uk, if_false]
    have hI3 := hI.pushB O M g1 (by omega) hc
    refine wpS_bind (YM (by omega) ?_)
    by_cases d1 : (nb' - 1 == 1) = true
    ·rw [if_pos d1]
     exact wpS_pure ⟨rfl, .inl ⟨_, rfl, hI3.first O M (by simpa using d1)⟩⟩
    ·rw [if_neg d1]
     have d1' : 1 < nb' - 1 := by simp at d1; omega
     by_cases d2 : bc + 1 >= mg
     ·rw [if_pos d2]
      exact wpS_pure ⟨rfl, .inr ⟨_, _, _, _, _, rfl, hI3, g1, d1', by omega⟩⟩
     ·rw [if_neg d2]
      exact wpS_pure ⟨rfl, _, _, _, _, _, rfl, hI3, g1, d1', by omega⟩
  case post1 =>
   rintro ⟨c1, na1, nb1, out1, ac1, bc1⟩ st' ⟨rfl, ⟨r, e, hr⟩ | ⟨out', na', nb', ac', bc', e, hI1, g1, g2, g3⟩⟩
   ·dsimp only at e
    subst e
    exact wpS_pure ⟨⟨g, rfl⟩, r, rfl, hr⟩
   cases e
   dsimp only
   refine wpS_bind (wpS_lift (wpAny_rule ⟨rfl, ?_⟩))
   -- by gallops
   refine wpS_bind (wpS_mono (wpS_forRange (I := fun y c st' => (∃ g, st' = YD st g) /\ ∃ out na' nb' mg ac bc, c = (none, na', nb', out, mg, ac, bc) /\ MH C a b out na' nb' /\ 0 < na' /\ 1 < nb' /\ na' + nb' <= na + nb - 1)
    (Q := fun c st' => (∃ g, st' = YD st g) /\ ((∃ r, c.1 = some r /\ MOk C a b r) \/ ∃ out na' nb' mg ac bc, c = (none, na', nb', out, mg, ac, bc) /\ MH C a b out na' nb' /\ 0 < na' /\ 1 < nb' /\ na' + nb' <= na + nb - 1)) ?step2 ?fin2 ⟨⟨g, rfl⟩, _, _, _, _, _, _, rfl, hI1, g1, g2, by omega⟩) ?post2)
   case fin2 =>
    rintro c st' ⟨hg, out, na', nb', mg', ac, bc, rfl, hI, g1, g2, g3⟩
    exact ⟨hg, .inr ⟨out, na', nb', mg', ac, bc, rfl, hI, g1, g2, g3⟩⟩
   case post2 =>
    rintro ⟨c2, na2, nb2, out2, mg2, ac2, bc2⟩ st' ⟨⟨g', rfl⟩, ⟨r, e, hr⟩ | ⟨out', na', nb', mg', ac', bc', e, hI2, g1, g2, g3⟩⟩
    ·dsimp only at e
     subst e
     exact wpS_pure ⟨⟨g', rfl⟩, r, rfl, hr⟩
    cases e
    dsimp only
    refine wpS_bind (ZA7 ?_)
    exact wpS_pure ⟨⟨_, rfl⟩, _, _, _, _, rfl, hI2, g1, g2, by omega⟩
   case step2 =>
    rintro y c st' _ hy ⟨⟨g', rfl⟩, out, na', nb', mg', ac, bc, rfl, hI, g1, g2, g3⟩
    dsimp only
    by_cases c0 : mg' > 1
    ·rw [if_pos c0]
     exact ZC9 O L M (st := YD st g') (hi := na + nb - 1) hk (fun r c hr => ⟨⟨_, rfl⟩, .inl ⟨r, rfl, hr⟩⟩) (fun out ia ib m k k1 hI h1 h2 h3 => ⟨⟨⟨_, rfl⟩, .inr ⟨_, _, _, _, _, _, rfl, hI, h1, h2, h3⟩⟩, ⟨_, rfl⟩, _, _, _, _, _, _, rfl, hI, h1, h2, h3⟩) hI g1 g2 g3
    ·rw [if_neg c0]
     exact ZC9 O L M (st := YD st g') (hi := na + nb - 1) hk (fun r c hr => ⟨⟨_, rfl⟩, .inl ⟨r, rfl, hr⟩⟩) (fun out ia ib m k k1 hI h1 h2 h3 => ⟨⟨⟨_, rfl⟩, .inr ⟨_, _, _, _, _, _, rfl, hI, h1, h2, h3⟩⟩, ⟨_, rfl⟩, _, _, _, _, _, _, rfl, hI, h1, h2, h3⟩) hI g1 g2 g3
end
theorem ZDA (o : Nat) : ∀ (l : List Keyed) (m : Nat) (xs : Array Keyed) (pre mid post : List Keyed), xs.toList = pre ++ mid ++ post -> pre.length = o + m -> mid.length = l.length ->
  ((l.zipIdx m).foldl (fun (a : Array Keyed) (q : Keyed × Nat) => a.setIfInBounds (o + q.2) q.1) xs).toList = pre ++ l ++ post
 | [], m, xs, pre, mid, post, h, hp, hm => by
  have : mid = [] := List.eq_nil_of_length_eq_zero hm
  subst this
  exact h
 | p :: l, m, xs, pre, mid, post, h, hp, hm => by
  cases mid with
  | nil => cases hm
  | cons q mid =>
   rw [List.zipIdx_cons, List.foldl_cons]
   have := ZDA o l (m + 1) (xs.setIfInBounds (o + m) p) (pre ++ [p]) mid post (by
    rw [Array.toList_setIfInBounds, h, UR, List.set_append_right _ _ (by omega), <- hp, Nat.sub_self]
    simp) (by simp; omega) (by simpa using hm)
   rw [this]
   simp
theorem ZCT (xs : Array Keyed) (i : Nat) : G xs i = xs.toList.getD i (.none, .none) := by
 unfold G
 rw [Array.getD_eq_getD_getElem?, Uv, UN]
theorem ZF4 {xs : Array Keyed} {pre l post : List Keyed} (h : xs.toList = pre ++ l ++ post) {i : Nat} (hi : i < pre.length) : G xs i = pre.getD i (.none, .none) := by
 rw [ZCT, h, UR, Uv, List.getElem?_append_left hi, <- Uv]
theorem ZDr {xs : Array Keyed} {pre l post : List Keyed} (h : xs.toList = pre ++ l ++ post) {i : Nat} (h1 : pre.length <= i) (h2 : i < pre.length + l.length) : G xs i = l.getD (i - pre.length) (.none, .none) := by
 rw [ZCT, h, UR, Uv, UL h1, List.getElem?_append_left (by omega), <- Uv]
theorem ZEj {xs : Array Keyed} {pre l post : List Keyed} (h : xs.toList = pre ++ l ++ post) {i : Nat} (h1 : pre.length + l.length <= i) : G xs i = post.getD (i - (pre.length + l.length)) (.none, .none) := by
 rw [ZCT, h, Uv, UL (by simpa using h1), UK, <- Uv]
theorem ZFk {l : List Keyed} {i : Nat} (h : i < l.length) : l.getD i (.none, .none) ∈ l := by
 rw [Uv, Uc h]
 exact List.getElem_mem h
theorem ZGu {C : Cmp} {l : List Keyed} (h : l.Pairwise fun x y => C x y = true) {i j : Nat} (hij : i < j) (hj : j < l.length) : C (l.getD i (.none, .none)) (l.getD j (.none, .none)) = true := by
 rw [Uv, Uc (by omega), Uv, Uc hj]
 exact Ux.mp h i j (by omega) hj hij
theorem Sg.join {C : Cmp} (tr : ∀ x y z, C x y = true -> C y z = true -> C x z = true) {xs : Array Keyed} {lo n m : Nat} (h1 : Sg C xs lo n) (h2 : Sg C xs (lo + n) m) (hn : 1 <= n) (hc : C (G xs (lo + n - 1)) (G xs (lo + n)) = true) : Sg C xs lo (n + m) := by
 have e2 : ∀ j, j < m -> n = n -> C (G xs (lo + n - 1)) (G xs (lo + n + j)) = true := fun j hj _ => by
  by_cases e : j = 0
  ·subst e; exact hc
  ·exact tr _ _ _ hc (h2 0 j (by omega) hj)
 intro i j hij hj
 by_cases c1 : j < n
 ·exact h1 i j hij c1
 by_cases c2 : i < n
 ·have := e2 (j - n) (by omega) rfl
  rw [show lo + n + (j - n) = lo + j by omega] at this
  by_cases e : i = n - 1
  ·rw [show lo + i = lo + n - 1 by omega]; exact this
  ·refine tr _ _ _ (h1 i (n - 1) (by omega) (by omega)) ?_
   rw [show lo + (n - 1) = lo + n - 1 by omega]
   exact this
 ·have := h2 (i - n) (j - n) (by omega) (by omega)
  rwa [show lo + n + (i - n) = lo + i by omega, show lo + n + (j - n) = lo + j by omega] at this
theorem Sg.pw {C : Cmp} {xs : Array Keyed} {lo n : Nat} (h : Sg C xs lo n) (hn : lo + n <= xs.size) {i j : Nat} (hi : lo <= i) (hij : i <= j) (hj : j <= lo + n) : (xs.extract i j).toList.Pairwise fun x y => C x y = true := by
 rw [Ux]
 intro p q hp hq hpq
 have hq' : q < j - i := by
  have := hq
  rw [Ug, UP] at this
  omega
 have e : ∀ p, p < j - i -> ∀ hp, (xs.extract i j).toList[p]'hp = G xs (i + p) := fun p h1 hp => by
  rw [Array.getElem_toList, Array.getElem_extract]
  simp [G, Array.getD, show i + p < xs.size by omega]
 rw [e p (by omega) hp, e q hq' hq]
 have := h (i + p - lo) (i + q - lo) (by omega) (by omega)
 rwa [show lo + (i + p - lo) = i + p by omega, show lo + (i + q - lo) = i + q by omega] at this
theorem ZAU {xs : Array Keyed} {i j : Nat} (hj : j <= xs.size) {x : Keyed} (h : x ∈ (xs.extract i j).toList) : ∃ p, i <= p /\ p < j /\ x = G xs p := by
 rw [YT] at h
 obtain ⟨p, h1, h2, rfl⟩ := ZA8 h
 exact ⟨i + p, by omega, by omega, rfl⟩
theorem Jd {xs : Array Keyed} {i j p : Nat} (hp : i + p < j) (hj : j <= xs.size) : G (xs.extract i j) p = G xs (i + p) := by
 refine ZAm ?_
 rw [Array.getElem?_extract_of_lt (by omega), Array.getElem?_eq_getElem (by omega)]
section
variable {prog : Program} {w : World} {A : Around} {E : Value -> Shared -> Prop} {s : Shared} {kd : SortKind} {a₀ : Array Keyed} {C : Cmp} {st : SortSt}
structure Mg (C : Cmp) (xs ys : Array Keyed) (sa n : Nat) : Prop where
 perm : ys.Perm xs
 out : ∀ k, k < sa \/ sa + n <= k -> G ys k = G xs k
 run : Sg C ys sa n
theorem ZEk (O : YN C a₀) {xs : Array Keyed} {sa na nb k nb' : Nat} (hs : sa + na + nb <= xs.size) (S1 : Sg C xs sa na) (S2 : Sg C xs (sa + na) nb) (hk : k < na) (hb : nb' <= nb) (hb1 : 1 <= nb') (hmem : ∀ i, i < xs.size -> G xs i ∈ a₀.toList)
  (hinj : ∀ i j, i < xs.size -> j < xs.size -> i ≠ j -> G xs i ≠ G xs j)
  (t1 : ∀ i, i < k -> C (G xs (sa + i)) (G xs (sa + na)) = true) (u2 : ∀ i, nb' <= i -> i < nb -> C (G xs (sa + na - 1)) (G xs (sa + na + i)) = true)
  {r : Array Keyed} (hr : MOk C (xs.extract (sa + k) (sa + na)) (xs.extract (sa + na) (sa + na + nb')) r) :
  Mg C xs (r.toList.zipIdx.foldl (fun (a : Array Keyed) (q : Keyed × Nat) => a.setIfInBounds (sa + k + q.2) q.1) xs) sa (na + nb) := by
 obtain ⟨hp, hw⟩ := hr
 have e0 : xs.toList = xs.toList.take (sa + k) ++ ((xs.extract (sa + k) (sa + na)).toList ++ (xs.extract (sa + na) (sa + na + nb')).toList) ++ xs.toList.drop (sa + na + nb') := by
  rw [YT, YT]
  have h1 : xs.toList.drop (sa + k) = (xs.toList.drop (sa + k)).take (sa + na - (sa + k)) ++ xs.toList.drop (sa + na) := by
   conv => lhs; rw [<- List.take_append_drop (sa + na - (sa + k)) (xs.toList.drop (sa + k)), List.drop_drop, show sa + k + (sa + na - (sa + k)) = sa + na by omega]
  have h2 : xs.toList.drop (sa + na) = (xs.toList.drop (sa + na)).take (sa + na + nb' - (sa + na)) ++ xs.toList.drop (sa + na + nb') := by
   conv => lhs; rw [<- List.take_append_drop (sa + na + nb' - (sa + na)) (xs.toList.drop (sa + na)), List.drop_drop, show sa + na + (sa + na + nb' - (sa + na)) = sa + na + nb' by omega]
  rw [UR, UR, <- h2, <- h1, List.take_append_drop]
 have lx : (xs.extract (sa + k) (sa + na)).toList.length = na - k := by rw [Ug, UP]; omega
 have ly : (xs.extract (sa + na) (sa + na + nb')).toList.length = nb' := by rw [Ug, UP]; omega
 have lr : r.toList.length = na - k + nb' := by rw [hp.length_eq, UK, lx, ly]
 have lp : (xs.toList.take (sa + k)).length = sa + k := by rw [UO, Ug]; omega
 have e1 := ZDA (sa + k) r.toList 0 xs _ _ _ e0 (by rw [lp]; rfl) (by rw [lr, UK, lx, ly])
 generalize (r.toList.zipIdx.foldl (fun (a : Array Keyed) (q : Keyed × Nat) => a.setIfInBounds (sa + k + q.2) q.1) xs) = ys at e1 ⊢
 have gp : ∀ i, i < sa + k -> G ys i = G xs i := fun i hi => by rw [ZF4 e1 (by rw [lp]; exact hi), ZF4 e0 (by rw [lp]; exact hi)]
 have gq : ∀ i, sa + na + nb' <= i -> G ys i = G xs i := fun i hi => by
  rw [ZEj e1 (by rw [lp, lr]; omega), ZEj e0 (by rw [lp, UK, lx, ly]; omega), lp, lr, UK, lx, ly]
 have gm : ∀ i, sa + k <= i -> i < sa + na + nb' -> G ys i ∈ r.toList := fun i h1 h2 => by
  rw [ZDr e1 (by rw [lp]; exact h1) (by rw [lp, lr]; omega)]
  exact ZFk (by rw [lp, lr]; omega)
 have gr : ∀ i j, sa + k <= i -> i < j -> j < sa + na + nb' -> C (G ys i) (G ys j) = true := fun i j h1 h2 h3 => by
  rw [ZDr e1 (by rw [lp]; exact h1) (by rw [lp, lr]; omega), ZDr (i := j) e1 (by rw [lp]; omega) (by rw [lp, lr]; omega)]
  exact ZGu hw (by rw [lp]; omega) (by rw [lp, lr]; omega)
 have c1 : ∀ i j, i < j -> j < na -> C (G xs (sa + i)) (G xs (sa + j)) = true := S1
 -- the three parts
 have f0 : ∀ i, i < k -> ∀ j, j < nb -> C (G xs (sa + i)) (G xs (sa + na + j)) = true := fun i hi j hj => by
  by_cases e : j = 0
  ·subst e; exact t1 i hi
  ·exact O.tr _ _ _ (t1 i hi) (S2 0 j (by omega) hj)
 have rm : ∀ z ∈ r.toList, (∃ p, sa + k <= p /\ p < sa + na /\ z = G xs p) \/ ∃ p, sa + na <= p /\ p < sa + na + nb' /\ z = G xs p := fun z hz => by
  rcases UT.mp (hp.mem_iff.mp hz) with h | h
  ·exact .inl (ZAU (by omega) h)
  ·exact .inr (ZAU (by omega) h)
 have f1 : ∀ i, i < k -> ∀ z ∈ r.toList, C (G xs (sa + i)) z = true := fun i hi z hz => by
  rcases rm z hz with ⟨p, p1, p2, rfl⟩ | ⟨p, p1, p2, rfl⟩
  ·have := c1 i (p - sa) (by omega) (by omega)
   rwa [show sa + (p - sa) = p by omega] at this
  ·have := f0 i hi (p - (sa + na)) (by omega)
   rwa [show sa + na + (p - (sa + na)) = p by omega] at this
 have f2 : ∀ z ∈ r.toList, ∀ j, nb' <= j -> j < nb -> C z (G xs (sa + na + j)) = true := fun z hz j h1 h2 => by
  rcases rm z hz with ⟨p, p1, p2, rfl⟩ | ⟨p, p1, p2, rfl⟩
  ·by_cases e : p = sa + na - 1
   ·rw [e]; exact u2 j h1 h2
   ·refine O.tr _ _ _ ?_ (u2 j h1 h2)
    have := c1 (p - sa) (na - 1) (by omega) (by omega)
    rwa [show sa + (p - sa) = p by omega, show sa + (na - 1) = sa + na - 1 by omega] at this
  ·have := S2 (p - (sa + na)) j (by omega) h2
   rwa [show sa + na + (p - (sa + na)) = p by omega] at this
 refine ⟨?_, fun i hi => ?_, fun i j hij hj => ?_⟩
 ·have : ys.toList.Perm xs.toList := by
   rw [e1]
   conv => rhs; rw [e0]
   exact (List.Perm.append_left _ hp).append_right _
  exact UD.mpr this
 ·rcases hi with h | h
  ·exact gp i (by omega)
  ·exact gq i (by omega)
 ·by_cases a1 : i < k
  ·rw [gp (sa + i) (by omega)]
   by_cases a2 : j < k
   ·rw [gp (sa + j) (by omega)]; exact c1 i j hij (by omega)
   by_cases a3 : sa + j < sa + na + nb'
   ·exact f1 i a1 _ (gm _ (by omega) a3)
   ·rw [gq (sa + j) (by omega)]
    have := f0 i a1 (j - na) (by omega)
    rwa [show sa + na + (j - na) = sa + j by omega] at this
  by_cases a2 : sa + i < sa + na + nb'
  ·by_cases a3 : sa + j < sa + na + nb'
   ·exact gr _ _ (by omega) (by omega) a3
   ·rw [gq (sa + j) (by omega)]
    have := f2 _ (gm (sa + i) (by omega) a2) (j - na) (by omega) (by omega)
    rwa [show sa + na + (j - na) = sa + j by omega] at this
  ·rw [gq (sa + i) (by omega), gq (sa + j) (by omega)]
   have := S2 (i - na) (j - na) (by omega) (by omega)
   rwa [show sa + na + (i - na) = sa + i by omega, show sa + na + (j - na) = sa + j by omega] at this
theorem ZEl {st' : SortSt} {Q : PUnit -> SortSt -> Prop} (h : Q ⟨⟩ st') : wpS (model prog w) A E s (set st' : StateT SortSt Sem PUnit) Q st := wpS_modify (f := fun _ => st') h
theorem ZCi (O : YN C a₀) (L : Ys prog w A E s kd a₀ C) (hB : TB kd a₀ st) {i sa na pw nb pw2 : Nat} (h1 : (pendingOf st)[i]? = some (sa, na, pw)) (h2 : (pendingOf st)[i + 1]? = some (sa + na, nb, pw2)) (hna : 1 <= na) (hnb : 1 <= nb) (hs : sa + na + nb <= a₀.size)
  (S1 : Sg C (arrOf st) sa na) (S2 : Sg C (arrOf st) (sa + na) nb) {Q : Bool -> SortSt -> Prop}
  (h : ∀ ys g, Mg C (arrOf st) ys sa (na + nb) -> Q true (SortSt.mk' (kindOf st) ys (((pendingOf st).setIfInBounds i (sa, na + nb, pw)).eraseIdxIfInBounds (i + 1)) g (failedOf st))) : wpS (model prog w) A E s (mergeAt' i) Q st := by
 refine wpS_bind (wpS_get ?_)
 erw [h1, h2]
 dsimp only
 have hsz := hB.size
 have hkd : ∀ p, kindOf (setPending st p) = kd := fun _ => hB.kind
 have hmem : ∀ i, i < (arrOf st).size -> G (arrOf st) i ∈ a₀.toList := fun i hi => hB.mem (by omega)
 have harr : ∀ x ∈ (arrOf st).toList, x ∈ a₀.toList := fun x hx => by
  obtain ⟨j, _, hj, rfl⟩ := JT (i := 0) (x := x) (xs := arrOf st) (by simpa using hx)
  exact hmem j hj
 have hinj : ∀ i j, i < (arrOf st).size -> j < (arrOf st).size -> i ≠ j -> G (arrOf st) i ≠ G (arrOf st) j := fun i j hi hj n => hB.inj O (by omega) (by omega) n
 have hmono : ∀ (lo n : Nat), lo + n <= (arrOf st).size -> Sg C (arrOf st) lo n -> ∀ key, ∀ i j, i <= j -> j < n -> (!C key (G (arrOf st) (lo + j))) = true -> (!C key (G (arrOf st) (lo + i))) = true := fun lo n hn S key i j hij hj hh => by
  rw [Bool.not_eq_true'] at hh ⊢
  by_cases e : i = j
  ·rw [e]; exact hh
  ·cases hc : C key (G (arrOf st) (lo + i)) with
   | false => rfl
   | true => rw [O.tr _ _ _ hc (S i j (by omega) hj)] at hh; cases hh
 have hmonoL : ∀ (lo n : Nat), lo + n <= (arrOf st).size -> Sg C (arrOf st) lo n -> ∀ key, ∀ i j, i <= j -> j < n -> C (G (arrOf st) (lo + j)) key = true -> C (G (arrOf st) (lo + i)) key = true := fun lo n hn S key i j hij hj hh => by
  by_cases e : i = j
  ·rw [e]; exact hh
  ·exact O.tr _ _ _ (S i j (by omega) hj) hh
 have tot : ∀ i j, i < (arrOf st).size -> j < (arrOf st).size -> i ≠ j -> C (G (arrOf st) i) (G (arrOf st) j) = false -> C (G (arrOf st) j) (G (arrOf st) i) = true := fun i j hi hj n e => hB.tot O (by omega) (by omega) n e
 refine wpS_bind (ZEl (wpS_bind (YM (arr := arrOf st) (by omega) (wpS_bind (JN (arr := arrOf st) (ZFh L (hkd _) (hmem _ (by omega)) harr (by omega : _ <= (arrOf st).size)) (hmono sa na (by omega) S1 _) (by omega) fun k kn t1 t2 => ?_)))))
 dsimp only
 have t1' : ∀ i, i < k -> C (G (arrOf st) (sa + i)) (G (arrOf st) (sa + na)) = true := fun i hi => tot _ _ (by omega) (by omega) (by omega) (by simpa using t1 i hi)
 have same : C (G (arrOf st) (sa + na - 1)) (G (arrOf st) (sa + na)) = true -> Mg C (arrOf st) (arrOf st) sa (na + nb) := fun hc => ⟨.refl _, fun _ _ => rfl, S1.join O.tr S2 hna hc⟩
 by_cases c1 : (na - k == 0) = true
 ·rw [if_pos c1]
  have hkn : k = na := by simp at c1; omega
  have hc := t1' (na - 1) (by omega)
  rw [show sa + (na - 1) = sa + na - 1 by omega] at hc
  exact wpS_pure (h _ _ (same hc))
 rw [if_neg c1]
 have hk : k < na := by simp at c1; omega
 have e1 : sa + k + (na - k) - 1 = sa + na - 1 := by omega
 rw [e1]
 refine wpS_bind (YM (arr := arrOf st) (by omega) (wpS_bind (JN (arr := arrOf st) (ZFi L (hkd _) (hmem _ (by omega)) harr (by omega : _ <= (arrOf st).size)) (hmonoL (sa + na) nb (by omega) S2 _) (by omega) fun nb' nbn u1 u2 => ?_)))
 dsimp only
 have u2' : ∀ i, nb' <= i -> i < nb -> C (G (arrOf st) (sa + na - 1)) (G (arrOf st) (sa + na + i)) = true := fun i h1 h2 => tot _ _ (by omega) (by omega) (by omega) (u2 i h1 h2)
 by_cases c2 : (nb' == 0) = true
 ·rw [if_pos c2]
  have e0 : nb' = 0 := by simpa using c2
  exact wpS_pure (h _ _ (same (u2' 0 (by omega) (by omega))))
 rw [if_neg c2]
 have hb1 : 1 <= nb' := by simp at c2; omega
 have M : MP C a₀ ((arrOf st).extract (sa + k) (sa + na)) ((arrOf st).extract (sa + na) (sa + na + nb')) := by
  refine ⟨fun x hx => ?_, fun x hx => ?_, fun x hx y hy e => ?_, S1.pw (by omega) (by omega) (by omega) (Ud _), S2.pw (by omega) (Ud _) (by omega) (by omega), ?_, ?_, ?_, ?_⟩
  ·obtain ⟨p, p1, p2, rfl⟩ := ZAU (by omega) hx
   exact hmem _ (by omega)
  ·obtain ⟨p, p1, p2, rfl⟩ := ZAU (by omega) hx
   exact hmem _ (by omega)
  ·obtain ⟨p, p1, p2, rfl⟩ := ZAU (by omega) hx
   obtain ⟨q, q1, q2, rfl⟩ := ZAU (by omega) hy
   exact hinj p q (by omega) (by omega) (by omega) e
  ·rw [UP]; omega
  ·rw [UP]; omega
  ·rw [Jd (by omega) (by omega), Jd (by omega) (by omega), Nat.add_zero, Nat.add_zero]
   have := t2 k (Ud _) hk
   simpa using this
  ·rw [UP, UP, Jd (by omega) (by omega), Jd (by omega) (by omega)]
   have := u1 (nb' - 1) (by omega)
   rw [show sa + na + (min (sa + na + nb') (arrOf st).size - (sa + na) - 1) = sa + na + (nb' - 1) by omega, show sa + k + (min (sa + na) (arrOf st).size - (sa + k) - 1) = sa + na - 1 by omega]
   exact this
 have fin : ∀ r, MOk C ((arrOf st).extract (sa + k) (sa + na)) ((arrOf st).extract (sa + na) (sa + na + nb')) r -> Mg C (arrOf st) (r.toList.zipIdx.foldl (fun (a : Array Keyed) (q : Keyed × Nat) => a.setIfInBounds (sa + k + q.2) q.1) (arrOf st)) sa (na + nb) := fun r hr => ZEk O (by omega) S1 S2 hk nbn hb1 hmem hinj t1' u2' hr
 have done : ∀ r g, MOk C ((arrOf st).extract (sa + k) (sa + na)) ((arrOf st).extract (sa + na) (sa + na + nb')) r -> wpS (model prog w) A E s (do
   modify fun s => setArr s (r.toList.zipIdx.foldl (fun a x => a.setIfInBounds (sa + k + x.2) x.1) (arrOf s))
   let l <- get
   pure (failedOf l).isNone) Q (YD (setPending st (((pendingOf st).setIfInBounds i (sa, na + nb, pw)).eraseIdxIfInBounds (i + 1))) g) := fun r g hr => by
  refine wpS_bind (wpS_modify (wpS_bind (wpS_get ?_)))
  have := h _ g (fin r hr)
  refine wpS_pure ?_
  have hf : (failedOf st).isNone = true := by rw [hB.failed]; rfl
  show Q (failedOf st).isNone _
  rw [hf]
  exact this
 split
 ·exact wpS_bind <| ZCg O L M (hkd _) fun r g hr => done r g hr
 ·exact wpS_bind <| ZCh O L M (hkd _) fun r g hr => done r g hr
end
def YL (C : Cmp) (xs : Array Keyed) : Nat -> List (Nat × Nat × Nat) -> Nat -> Prop
 | lo, [], hi => lo = hi
 | lo, x :: r, hi => x.1 = lo /\ 1 <= x.2.1 /\ Sg C xs lo x.2.1 /\ YL C xs (lo + x.2.1) r hi
section
variable {C : Cmp} {xs ys : Array Keyed}
theorem YL.le : ∀ {l : List (Nat × Nat × Nat)} {lo hi : Nat}, YL C xs lo l hi -> lo + l.length <= hi
 | [], lo, hi, h => by cases h; exact Ud _
 | x :: r, lo, hi, ⟨h1, h2, h3, h4⟩ => by
  have := h4.le
  rw [List.length_cons]
  omega
theorem Sg.congr {lo n : Nat} (h : Sg C xs lo n) (e : ∀ k, lo <= k -> k < lo + n -> G ys k = G xs k) : Sg C ys lo n := fun i j hij hj => by
 rw [e _ (by omega) (by omega), e _ (by omega) (by omega)]
 exact h i j hij hj
theorem YL.congr : ∀ {l : List (Nat × Nat × Nat)} {lo hi : Nat}, YL C xs lo l hi -> (∀ k, lo <= k -> k < hi -> G ys k = G xs k) -> YL C ys lo l hi
 | [], lo, hi, h, e => h
 | x :: r, lo, hi, ⟨h1, h2, h3, h4⟩, e => by
  have := h4.le
  exact ⟨h1, h2, h3.congr fun k k1 k2 => e k k1 (by omega), h4.congr fun k k1 k2 => e k (by omega) k2⟩
theorem YL.split : ∀ {l1 l2 : List (Nat × Nat × Nat)} {lo hi : Nat}, YL C xs lo (l1 ++ l2) hi -> ∃ m, YL C xs lo l1 m /\ YL C xs m l2 hi
 | [], l2, lo, hi, h => ⟨lo, rfl, h⟩
 | x :: r, l2, lo, hi, ⟨h1, h2, h3, h4⟩ => by
  obtain ⟨m, a, b⟩ := YL.split h4
  exact ⟨m, ⟨h1, h2, h3, a⟩, b⟩
theorem YL.app : ∀ {l1 l2 : List (Nat × Nat × Nat)} {lo m hi : Nat}, YL C xs lo l1 m -> YL C xs m l2 hi -> YL C xs lo (l1 ++ l2) hi
 | [], l2, lo, m, hi, h, h' => by cases h; exact h'
 | x :: r, l2, lo, m, hi, ⟨h1, h2, h3, h4⟩, h' => ⟨h1, h2, h3, YL.app h4 h'⟩
theorem ZEm {p : Array (Nat × Nat × Nat)} {i : Nat} {x y : Nat × Nat × Nat} (h1 : p[i]? = some x) (h2 : p[i + 1]? = some y) : ∃ l1 l2, p.toList = l1 ++ x :: y :: l2 /\ l1.length = i := by
 rw [<- UN] at h1 h2
 obtain ⟨b1, e1⟩ := Ui.mp h1
 obtain ⟨b2, e2⟩ := Ui.mp h2
 refine ⟨p.toList.take i, p.toList.drop (i + 2), ?_, by rw [UO]; omega⟩
 conv => lhs; rw [<- List.take_append_drop i p.toList, List.drop_eq_getElem_cons b1, List.drop_eq_getElem_cons b2, e1, e2]
theorem ZDB {p : Array (Nat × Nat × Nat)} {i : Nat} {x y z : Nat × Nat × Nat} {l1 l2 : List (Nat × Nat × Nat)} (h : p.toList = l1 ++ x :: y :: l2) (hl : l1.length = i) : ((p.setIfInBounds i z).eraseIdxIfInBounds (i + 1)).toList = l1 ++ z :: l2 := by
 rw [Array.toList_eraseIdxIfInBounds, Array.toList_setIfInBounds, h, <- hl, List.set_append_right _ _ (Ud _), Nat.sub_self, List.set_cons_zero, List.eraseIdx_append_of_length_le (by omega), show l1.length + 1 - l1.length = 1 by omega]
 rfl
theorem YL.two {p : Array (Nat × Nat × Nat)} {i hi : Nat} {x y : Nat × Nat × Nat} (h : YL C xs 0 p.toList hi) (h1 : p[i]? = some x) (h2 : p[i + 1]? = some y) :
  y.1 = x.1 + x.2.1 /\ 1 <= x.2.1 /\ 1 <= y.2.1 /\ Sg C xs x.1 x.2.1 /\ Sg C xs (x.1 + x.2.1) y.2.1 /\ x.1 + x.2.1 + y.2.1 <= hi /\
  ∀ ys, Mg C xs ys x.1 (x.2.1 + y.2.1) -> YL C ys 0 ((p.setIfInBounds i (x.1, x.2.1 + y.2.1, x.2.2)).eraseIdxIfInBounds (i + 1)).toList hi := by
 obtain ⟨l1, l2, e, hl⟩ := ZEm h1 h2
 rw [e] at h
 obtain ⟨m, ha, rfl, b1, b2, c0, c1, c2, d⟩ := h.split
 have hd := d.le
 refine ⟨c0, b1, c1, b2, c2, by omega, fun ys M => ?_⟩
 rw [ZDB e hl]
 refine (ha.congr fun k _ k2 => M.out k (.inl k2)).app ⟨rfl, by show 1 <= x.2.1 + y.2.1; omega, M.run, ?_⟩
 show YL C ys (x.1 + (x.2.1 + y.2.1)) l2 hi
 rw [<- Nat.add_assoc]
 exact d.congr fun k k1 _ => M.out k (.inr (by omega))
theorem YL.push {p : Array (Nat × Nat × Nat)} {lo n q : Nat} (h : YL C xs 0 p.toList lo) (hn : 1 <= n) (hs : Sg C xs lo n) : YL C xs 0 (p.push (lo, n, q)).toList (lo + n) := by
 rw [US]
 exact h.app ⟨rfl, hn, hs, rfl⟩
theorem YL.pw : ∀ {l l' : List (Nat × Nat × Nat)} {lo hi : Nat}, YL C xs lo l hi -> l.map (fun x => (x.1, x.2.1)) = l'.map (fun x => (x.1, x.2.1)) -> YL C xs lo l' hi
 | [], l', lo, hi, h, e => by
  cases l' with
  | nil => exact h
  | cons => cases e
 | x :: r, l', lo, hi, ⟨h1, h2, h3, h4⟩, e => by
  cases l' with
  | nil => cases e
  | cons y r' =>
   rw [UE, UE] at e
   injection e with e1 e2
   injection e1 with e3 e4
   refine ⟨e3 ▸ h1, e4 ▸ h2, e4 ▸ h3, ?_⟩
   rw [<- e4]
   exact h4.pw e2
theorem YL.modify {p : Array (Nat × Nat × Nat)} {hi i q : Nat} (h : YL C xs 0 p.toList hi) : YL C xs 0 (p.modify i fun x => (x.1, x.2.1, q)).toList hi := by
 refine h.pw ?_
 rw [Array.toList_modify]
 apply List.ext_getElem?
 intro j
 rw [UH, UH, List.getElem?_modify]
 cases p.toList[j]? with
 | none => rfl
 | some x => by_cases c : i = j <;> simp [c]
theorem YL.one {p : Array (Nat × Nat × Nat)} {hi : Nat} (h : YL C xs 0 p.toList hi) (hp : p.size <= 1) : Sg C xs 0 hi := by
 cases e : p.toList with
 | nil => rw [e] at h; cases h; intro i j _ hj; omega
 | cons x r =>
  have : r = [] := by
   have := congrArg List.length e
   rw [Ug, List.length_cons] at this
   exact List.eq_nil_of_length_eq_zero (by omega)
  subst this
  rw [e] at h
  obtain ⟨_, _, h3, h4⟩ := h
  cases h4
  rw [Nat.zero_add]
  exact h3
end
section
variable {prog : Program} {w : World} {A : Around} {E : Value -> Shared -> Prop} {s : Shared} {kd : SortKind} {a₀ : Array Keyed} {C : Cmp} {st : SortSt}
theorem ZA9 (O : YN C a₀) (L : Ys prog w A E s kd a₀ C) (hB : TB kd a₀ st) {hi i : Nat} (hR : YL C (arrOf st) 0 (pendingOf st).toList hi) (hhi : hi <= a₀.size) (hi1 : i + 1 < (pendingOf st).size) {Q : Bool -> SortSt -> Prop}
  (h : ∀ st2, TB kd a₀ st2 -> YL C (arrOf st2) 0 (pendingOf st2).toList hi -> (∀ k, hi <= k -> G (arrOf st2) k = G (arrOf st) k) -> (pendingOf st2).size + 1 = (pendingOf st).size -> Q true st2) : wpS (model prog w) A E s (mergeAt' i) Q st := by
 have e1 : (pendingOf st)[i]? = some (pendingOf st)[i] := Array.getElem?_eq_getElem (by omega)
 have e2 : (pendingOf st)[i + 1]? = some (pendingOf st)[i + 1] := Array.getElem?_eq_getElem hi1
 generalize (pendingOf st)[i] = x at e1
 generalize (pendingOf st)[i + 1] = y at e2
 obtain ⟨sa, na, pw⟩ := x
 obtain ⟨sb, nb, pw2⟩ := y
 obtain ⟨h1, h2, h3, h4, h5, h6, h7⟩ := hR.two e1 e2
 dsimp only at h1 h2 h3 h4 h5 h6 h7
 subst h1
 refine ZCi O L hB e1 e2 h2 h3 (by omega) h4 h5 fun ys g M => h _ ⟨M.perm.trans hB.perm, hB.kind, hB.failed⟩ (h7 ys M) (fun k hk => M.out k (.inr (by omega))) ?_
 show (((pendingOf st).setIfInBounds i (sa, na + nb, pw)).eraseIdxIfInBounds (i + 1)).size + 1 = _
 obtain ⟨l1, l2, e, hl⟩ := ZEm e1 e2
 rw [<- Ug, <- Ug, ZDB e hl, e]
 simp
 omega
def ZDC (size lo n : Nat) : StateT SortSt Sem (ForInStep (Option Unit × Nat)) := do
 let l <- get
 match (pendingOf l).back? with
 | some (s1, n1, snd) => do
  let r <- forIn [:size] ((none, ()) : Option Unit × Unit) fun x r => do
   let l <- get
   match if (pendingOf l).size > 1 then (pendingOf l)[(pendingOf l).size - 2]? else none with
   | some (fst, fst_1, older) =>
    if older <= power' size (2 * s1 + n1) (2 * s1 + n1 + n1 + n) size then pure (ForInStep.done (none, ()))
    else do
     let l <- mergeAt' ((pendingOf l).size - 2)
     if (!l) = true then pure (ForInStep.done (some (), ())) else pure (ForInStep.yield (none, ()))
   | x => pure (ForInStep.done (none, ()))
  @Break.runK.match_1.{0, 1} Unit (fun _ => StateT SortSt Sem (ForInStep (Option Unit × Nat))) r.fst (fun r => pure (ForInStep.done (some r, lo))) (fun _ => do
   modify fun s => setPending s ((pendingOf s).modify ((pendingOf s).size - 1) fun x => (x.fst, x.2.fst, power' size (2 * s1 + n1) (2 * s1 + n1 + n1 + n) size))
   modify fun s => setPending s ((pendingOf s).push (lo, n, 0))
   pure (ForInStep.yield (none, lo + n)))
 | x => do
  modify fun s => setPending s ((pendingOf s).push (lo, n, 0))
  pure (ForInStep.yield (none, lo + n))
theorem ZEn (O : YN C a₀) (L : Ys prog w A E s kd a₀ C) (hB : TB kd a₀ st) {lo n : Nat} (hR : YL C (arrOf st) 0 (pendingOf st).toList lo) (hn : 1 <= n) (hhi : lo + n <= a₀.size) (hs : Sg C (arrOf st) lo n) {T : ForInStep (Option Unit × Nat) -> SortSt -> Prop}
  (h : ∀ st2, TB kd a₀ st2 -> YL C (arrOf st2) 0 (pendingOf st2).toList (lo + n) -> T (.yield (none, lo + n)) st2) : wpS (model prog w) A E s (ZDC a₀.size lo n) T st := by
 unfold ZDC
 refine wpS_bind (wpS_get ?_)
 cases hb : (pendingOf st).back? with
 | none =>
  dsimp only
  exact wpS_bind (wpS_modify (wpS_pure (h _ ⟨hB.perm, hB.kind, hB.failed⟩ (hR.push hn hs))))
 | some z =>
  obtain ⟨s1, n1, q1⟩ := z
  dsimp only
  generalize power' a₀.size (2 * s1 + n1) (2 * s1 + n1 + n1 + n) a₀.size = pw
  refine wpS_bind (wpS_mono (wpS_forRange (I := fun x c st' => c = (none, ()) /\ TB kd a₀ st' /\ YL C (arrOf st') 0 (pendingOf st').toList lo /\ Sg C (arrOf st') lo n)
   (Q := fun c st' => c = (none, ()) /\ TB kd a₀ st' /\ YL C (arrOf st') 0 (pendingOf st').toList lo /\ Sg C (arrOf st') lo n) ?step (fun _ _ hh => hh) ⟨rfl, hB, hR, hs⟩) ?post)
  case post =>
   rintro c st' ⟨rfl, hB', hR', hs'⟩
   dsimp only
   exact wpS_bind (wpS_modify (wpS_bind (wpS_modify (wpS_pure (h _ ⟨hB'.perm, hB'.kind, hB'.failed⟩ (hR'.modify.push hn hs'))))))
  case step =>
   rintro x c st' _ hx ⟨rfl, hB', hR', hs'⟩
   refine wpS_bind (wpS_get ?_)
   by_cases c1 : (pendingOf st').size > 1
   ·rw [if_pos c1, Array.getElem?_eq_getElem (by omega)]
    generalize (pendingOf st')[(pendingOf st').size - 2] = z
    obtain ⟨z1, z2, older⟩ := z
    dsimp only
    by_cases c2 : older <= pw
    ·rw [if_pos c2]
     exact wpS_pure ⟨rfl, hB', hR', hs'⟩
    rw [if_neg c2]
    refine wpS_bind (ZA9 O L hB' hR' (by omega) (by omega) fun st2 hB2 hR2 hG _ => ?_)
    simp only [Bool.not_true, Uk, if_false]
    exact wpS_pure ⟨rfl, hB2, hR2, hs'.congr fun k k1 _ => hG k k1⟩
   ·rw [if_neg c1]
    exact wpS_pure ⟨rfl, hB', hR', hs'⟩
theorem ZEo (O : YN C a₀) (L : Ys prog w A E s kd a₀ C) {Q : Unit -> SortSt -> Prop} (hB : TB kd a₀ st) (hp : pendingOf st = #[])
  (h : ∀ st', TB kd a₀ st' -> Sg C (arrOf st') 0 a₀.size -> Q () st') : wpS (model prog w) A E s sortRuns' Q st := by
 rw [sortRuns'_eq]
 refine wpS_bind (wpS_get ?_)
 dsimp only
 simp only [hB.size]
 generalize minRun' a₀.size a₀.size 0 = mr
 refine wpS_bind (wpS_mono (wpS_forRange
  (I := fun x c st' => ∃ lo, c = (none, lo) /\ TB kd a₀ st' /\ YL C (arrOf st') 0 (pendingOf st').toList lo /\ lo <= a₀.size /\ x <= lo)
  (Q := fun c st' => c = (none, a₀.size) /\ TB kd a₀ st' /\ YL C (arrOf st') 0 (pendingOf st').toList a₀.size) ?step ?fin ⟨0, rfl, hB, by rw [hp]; rfl, UI _, Ud _⟩) ?post)
 case fin =>
  rintro c st' ⟨lo, rfl, hB', hR, h1, h2⟩
  have e : lo = a₀.size := by omega
  subst e
  exact ⟨rfl, hB', hR⟩
 case step =>
  rintro x c st' _ hx ⟨lo, rfl, hB', hR, h1, h2⟩
  dsimp only
  by_cases c0 : lo >= a₀.size
  ·rw [if_pos c0]
   have e : lo = a₀.size := by omega
   subst e
   exact wpS_pure ⟨rfl, hB', hR⟩
  rw [if_neg c0]
  refine wpS_bind (ZDm O L (by omega) (by omega) hB' fun m xs hB2 hb2 hm1 hm2 hs2 => ?_)
  dsimp only
  have hR2 : YL C xs 0 (pendingOf st').toList lo := hR.congr fun k _ k2 => hb2 k k2
  by_cases hlt : m < mr
  ·rw [if_pos hlt]
   refine wpS_bind (wpS_lift (wpAny_rule ⟨rfl, ?_⟩))
   refine wpS_bind (ZFf O L (by omega) hm1 (by omega) hB2 hs2 fun xs3 hB3 hb3 hs3 => ?_)
   simp only [Bool.not_true, Uk, if_false]
   exact ZEn (st := setArr (setArr st' xs) xs3) O L hB3 (hR2.congr fun k _ k2 => hb3 k k2) (by omega) (by omega) hs3 fun st2 g1 g2 => ⟨_, rfl, g1, g2, by omega, by omega⟩
  ·rw [if_neg hlt]
   exact ZEn (st := setArr st' xs) O L hB2 hR2 hm1 (by omega) hs2 fun st2 g1 g2 => ⟨_, rfl, g1, g2, by omega, by omega⟩
 case post =>
  rintro c st' ⟨rfl, hB', hR⟩
  dsimp only
  have hle := hR.le
  rw [Ug] at hle
  refine wpS_bind (wpS_mono (wpS_forRange (I := fun x c st' => c = (none, ()) /\ TB kd a₀ st' /\ YL C (arrOf st') 0 (pendingOf st').toList a₀.size /\ (pendingOf st').size + x <= a₀.size)
   (Q := fun c st' => c = (none, ()) /\ TB kd a₀ st' /\ YL C (arrOf st') 0 (pendingOf st').toList a₀.size /\ (pendingOf st').size <= 1) ?step2 ?fin2 ⟨rfl, hB', hR, by omega⟩) ?post2)
  case post2 =>
   rintro c st2 ⟨rfl, hB2, hR2, hp2⟩
   dsimp only
   exact wpS_pure (h _ hB2 (hR2.one hp2))
  case fin2 =>
   rintro c st2 ⟨rfl, hB2, hR2, hp2⟩
   exact ⟨rfl, hB2, hR2, by omega⟩
  case step2 =>
   rintro x c st2 _ hx ⟨rfl, hB2, hR2, hp2⟩
   refine wpS_bind (wpS_get ?_)
   by_cases c1 : (pendingOf st2).size <= 1
   ·rw [if_pos c1]
    exact wpS_pure ⟨rfl, hB2, hR2, c1⟩
   rw [if_neg c1]
   refine wpS_bind (ZA9 O L hB2 hR2 (Ud _) ?_ fun st3 hB3 hR3 _ hsz => ?_)
   ·have : ∀ (c : Bool) (n : Nat), n > 1 -> (if c = true then n - 2 - 1 else n - 2) + 1 < n := by
     intro c n h
     cases c <;> simp <;> omega
    exact this _ _ (by omega)
   ·simp only [Bool.not_true, Uk, if_false]
    exact wpS_pure ⟨rfl, hB3, hR3, by omega⟩
end
section
variable {prog : Program} {w : World} {A : Around} {E : Value -> Shared -> Prop} {s : Shared}
theorem ZCU (vs : List Value) : (vs.toArray.zip vs.toArray).toList = vs.map fun v => (v, v) := by
 rw [Array.toList_zip]
 induction vs with
 | nil => rfl
 | cons v r ih => simpa using ih
theorem ZDD (vs : List Value) : (vs.map fun v => (v, v)).map (·.2) = vs := by rw [List.map_map]; exact List.map_id vs
theorem ZBj {a : Addr} {vs : List Value} {n : Nat} {P : Fin -> Shared -> Prop} {kd : SortKind} (C : Value -> Value -> Bool) (tr : ∀ x y z, C x y = true -> C y z = true -> C x z = true) (asy : ∀ x y, C x y = true -> C y x = false)
  (tot : ∀ x ∈ vs, ∀ y ∈ vs, x ≠ y -> C x y = false -> C y x = true) (nd : vs.Nodup) (hsz : vs.length <= sizeLine) (ho : s.heap.get? a = some (seqObj "list" vs.toArray n))
  (kind : 2 <= vs.length -> ∀ h3 : Heap, (∀ b o, b ≠ a -> s.heap.get? b = some o -> h3.get? b = some o) -> ∀ Q : SortKind -> Shared -> Prop, Q kd { s with heap := h3 } -> wpAny (model prog w) A (keyKind' vs.toArray) Q E { s with heap := h3 })
  (lt : ∀ h3 : Heap, (∀ b o, b ≠ a -> s.heap.get? b = some o -> h3.get? b = some o) -> ∀ x ∈ vs, ∀ y ∈ vs, ∀ (E' : Value -> Shared -> Prop) (Q : Bool -> Shared -> Prop), Q (C x y) { s with heap := h3 } -> wpAny (model prog w) A (keyLt' kd x y) Q E' { s with heap := h3 })
  (h : ∀ out : List Value, out.Perm vs -> out.Pairwise (fun x y => C x y = true) -> P (.done (.ret .none)) { s with heap := sortedHeap s.heap a vs out.toArray }) :
  wpAny (model prog w) A (Builtin.«list.sort» ⟨[.ref a], []⟩) P E s := by
 have ha : a < s.heap.objs.size := Uh ho
 rw [list_sort_plain]
 refine Ua (listItems_at ho rfl ?_)
 refine Ua (listUpdate_at ho rfl ?_ (by rw [Uf]; exact hsz) (UI _))
 obtain ⟨e1, ho1⟩ : ∃ e1, (s.heap.update a (Obj.mapSeq fun _ => (#[] : Array Value))).get? a = some (seqObj "list" #[] e1) := ⟨_, get?_update_seq ho fun _ => #[]⟩
 refine Ua (seqEpoch_at ho1 rfl ?_)
 refine Ua (wpAny_newTuple ?_ (by show vs.length <= _; exact hsz))
 refine Ua (wpAny_newList ?_ (UI _))
 refine UG ?_
 generalize hh : (((s.heap.update a (Obj.mapSeq fun _ => (#[] : Array Value))).push (seqObj "tuple" vs.toArray 0)).push (seqObj "list" #[] 0)) = h3
 have ho3 : h3.get? a = some (seqObj "list" #[] e1) := by rw [<- hh]; exact Ub _ (Ub _ ho1)
 have keep : ∀ b o, b ≠ a -> s.heap.get? b = some o -> h3.get? b = some o := fun b o hb e => by
  rw [<- hh]
  exact Ub _ (Ub _ ((Ul _ _ (Ne.symm hb)).trans e))
 have done : ∀ out : List Value, out.Perm vs -> out.Pairwise (fun x y => C x y = true) ->
   P (.done (.ret .none)) { s with heap := h3.update a (Obj.mapSeq fun _ => out.toArray) } := fun out hp hs => by
  have := h out hp hs
  unfold sortedHeap at this
  rw [hh] at this
  exact this
 show wpAny (model prog w) A _ P E { s with heap := h3 }
 dsimp only
 have fin : ∀ st' : SortSt, failedOf st' = none -> (∃ out : List Value, (arrOf st').map (·.2) = out.toArray /\ out.Perm vs /\ out.Pairwise (fun x y => C x y = true)) -> wpAny (model prog w) A (do
   let l <- seqEpoch a
   Builtin.List.listUpdate (.ref a) fun _ => (arrOf st').map (·.2)
   if let some e := failedOf st' then rule "list.sort.comparison-raised"; throw e
   if (l != e1) = true then rule "list.sort.modified"; raiseError "ValueError" "list modified during sort"
   ret .none) P E { s with heap := h3 } := by
  rintro st' hf ⟨out, e, hp, hs⟩
  rw [e]
  refine Ua (seqEpoch_at (s := { s with heap := h3 }) ho3 rfl ?_)
  refine Ua (listUpdate_at (s := { s with heap := h3 }) ho3 rfl ?_ (UI _) ?_)
  ·rw [hf]
   simp only [bne_self_eq_false, Uk, if_false]
   exact Us (done out hp hs)
  ·show out.toArray.size <= _
   rw [Uf, hp.length_eq]
   omega
 by_cases h2 : vs.toArray.size < 2
 ·rw [if_pos h2, if_pos h2]
  refine Ua (Us ?_)
  rw [StateT.run_pure]
  refine Ua (Us ?_)
  refine fin (SortSt.mk' general' (vs.toArray.zip vs.toArray) #[] 7 none) rfl ⟨vs, ?_, .refl _, ?_⟩
  ·apply Array.toList_inj.mp
   show ((vs.toArray.zip vs.toArray).map (·.2)).toList = _
   rw [Array.toList_map, ZCU, ZDD]
  ·rw [Uf] at h2
   match vs, h2 with
   | [], _ => exact .nil
   | [v], _ => exact List.pairwise_singleton _ _
 ·rw [if_neg h2, if_neg h2]
  have h2' : 2 <= vs.length := by rw [Uf] at h2; omega
  refine Ua (kind h2' h3 keep _ ?_)
  have hz := ZCU vs
  have hzm : ∀ x ∈ (vs.toArray.zip vs.toArray).toList, x.1 ∈ vs /\ x = (x.1, x.1) := fun x hx => by
   rw [hz] at hx
   obtain ⟨v, hv, rfl⟩ := List.mem_map.mp hx
   exact ⟨hv, rfl⟩
  have O : YN (fun x y => C x.1 y.1) (vs.toArray.zip vs.toArray) := by
   refine ⟨fun x y z => tr _ _ _, fun x y => asy _ _, fun x hx y hy n e => ?_, ?_⟩
   ·obtain ⟨x1, x2⟩ := hzm x hx
    obtain ⟨y1, y2⟩ := hzm y hy
    exact tot _ x1 _ y1 (fun z => n (by rw [x2, y2, z])) e
   ·rw [hz]
    exact UQ.mpr (nd.imp fun h e => h (Prod.mk.inj e).1)
  have L : Ys prog w A E { s with heap := h3 } kd (vs.toArray.zip vs.toArray) (fun x y => C x.1 y.1) := fun x hx y hy st Q hk hq => by
   rw [lt'_eq]
   refine wpS_bind (wpS_get ?_)
   rw [hk]
   refine wpS_bind (wpS_lift (wpAny_attempt (lt h3 keep _ (hzm x hx).1 _ (hzm y hy).1 _ _ ⟨rfl, ?_⟩)))
   exact wpS_pure hq
  refine Ua (UC (ZEo (st := SortSt.mk' kd (vs.toArray.zip vs.toArray) #[] 7 none) O L (Q := fun _ st' => TB kd (vs.toArray.zip vs.toArray) st' /\ Sg (fun x y => C x.1 y.1) (arrOf st') 0 (vs.toArray.zip vs.toArray).size)
   ⟨.refl _, rfl, rfl⟩ rfl fun st' b1 b2 => ⟨b1, b2⟩) ?_ fun _ _ e => e)
  rintro ⟨⟨⟩, st'⟩ s' ⟨rfl, hB, hS⟩
  refine fin st' hB.failed ⟨((arrOf st').map (·.2)).toList, by rw [Array.toArray_toList], ?_, ?_⟩
  ·have hp := (UD.mp hB.perm).map (·.2)
   rw [hz, ZDD] at hp
   rw [Array.toList_map]
   exact hp
  ·have := hS.pw (by rw [hB.size]; omega) (i := 0) (j := (arrOf st').size) (Ud _) (UI _) (by rw [hB.size]; omega)
   rw [Array.extract_size] at this
   rw [Array.toList_map, UQ]
   refine this.imp_of_mem fun {x y} hx hy e => ?_
   have hm : ∀ x ∈ (arrOf st').toList, x = (x.1, x.1) := fun x hx => (hzm x ((UD.mp hB.perm).mem_iff.mp hx)).2
   rw [hm x hx, hm y hy]
   exact e
theorem ZCV {α β : Type} {f : α -> β} {o l' : List β} (p : o.Perm l') : ∀ l : List α, l' = l.map f -> ∃ ix : List α, ix.Perm l /\ o = ix.map f := by
 induction p with
 | nil => intro l e; exact ⟨l, .refl _, e⟩
 | cons x _ ih =>
  intro l e
  cases l with
  | nil => cases e
  | cons y r =>
   rw [UE] at e
   injection e with e1 e2
   obtain ⟨ix, h1, h2⟩ := ih r e2
   exact ⟨y :: ix, h1.cons _, by rw [UE, <- h2, e1]⟩
 | swap x y r =>
  intro l e
  match l, e with
  | a :: b :: l, e =>
   rw [UE, UE] at e
   injection e with e1 e2
   injection e2 with e2 e3
   exact ⟨b :: a :: l, .swap _ _ _, by rw [UE, UE, e1, e2, e3]⟩
  | [], e => cases e
  | [a], e => cases e
 | trans _ _ ih1 ih2 =>
  intro l e
  obtain ⟨ix, h1, h2⟩ := ih2 l e
  obtain ⟨ix', h3, h4⟩ := ih1 ix h2
  exact ⟨ix', h3.trans h1, h4⟩
theorem JE.inj {h : Heap} {a : Addr} {v : Value} {p q : Int × Int} (h1 : JE h a v p) (h2 : JE h a v q) : p = q := by
 obtain ⟨b, t, u, rfl, _, o, ho, _, k, hd⟩ := h1
 obtain ⟨b', t', u', e, _, o', ho', _, k', hd'⟩ := h2
 cases e
 rw [ho] at ho'
 cases ho'
 rw [hd] at hd'
 simp at hd'
 exact Prod.ext hd'.1.1.1 hd'.1.2.1
open Classical in
noncomputable def vPr (vs : List Value) (l : PL) (v : Value) : Int × Int := if h : ∃ i, i < vs.length /\ vs.getD i .none = v then l.getD h.choose (0, 0) else (0, 0)
theorem ZAp {a : Addr} {vs : List Value} {l : PL} {n : Nat} {P : Fin -> Shared -> Prop} (ho : s.heap.get? a = some (seqObj "list" vs.toArray n))
  (hT : Ym s.heap a vs l) (hd : l.Nodup) (hsz : vs.length <= sizeLine)
  (h : ∀ (ix : List Nat), ix.Perm (UB vs.length) -> (ix.map fun i => l.getD i (0, 0)).Pairwise (fun p q => ltP p q = true) -> P (.done (.ret .none)) { s with heap := sortedHeap s.heap a vs (ix.map fun i => vs.getD i Value.none).toArray }) :
  wpAny (model prog w) A (Builtin.«list.sort» ⟨[.ref a], []⟩) P E s := by
 have hlen : vs.length = l.length := Paired.length hT
 have hval : ∀ i, i < vs.length -> vPr vs l (vs.getD i .none) = l.getD i (0, 0) := fun i hi => by
  have hex : ∃ j, j < vs.length /\ vs.getD j .none = vs.getD i .none := ⟨i, hi, rfl⟩
  unfold vPr
  rw [dif_pos hex]
  have h1 := hT.get (i := hex.choose) (by have := hex.choose_spec.1; omega)
  rw [hex.choose_spec.2] at h1
  exact h1.inj (hT.get (by omega))
 have hmem : ∀ v ∈ vs, ∃ i, i < vs.length /\ v = vs.getD i .none := fun v hv => by
  obtain ⟨i, hi, e⟩ := UM hv
  exact ⟨i, hi, by rw [<- e]; simp [hi]⟩
 have hinj : ∀ i j, i < vs.length -> j < vs.length -> l.getD i (0, 0) = l.getD j (0, 0) -> i = j := fun i j hi hj e => by
  have hi' : i < l.length := by omega
  have hj' : j < l.length := by omega
  have hpw := Ux.mp (Uu.mp hd)
  have e1 : l.getD i (0, 0) = l[i] := by simp [hi']
  have e2 : l.getD j (0, 0) = l[j] := by simp [hj']
  rw [e1, e2] at e
  rcases Nat.lt_trichotomy i j with z | z | z
  ·exact absurd e (hpw i j hi' hj' z)
  ·exact z
  ·exact absurd e.symm (hpw j i hj' hi' z)
 have hvs : vs = (UB vs.length).map fun i => vs.getD i .none := by
  apply List.ext_getElem
  ·simp
  ·intro i h1 h2
   simp [h1]
 refine ZBj (kd := tuples' true) (fun x y => ltP (vPr vs l x) (vPr vs l y)) (fun x y z h1 h2 => ?_) (fun x y h1 => ?_) (fun x hx y hy n e => ?_) ?_ hsz ho (fun h2 h3 keep Q hq => ?_) (fun h3 keep x hx y hy E' Q hq => ?_) fun out hp hs => ?_
 ·have h1 := Yg.mp h1
  have h2 := Yg.mp h2
  exact Yg.mpr (by omega)
 ·have h1 := Yg.mp h1
  exact JH.mpr (by omega)
 ·obtain ⟨i, hi, rfl⟩ := hmem x hx
  obtain ⟨j, hj, rfl⟩ := hmem y hy
  have e := JH.mp e
  refine Yg.mpr ?_
  rw [hval i hi, hval j hj] at e ⊢
  have hne : ¬ ((l.getD i (0, 0)).1 = (l.getD j (0, 0)).1 /\ (l.getD i (0, 0)).2 = (l.getD j (0, 0)).2) := fun z => n (by rw [hinj i j hi hj (Prod.ext z.1 z.2)])
  omega
 ·rw [Uu, Ux]
  intro i j hi hj hij e
  have e1 : vs.getD i .none = vs[i] := by simp [hi]
  have e2 : vs.getD j .none = vs[j] := by simp [hj]
  have h1 := hT.get (i := i) (by omega)
  rw [e1, e, <- e2] at h1
  have := hinj i j hi hj (h1.inj (hT.get (by omega)))
  omega
 ·have hT3 : Ym h3 a vs l := Paired.mapP hT fun v p ⟨b, t, u, e, hb, o, hx, r⟩ => ⟨b, t, u, e, hb, o, keep b o hb hx, r⟩
  obtain ⟨fs, k1, k2, k3⟩ := hT3.katT
  refine kat_kind (T := .type "int") (s := { s with heap := h3 }) k1 (by omega) (fun v hv => ?_) (by decide) ?_
  ·obtain ⟨x, t, rfl⟩ := k3 v hv
   exact Looks.of_pure rfl
  ·have hkk : tuples' (Value.type "int" != Value.type "tuple") = tuples' true := by
    have : (Value.type "int" != Value.type "tuple") = true := by decide
    rw [this]
   rw [hkk]
   exact hq
 ·have hT3 : Ym h3 a vs l := Paired.mapP hT fun v p ⟨b, t, u, e, hb, o, hx, r⟩ => ⟨b, t, u, e, hb, o, keep b o hb hx, r⟩
  obtain ⟨i, hi, rfl⟩ := hmem x hx
  obtain ⟨j, hj, rfl⟩ := hmem y hy
  rw [hval i hi, hval j hj] at hq
  exact ZAY (s := { s with heap := h3 }) (hT3.get (by omega)) (hT3.get (by omega)) hq
 ·obtain ⟨ix, h1, rfl⟩ := ZCV hp _ hvs
  refine h ix h1 ?_
  rw [UQ] at hs ⊢
  refine hs.imp_of_mem fun {x y} hx hy e => ?_
  have hx' := List.mem_range.mp (h1.mem_iff.mp hx)
  have hy' := List.mem_range.mp (h1.mem_iff.mp hy)
  rwa [hval x hx', hval y hy'] at e
theorem ZBk {l : Addr} {vs : List Value} {m : PL} {Q : Value -> Shared -> Prop} (hl : s.heap.IsList l vs.toArray)
  (hT : ∀ h' a, (∀ b o, s.heap.get? b = some o -> h'.get? b = some o) -> s.heap.objs.size <= a -> Ym h' a vs m) (hd : m.Nodup) (hz : vs.length <= sizeLine)
  (h : ∀ (ix : List Nat), ix.Perm (UB vs.length) -> (ix.map fun i => m.getD i (0, 0)).Pairwise (fun p q => ltP p q = true) -> Q (.ref (s.heap.objs.size + 1)) { s with heap := sortedAll s.heap vs (ix.map fun i => vs.getD i Value.none).toArray }) :
  wpAny (model prog w) A (call (.builtin "sorted") [.ref l]) Q E s := by
 refine Calls.call_function_entry kind_sorted plain_sorted entry_sorted (args_sorted1 _) ?_
 unfold Builtin.«sorted»
 refine Ua (m := checkCount "sorted" 1 1 _) (Us ?_)
 refine Ua (collect_list hl ?_ hz)
 refine Ua (wpAny_newList ?_ hz)
 have hsz : ((s.heap.push (seqObj "list" #[] 0)).update s.heap.objs.size (Obj.mapSeq (· ++ vs.toArray))).objs.size = s.heap.objs.size + 1 := by
  rw [Heap.size_update, size_push']
 have hoL : (((s.heap.push (seqObj "list" #[] 0)).update s.heap.objs.size (Obj.mapSeq (· ++ vs.toArray))).push (seqObj "list" vs.toArray 0)).get? (s.heap.objs.size + 1) = some (seqObj "list" vs.toArray 0) := by
  rw [<- hsz]; exact Uj _ rfl
 show wpAny _ _ _ _ _ { s with heap := ((s.heap.push (seqObj "list" #[] 0)).update s.heap.objs.size (Obj.mapSeq (· ++ vs.toArray))).push (seqObj "list" vs.toArray 0) }
 rw [hsz]
 have kp : ∀ b o, s.heap.get? b = some o -> (((s.heap.push (seqObj "list" #[] 0)).update s.heap.objs.size (Obj.mapSeq (· ++ vs.toArray))).push (seqObj "list" vs.toArray 0)).get? b = some o := fun b o e =>
  Ub _ ((Ul _ _ (Ne.symm (Uz (Uh e)))).trans (Ub _ e))
 refine Ua (UG (wpAny_call_entry slot_list_sort ⟨_, hoL, rfl⟩ entry_list_sort (ZAp (s := { s with heap := ((s.heap.push (seqObj "list" #[] 0)).update s.heap.objs.size (Obj.mapSeq (· ++ vs.toArray))).push (seqObj "list" vs.toArray 0) }) hoL (hT _ _ kp (Nat.le_succ _)) hd hz fun ix a1 a2 => ⟨_, rfl, ?_⟩) (args_list_sort _)))
 exact Us ⟨_, rfl, h ix a1 a2⟩
end
def ZBX (K : W.Frag) : List V -> Hp -> VK -> Prop := fun xs H Q => ∃ (p : Addr) (us : List V) (m : PL), xs = [.ref p] /\ SqL K H p us /\ YA H us m /\ m.Nodup /\ m.length < 100000 /\
 ∀ (l : Addr) (us' : List V) (m' : PL), H l = none -> YA H us' m' -> m'.Perm m -> m'.Pairwise (fun p q => ltP p q = true) -> Q (.ref l) (upd H l (.lst us'))
theorem ZAZ {X : Cx} (K : W.Frag) (hK : X.K = K) : Yj X (.builtin "sorted") (ZBX K) := by
 subst hK
 intro pins s U H xs us Q I r h
 obtain ⟨p, vs, m, rfl, hS, hP, hn, h64, q⟩ := h
 obtain ⟨u, rfl, ru⟩ := r.one
 cases ru
 obtain ⟨its, rv, pl, hz⟩ := I.list hS
 have hlen : vs.length = m.length := hP.length
 have hl2 := rv.length
 refine ZBk (vs := its) pl.isList (fun h' a k ha => ZBW I k ha hP rv) hn (by rw [sizeLine_eq]; omega) fun ix a1 a2 => ?_
 have hix : ∀ i ∈ ix, i < vs.length := fun i hi => by
  have := List.mem_range.mp (a1.mem_iff.mp hi)
  omega
 obtain ⟨e, he⟩ := sortedAll_at s.heap its (ix.map fun i => its.getD i Value.none).toArray
 refine ⟨.ref (s.heap.objs.size + 1), upd H (s.heap.objs.size + 1) (.lst (ix.map fun i => vs.getD i .non)), I.laid (t' := s.toks) (fun b o e => sortedAll_old e) (Nat.le_succ _) ?_, rfl, q _ _ (ix.map fun i => m.getD i (0, 0)) (I.hok.fresh (Nat.le_succ _)) (ZFc hP ix hix) (ZBU (by rw [<- hlen, hl2]; exact a1)) a2⟩
 refine ⟨?_, _, e, ZGr rv ix hix, he⟩
 have := a1.length_eq
 rw [Uo, this, List.length_range, sizeLine_eq]
 omega
theorem ZAa {K : W.Frag} {H : Hp} {Q : VK} {p : Addr} {us : List V} {m : PL} (h1 : SqL K H p us) (h2 : YA H us m) (h3 : m.Nodup) (h4 : m.length < 100000)
  (h : ∀ l us' m' H2, H l = none -> H2 l = some (.lst us') -> YA H2 us' m' -> m'.Perm m -> m'.Pairwise (fun p q => ltP p q = true) -> YF H H2 -> Q (.ref l) H2) : ZBX K [.ref p] H Q :=
 ⟨p, us, m, rfl, h1, h2, h3, h4, fun l us' m' n hP a1 a2 => h l us' m' _ n YQ (hP.same (YF.new n)) a1 a2 (YF.new n)⟩
end L2
namespace My
open PySem L2
theorem Jg {N P : List Str} {sc : Scope} (a : sc.kind = .function := by rfl) (b : sc.isCoroutine = false := by rfl) (c : sc.isGenerator = false := by rfl) (d : N.Nodup := by decide +kernel) (e : N.take P.length = P := by rfl) (f : ∀ x ∈ P, sc.names.lookup x = some .local \/ sc.names.lookup x = some .cell := by decide +kernel) (g : ∀ y ∈ sc.names, y.2 ≠ .free := by decide +kernel) : Yf N P sc := ⟨a, b, c, d, e, f, g⟩
theorem qsS {X : Cx} {x : Str} {e : Expr} {te : TE} {pos pos' : Pos} {i : Nat} (hN : X.N.Nodup) (he : QE X e te) (hi : X.N[i]? = some x := by rfl) (hx : Loc X.env.scope x := by first | exact Or.inl rfl | exact Or.inr rfl) (hs : Y3 e = false := by rfl) (hf : X.fn x = true \/ X.env.scope.names.lookup x = some .local := by first | exact .inl rfl | exact .inr rfl | assumption) : QS X (.Assign [.Name x pos'] e pos) (ZAd te (JY i)) := ZGf hN hi hx he hs hf
theorem qgN {X : Cx} {x : Str} {pos : Pos} {i : Nat} (hN : X.N.Nodup) (hi : X.N[i]? = some x := by rfl) (hx : Loc X.env.scope x := by first | exact Or.inl rfl | exact Or.inr rfl) (hf : X.fn x = true \/ X.env.scope.names.lookup x = some .local := by first | exact .inl rfl | exact .inr rfl | assumption) : QG X (.Name x pos) (JY i) := Jn hN hi hx hf
theorem qcS {X : Cx} {e : Expr} {es : List Expr} {t : TA} {pos p : Pos} {x : Str} {k : Nat} {f : Addr} {fd : FuncData} {ps : List Str} {sp : Sp} (F : YZ X.prog X.w X.K X.mg X.base CX0 k f fd ps sp) (hr : Room k X.A) (hm : X.mg x = some (.ref f)) (hk : W.keepIn X.K (.ref f) = true) (hb : YS X.K fd ps []) (ha : QA X (e :: es) t) (hg : Gl X x := by rfl) (hns : YX (e :: es) = true := by rfl) (hdb : (x == ("__debug__" : Str)) = false := by decide) : QE X (.Call (.Name x p) (e :: es) [] pos) (ZAv sp [] E0 t) := ZFS F hr hg hm hk hb .nil ZIC ha hns hdb
theorem _root_.L2.Room.m {j k : Nat} {A : Around} (r : Room k A) (h : j <= k := by decide) : Room j A := r.mono h
local macro_rules | `(tactic| walk_at "l") => `(tactic| (intro vs H Q E h; (repeat (obtain ⟨_, h⟩ := h)); all_goals (subst_vars; rfl)))
local macro_rules | `(tactic| walk_at "w") => `(tactic| repeat walk_at "rd")
local macro_rules | `(tactic| walk_at "s") => `(tactic| simp only [L2.start, List.length_cons, List.length_nil, UE, List.map_nil, Nat.reduceAdd, Nat.reduceSub, List.replicate_succ, List.replicate_zero, List.cons_append, List.nil_append])
local macro_rules | `(tactic| walk_at "o") => `(tactic| first | exact Or.inl rfl | exact Or.inr rfl)
def top (i : Nat) : Stmt := PySem.Challenge.pw_fourpoints_k31_four_of_a_curve.main.body.getD i (.Pass ⟨0, 0, 0, 0⟩)
abbrev Jh : Stmt := top 1
abbrev ZAJ : Stmt := top 2
abbrev ZAq : Stmt := top 4
abbrev ZBJ : Stmt := top 5
abbrev ZAr : Stmt := top 6
abbrev J6 : Stmt := top 7
abbrev ZAK : Stmt := top 8
abbrev JW : Stmt := top 9
abbrev JD : Stmt := top 10
abbrev Y0 : Stmt := top 11
set_option genInjectivity false in
set_option genSizeOf false in
set_option genSizeOfSpec false in
structure Ad where
 ZJ : Addr
 ZK : FuncData
 ZS : Addr
 ZQ : FuncData
 Zb : Addr
 ZZ : FuncData
 Zl : Addr
 Zh : FuncData
 ZY : Addr
 Ze : FuncData
 ZN : Addr
 ZO : FuncData
 ZT : Addr
 ZP : FuncData
 Zf : Addr
 Zd : FuncData
 ZF : Addr
 ZE : FuncData
 Z0 : Addr
 Zz : FuncData
structure Txt (K : W.Frag) (mg : Str -> Option Value) (a : Ad) : Prop where
 Zw : Fun K "height_of" "height_of" Jh a.ZJ a.ZK
 ZW : YS K a.ZK ["sample"] []
 ZX : mg "height_of" = some (.ref a.ZJ)
 ZR : Fun K "four_of" "four_of" ZAJ a.ZS a.ZQ
 Zn : YS K a.ZQ ["curve"] []
 Zo : mg "four_of" = some (.ref a.ZS)
 Zc : Fun K "_law_cell" "_law_cell" ZAq a.Zb a.ZZ
 Zu : YS K a.ZZ ["_law_script", "_law_k"] []
 Zs : mg "_law_cell" = some (.ref a.Zb)
 Zk : Fun K "_law_pot" "_law_pot" ZBJ a.Zl a.Zh
 Zy : YS K a.Zh ["_law_cell_here"] []
 Zx : mg "_law_pot" = some (.ref a.Zl)
 ZA : Fun K "_law_draw" "_law_draw" ZAr a.ZY a.Ze
 ZC : YS K a.Ze ["_law_pot_here", "_law_many"] []
 ZB : mg "_law_draw" = some (.ref a.ZY)
 ZD : Fun K "_law_number" "_law_number" J6 a.ZN a.ZO
 ZG : YS K a.ZO ["_law_pot_here"] []
 ZH : mg "_law_number" = some (.ref a.ZN)
 Zm : Fun K "_law_curve" "_law_curve" ZAK a.ZT a.ZP
 Z3 : YS K a.ZP ["_law_pot_here", "_law_most"] []
 Z2 : mg "_law_curve" = some (.ref a.ZT)
 Zg : Fun K "_law_four" "_law_four" JW a.Zf a.Zd
 Zt : YS K a.Zd ["_law_curve_here"] []
 Zv : mg "_law_four" = some (.ref a.Zf)
 ZL : Fun K "_law_long_curve" "_law_long_curve" JD a.ZF a.ZE
 Zj : YS K a.ZE ["_law_pot_here"] []
 Zi : mg "_law_long_curve" = some (.ref a.ZF)
 Z4 : Fun K "law" "law" Y0 a.Z0 a.Zz
 Z5 : YS K a.Zz ["_law_script"] []
 Z6 : mg "law" = some (.ref a.Z0)
 Zp : mg "abs" = none
 Za : mg "divmod" = none
 Zr : mg "len" = none
 Zq : mg "max" = none
 Z1 : mg "min" = none
 ZV : mg "range" = none
 ZM : mg "repr" = none
 ZI : mg "sorted" = none
 ZU : mg "tuple" = none
local macro_rules | `(tactic| walk_at "sd") => `(tactic| first
 | (show (0 : Int) < _; omega)
 | decide
 | exact ZIT (by omega) (by omega)
 | exact ZIU (by omega) (by omega)
 | exact JZ.of (k := 250) (by omega) (by omega) (by decide)
 | exact Or.inr ⟨by omega, by omega⟩
 | exact Or.inl ⟨by omega, by omega⟩
 | exact ZB5 (by omega) (by omega) (by decide))
local macro_rules | `(tactic| walk_at "hp") => `(tactic| first
 | assumption
 | exact YQ
 | (rw [YI (by assumption)]; assumption)
 | (rw [YI (Ne.symm (by assumption))]; assumption)
 | (rw [YI (by assumption)]; rw [YI (by assumption)]; assumption))
local macro_rules | `(tactic| walk_at "rd") => `(tactic| first
 | with_reducible first | refine ZHT ?_ | refine ZCe ?_ | refine ZCf ?_ | refine ZCI ?_ | refine ZFX ?_ | refine ZFY ?_
 | ((with_reducible refine' ZHt ?e ?_); (case e => rfl))
 | with_reducible first | refine ZHU ?_ | refine ZGN ?_ | refine ZGO ?_ | refine ZHV ?_ | refine ZFM ?_ | refine ZGP ?_ | refine ZFN ?_ | refine ZGQ ?_ | refine ZHW ?_ | refine ZGR ?_ | refine ZIE ?_
 | ((with_reducible refine' ZHX ?e ?_); (case e => rfl))
 | with_reducible first | refine ZIX ?_ | refine ZIF ?_ | refine ZIG ?_ | refine ZIH ?_
 | ((with_reducible refine ZFO (C := ZE4) ?c ?_); (case c => exact ZB5 (by decide) (by decide) (by decide)); (simp only [Int.reduceToNat, Int.reducePow]))
 | ((with_reducible refine ZFO ?c ?_); (case c => walk_at "sd"))
 | with_reducible first | refine ZIY ?_ | refine ZHY ?_ | refine ZII ?_ | refine ZGS ?_ | refine ZGT ?_ | refine ZHZ ?_ | refine ZHa ?_ | refine ZHb ?_ | refine ZGc ?_ | refine ZIW ?_ | refine ZHd ?_ | refine ZHe ?_ | refine ZIZ ?_ | refine ZIJ ?_ | refine ZGY ?_
 | ((with_reducible refine' ZGV ?s ?_); (case s => first | assumption | exact SqL.of (by assumption)))
 | ((with_reducible refine' ZGW ?s ?_); (case s => first | assumption | exact SqT.of (by assumption)))
 | with_reducible first | refine ZHc ?_ | refine ZGU ?_ | refine ZGa ?_ | refine ZIM ?_ | refine ZGb ?_ | refine ZFQ ?_
 | ((with_reducible refine' ZHj ?s ?_); (case s => first | assumption | exact SqT.of (by assumption)))
 | ((with_reducible refine' ZEH ?s ?_); (case s => first | assumption | exact SqL.of (by assumption)))
 | ((with_reducible refine' ZAB ?s ?e ?_); (case s => exact SqL.of (by assumption)); (case e => rfl))
 | ((with_reducible refine' ZAC ?s ?e ?_); (case s => first | assumption | exact SqT.of (by assumption)); (case e => rfl))
 | ((with_reducible refine' ZGX ?s ?e ?_); (case s => first | assumption | exact SqT.of (by assumption)); (case e => rfl)))
local macro_rules | `(tactic| walk_at "ri") => `(tactic| ((fail_if_success with_reducible refine ZEd ?_); walk_at "rd"))
section
variable {P : Program} {w : World} {K : W.Frag} {mg : Str -> Option Value} {base : Heap} {a : Ad}
def ZCW : Sp := fun vs H Q _ => ∃ (c : Addr) (x y : Int), vs = [.ref c] /\ H c = some (.tup [.int x, .int y]) /\ Q (.int y) H
theorem ZCX : Yf ["sample"] ["sample"] (YG Jh) := Jg
theorem ZAL (T : Txt K mg a) : YZ P w K mg base CX0 1 a.ZJ a.ZK ["sample"] ZCW := by
 refine T.Zw.ok ZCX (by walk_at "l") (fun cdv A outer s H vs Q E hr h => ?_)
 ·obtain ⟨c, x, y, rfl, hc, q⟩ := h
  refine ⟨_, QB.h (YK (Yd (Yn (Y9 K rfl) (qv 0) Z7))), ?_⟩
  walk_at "s"
  walk_at "w"
  exact q
end
def BP (cv : PL) : Prop := ∀ p ∈ cv, Bn 200 p.1 /\ Bn 200 p.2
theorem ZAs {x : Int} (h1 : -2000000000 < x) (h2 : x < 2000000000) : Bn 200 x := (show Bn 32 x by unfold Bn; omega).mono (by decide)
theorem ZBs {x : Int} (h1 : -(10 ^ 59) - 1000 < x) (h2 : x < 10 ^ 59 + 1000) : Bn 200 x := Bn.of (Int.lt_of_le_of_lt (show (-(2 ^ 200) : Int) <= -(10 ^ 59) - 1000 by decide) h1) (Int.lt_of_lt_of_le h2 (by decide))
def ZHy (K : W.Frag) : Sp := fun vs H Q _ => ∃ (s : Addr) (ns : List Int) (k : Int), vs = [.ref s, .int k] /\ SqL K H s (ns.map V.int) /\ 0 <= k /\ Q (.int (ns.getD k.toNat 0)) H
def ZIO : Sp := fun vs H Q _ => ∃ c : Int, vs = [.int c] /\ ∀ (p : Addr) (H' : Hp), H p = none -> Pot H' p -> YF H H' -> Q (.ref p) H'
def ZHz : Sp := fun vs H Q _ => ∃ (p : Addr) (n : Int), vs = [.ref p, .int n] /\ Pot H p /\ 0 < n /\ n < 2 ^ 250 /\ ∀ (d : Int) (H' : Hp), 0 <= d -> d < n -> Pot H' p -> Kp p H H' -> Q (.int d) H'
def ZIP : Sp := fun vs H Q _ => ∃ p : Addr, vs = [.ref p] /\ Pot H p /\ ∀ (x : Int) (H' : Hp), -(10 ^ 59) < x -> x < 10 ^ 59 -> Pot H' p -> Kp p H H' -> Q (.int x) H'
section
variable {P : Program} {w : World} {K : W.Frag} {mg : Str -> Option Value} {base : Heap} {a : Ad}
theorem ZFl {H : Hp} {Q : VK} {l : Addr} {ns : List Int} {d : Int} (h : H l = some (.lst (ns.map V.int))) (h0 : 0 <= d) (h1 : d < (ns.length : Int)) (q : ∀ n ∈ ns, Q (.int n) H) : ZDR K (.ref l) (.int d) H Q := by
 obtain ⟨n, rfl⟩ : ∃ n : Nat, d = (n : Int) := ⟨d.toNat, by omega⟩
 have hn : n < ns.length := by omega
 refine ZAB (v := .int ns[n]) (SqL.of h) (JK ?_) (q _ (List.getElem_mem hn))
 rw [UH, Uc hn]
 rfl
theorem ZFm {m : PL} {t h : Int} (R : Int × Int -> Prop) (hm : ∀ q ∈ m, R q) (hn : R (t, h)) : ∀ q ∈ JS m t h, R q := by
 intro q hq
 unfold JS at hq
 split at hq
 ·obtain ⟨kv, h1, rfl⟩ := List.mem_map.mp hq
  split
  ·rename_i e
   rw [e]
   exact hn
  ·exact hm _ h1
 ·rcases UT.mp hq with h1 | h1
  ·exact hm _ h1
  ·simp only [UA, List.not_mem_nil, or_false] at h1
   rw [h1]
   exact hn
theorem ZEp : Yf ["_law_script", "_law_k"] ["_law_script", "_law_k"] (YG ZAq) := Jg
theorem ZBY (T : Txt K mg a) : YZ P w K mg base CX0 1 a.Zb a.ZZ ["_law_script", "_law_k"] (ZHy K) := by
 refine T.Zc.ok ZEp (by walk_at "l") (fun cdv A outer s H vs Q E hr h => ?_)
 ·obtain ⟨p, ns, k, rfl, hS, hk, q⟩ := h
  refine ⟨_, QB.h (YC (Y8 (Yo (ZH8) (qv 1) (YY (ZEM K rfl) rfl T.Zr ZEB (Z8 (qv 0) Z9)) (Yt _)) (YK (Yd (Yn (Yz K rfl) (qv 0) (qv 1)))) Yr) (YK (Yd Z7))), ?_⟩
  walk_at "s"
  walk_at "w"
  rw [Uo]
  refine JR (fun h => ?_) (fun h => ?_)
  ·walk_at "w"
   obtain ⟨n, rfl⟩ : ∃ n : Nat, k = (n : Int) := ⟨k.toNat, by omega⟩
   have hk2 : n < ns.length := by omega
   refine ZAB (v := .int (ns.getD n 0)) hS (JK ?_) q
   rw [UH, Uc hk2]
   simp [List.getD, hk2]
  ·walk_at "w"
   have e : ns.getD k.toNat 0 = 0 := by
    rw [List.getD, List.getElem?_eq_none (by omega)]
    rfl
   rw [e] at q
   exact q
theorem ZFn : Yf ["_law_cell_here"] ["_law_cell_here"] (YG ZBJ) := Jg
theorem ZCY (T : Txt K mg a) : YZ P w K mg base CX0 1 a.Zl a.Zh ["_law_cell_here"] ZIO := by
 refine T.Zk.ok ZFn (by walk_at "l") (fun cdv A outer s H vs Q E hr h => ?_)
 ·obtain ⟨c, rfl, k⟩ := h
  refine ⟨_, QB.h (YK (Yd (ZAz (Z8 (YY (ZHS rfl) rfl T.Zq ZED (Z8 Z7 (Z8 (YJ Y5 (YY ZEF rfl T.Zp ZEC (Z8 (qv 0) Z9)) (YJ Jj Z7 Z7)) Z9))) (Z8 (YJ JO (YJ J8 (YY ZEF rfl T.Zp ZEC (Z8 (qv 0) Z9)) Z7) Z7) Z9))))), ?_⟩
  walk_at "s"
  walk_at "w"
  refine Yq (by show 2 <= sizeLine; decide) fun p H2 hp f2 S2 => ?_
  refine k p H2 hp ⟨_, _, f2, ?_, Int.add_nonneg (Int.emod_nonneg _ (by decide)) (by decide), Int.lt_of_lt_of_le (Int.add_lt_add_right (Int.emod_lt_of_pos _ (by decide)) 1) (by decide)⟩ S2
  split <;> omega
theorem ZBZ : Yf ["_law_pot_here", "_law_many", "_law_digit"] ["_law_pot_here", "_law_many"] (YG ZAr) := Jg
theorem YR (T : Txt K mg a) : YZ P w K mg base CX0 1 a.ZY a.Ze ["_law_pot_here", "_law_many"] ZHz := by
 refine T.ZA.ok ZBZ (by walk_at "l") (fun cdv A outer s H vs Q E hr h => ?_)
 ·obtain ⟨p, n, rfl, ⟨x, y, hp, hx, hy, hy2⟩, hn, hn2, k⟩ := h
  have hdiv : ∀ i : Int, JZ i n := fun i => JZ.of (k := 250) hn hn2 (by decide)
  refine ⟨_, QB.h (YC (Y8 (Yo (ZFr) (Yn (Yz K rfl) (qv 0) Z7) Z7 (Yt _)) (YC (ZEL (YY ZCK rfl T.Za ZET (Z8 (Yn (Yz K rfl) (qv 0) Z7) (Z8 (qv 1) Z9))) (ZB9 (n := 2) K rfl rfl (JB (ZEK (qv 0) Z7 ZBz) (JB (qgN (i := 2) ZBZ.nd) ZBE)))) (YK (Yd (qv 2)))) Yr) (YC (ZEL (YJ J8 (YJ JO (YJ Jk (Yn (Yz K rfl) (qv 0) Z7) Z7) Z7) Z7) (ZEK (qv 0) Z7 ZBz)) (YK (Yd (YJ J8 (YJ ZFG (YJ J8 (YJ Jk (Yn (Yz K rfl) (qv 0) Z7) (Yn (Yz K rfl) (qv 0) Z7)) Z7) Z7) (qv 1)))))), ?_⟩
  walk_at "s"
  walk_at "w"
  refine JR (fun h => ?_) (fun h => ?_)
  ·walk_at "w"
   refine ZEc (hdiv _) fun c H2 n2 f2 S2 => ?_
   have hp2 := S2 _ _ hp
   walk_at "w"
   refine ZCu hp2 (by rfl) fun H3 f3 K3 => ?_
   walk_at "w"
   exact k _ _ (Int.emod_nonneg _ (by omega)) (Int.emod_lt_of_pos _ hn) ⟨_, _, f3, Int.ediv_nonneg hx (by omega), hy, hy2⟩ (fun q o e nq => K3 q o (S2 q o e) nq)
  ·walk_at "w"
   refine ZCu hp (by rfl) fun H2 f2 K2 => ?_
   generalize hz : (y * 48271 + 11) % 2147483647 = z at f2
   have h0 : 0 <= z := by rw [<- hz]; exact Int.emod_nonneg _ (by decide)
   have h1 : z < 2147483647 := by rw [<- hz]; exact Int.emod_lt_of_pos _ (by decide)
   have f2 : H2 p = some (.lst [V.int x, V.int z]) := f2
   walk_at "w"
   exact k _ _ (Int.emod_nonneg _ (by omega)) (Int.emod_lt_of_pos _ hn) ⟨_, _, f2, hx, h0, by omega⟩ (fun q o e nq => K2 q o e nq)
theorem ZAb : Yf ["_law_pot_here", "_law_way"] ["_law_pot_here"] (YG J6) := Jg
theorem JF (T : Txt K mg a) : YZ P w K mg base CX0 2 a.ZN a.ZO ["_law_pot_here"] ZIP := by
 refine T.ZD.ok ZAb (by walk_at "l") (fun cdv A outer s H vs Q E hr h => ?_)
 ·obtain ⟨p, rfl, hp, k⟩ := h
  have sm : ∀ x : Int, -2000000000 < x -> x < 2000000000 -> -(10 ^ 59) < x /\ x < 10 ^ 59 := fun x h1 h2 => ⟨Int.lt_of_le_of_lt (by decide) h1, Int.lt_of_lt_of_le h2 (by decide)⟩
  refine ⟨_, QB.h (YC (qsS (i := 1) ZAb.nd (qcS (YR T) hr T.ZB T.ZA.kp T.ZC (Z8 (qv 0) (Z8 Z7 Z9)))) (YC (Y8 (Yo (ZAO) (qv 1) Z7 (Yt _)) (YK (Yd (YJ Y5 (qcS (YR T) hr T.ZB T.ZA.kp T.ZC (Z8 (qv 0) (Z8 Z7 Z9))) Z7))) Yr) (YC (Y8 (Yo (ZAO) (qv 1) Z7 (Yt _)) (YK (Yd (YJ Y5 (qcS (YR T) hr T.ZB T.ZA.kp T.ZC (Z8 (qv 0) (Z8 Z7 Z9))) Z7))) Yr) (YC (Y8 (Yo (ZAO) (qv 1) Z7 (Yt _)) (YK (Yd (YJ Y5 (qcS (YR T) hr T.ZB T.ZA.kp T.ZC (Z8 (qv 0) (Z8 Z7 Z9))) Z7))) Yr) (YK (Yd (YJ JO (YJ Y5 (YJ J8 (YJ Jk (qcS (YR T) hr T.ZB T.ZA.kp T.ZC (Z8 (qv 0) (Z8 (YJ Y5 (YJ Jk Z7 (YJ Jj Z7 Z7)) Z7) Z9))) (YJ Jj Z7 Z7)) (YJ Y5 (YJ Jk Z7 (YJ Jj Z7 Z7)) Z7)) (YJ Jj Z7 Z7)) Z7))))))), ?_⟩
  walk_at "s"
  walk_at "w"
  refine ⟨p, _, rfl, hp, by decide, by decide, fun d1 H1 h1 h1' P1 K1 => ?_⟩
  walk_at "w"
  refine JR (fun _ => ?_) (fun _ => ?_)
  ·walk_at "w"
   refine ⟨p, _, rfl, P1, by decide, by decide, fun d2 H2 h2 h2' P2 K2 => ?_⟩
   walk_at "w"
   have hb := sm (d2 - 2) (by omega) (by omega)
   exact k _ H2 hb.1 hb.2 P2 (K1.trans K2)
  walk_at "w"
  refine JR (fun _ => ?_) (fun _ => ?_)
  ·walk_at "w"
   refine ⟨p, _, rfl, P1, by decide, by decide, fun d2 H2 h2 h2' P2 K2 => ?_⟩
   walk_at "w"
   have hb := sm (d2 - 60) (by omega) (by omega)
   exact k _ H2 hb.1 hb.2 P2 (K1.trans K2)
  walk_at "w"
  refine JR (fun _ => ?_) (fun _ => ?_)
  ·walk_at "w"
   refine ⟨p, _, rfl, P1, by decide, by decide, fun d2 H2 h2 h2' P2 K2 => ?_⟩
   walk_at "w"
   have hb := sm (d2 - 1000000) (by omega) (by omega)
   exact k _ H2 hb.1 hb.2 P2 (K1.trans K2)
  walk_at "w"
  refine ⟨p, _, rfl, P1, by decide, by decide, fun d2 H2 h2 h2' P2 K2 => ?_⟩
  have hbd : Bn 200 d2 := Bn.of (Int.lt_of_lt_of_le (by decide) h2) (Int.lt_trans h2' (by decide))
  walk_at "w"
  refine ZFO (ZHu hbd (show Bn 190 _ by unfold Bn; decide) (by decide)) ?_
  walk_at "w"
  generalize hz : _ % (2 * 100000000000000000000000000000000000000000000000000000000000 - 1 : Int) = z
  have g0 : 0 <= z := by rw [<- hz]; exact Int.emod_nonneg _ (by decide)
  have g1 : z < 2 * 100000000000000000000000000000000000000000000000000000000000 - 1 := by rw [<- hz]; exact Int.emod_lt_of_pos _ (by decide)
  exact k _ H2 (by omega) (by omega) P2 (K1.trans K2)
def ZFo (K : W.Frag) : Sp := fun vs H Q _ => ∃ (p : Addr) (m : Int), vs = [.ref p, .int m] /\ Pot H p /\ 0 <= m /\ m <= 60 /\
 ∀ (t : Addr) (cv : PL) (H' : Hp), PrT H' t cv -> Asc cv -> BP cv -> (cv.length : Int) <= m -> Pot H' p -> Kp p H H' -> Q (.ref t) H'
theorem Ye : Yf ["_law_pot_here", "_law_most", "_law_base", "_law_spread", "_law_flat", "_law_made", "_law_k", "_law_t", "_law_h"] ["_law_pot_here", "_law_most"] (YG ZAK) := Jg
theorem ZDs (T : Txt K mg a) : YZ P w K mg base CX0 3 a.ZT a.ZP ["_law_pot_here", "_law_most"] (ZFo K) := by
 refine T.Zm.ok Ye (by walk_at "l") (fun cdv A outer s H vs Q E hr h => ?_)
 ·obtain ⟨p, m, rfl, hp, hm0, hm1, k⟩ := h
  have hu := ZID hr
  refine ⟨_, QB.h (YC (qsS (i := 2) Ye.nd (qcS (JF T) hr T.ZH T.ZD.kp T.ZG (Z8 (qv 0) Z9))) (YC (qsS (i := 3) Ye.nd (Yn (Yz K rfl) (ZAz (Z8 Z7 (Z8 Z7 (Z8 Z7 (Z8 Z7 Z9))))) (qcS (YR T) hr.m T.ZB T.ZA.kp T.ZC (Z8 (qv 0) (Z8 Z7 Z9))))) (YC (qsS (i := 4) Ye.nd (qcS (YR T) hr.m T.ZB T.ZA.kp T.ZC (Z8 (qv 0) (Z8 Z7 Z9)))) (YC (qsS (i := 5) Ye.nd ZFW) (YC (ZB7 PassesOwn.never rfl (ZBQ rfl T.ZV (Z8 (qcS (YR T) hr.m T.ZB T.ZA.kp T.ZC (Z8 (qv 0) (Z8 (YJ JO (qv 1) Z7) Z9))) Z9)) (qgN (i := 6) Ye.nd) (YC (qsS (i := 7) Ye.nd (YJ JO (qv 2) (qcS (YR T) hr.m T.ZB T.ZA.kp T.ZC (Z8 (qv 0) (Z8 (qv 3) Z9))))) (YC (Y8 (Yo (ZAO) (qcS (YR T) hr.m T.ZB T.ZA.kp T.ZC (Z8 (qv 0) (Z8 Z7 Z9))) Z7 (Yt _)) (YK (qsS (i := 7) Ye.nd (qcS (JF T) hr T.ZH T.ZD.kp T.ZG (Z8 (qv 0) Z9)))) Yr) (YC (qsS (i := 8) Ye.nd (qcS (YR T) hr.m T.ZB T.ZA.kp T.ZC (Z8 (qv 0) (Z8 Z7 Z9)))) (YC (Y8 (Yo (ZFr) (qv 4) Z7 (Yt _)) (YK (qsS (i := 8) Ye.nd (qcS (JF T) hr T.ZH T.ZD.kp T.ZG (Z8 (qv 0) Z9)))) Yr) (YK (ZGj hu (qv 8) (qv 5) (qv 7)))))))) (YK (Yd (ZA0 (ZB8 K rfl) rfl T.ZU ZB3 (Z8 (ZCc rfl rfl T.ZI (qv 5)) Z9))))))))), ?_⟩
  walk_at "s"
  walk_at "w"
  refine ⟨p, rfl, hp, fun x H1 hx1 hx2 P1 K1 => ?_⟩
  walk_at "w"
  refine Yq (by show 4 <= sizeLine; decide) fun l H2 n2 f2 S2 => ?_
  have hne2 := P1.neN n2
  walk_at "w"
  refine ⟨p, _, rfl, P1.same S2, by decide, by decide, fun d3 H3 h3 h3' P3 K3 => ?_⟩
  walk_at "w"
  refine ZFl (ns := [_, _, _, _]) (K3 _ _ f2 hne2) h3 (by simpa using h3') fun sp hsp => ?_
  have hsp2 : 0 < sp /\ sp <= 200 := by
   simp only [UA, List.not_mem_nil, or_false] at hsp
   rcases hsp with rfl | rfl | rfl | rfl <;> decide
  walk_at "w"
  refine ⟨p, _, rfl, P3, by decide, by decide, fun fl H4 h4 h4' P4 K4 => ?_⟩
  walk_at "w"
  refine ZFZ fun d H5 n5 f5 S5 => ?_
  have P5 := P4.same S5
  have hned := P4.neN n5
  walk_at "w"
  refine ⟨p, _, rfl, P5, by omega, Int.lt_of_le_of_lt (show m + 1 <= 61 by omega) (by decide), fun d6 H6 h6 h6' P6 K6 => ?_⟩
  have KB : Kp p H H4 := ((K1.then S2).trans K3).trans K4
  have KA : Kp p H H6 := (KB.then S5).trans K6
  have nd : H d = none := KB.free P4 n5
  have fd6 := K6 _ _ f5 hned
  walk_at "w"
  refine ZEG (by omega) (by omega) (ZCw (fun i U H' => (∃ v6 v7 v8, U = [some (.ref p), some (.int m), some (.int x), some (.int sp), some (.int fl), some (.ref d), v6, v7, v8]) /\ Pot H' p /\ Kp p H H' /\ ∃ ps : PL, H' d = some (.dK (Yl ps)) /\ (ps.map (·.1)).Nodup /\ ps.length <= i /\ BP ps) ?_ ?_ ?_)
  ·exact ⟨⟨_, _, _, rfl⟩, P6, KA, [], fd6, List.nodup_nil, UI _, fun q hq => by simp at hq⟩
  ·rintro i U H7 hi ⟨⟨v6, v7, v8, rfl⟩, P7, K7, ps, f7, hnd, hl, hbp⟩
   have hlt : ps.length < sizeLine := Nat.lt_of_le_of_lt hl (Ue (Ue hi (show (d6).toNat <= 1000 by omega)) (by decide))
   have fin : ∀ (t h : Int) (H9 : Hp) (v7 v8 : Option V), Pot H9 p -> Kp p H H9 -> H9 d = some (.dK (Yl ps)) -> Bn 200 t -> Bn 200 h -> ∀ H10, H10 d = some (.dK (Yl (JS ps t h))) -> Kp d H9 H10 ->
     Pot H10 p /\ Kp p H H10 /\ ∃ ps : PL, H10 d = some (.dK (Yl ps)) /\ (ps.map (·.1)).Nodup /\ ps.length <= i + 1 /\ BP ps := fun t h H9 _ _ P9 K9 f9 ht hh H10 f10 K10 =>
    ⟨P9.kp K10 hned.symm, fun c o e nc => K10 c o (K9 c o e nc) (YO e nd), _, f10, ZDd hnd, UF (ZFa _ _ _) (by omega), ZFm _ hbp ⟨ht, hh⟩⟩
   have hh : ∀ (t : Int) (H9 : Hp) (v7 : Option V), Pot H9 p -> Kp p H H9 -> H9 d = some (.dK (Yl ps)) -> Bn 200 t -> True := fun _ _ _ _ _ _ _ => trivial
   walk_at "w"
   refine ⟨p, sp, rfl, P7, hsp2.1, Int.lt_of_le_of_lt hsp2.2 (by decide), fun d8 H8 h8 h8' P8 K8 => ?_⟩
   have f8 := K8 _ _ f7 hned
   have hbt : Bn 200 (x + d8) := ZBs (by omega) (by omega)
   walk_at "w"
   refine ⟨p, _, rfl, P8, by decide, by decide, fun d9 H9 h9 h9' P9 K9 => ?_⟩
   have f9 := K9 _ _ f8 hned
   have K79 := (K7.trans K8).trans K9
   walk_at "w"
   refine JR (fun _ => ?_) (fun _ => ?_)
   ·walk_at "w"
    refine ⟨p, rfl, P9, fun y H10 hy1 hy2 P10 K10 => ?_⟩
    have f10 := K10 _ _ f9 hned
    have hby : Bn 200 y := ZBs (by omega) (by omega)
    walk_at "w"
    refine ⟨p, _, rfl, P10, by decide, by decide, fun d11 H11 h11 h11' P11 K11 => ?_⟩
    have f11 := K11 _ _ f10 hned
    walk_at "w"
    refine JR (fun _ => ?_) (fun _ => ?_)
    ·walk_at "w"
     refine ⟨p, rfl, P11, fun z H12 hz1 hz2 P12 K12 => ?_⟩
     have f12 := K12 _ _ f11 hned
     walk_at "w"
     refine Ju f12 hlt fun H13 f13 K13 => ?_
     walk_at "w"
     exact ⟨⟨_, _, _, rfl⟩, fin _ _ H12 none none P12 (((K79.trans K10).trans K11).trans K12) f12 hby (ZBs (by omega) (by omega)) H13 f13 K13⟩
    ·walk_at "w"
     refine Ju f11 hlt fun H13 f13 K13 => ?_
     walk_at "w"
     exact ⟨⟨_, _, _, rfl⟩, fin _ _ H11 none none P11 ((K79.trans K10).trans K11) f11 hby (ZAs (by omega) (by omega)) H13 f13 K13⟩
   ·walk_at "w"
    refine ⟨p, _, rfl, P9, by decide, by decide, fun d11 H11 h11 h11' P11 K11 => ?_⟩
    have f11 := K11 _ _ f9 hned
    walk_at "w"
    refine JR (fun _ => ?_) (fun _ => ?_)
    ·walk_at "w"
     refine ⟨p, rfl, P11, fun z H12 hz1 hz2 P12 K12 => ?_⟩
     have f12 := K12 _ _ f11 hned
     walk_at "w"
     refine Ju f12 hlt fun H13 f13 K13 => ?_
     walk_at "w"
     exact ⟨⟨_, _, _, rfl⟩, fin _ _ H12 none none P12 ((K79.trans K11).trans K12) f12 hbt (ZBs (by omega) (by omega)) H13 f13 K13⟩
    ·walk_at "w"
     refine Ju f11 hlt fun H13 f13 K13 => ?_
     walk_at "w"
     exact ⟨⟨_, _, _, rfl⟩, fin _ _ H11 none none P11 (K79.trans K11) f11 hbt (ZAs (by omega) (by omega)) H13 f13 K13⟩
  ·rintro U H7 ⟨⟨v6, v7, v8, rfl⟩, P7, K7, ps, f7, hnd, hl, hbp⟩
   walk_at "w"
   refine ZCd f7 hnd (by omega) fun l8 H8 cv n8 hL8 hC hlc S8 => ?_
   obtain ⟨vs8, g8, p8⟩ := hL8
   walk_at "w"
   refine ZCv (SqL.of g8) fun t H9 n9 f9 S9 => ?_
   refine k t cv H9 ⟨vs8, f9, p8.same S9⟩ hC.1 (fun q hq => ?_) (by omega) ((P7.same S8).same S9) ((K7.then S8).then S9)
   exact hbp q ((ZAh hnd).mp ((hC.2 q.1 q.2).mp hq))
theorem ZDE {xs : List V} {v : V} (h : xs[xs.length - 1]? = some v) : atI xs (-1) = some v := by
 have hlt := (Ui.mp h).1
 unfold atI ixN
 rw [if_neg (by decide), if_pos (by omega)]
 have : ((-1 : Int) + (xs.length : Int)).toNat = xs.length - 1 := by omega
 rw [this]
 exact h
def ZGv (K : W.Frag) : Sp := fun vs H Q _ => ∃ (t : Addr) (cv : PL), vs = [.ref t] /\ PrT H t cv /\ Asc cv /\ cv.length < 3000 /\
 ∀ (v : V) (o : Option (PL)) (H' : Hp), Jo H' v o -> Is4 cv o -> YF H H' -> Q v H'
theorem ZAM : Yf ["_law_curve_here", "_law_low", "_law_high"] ["_law_curve_here"] (YG JW) := Jg
theorem ZBa (T : Txt K mg a) : YZ P w K mg base CX0 1 a.Zf a.Zd ["_law_curve_here"] (ZGv K) := by
 refine T.Zg.ok ZAM (by walk_at "l") (fun cdv A outer s H vs Q E hr h => ?_)
 ·obtain ⟨t, cv, rfl, hT, hasc, hlen, k⟩ := h
  have hu64 := hr.units
  refine ⟨_, QB.h (YC (Y8 (Yo (ZHn K rfl hu64) (qv 0) (Y7 Z9) (Yt _)) (YK (Yd ZEI)) Yr) (YC (qsS (i := 1) ZAM.nd (Yn (Yz K rfl) (YY (ZAZ K rfl) rfl T.ZI ZAA (Z8 (ZCz (N := ["_law_curve_here", "_law_low", "_law_high"]) (sc := YG JW) (own := ["_law_t", "_law_h"]) (caps := []) (ks := []) rfl rfl rfl ⟨rfl, by decide +kernel, by decide +kernel, by decide +kernel, by decide +kernel, rfl, by decide +kernel⟩ (ZEN K rfl (qv 0)) (fun _ _ _ _ _ => ZB9 (n := 2) K rfl rfl (JB (Jn (i := 0) (show List.Nodup (α := Str) ["_law_t", "_law_h"] from by decide +kernel) rfl (by walk_at "o") (.inr rfl)) (JB (Jn (i := 1) (show List.Nodup (α := Str) ["_law_t", "_law_h"] from by decide +kernel) rfl (by walk_at "o") (.inr rfl)) ZBE))) (fun _ _ _ _ _ => ZB6) (fun _ _ _ _ _ => Y7 (Z8 (qv 1) (Z8 (qv 0) Z9)))) Z9)) Z7)) (YC (qsS (i := 2) ZAM.nd (Yn (Yz K rfl) (YY (ZAZ K rfl) rfl T.ZI ZAA (Z8 (ZCz (N := ["_law_curve_here", "_law_low", "_law_high"]) (sc := YG JW) (own := ["_law_t", "_law_h"]) (caps := []) (ks := []) rfl rfl rfl ⟨rfl, by decide +kernel, by decide +kernel, by decide +kernel, by decide +kernel, rfl, by decide +kernel⟩ (ZEN K rfl (qv 0)) (fun _ _ _ _ _ => ZB9 (n := 2) K rfl rfl (JB (Jn (i := 0) (show List.Nodup (α := Str) ["_law_t", "_law_h"] from by decide +kernel) rfl (by walk_at "o") (.inr rfl)) (JB (Jn (i := 1) (show List.Nodup (α := Str) ["_law_t", "_law_h"] from by decide +kernel) rfl (by walk_at "o") (.inr rfl)) ZBE))) (fun _ _ _ _ _ => ZB6) (fun _ _ _ _ _ => Y7 (Z8 (ZBo ZAt (qv 1)) (Z8 (qv 0) Z9)))) Z9)) Z7)) (YK (Yd (Y7 (Z8 (Yn (Y9 K rfl) (qv 0) Z7) (Z8 (Yn (Y9 K rfl) (qv 0) (ZBo ZAt Z7)) (Z8 (Y7 (Z8 (Yn (Y9 K rfl) (qv 1) Z7) (Z8 (Yn (Y9 K rfl) (qv 1) Z7) Z9))) (Z8 (Y7 (Z8 (Yn (Y9 K rfl) (qv 2) Z7) (Z8 (ZBo ZAt (Yn (Y9 K rfl) (qv 2) Z7)) Z9))) Z9)))))))))), ?_⟩
  walk_at "s"
  walk_at "w"
  refine Yq (by show 0 <= sizeLine; decide) fun e0 H0 n0 f0 S0 => ?_
  refine ZGn (l := cv) (m := []) (hT.same S0) ⟨[], f0, .nil⟩ ?_
  walk_at "w"
  refine JR (fun hne => ?_) (fun hne => ?_)
  ·walk_at "w"
   exact k _ none H0 .non (.inl ⟨rfl, hne⟩) S0
  obtain ⟨us, gT, pT⟩ := hT.same S0
  have hul : us.length = cv.length := pT.length
  have hpos : 0 < cv.length := List.length_pos_iff.mpr hne
  walk_at "w"
  intro l n1
  refine ZCx cv.length (fun i' U' H' => (∃ o1 o2, U' = [o1, o2]) /\ YF H0 H' /\ ∃ vs, H' l = some (.lst vs) /\ YA H' vs ((cv.take i').map fun p => (p.2, p.1))) ?_ ?_ ?_
  ·exact ⟨⟨none, none, rfl⟩, YF.new n1, [], YQ, .nil⟩
  ·rintro U' H1 ⟨_, S1, vs1, f1, hP1⟩
   refine ⟨⟨_, SqT.of (S1 _ _ gT), by rw [hul]; exact Ud _⟩, ?_⟩
   rw [List.take_length] at hP1
   walk_at "w"
   refine ZAa (SqL.of f1) hP1 (ZA4 hasc fun p => p.2) (by rw [Uo]; omega) fun l2 us2 lo H2 n2 f2 hP2 perm2 pw2 S2 => ?_
   have hlo : lo.length = cv.length := by rw [perm2.length_eq, Uo]
   obtain ⟨c2, p2, ec2, hp2, hc2⟩ := hP2.at (Uc (show 0 < us2.length by rw [hP2.length, hlo]; exact hpos))
   have hx2 : us2[0]? = some (.ref c2) := by rw [Uc (show 0 < us2.length by rw [hP2.length, hlo]; exact hpos), ec2]
   walk_at "w"
   refine ZAB (SqL.of f2) (JK (j := 0) hx2) ?_
   have S02 := S1.trans S2
   have gT2 := S02 _ _ gT
   walk_at "w"
   intro l3 n3
   refine ZCx cv.length (fun i' U' H' => (∃ o1 o2, U' = [o1, o2]) /\ YF H2 H' /\ ∃ vs, H' l3 = some (.lst vs) /\ YA H' vs ((cv.take i').map fun p => (-p.2, p.1))) ?_ ?_ ?_
   ·exact ⟨⟨none, none, rfl⟩, YF.new n3, [], YQ, .nil⟩
   ·rintro U'' H3 ⟨_, S3, vs3, f3, hP3⟩
    have S03 := S02.trans S3
    refine ⟨⟨_, SqT.of (S03 _ _ gT), by rw [hul]; exact Ud _⟩, ?_⟩
    rw [List.take_length] at hP3
    walk_at "w"
    refine ZAa (SqL.of f3) hP3 (ZA4 hasc fun p => -p.2) (by rw [Uo]; omega) fun l4 us4 hi H4 n4 f4 hP4 perm4 pw4 S4 => ?_
    have hhi : hi.length = cv.length := by rw [perm4.length_eq, Uo]
    obtain ⟨c4, p4, ec4, hp4, hc4⟩ := hP4.at (Uc (show 0 < us4.length by rw [hP4.length, hhi]; exact hpos))
    have hx4 : us4[0]? = some (.ref c4) := by rw [Uc (show 0 < us4.length by rw [hP4.length, hhi]; exact hpos), ec4]
    walk_at "w"
    refine ZAB (SqL.of f4) (JK (j := 0) hx4) ?_
    have S04 := S03.trans S4
    have g4 := S04 _ _ gT
    have pT4 := pT.same S04
    have hc2' := S4 _ _ (S3 _ _ hc2)
    obtain ⟨c0, q0, ec0, hq0, hc0⟩ := pT4.at (Uc (show 0 < us.length by omega))
    obtain ⟨c1, q1, ec1, hq1, hc1⟩ := pT4.at (Uc (show us.length - 1 < us.length by omega))
    have hx0 : us[0]? = some (.ref c0) := by rw [Uc (show 0 < us.length by omega), ec0]
    have hx1 : us[us.length - 1]? = some (.ref c1) := by rw [Uc (show us.length - 1 < us.length by omega), ec1]
    walk_at "w"
    refine ZAC (SqT.of g4) (JK (j := 0) hx0) ?_
    walk_at "w"
    refine ZAC (SqT.of g4) (ZDE hx1) ?_
    walk_at "w"
    refine Yq (by show 2 <= sizeLine; decide) fun c5 H5 n5 f5 S5 => ?_
    have hc4' := S5 _ _ hc4
    walk_at "w"
    refine Yq (by show 2 <= sizeLine; decide) fun c6 H6 n6 f6 S6 => ?_
    walk_at "w"
    refine Yq (by show 4 <= sizeLine; decide) fun c7 H7 n7 f7 S7 => ?_
    have S47 := S5.trans (S6.trans S7)
    have hP7 : YA H7 [.ref c0, .ref c1, .ref c5, .ref c6] [q0, q1, (p2.2, p2.1), (p4.2, -p4.1)] := .cons ⟨c0, rfl, S47 _ _ hc0⟩ (.cons ⟨c1, rfl, S47 _ _ hc1⟩ (.cons ⟨c5, rfl, S7 _ _ (S6 _ _ f5)⟩ (.cons ⟨c6, rfl, S7 _ _ f6⟩ .nil)))
    refine k _ (some [q0, q1, (p2.2, p2.1), (p4.2, -p4.1)]) H7 (.pr ⟨_, f7, hP7⟩ rfl) ?_ (S0.trans (S04.trans S47))
    rw [hul] at hq1
    exact Is4.sorted hasc hq0 hq1 perm2 perm4 pw2 pw4 hp2 hp4
   ·rintro i' U'' H3 hi' ⟨⟨o1, o2, rfl⟩, S3, vs, f, hPc⟩
    have S03 := S02.trans S3
    have hi2 : i' < us.length := by rw [hul]; exact hi'
    refine ⟨⟨_, _, SqT.of (S03 _ _ gT), Uc hi2⟩, ?_⟩
    rintro v H'' ⟨rfl, hv⟩
    have hv := hv _ (SqT.of (S03 _ _ gT))
    obtain ⟨c, q, rfl, hq, hc⟩ := (pT.same S03).at hv
    have e3 : (cv.take (i' + 1)).map (fun p => (-p.2, p.1)) = (cv.take i').map (fun p => (-p.2, p.1)) ++ [(-q.2, q.1)] := by rw [List.take_succ, hq, List.map_append]; rfl
    walk_at "w"
    refine ZDT ?_
    walk_at "w"
    refine Yq (by show 2 <= sizeLine; decide) fun t4 H4 n4 f4 S4 => ?_
    refine ⟨vs, S4 _ _ f, ?_, ⟨_, _, rfl⟩, (S3.trans S4).kpN n3 Kp.upd, _, YQ, ?_⟩
    ·rw [hPc.length, Uo, UO]
     exact Nat.lt_of_le_of_lt (Nat.min_le_left _ _) (Ue (show i' < 3000 by omega) (by decide))
    ·rw [e3]
     exact YA.kpL Kp.upd (S4 _ _ f) ((hPc.same S4).snoc (p := (-q.2, q.1)) f4)
  ·rintro i' U' H1 hi' ⟨⟨o1, o2, rfl⟩, S1, vs, f, hPc⟩
   have hi2 : i' < us.length := by rw [hul]; exact hi'
   refine ⟨⟨_, _, SqT.of (S1 _ _ gT), Uc hi2⟩, ?_⟩
   rintro v H'' ⟨rfl, hv⟩
   have hv := hv _ (SqT.of (S1 _ _ gT))
   obtain ⟨c, q, rfl, hq, hc⟩ := (pT.same S1).at hv
   have e3 : (cv.take (i' + 1)).map (fun p => (p.2, p.1)) = (cv.take i').map (fun p => (p.2, p.1)) ++ [(q.2, q.1)] := by rw [List.take_succ, hq, List.map_append]; rfl
   walk_at "w"
   refine ZDT ?_
   walk_at "w"
   refine Yq (by show 2 <= sizeLine; decide) fun t4 H4 n4 f4 S4 => ?_
   refine ⟨vs, S4 _ _ f, ?_, ⟨_, _, rfl⟩, (S1.trans S4).kpN n1 Kp.upd, _, YQ, ?_⟩
   ·rw [hPc.length, Uo, UO]
    exact Nat.lt_of_le_of_lt (Nat.min_le_left _ _) (Ue (show i' < 3000 by omega) (by decide))
   ·rw [e3]
    exact YA.kpL Kp.upd (S4 _ _ f) ((hPc.same S4).snoc (p := (q.2, q.1)) f4)
def ZFp (K : W.Frag) : Sp := fun vs H Q _ => ∃ (l : Addr) (cv : PL), vs = [.ref l] /\ PrT H l cv /\ Asc cv /\
 ∀ (v : V) (o : Option (PL)) (H' : Hp), Jo H' v o -> Is4 cv o -> YF H H' -> Q v H'
theorem ZDt : Yf ["curve"] ["curve"] (YG ZAJ) := Jg
theorem ZBA (T : Txt K mg a) : YZ P w K mg base CX0 3 a.ZS a.ZQ ["curve"] (ZFp K) := by
 refine T.ZR.ok ZDt (by walk_at "l") (fun cdv A outer s H vs Q E hr h => ?_)
 ·obtain ⟨l, cv, rfl, ⟨us, gL, pL⟩, hasc, k⟩ := h
  have hul : us.length = cv.length := pL.length
  refine ⟨_, QB.h (YC (Y8 (Yo (ZAO) (YY (ZEM K rfl) rfl T.Zr ZEB (Z8 (qv 0) Z9)) Z7 (Yt _)) (YK (Yd ZEI)) Yr) (YK (Yd (Y7 (Z8 (Yn (Y9 K rfl) (qv 0) Z7) (Z8 (Yn (Y9 K rfl) (qv 0) (ZBo ZAt Z7)) (Z8 (ZDh K rfl rfl (ZAL T) hr rfl T.Z1 rfl T.ZX T.ZW (Z8 (qv 0) Z9)) (Z8 (ZDj K rfl rfl (ZAL T) hr rfl T.Zq rfl T.ZX T.ZW (Z8 (qv 0) Z9)) Z9)))))))), ?_⟩
  walk_at "s"
  walk_at "w"
  refine JR (fun h => ?_) (fun h => ?_)
  ·walk_at "w"
   have : cv = [] := List.length_eq_zero_iff.mp (by have h := V.int.inj h; omega)
   exact k _ none H .non (.inl ⟨rfl, this⟩) (YF.refl H)
  ·have hpos : 0 < us.length := by
    rcases Nat.eq_zero_or_pos us.length with z | z
    ·exact absurd (by rw [z]; rfl) h
    ·exact z
   have hne : us ≠ [] := List.length_pos_iff.mp hpos
   obtain ⟨c0, q0, ec0, hq0, hc0⟩ := pL.at (Uc hpos)
   obtain ⟨c1, q1, ec1, hq1, hc1⟩ := pL.at (Uc (show us.length - 1 < us.length by omega))
   have hx0 : us[0]? = some (.ref c0) := by rw [Uc hpos, ec0]
   have hx1 : us[us.length - 1]? = some (.ref c1) := by rw [Uc (show us.length - 1 < us.length by omega), ec1]
   have turn : ∀ i v, us[i]? = some v -> ∀ Q : VK, Q (.int (cv.getD i (0, 0)).2) H -> ZCW [v] H Q E0 := fun i v hv Q q => by
    obtain ⟨c, p, rfl, hp, hc⟩ := pL.at hv
    have e : cv.getD i (0, 0) = p := by simp [hp]
    rw [e] at q
    exact ⟨c, p.1, p.2, rfl, hc, q⟩
   walk_at "w"
   refine ZAC (SqT.of gL) (JK (j := 0) hx0) ?_
   walk_at "w"
   refine ZAC (SqT.of gL) (ZDE hx1) ?_
   walk_at "w"
   refine ZDi (fun i => (cv.getD i (0, 0)).2) (SqT.of gL) hne turn fun i2 v2 hv2 hb2 => ?_
   walk_at "w"
   refine ZDk (fun i => (cv.getD i (0, 0)).2) (SqT.of gL) hne turn fun i3 v3 hv3 hb3 => ?_
   obtain ⟨c2, q2, rfl, hq2, hc2⟩ := pL.at hv2
   obtain ⟨c3, q3, rfl, hq3, hc3⟩ := pL.at hv3
   walk_at "w"
   refine Yq (by show 4 <= sizeLine; decide) fun c4 H4 n4 f4 S4 => ?_
   have hP4 : YA H4 [.ref c0, .ref c1, .ref c2, .ref c3] [q0, q1, q2, q3] := .cons ⟨c0, rfl, S4 _ _ hc0⟩ (.cons ⟨c1, rfl, S4 _ _ hc1⟩ (.cons ⟨c2, rfl, S4 _ _ hc2⟩ (.cons ⟨c3, rfl, S4 _ _ hc3⟩ .nil)))
   rw [hul] at hq1 hb2 hb3
   exact k _ (some [q0, q1, q2, q3]) H4 (.pr ⟨_, f4, hP4⟩ rfl) (Is4.minmax hasc hq0 hq1 hq2 hq3 hb2 hb3) S4
def ZH0 : Sp := fun vs H Q _ => ∃ p : Addr, vs = [.ref p] /\ Pot H p /\ ∀ (t : Addr) (cv : PL) (H' : Hp), PrT H' t cv -> Asc cv -> BP cv -> cv.length <= 2000 -> Pot H' p -> Kp p H H' -> Q (.ref t) H'
theorem Yp : Yf ["_law_pot_here", "_law_t", "_law_made", "_law_k"] ["_law_pot_here"] (YG JD) := Jg
theorem ZBB (T : Txt K mg a) : YZ P w K mg base CX0 3 a.ZF a.ZE ["_law_pot_here"] ZH0 := by
 refine T.ZL.ok Yp (by walk_at "l") (fun cdv A outer s H vs Q E hr h => ?_)
 ·obtain ⟨p, rfl, hp, k⟩ := h
  have hu64 := hr.units
  refine ⟨_, QB.h (YC (qsS (i := 1) Yp.nd (YJ Y5 (qcS (JF T) hr T.ZH T.ZD.kp T.ZG (Z8 (qv 0) Z9)) (YJ Jj Z7 Z7))) (YC (qsS (i := 2) Yp.nd (ZAz Z9)) (YC (ZB7 PassesOwn.never rfl (ZBQ rfl T.ZV (Z8 (YJ JO Z7 (qcS (YR T) hr.m T.ZB T.ZA.kp T.ZC (Z8 (qv 0) (Z8 Z7 Z9)))) Z9)) (qgN (i := 3) Yp.nd) (YC (ZHs (i := 1) Yp.nd rfl (by walk_at "o") ZGD (YJ JO Z7 (qcS (YR T) hr.m T.ZB T.ZA.kp T.ZC (Z8 (qv 0) (Z8 Z7 Z9))))) (YK (ZFT (ZIL PySem.F.plainAttrs_list PySem.F.slot_list_append PySem.F.type_list_append ZBO (qv 2) (Z8 (Y7 (Z8 (qv 1) (Z8 (YJ Y5 (qcS (YR T) hr.m T.ZB T.ZA.kp T.ZC (Z8 (qv 0) (Z8 Z7 Z9))) Z7) Z9))) Z9)))))) (YK (Yd (ZA0 (ZB8 K rfl) rfl T.ZU ZB3 (Z8 (qv 2) Z9))))))), ?_⟩
  walk_at "s"
  walk_at "w"
  refine ⟨p, rfl, hp, fun x H1 x1 x2 P1 K1 => ?_⟩
  walk_at "w"
  refine Yq (by show 0 <= sizeLine; decide) fun l H2 n2 f2 S2 => ?_
  have npl : l ≠ p := P1.neN n2
  walk_at "w"
  refine ⟨p, _, rfl, P1.same S2, by decide, by decide, fun d H3 d0 d1 P3 K3 => ?_⟩
  have f3 := K3 _ _ f2 npl
  have nl : ∀ b o, H b = some o -> b ≠ p -> b ≠ l := fun b o e nb z => by
   have := K1 _ _ e nb
   rw [z, n2] at this
   cases this
  have K03 : ∀ b o, H b = some o -> b ≠ p -> H3 b = some o := fun b o e nb => K3 _ _ (S2 _ _ (K1 _ _ e nb)) nb
  walk_at "w"
  refine ZEG (by omega) (by omega) (ZCw (fun i U H' => (∃ (t : Int) (v3 : Option V) (cv : PL) (us : List V), U = [some (.ref p), some (.int t), some (.ref l), v3] /\ H' l = some (.lst us) /\ YA H' us cv /\ Asc cv /\ (∀ q ∈ cv, q.1 <= t) /\ BP cv /\ cv.length = i /\ -(10 ^ 59) - 1000000 < t /\ t < 10 ^ 59 + 3 * (i : Int)) /\ Pot H' p /\ Kp p H H') ?_ ?_ ?_)
  ·exact ⟨⟨_, _, [], [], rfl, f3, .nil, .nil, (fun q hq => by cases hq), (fun q hq => by cases hq), rfl, by omega, by omega⟩, P3, K03⟩
  ·rintro i U H4 hi ⟨⟨t, v3, cv, us, rfl, f4, hP4, hA4, hle4, hB4, hl4, t1, t2⟩, P4, K4⟩
   have hi2 : i < 2001 := by omega
   walk_at "w"
   refine ⟨p, _, rfl, P4, by decide, by decide, fun d5 H5 h5 h5' P5 K5 => ?_⟩
   have f5 := K5 _ _ f4 npl
   walk_at "w"
   refine ⟨tyL f5, ?_⟩
   walk_at "w"
   refine ⟨p, _, rfl, P5, by decide, by decide, fun d6 H6 h6 h6' P6 K6 => ?_⟩
   have f6 := K6 _ _ f5 npl
   have hP6 : YA H6 us cv := YA.pot (K5.trans K6) P4 hP4
   walk_at "w"
   refine Yq (by show 2 <= sizeLine; decide) fun c7 H7 n7 f7 S7 => ?_
   have f67 := S7 _ _ f6
   walk_at "w"
   refine ZEO f67 (by rw [hP4.length, hl4]; exact Ue hi2 (by decide)) fun H8 f8 K8 => ?_
   walk_at "w"
   refine ⟨⟨_, _, cv ++ [(t + (1 + d5), d6 - 20)], _, rfl, f8, ?_, ?_, ?_, ?_, by rw [UK, hl4]; rfl, by omega, by omega⟩, ?_, ?_⟩
   ·exact YA.kpL K8 f67 ((hP6.same S7).snoc (p := (t + (1 + d5), d6 - 20)) f7)
   ·refine List.pairwise_append.mpr ⟨hA4, List.pairwise_singleton _ _, fun q hq r hr => ?_⟩
    rw [List.mem_singleton.mp hr]
    have := hle4 q hq
    show q.1 < t + (1 + d5)
    omega
   ·intro q hq
    rcases UT.mp hq with h | h
    ·have := hle4 q h
     omega
    ·rw [List.mem_singleton.mp h]
     exact Int.le_refl _
   ·intro q hq
    rcases UT.mp hq with h | h
    ·exact hB4 q h
    ·rw [List.mem_singleton.mp h]
     exact ⟨Bn.of (Int.lt_of_le_of_lt (show (-(2 ^ 200) : Int) <= -(10 ^ 59) - 1000000 by decide) (show -(10 ^ 59) - 1000000 < t + (1 + d5) by omega)) (Int.lt_of_lt_of_le (show t + (1 + d5) < 10 ^ 59 + 10000 by omega) (by decide)), ZAs (by show -2000000000 < d6 - 20; omega) (by show d6 - 20 < 2000000000; omega)⟩
   ·obtain ⟨u, v, e, z⟩ := P6.same S7
    exact ⟨u, v, K8 _ _ e (Ne.symm npl), z⟩
   ·intro b o e nb
    exact K8 _ _ (S7 _ _ (K6 _ _ (K5 _ _ (K4 _ _ e nb) nb) nb)) (nl b o e nb)
  ·rintro U H4 ⟨⟨t, v3, cv, us, rfl, f4, hP4, hA4, hle4, hB4, hl4, t1, t2⟩, P4, K4⟩
   walk_at "w"
   refine ZCv (SqL.of f4) fun u H5 n5 f5 S5 => ?_
   exact k u cv H5 ⟨us, f5, hP4.same S5⟩ hA4 hB4 (by omega) (P4.same S5) (fun b o e nb => S5 _ _ (K4 _ _ e nb))
def ZBt (K : W.Frag) : Sp := fun vs H Q _ => ∃ (s : Addr) (ns : List Int), vs = [.ref s] /\ SqL K H s (ns.map V.int) /\ ns.length <= 63 /\ ∀ H', Q (.bl true) H'
def Cv (H : Hp) (t : Addr) : Prop := ∃ cv, PrT H t cv /\ Asc cv /\ BP cv /\ cv.length <= 2000
theorem Cv.same {H H' : Hp} {t : Addr} (h : Cv H t) (s : YF H H') : Cv H' t := by
 obtain ⟨cv, h1, h2⟩ := h
 exact ⟨cv, h1.same s, h2⟩
theorem JX : Yf ["_law_script", "_law_pot_here", "_law_elder", "_law_number_here", "_law_curve_here"] ["_law_script"] (YG Y0) := Jg
theorem ZH1 (T : Txt K mg a) : YZ P w K mg base CX0 4 a.Z0 a.Zz ["_law_script"] (ZBt K) := by
 refine T.Z4.ok JX (by walk_at "l") (fun cdv A outer s H vs Q E hr h => ?_)
 ·obtain ⟨s, ns, rfl, hS, hn, k⟩ := h
  have hu64 := hr.units
  have hgd := hr.gd
  have shows : ∀ {H' : Hp} {v : V} {c : PL} {o : Option (PL)}, Jo H' v o -> Is4 c o -> BP c -> Yw K H' v (ZBq o).shown := fun h g hb => ZDl h fun qs e q hq => hb q ((e ▸ g).mem q hq)
  refine ⟨_, QB.h (YC (qsS (i := 1) JX.nd (qcS (ZCY T) hr.m T.Zx T.Zk.kp T.Zy (Z8 (qcS (ZBY T) hr.m T.Zs T.Zc.kp T.Zu (Z8 (qv 0) (Z8 Z7 Z9))) Z9))) (YC (qsS (i := 2) JX.nd (Y7 Z9)) (YC (Y8 (Yo (ZAO) (qcS (YR T) hr.m T.ZB T.ZA.kp T.ZC (Z8 (qv 1) (Z8 Z7 Z9))) Z7 (Yt _)) (YK (qsS (i := 2) JX.nd (qcS (ZBB T) hr T.Zi T.ZL.kp T.Zj (Z8 (qv 1) Z9)))) Yr) (YC (ZB7 PassesOwn.never rfl (ZGh K rfl (YJ ZHM (ZAz (Z8 (qcS (ZBY T) hr.m T.Zs T.Zc.kp T.Zu (Z8 (qv 0) (Z8 Z7 Z9))) Z9)) (ZFR (ZGg K rfl) (qv 0) (ZCy Z7) (ZCy Z7)))) (qgN (i := 3) JX.nd) (YC (qsS (i := 4) JX.nd (qcS (ZDs T) hr T.Z2 T.Zm.kp T.Z3 (Z8 (qcS (ZCY T) hr.m T.Zx T.Zk.kp T.Zy (Z8 (qv 3) Z9)) (Z8 Z7 Z9)))) (YC (Y8 (QW.pt (ZIK (Yo (ZFq) (YY (Jx K rfl hgd hu64) rfl T.ZM ZAP (Z8 (qcS (ZBA T) hr T.Zo T.ZR.kp T.Zn (Z8 (qv 4) Z9)) Z9)) (YY (Jx K rfl hgd hu64) rfl T.ZM ZAP (Z8 (qcS (ZBa T) hr.m T.Zv T.Zg.kp T.Zt (Z8 (qv 4) Z9)) Z9)) (Yt _)) (ZHk (Yo (ZFq) (YY (Jx K rfl hgd hu64) rfl T.ZM ZAP (Z8 (qcS (ZBA T) hr T.Zo T.ZR.kp T.Zn (Z8 (qv 2) Z9)) Z9)) (YY (Jx K rfl hgd hu64) rfl T.ZM ZAP (Z8 (qcS (ZBa T) hr.m T.Zv T.Zg.kp T.Zt (Z8 (qv 2) Z9)) Z9)) (Yt _))))) (YK (Yd ZFy)) Yr) (YK (qsS (i := 2) JX.nd (qv 4)))))) (YK (Yd ZFy)))))), ?_⟩
  walk_at "s"
  walk_at "w"
  refine ⟨s, ns, _, rfl, hS, by decide, ?_⟩
  walk_at "w"
  refine ⟨_, rfl, fun p H1 n1 P1 S1 => ?_⟩
  walk_at "w"
  refine Yq (by show 0 <= sizeLine; decide) fun e2 H2 n2 f2 S2 => ?_
  repeat walk_at "ri"
  refine ZGt (fun U' H' => ∃ e v3 v4, U' = [some (.ref s), some (.ref p), some (.ref e), v3, v4] /\ Cv H' e /\ YF H H') ?_ ?_
  ·rintro U' H3 ⟨e3, v3, v4, rfl, hE3, S03⟩
   have hS3 := S03.seq hS
   walk_at "w"
   refine ⟨s, ns, _, rfl, hS3, by decide, ?_⟩
   walk_at "w"
   refine Yq (by show 1 <= sizeLine; decide) fun l4 H4 n4 f4 S4 => ?_
   walk_at "w"
   refine ZHf (S4.seq hS3) fun l5 H5 n5 f5 S5 => ?_
   have hcl := ZAV (ns.map V.int) (some 1) (some 20)
   rw [Uo] at hcl
   refine ZHg (S5 _ _ f4) f5 (by show 1 + _ <= _; exact UF (show _ <= 100 by omega) (by decide)) fun l6 H6 n6 f6 S6 => ?_
   have hint : ∀ x ∈ [V.int (ns.getD (Int.toNat 0) 0)] ++ ZAf (ns.map V.int) (some 1) (some 20), ∃ c : Int, x = .int c := by
    intro x hx
    rcases UT.mp hx with hx | hx
    ·exact ⟨_, List.mem_singleton.mp hx⟩
    ·have : x ∈ ns.map V.int := List.mem_of_mem_drop (List.mem_of_mem_take hx)
     obtain ⟨c, _, rfl⟩ := List.mem_map.mp this
     exact ⟨c, rfl⟩
   have S36 := S4.trans (S5.trans S6)
   refine ZEH (SqL.of f6) ?_
   refine ZGZ (xs := [V.int (ns.getD (Int.toNat 0) 0)] ++ ZAf (ns.map V.int) (some 1) (some 20)) (fun i U H' => (∃ e v3 v4, U = [some (.ref s), some (.ref p), some (.ref e), v3, v4] /\ Cv H' e) /\ YF H6 H') ⟨⟨_, _, _, rfl, hE3.same S36⟩, YF.refl _⟩ ?_ ?_ ?_
   ·rintro i U H' _ ⟨_, S'⟩
    exact SqL.of (S' _ _ f6)
   ·rintro i x U H7 hx ⟨⟨e, v3, v4, rfl, hE7⟩, S7⟩
    obtain ⟨c, rfl⟩ := hint x (Ut hx)
    walk_at "w"
    refine ⟨c, rfl, fun q H8 n8 P8 S8 => ?_⟩
    walk_at "w"
    refine ⟨q, _, rfl, P8, by decide, by decide, fun t cv H9 hT9 hasc hbp hlen P9 K9 => ?_⟩
    have S79 : YF H7 H9 := ((Kp.same S8).trans K9).fresh n8
    walk_at "w"
    refine ⟨t, cv, rfl, hT9, hasc, fun v1 o1 H10 h10 g10 S10 => ?_⟩
    walk_at "w"
    refine Jy (shows h10 g10 hbp) ?_
    walk_at "w"
    refine ⟨t, cv, rfl, hT9.same S10, hasc, by omega, fun v2 o2 H11 h11 g11 S11 => ?_⟩
    obtain rfl : o2 = o1 := g11.unique hasc g10
    walk_at "w"
    refine Jy (shows h11 g11 hbp) ?_
    walk_at "w"
    refine ZEV ?_
    walk_at "w"
    refine ZFv (fun h => absurd rfl h) (fun _ => ?_)
    have S911 := S10.trans S11
    obtain ⟨ce, hTe, hae, hbe, hle⟩ := (hE7.same S79).same S911
    walk_at "w"
    refine ⟨e, ce, rfl, hTe, hae, fun v5 o5 H12 h12 g12 S12 => ?_⟩
    walk_at "w"
    refine Jy (shows h12 g12 hbe) ?_
    walk_at "w"
    refine ⟨e, ce, rfl, hTe.same S12, hae, by omega, fun v6 o6 H13 h13 g13 S13 => ?_⟩
    obtain rfl : o6 = o5 := g13.unique hae g12
    walk_at "w"
    refine Jy (shows h13 g13 hbe) ?_
    walk_at "w"
    refine ZEV ?_
    walk_at "w"
    refine ZFv (fun h => absurd rfl h) (fun _ => ?_)
    have S913 := S911.trans (S12.trans S13)
    walk_at "w"
    exact ⟨⟨_, _, _, rfl, cv, hT9.same S913, hasc, hbp, by omega⟩, S7.trans (S79.trans S913)⟩
   ·rintro U H7 ⟨⟨e, v3, v4, rfl, hE7⟩, S7⟩
    walk_at "w"
    exact k H7
  ·intro D' _ hD'
   walk_at "w"
   refine ⟨p, _, rfl, P1.same S2, by decide, by decide, fun d3 H3 h3 h3' P3 K3 => ?_⟩
   have S03 : YF H H3 := ((Kp.same (S1.trans S2)).trans K3).fresh n1
   have f23 := K3 _ _ f2 (P1.neN n2)
   walk_at "w"
   refine JR (fun _ => ?_) (fun _ => ?_)
   ·walk_at "w"
    refine ⟨p, rfl, P3, fun t cv H4 hT4 hA4 hB4 hl4 P4 K4 => ?_⟩
    walk_at "w"
    exact hD' _ _ ⟨_, _, _, rfl, ⟨cv, hT4, hA4, hB4, hl4⟩, ((Kp.same S03).trans K4).fresh n1⟩
   ·walk_at "w"
    exact hD' _ _ ⟨_, _, _, rfl, ⟨[], ⟨[], f23, .nil⟩, .nil, (fun q hq => by cases hq), by simp⟩, S03⟩
end
structure FnH (K : W.Frag) (x : Str) (st : Stmt) (f : Addr) (d : FuncData) : Prop where
 a : W.nsIn K mainGlobals x = some (some (.ref f))
 F : Fun K x x st f d
open PySem.W in
theorem all_mk {l : OpenLaw} {w : World} {K : Frag} {h : Heap} {mg : Str -> Option Value} {fa : Addr} (X : K.In h) (G : h.Ns mainGlobals mg) (hfa : mg "law" = some (.ref fa))
 {f0 f1 f2 f3 f4 f5 f6 f7 f8 f9 : Addr} {d0 d1 d2 d3 d4 d5 d6 d7 d8 : FuncData}
 {od9 an9 : Option Addr} {sl9 : Array (Option Value)} {oc9 kV9 dc9 pm9 cd9 ct9 : Value}
 (F0 : FnH K "height_of" Jh f0 d0)
 (F1 : FnH K "four_of" ZAJ f1 d1)
 (F2 : FnH K "_law_cell" ZAq f2 d2)
 (F3 : FnH K "_law_pot" ZBJ f3 d3)
 (F4 : FnH K "_law_draw" ZAr f4 d4)
 (F5 : FnH K "_law_number" J6 f5 d5)
 (F6 : FnH K "_law_curve" ZAK f6 d6)
 (F7 : FnH K "_law_four" JW f7 d7)
 (F8 : FnH K "_law_long_curve" JD f8 d8)
 (a9 : nsIn K mainGlobals "law" = some (some (.ref f9)))
 (l9 : K.lookup f9 = some ⟨oc9, od9, .func (fnOf "law" "law" (Yy Y0) (Yu Y0) (YG Y0) .none kV9 dc9 pm9 an9 cd9 ct9), sl9⟩) (c9 : codeIn K cd9 "law" = true) (k9 : keepIn K (.ref f9) = true)
 (Zp : nsIn K mainGlobals "abs" = some none)
 (Za : nsIn K mainGlobals "divmod" = some none)
 (Zr : nsIn K mainGlobals "len" = some none)
 (Zq : nsIn K mainGlobals "max" = some none)
 (Z1 : nsIn K mainGlobals "min" = some none)
 (ZV : nsIn K mainGlobals "range" = some none)
 (ZM : nsIn K mainGlobals "repr" = some none)
 (ZI : nsIn K mainGlobals "sorted" = some none)
 (ZU : nsIn K mainGlobals "tuple" = some none)
   : ∃ fd : FuncData, (∀ (s : Shared) (v : Value), BindsTo s fd ⟨[v], []⟩ [("_law_script", v)]) /\ ∀ base : Heap, K.In base -> base.Ns mainGlobals mg -> YZ l.prog w K mg base CX0 4 fa fd ["_law_script"] (ZBt K) := by
  have e := hfa.symm.trans (mg_of X G a9)
  cases e
  have F9 := fun_mk (st := Y0) l9 c9 k9
  have T : Txt K mg ⟨f0, d0, f1, d1, f2, d2, f3, d3, f4, d4, f5, d5, f6, d6, f7, d7, f8, d8, fa, fnOf "law" "law" (Yy Y0) (Yu Y0) (YG Y0) .none kV9 dc9 pm9 an9 cd9 ct9⟩ := ⟨F0.F, (F0.F.b1 fun _ _ _ _ _ _ _ => rfl), (mg_of X G F0.a), F1.F, (F1.F.b1 fun _ _ _ _ _ _ _ => rfl), (mg_of X G F1.a), F2.F, (F2.F.b2 fun _ _ _ _ _ _ _ _ => rfl), (mg_of X G F2.a), F3.F, (F3.F.b1 fun _ _ _ _ _ _ _ => rfl), (mg_of X G F3.a), F4.F, (F4.F.b2 fun _ _ _ _ _ _ _ _ => rfl), (mg_of X G F4.a), F5.F, (F5.F.b1 fun _ _ _ _ _ _ _ => rfl), (mg_of X G F5.a), F6.F, (F6.F.b2 fun _ _ _ _ _ _ _ _ => rfl), (mg_of X G F6.a), F7.F, (F7.F.b1 fun _ _ _ _ _ _ _ => rfl), (mg_of X G F7.a), F8.F, (F8.F.b1 fun _ _ _ _ _ _ _ => rfl), (mg_of X G F8.a), F9, (F9.b1 fun _ _ _ _ _ _ _ => rfl), (mg_of X G a9), (mg_none_of X G Zp), (mg_none_of X G Za), (mg_none_of X G Zr), (mg_none_of X G Zq), (mg_none_of X G Z1), (mg_none_of X G ZV), (mg_none_of X G ZM), (mg_none_of X G ZI), (mg_none_of X G ZU)⟩
  exact ⟨fnOf "law" "law" (Yy Y0) (Yu Y0) (YG Y0) .none kV9 dc9 pm9 an9 cd9 ct9, fun s v => .of_eq rfl, fun base _ _ => ZH1 T⟩
theorem walk {l : W.OpenLaw} {q : Program} {loose : List Str} {XP : (Str -> Option Value) -> Heap -> Prop} {YP : World -> Heap -> Prop} {d : DefRec} {K : Params -> W.Frag} (hn : l.most = some 63) (hdf : d.params.defaults = [])
  (hY : ∀ (w : World) (h : Heap), YP w h -> (K w.params).In h)
  (F : ∀ (w : World) (mg : Str -> Option Value) (fa : Addr) (h : Heap), (K w.params).In h -> h.Ns mainGlobals mg -> mg d.name = some (.ref fa) ->
   ∃ fd : FuncData, (∀ (s : Shared) (u : Value), BindsTo s fd ⟨[u], []⟩ [("_law_script", u)]) /\ ∀ base : Heap, (K w.params).In base -> base.Ns mainGlobals mg -> YZ l.prog w (K w.params) mg base CX0 4 fa fd ["_law_script"] (ZBt (K w.params))) :
  W.WalkO q loose XP YP l.row.toRowW d [] (fun f vs => PySem.call f vs) :=
 L2.walk_of (n := 63) (k := 4) (x := "_law_script") (CX := fun _ => CX0) (sp := fun w => ZBt (K w.params)) hn (by decide) hdf ⟨rfl, by decide, by decide, rfl⟩ hY F (fun _ _ a ns hl _ hS => ⟨a, ns, rfl, hS, hl, fun _ => rfl⟩) fun _ _ _ _ _ z => z
end My
local macro_rules | `(tactic| walk_at "e") => `(tactic| (refine' ⟨?a, ?b, ?c, ?d, ?e, ?f, ?g⟩; (case a => k_is); (case b => k_exc); (case c => k_is); (case d => k_is); (case e => k_is); (case f => k_is); (case g => k_is)))
local macro_rules | `(tactic| walk_at "c") => `(tactic| (refine' ⟨?a, ?b, ?c, ?d, ?e, ?f, ?g⟩; (case a => k_is); (case b => k_is); (case c => k_is); (case d => k_is); (case e => k_is); (case f => k_is); (case g => k_is)))
local macro_rules | `(tactic| walk_at "f") => `(tactic| (refine' ⟨?a, L2.fun_mk ?b ?c ?d⟩; (case a => k_is); (case b => k_is); (case c => k_is); (case d => k_is)))
local macro_rules | `(tactic| walk_at "m") => `(tactic| (refine' ⟨?a, ?b, L2.fun_mk ?c ?d ?e⟩; (case a => k_is); (case b => k_is); (case c => k_is); (case d => k_is); (case e => k_is)))
namespace PySem.W.Fast
def tw11838007994561549292:=()
def tw8864174514840526992:=()
def tw1514434615030229046:=()
def tw11336920460400449786:=()
def tw8742339201052154622:=()
def tw13675372388690959688:=()
def tw662696973545663095:=()
def tw16719758503512340696:=()
def tw3737512102462818944:=()
def tw447305528357463177:=()
def tw9413241456644362054:=()
def tw10105763256950089931:=()
def tw4598575916805202727:=()
def tw13074984172616325966:=()
def tw1428590430136362648:=()
def tw6855286678419716521:=()
def tw14634692513827904858:=()
def tw17313291474821167030:=()
def tw13222907133950350073:=()
def tw13385059060427051047:=()
def tw15959399153162626322:=()
def tw17518938830065508538:=()
def tw13023226115573891219:=()
def tw4653103589689365956:=()
def tw10955475634763715133:=()
def tw4244266541812567067:=()
def tw12245625454407131828:=()
def tw11431108341244751613:=()
end PySem.W.Fast
open PySem PySem.W PyProof.Rows
set_option maxRecDepth 100000 in
set_option maxHeartbeats 0 in
theorem PySem.Challenge.cw_fourpoints_k31_four_of_a_curve_holds : PySem.Challenge.rw_fourpoints_k31_four_of_a_curve.Holds := by
 w_on; o_law; k_head; (case hw => w_witness2)
 k_fill
 refine My.walk (l := PySem.Challenge.rw_fourpoints_k31_four_of_a_curve) rfl rfl (fun w h Y => PySem.W.kIn_of Y) ?F
 case F =>
  intro w mg fa h KX G hmg
  refine' My.all_mk KX G hmg ?taa ?tab ?tac ?tad ?tae ?taf ?tag ?tah ?tai ?taj ?tak ?tal ?tam ?tan ?tao ?tap ?taq ?tar ?tas ?tat ?tau ?tav
  (case taa | tab | tac | tad | tae | taf | tag | tah | tai => walk_at "f")
  (case taj | tak | tal | tam | tan | tao | tap | taq | tar | tas | tat | tau | tav => k_is)
