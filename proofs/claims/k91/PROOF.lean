import PyProof.Rows.All
import Wide.All
import OpenK.AllK
import Wide.FinOn
import Lean
import PyProof.EqAt
import PyProof.EqKinds
import PyProof.TupleCall
import KE.KSortTup
import PyProof.CollectWalk
import PyProof.DictWalks
import PyProof.Rows.SortWalk
import KE.KItemsList
import PyProof.ReprText
import PyProof.Rows.StrIntSpec
import PyProof.RowDictHeap
import KE.KRevIter
import KE.KMinKey
import PyProof.P3In
import KE.KIntText
import PyProof.StrLawsTight
import PyProof.StrWalks
import PyProof.ListRange
import PyProof.DictValues
import PyProof.Rows.SortStr
import KE.KDictLaws
import PySem.Challenge.RW_fourpoints_k91_whole_deeds_by_the_script
set_option tactic.hygienic false
local macro_rules|`(tactic|omega)=>`(tactic|first|assumption|lia)
set_option Elab.async false
set_option linter.all false
set_option compiler.extract_closed false
set_option maxRecDepth 100000
set_option maxHeartbeats 4000000
-- CHANGE: your row's module here,as the last of these rows
abbrev _L.PL:=List (Int×Int)
noncomputable section
open PySem renaming wpAny_bind → Ua,wpAny_pure → Uj,wpAny_mono → UJ,wpAny_holding → UO,wpAny_field → Vi
open List renaming getElem?_eq_getElem → Ub,mem_cons → Ud,mem_cons_of_mem → Uf,length_map → Ug,getElem?_eq_some_iff → Ui,lookup_cons → Uk,mem_singleton → Um,mem_map → Ur,not_mem_nil → Us,mem_append → Uu,mem_append_right → Uv,size_toArray → Uw,mem_of_getElem? → Ux,map_append → Uy,mem_cons_self → UB,getElem?_map → UC,length_append → UD,append_nil → UF,find?_cons → UG,map_map → UH,map_cons → UK,length_filter_le → UL,range → UM,take_length → UP,getElem_of_mem → UQ,take_succ → UR,length_take → US,map_congr_left → UU,mem_append_left → UV,any_eq_true → UY,nodup_iff_pairwise_ne → Vc,length_cons → Vd,length_range → Ve,length_eq_zero_iff → Vf,getElem_mem → Vg,drop_of_length_le → Vh,range_succ → Vk,lookup → Vm,take_of_length_le → Vp,getElem?_append_right → Vq,mem_map_of_mem → Vs,length_pos_iff → Vt,nodup_cons → Vu,mem_filter → Vv,pairwise_iff_getElem → Vx
open PySem.Heap renaming get?_push_of_some → Uc,get?_push_size → Ul,lt_size → Uo,get?_update_other → UE,size_push → UZ
open Nat renaming le_refl → Ue,lt_of_lt_of_le → Uh,lt_of_le_of_lt → Uq,ne_of_lt → Ut,le_trans → Uz,zero_le → UX,lt_irrefl → Vj,le_succ → Vl,lt_succ_of_lt → Vo
open Bool renaming false_ne_true → UA,and_eq_true → UN,false_eq_true → UW,false_and → Vr,eq_iff_iff → Vw
open Array renaming length_toList → UI
open Int renaming mul_le_mul_of_nonneg_right → UT
open Option renaming isSome_iff_exists → Va,map_some → Vb,map_eq_some_iff → Vn
namespace _L
open PySem PySem.Spec PyProof.Rows
abbrev Ef:=Sum Int Str
noncomputable def Hk:Ef->Value->Bool
 | .inl k,v=>Value.isInt k v
 | .inr x,v=>Value.isStrOf x v
noncomputable def tD(w:World):Ef->Int
 | .inl k=>hashInt k
 | .inr x=>hashStr w x
theorem Gu:∀ {k:Ef} {v:Value},Hk k v=true->(∃i t,k=Sum.inl i/\v=Value.int i t)\/(∃x t,k=Sum.inr x/\v=Value.str x t)
 | .inl i,v,h=>by
  obtain⟨t,e⟩:=Value.isInt_shape (k:=i) (v:=v) h;exact .inl ⟨i,t,rfl,e⟩
 | .inr x,v,h=>by
  obtain⟨t,e⟩:=Value.isStrOf_shape (x:=x) (v:=v) h;exact .inr ⟨x,t,rfl,e⟩
theorem yL(i:Int)(t:Tok):Hk (.inl i) (.int i t)=true:=by simp[Hk,Value.isInt]
theorem yM(x:Str)(t:Tok):Hk (.inr x) (.str x t)=true:=by simp[Hk,Value.isStrOf]
theorem mq(a b:Int):decide ((Sum.inl a:Ef)=Sum.inl b)=(a==b):=by
 by_cases e:a=b
 ·subst e;simp
 ·have h:¬(Sum.inl a:Ef)=Sum.inl b:=fun q=>e (Sum.inl.inj q);rw[decide_eq_false h];exact(beq_eq_false_iff_ne.mpr e).symm
theorem mr(a b:Str):decide ((Sum.inr a:Ef)=Sum.inr b)=decide (a=b):=by
 by_cases e:a=b
 ·subst e;simp
 ·have h:¬(Sum.inr a:Ef)=Sum.inr b:=fun q=>e (Sum.inr.inj q);rw[decide_eq_false h,decide_eq_false e]
theorem ms(a:Int)(b:Str):decide ((Sum.inl a:Ef)=Sum.inr b)=false:=decide_eq_false (fun q=>nomatch q)
theorem mv(a:Str)(b:Int):decide ((Sum.inr a:Ef)=Sum.inl b)=false:=decide_eq_false (fun q=>nomatch q)
def Gh(prog:Program)(w:World):PySem.KeyKind prog w Ef where
 is:=Hk
 hash:=tD w
 inj:=fun v a b ha hb=>by
  rcases Gu ha with ⟨i,t,rfl,rfl⟩|⟨x,t,rfl,rfl⟩
  ·rcases Gu hb with ⟨j,u,rfl,e⟩|⟨y,u,rfl,e⟩
   ·injection e with e1 _;rw[e1]
   ·exact nomatch e
  ·rcases Gu hb with ⟨j,u,rfl,e⟩|⟨y,u,rfl,e⟩
   ·exact nomatch e
   ·injection e with e1 _;rw[e1]
 byValue:=fun k v h=>by
  rcases Gu h with ⟨i,t,rfl,rfl⟩|⟨x,t,rfl,rfl⟩<;>rfl
 pyHash:=fun hv h=>by
  rcases Gu hv with ⟨i,t,rfl,rfl⟩|⟨x,t,rfl,rfl⟩
  ·exact wpAny_pyHash_int h
  ·exact wpAny_pyHash_str h
 eqBool:=fun hu hv h=>by
  rcases Gu hu with ⟨i,t,rfl,rfl⟩|⟨x,t,rfl,rfl⟩
  ·rcases Gu hv with ⟨j,u,rfl,rfl⟩|⟨y,u,rfl,rfl⟩
   ·rw[mq] at h;exact wpAny_eqBool_int h
   ·rw[ms] at h;exact SeqAt.EqAt.int_str i t y u _ _ _ _ h
  ·rcases Gu hv with ⟨j,u,rfl,rfl⟩|⟨y,u,rfl,rfl⟩
   ·rw[mv] at h;exact SeqAt.EqAt.str_int x t j u _ _ _ _ h
   ·rw[mr] at h;exact wpAny_eqBool_str h
 «strs»:=fun k x t v h=>by
  rcases Gu h with ⟨i,u,rfl,e⟩|⟨y,u,rfl,e⟩
  ·exact nomatch e
  ·injection e with e1 _;subst e1;cases v<;>rfl
theorem xp(prog:Program)(w:World)(i:Int)(t:Tok):(Gh prog w).is (.inl i) (.int i t)=true:=yL i t
theorem xq(prog:Program)(w:World)(x:Str)(t:Tok):(Gh prog w).is (.inr x) (.str x t)=true:=yM x t
inductive V where
 |non|bl (b:Bool)|int (i:Int)|str (x:Str)|byt (b:Array UInt8)|flt (b:UInt64)|ref (a:Addr)|ty (n:String)
 deriving DecidableEq
def El:V->Value->Prop
 | .non,u=>u=Value.none
 | .bl b,u=>u=Value.bool b
 | .int i,u=>∃t,u=Value.int i t
 | .str x,u=>∃t,u=Value.str x t
 | .byt b,u=>∃t,u=Value.bytes b t
 | .flt b,u=>∃t,u=Value.float b t
 | .ref a,u=>u=Value.ref a
 | .ty n,u=>u=Value.type n
abbrev Em:List V->List Value->Prop:=Paired El
theorem Em.length{xs:List V}{us:List Value}(r:Em xs us):xs.length=us.length:=Paired.length r
theorem Em.get:∀ {xs:List V} {us:List Value} {i:Nat} {x:V},Em xs us->xs[i]? = some x->∃u,us[i]? = some u/\El x u
 |_,_,_,_,.nil,e=>by simp at e
 |_,_,0,_,.cons r _,e=>by simp at e;subst e;exact⟨_,rfl,r⟩
 |_,_,i+1,x,.cons _ t,e=>by
  obtain⟨u,h1,h2⟩:=Em.get (i:=i) (x:=x) t (by simpa using e);exact⟨u,by simpa using h1,h2⟩
theorem Em.set{x:V}{u:Value}(r:El x u):∀ {xs:List V} {us:List Value} (i:Nat),Em xs us->Em (xs.set i x) (us.set i u)
 |_,_,_,.nil=>.nil
 |_,_,0,.cons _ t=>.cons r t
 |_,_,i+1,.cons q t=>.cons q (Em.set r i t)
theorem Em.append:∀ {xs ys:List V} {us ws:List Value},Em xs us->Em ys ws->Em (xs++ys) (us++ws)
 |_,_,_,_,.nil,s=>s
 |_,_,_,_,.cons r t,s=>.cons r (Em.append t s)
theorem Em.take:∀ {xs:List V} {us:List Value} (n:Nat),Em xs us->Em (xs.take n) (us.take n)
 |_,_,0,_=>.nil
 |_,_,_+1,.nil=>.nil
 |_,_,n+1,.cons r t=>.cons r (Em.take n t)
theorem Em.drop:∀ {xs:List V} {us:List Value} (n:Nat),Em xs us->Em (xs.drop n) (us.drop n)
 |_,_,0,r=>r
 |_,_,_+1,.nil=>.nil
 |_,_,n+1,.cons _ t=>Em.drop n t
def Bl:Option V->Option Value->Prop
 |some v,some u=>El v u
 |none,none=>True
 |_,_=>False
def KV{κ:Type}:List (κ × V)->List (κ × Value)->Prop:=Paired fun(p:κ × V) (q:κ × Value)=>p.1=q.1/\El p.2 q.2
noncomputable def kV:Ef->V
 | .inl i=>.int i
 | .inr x=>.str x
inductive HO where
 |lst (xs:List V)
 |tup (xs:List V)
 |dK (kvs:List (Ef×V))|dT (kvs:List (List Ef×V))
 |set (S:Int->Bool) (n:Nat)
 |ins (C dx:Addr) (fs:List (Str×V))
 |own (x:Addr)
 |xd (fs:List (Str×V))
 |met (f x:Addr)
 |rng (lo hi:Int)
 |frz (o:Obj) (u:HO)
 |tbl (ps:Array Value)
 |ext (φ:Heap->Prop)
abbrev Hp:=Addr->Option HO
noncomputable def upd(H:Hp)(a:Addr)(o:HO):Hp:=fun b=>if b=a then some o else H b
theorem EW{H:Hp}{a:Addr}{o:HO}:upd H a o a=some o:=by unfold upd;rw[if_pos rfl]
theorem Ep{H:Hp}{a b:Addr}{o:HO}(h:b≠a):upd H a o b=H b:=by unfold upd;rw[if_neg h]
theorem fg{H:Hp}{a b:Addr}{o u:HO}(h:H a=some o)(h':H b=some u)(d:o≠u):a≠b:=by
 intro e;subst e;rw[h] at h';exact d (Option.some.inj h')
theorem GJ{H:Hp}{a b:Addr}{o:HO}(h:H a=some o)(h':H b=none):a≠b:=by
 intro e;subst e;rw[h] at h';cases h'
section
variable(P:Program)(w:World)
def Gj(H:Hp)(h:Heap)(a:Addr):HO->Prop
 | .lst xs=>xs.length<=sizeLine/\∃(its:List Value) (n:Nat),Em xs its/\h.get? a=some { cls:=.type "list",data:=.seq its.toArray n }
 | .tup xs=>(xs.length<=sizeLine/\((∀i:Int,xs.head? ≠ some (.int i))->∃o,h.get? a=some o/\o.dict=none/\o.slots = #[]))/\∃its:List Value,Em xs its/\IsTup h a its.toArray
 | .dK kvs=>kvs.length<=sizeLine/\(a==sysModules)=false/\∃vs,KV kvs vs/\h.DictOf (Gh P w) a vs
 | .dT kvs=>kvs.length<=sizeLine/\(a==sysModules)=false/\∃xs:List (List Ef×Addr×Value),
  Paired (fun(p:List Ef×V) (q:List Ef×Addr×Value)=>p.1=q.1/\H q.2.1=some (.tup (p.1.map kV))/\El p.2 q.2.2) kvs xs/\
  ∃o es ep,h.get? a=some o/\o.ExactDict/\o.data=.dict es ep/\es.toList=xs.map (entryOfKey (tupleKind (Gh P w)))/\(xs.map (·.1)).Nodup
 | .set S n=>h.SetOf (intKind P w) a S n
 | .ins C dx fs=>H dx=some (.own a)/\fs.length<=1000/\dx≠a/\h.get? a=some (PySem.W.instObj C dx)/\
  ∃mA,h.Ns1 dx mA/\(∀f,Bl (fs.lookup f) (mA f))/\PySem.Within mA (fs.map (·.1))
 | .own _=>∃o,h.get? a=some o
 | .xd fs=>∃mA,h.Ns1 a mA/\∀f,Bl (fs.lookup f) (mA f)
 | .rng lo hi=>∃t u v,h.get? a=some { cls:=.type "range",data:=.fields #[.int lo t,.int hi u,.int 1 v] }
 | .frz o u=>h.get? a=some o/\Gj H h a u
 | .tbl ps=>h.get? a=some { cls:=.none,data:=.fields ps }
 | .met f x=>h.get? a=some (PySem.W.methodObj (.ref f) (.ref x))
 | .ext φ=>φ h/\(∃o,h.get? a=some o)/\∀h1 h2:Heap,φ h1->(∀o,h1.get? a=some o->h2.get? a=some o)->φ h2
def BA(H:Hp)(h:Heap):Prop:=∀a o,H a=some o->Gj P w H h a o
end
section
variable{P:Program}{w:World}{H H':Hp}{h h':Heap}{a:Addr}{o:HO}
theorem Gj.lt(x:Gj P w H h a o):a<h.objs.size:=by
 cases o with
 |lst xs=>obtain⟨_,_,_,_,e⟩:=x;exact Uo e
 |tup xs=>obtain⟨_,_,_,p⟩:=x;exact p.lt
 |dK kvs=>obtain⟨_,_,_,_,o,_,_,e,_⟩:=x;exact Uo e
 |dT kvs=>obtain⟨_,_,_,_,o,_,_,e,_⟩:=x;exact Uo e
 |set S n=>obtain⟨o,_,_,_,e,_⟩:=x;exact Uo e
 |ins C dx fs=>obtain⟨_,_,_,e,_⟩:=x;exact Uo e
 |own y=>obtain⟨_,e⟩:=x;exact Uo e
 |xd fs=>obtain⟨_,⟨_,_,_,e,_⟩,_⟩:=x;exact Uo e
 |rng lo hi=>obtain⟨_,_,_,e⟩:=x;exact Uo e
 |frz ob u=>obtain⟨e,_⟩:=x;exact Uo e
 |tbl ps=>exact Uo (show h.get? a=some _ from x)
 |met f y=>exact Uo (show h.get? a=some _ from x)
 |ext φ=>obtain⟨_,⟨_,e⟩,_⟩:=x;exact Uo e
theorem Paired.mapP{α β:Type}{F G:α->β->Prop}:∀ {l₁:List α} {l₂:List β},Paired F l₁ l₂->(∀a b,F a b->G a b)->Paired G l₁ l₂
 |_,_,.nil,_=>.nil
 |_,_,.cons r t,f=>.cons (f _ _ r) (Paired.mapP t f)
theorem Gj.stay(x:Gj P w H h a o)(k:∀b u,(b=a\/H b=some (.own a))->h.get? b=some u->h'.get? b=some u)
  (Y:∀b,H b=some (.own a)->H' b=some (.own a)) (L:∀b xs,H b=some (.tup xs)->H' b=some (.tup xs)):Gj P w H' h' a o:=by
 induction o with
 |lst xs=>obtain⟨z,F,n,r,e⟩:=x;exact⟨z,F,n,r,k _ _ (.inl rfl) e⟩
 |tup xs=>
  obtain⟨⟨z,O⟩,F,r,ob,e,c⟩:=x;exact⟨⟨z,fun q=>let ⟨J,ed,cd⟩:=O q;⟨J,k _ _ (.inl rfl) ed,cd⟩⟩,F,r,ob,k _ _ (.inl rfl) e,c⟩
 |dK kvs=>obtain⟨z,y,vs,r,ob,es,B,e,c⟩:=x;exact⟨z,y,vs,r,ob,es,B,k _ _ (.inl rfl) e,c⟩
 |dT kvs=>
  obtain⟨z,y,xs,r,ob,es,B,e,c⟩:=x;exact⟨z,y,xs,Paired.mapP r fun p q z=>⟨z.1,L _ _ z.2.1,z.2.2⟩,ob,es,B,k _ _ (.inl rfl) e,c⟩
 |set S n=>obtain⟨ob,es,B,t,e,c⟩:=x;exact⟨ob,es,B,t,k _ _ (.inl rfl) e,c⟩
 |ins C dx fs=>
  obtain⟨d,z,ne,e,mA,⟨J,es,B,M,c⟩,r⟩:=x;exact⟨Y _ d,z,ne,k _ _ (.inl rfl) e,mA,⟨J,es,B,k _ _ (.inr d) M,c⟩,r⟩
 |own y=>obtain⟨ob,e⟩:=x;exact⟨ob,k _ _ (.inl rfl) e⟩
 |xd fs=>obtain⟨mA,⟨J,es,B,e,c⟩,r⟩:=x;exact⟨mA,⟨J,es,B,k _ _ (.inl rfl) e,c⟩,r⟩
 |rng lo hi=>obtain⟨t,u,v,e⟩:=x;exact⟨t,u,v,k _ _ (.inl rfl) e⟩
 |frz ob u ih=>obtain⟨e,q⟩:=x;exact⟨k _ _ (.inl rfl) e,ih q⟩
 |tbl ps=>
  have e:h.get? a=some { cls:=.none,data:=.fields ps }:=x;show h'.get? a=some { cls:=.none,data:=.fields ps };exact k a _ (.inl rfl) e
 |met f y=>
  have e:h.get? a=some (PySem.W.methodObj (.ref f) (.ref y)):=x;show h'.get? a=some (PySem.W.methodObj (.ref f) (.ref y));exact k a _ (.inl rfl) e
 |ext φ=>obtain⟨p,⟨o,e⟩,st⟩:=x;exact⟨st _ _ p fun o q=>k _ _ (.inl rfl) q,⟨o,k _ _ (.inl rfl) e⟩,st⟩
theorem BA.lt(x:BA P w H h)(e:H a=some o):a<h.objs.size:=(x a o e).lt
theorem BA.fresh(x:BA P w H h)(e:h.objs.size<=a):H a=none:=by
 cases q:H a with
 |none=>rfl
 |some u=>exact absurd (Uh (x.lt q) e) (Vj _)
theorem BA.kept(x:BA P w H h)(k:∀b u,h.get? b=some u->h'.get? b=some u):BA P w H h':=fun a o e=>
 (x a o e).stay (fun b u _ q=>k b u q) (fun _ q=>q) fun _ _ q=>q
theorem BA.laid(x:BA P w H h)(k:∀b u,h.get? b=some u->h'.get? b=some u)(J:h.objs.size<=a)(new:Gj P w (upd H a o) h' a o):BA P w (upd H a o) h':=fun b u e=>by
 have B:=x.fresh J;by_cases F:b=a
 ·subst F;rw[EW] at e;cases e;exact new
 ·rw[Ep F] at e;exact(x b u e).stay (fun c v _ q=>k c v q) (fun c q=>by rw[Ep (GJ q B)];exact q) fun c xs q=>by rw[Ep (GJ q B)];exact q
end
def Rd(H:Hp)(a:Addr)(u:HO):Prop:=H a=some u\/∃o,H a=some (.frz o u)
theorem Rd.ok{P:Program}{w:World}{H:Hp}{h:Heap}{a:Addr}{u:HO}(r:Rd H a u)(x:BA P w H h):Gj P w H h a u:=by
 rcases r with r|⟨o,r⟩
 ·exact x a u r
 ·obtain⟨_,q⟩:=x a _ r;exact q
def WZ:Option HO->Prop
 |some (.lst _)=>True
 |some (.dK _)=>True
 |some (.dT _)=>True
 |some (.set _ _)=>True
 |some (.ins _ _ _)=>True
 |some (.ext _)=>True
 |_=>False
section
variable{P:Program}{w:World}{H:Hp}{h h':Heap}{x e:Addr}{o':HO}
theorem BA.write(ok:BA P w H h)(J:WZ (H x))(Y:e=x\/H e=some (.own x))(k:∀b u,b≠e->h.get? b=some u->h'.get? b=some u)(O:∃u,h'.get? e=some u)
  (new:Gj P w (upd H x o') h' x o'):BA P w (upd H x o') h':=fun b u q=>by
 have nown:∀c y,H c=some (.own y)->c≠x:=fun c y r z=>by subst z;rw[r] at J;exact J
 have F:∀c xs,H c=some (.tup xs)->c≠x:=fun c xs r z=>by subst z;rw[r] at J;exact J
 by_cases M:b=x
 ·subst M;rw[EW] at q;cases q;exact new
 ·rw[Ep M] at q;by_cases B:b=e
  ·have q':H b=some (.own x):=by
    rcases Y with z|z
    ·exact absurd (B.trans z) M
    ·rw[B];exact z
   rw[q] at q';cases q';obtain⟨v,Z⟩:=O;exact⟨v,by rw[B];exact Z⟩
  ·refine(ok b u q).stay (fun c v L r=>k c v ?_ r) (fun c r=>by rw[Ep (nown c b r)];exact r) fun c xs r=>by rw[Ep (F c xs r)];exact r
   rcases L with rfl|L
   ·exact B
   ·rintro rfl;rcases Y with z|z
    ·exact nown c b L z
    ·rw[L] at z;cases z;exact M rfl
end
structure Un(fs ex:List Addr)(H H':Hp)(h h':Heap):Prop where
 keep:∀b o,h.get? b=some o->H b=none->b∉fs->b∉ex->h'.get? b=some o
 slot:∀b o,h.get? b=some o->H b=none->b∈fs->b∉ex->∃sl,h'.get? b=some { o with slots:=sl }
 free:∀b o,h.get? b=some o->H b=none->b∉ex->H' b=none
 there:∀b o,h.get? b=some o->b∉ex->∃o',h'.get? b=some o'
 tups:∀b xs,H b=some (.tup xs)->H' b=some (.tup xs)
 frzs:∀b o u,H b=some (.frz o u)->H' b=some (.frz o u)
 tbls:∀b ps,H b=some (.tbl ps)->∃more,H' b=some (.tbl (ps++more))
section
variable{fs fs' ex ex':List Addr}{H H1 H2:Hp}{h h1 h2 h':Heap}{a x e:Addr}{o:HO}
theorem Un.any(u:Un fs ex H H1 h h1){b:Addr}{ob:Obj}(q:h.get? b=some ob)(n:H b=none)(B:b∉ex):∃sl,h1.get? b=some { ob with slots:=sl }:=by
 by_cases F:b∈fs
 ·exact u.slot b ob q n F B
 ·exact⟨ob.slots,u.keep b ob q n F B⟩
theorem Un.kept(k:∀b u,h.get? b=some u->h'.get? b=some u):Un fs ex H H h h':=
 ⟨fun b ob q _ _ _=>k b ob q,fun b ob q _ _ _=>⟨ob.slots,k b ob q⟩,fun _ _ _ n _=>n,fun b ob q _=>⟨ob,k b ob q⟩,fun _ _ q=>q,fun _ _ _ q=>q,fun _ ps q=>⟨#[],by rw[q];simp⟩⟩
theorem Un.refl:Un fs ex H H h h:=Un.kept fun _ _ q=>q
theorem Un.laid(k:∀b u,h.get? b=some u->h'.get? b=some u)(F:h.objs.size<=a)(B:H a=none):Un fs ex H (upd H a o) h h' where
 keep:=fun b u q _ _ _=>k b u q
 slot:=fun b u q _ _ _=>⟨u.slots,k b u q⟩
 free:=fun b u q n _=>by rw[Ep (Ut (Uh (Uo q) F))];exact n
 there:=fun b u q _=>⟨u,k b u q⟩
 tups:=fun b xs q=>by rw[Ep (GJ q B)];exact q
 frzs:=fun b u xs q=>by rw[Ep (GJ q B)];exact q
 tbls:=fun b ps q=>⟨#[],by rw[Ep (GJ q B),q];simp⟩
theorem Un.write(F:WZ (H x))(O:e=x\/H e=some (.own x))(k:∀b u,b≠e->h.get? b=some u->h'.get? b=some u)(J:∃u,h'.get? e=some u):Un fs ex H (upd H x o) h h':=by
 have L:∀b,H b=none->b≠x:=fun b n z=>by subst z;rw[n] at F;exact F
 have M:∀b,H b=none->b≠e:=fun b n z=>by
  subst z;rcases O with r|r
  ·exact L b n r
  ·rw[n] at r;cases r
 have hm:∀b u,H b=some u->¬WZ (some u)->b≠x:=fun b u q Y z=>by subst z;rw[q] at F;exact Y F
 refine⟨fun b u q n _ _=>k b u (M b n) q,fun b u q n _ _=>⟨u.slots,k b u (M b n) q⟩,fun b u q n _=>by rw[Ep (L b n)];exact n,fun b u q _=>?_,
  fun b xs q=>by rw[Ep (hm b _ q fun z=>z)];exact q,fun b u xs q=>by rw[Ep (hm b _ q fun z=>z)];exact q,fun b ps q=>⟨#[],by rw[Ep (hm b _ q fun z=>z),q];simp⟩⟩
 by_cases B:b=e
 ·subst B;exact J
 ·exact⟨u,k b u B q⟩
end
noncomputable def fh(h:Heap)(H:Hp):List Addr:=(UM h.objs.size).filter fun a=>(H a).isSome
def Iq(h:Heap)(H:Hp):Heap:=PySem.W.hideAll h (fh h H)
theorem yN(h:Heap)(H:Hp):(Iq h H).objs.size=h.objs.size:=PySem.W.hideAll_size _ _
theorem bX{h:Heap}{H:Hp}{b:Addr}{o:Obj}(e:h.get? b=some o)(n:H b=none):(Iq h H).get? b=some o:=
 PySem.W.hideAll_get _ e fun hm=>by
  have q:(H b).isSome=true:=(Vv.mp hm).2;rw[n] at q;simp at q
theorem iZ{h:Heap}{H:Hp}{b:Addr}{o:Obj}(e:(Iq h H).get? b=some o):h.get? b=some o/\H b=none:=by
 have e':h.get? b=some o:=PySem.W.of_hideAll (fh h H) e;refine⟨e',?_⟩
 cases q:H b with
 |none=>rfl
 |some x=>
  have hm:b∈fh h H:=Vv.mpr ⟨List.mem_range.mpr (Uo e'),by simp[q]⟩;have z:(Iq h H).get? b=none:=PySem.W.hideAll_none (fh h H) hm;rw[z] at e;cases e
noncomputable def ia(g h:Heap)(L:Addr):List (Addr×Obj):=(UM h.objs.size).filterMap fun a=>if a=L\/(g.get? a).isSome=true then none else(h.get? a).map fun o=>(a,o)
def BF(g h:Heap)(L d:Addr):List (Addr×Obj):=(ia g h L).filter fun p=>decide (p.1≠d)
structure Mod(K:W.Frag)(mg:Str->Option Value)(base:Heap):Prop where
 kin:K.In base
 glob:base.Ns mainGlobals mg
 blt:∃mb,base.Ns builtinsNs mb/\∀x:Str,x≠"__name__"->mb x=bootBuiltins x
 nolimit:base.NoLimit
structure Cx where
 prog:Program
 w:World
 K:W.Frag
 mg:Str->Option Value
 base:Heap
 A:Around
 N:List Str
 s₀:Shared
 H₀:Hp
 env:Env
 outer:List Env
 stack:List Env
 ex:List Addr
 fn:Str->Bool
 calm:Bool
 pn:List (Addr×Obj)
 xe:Value->Shared->Prop
noncomputable def IQ(l:List Env):List Addr:=l.filterMap (·.frame)
abbrev Cx.fs(X:Cx):List Addr:=IQ X.outer
def fi(sc:Scope)(x:Str):Prop:=sc.names.lookup x=some .local\/sc.names.lookup x=some .cell\/sc.names.lookup x=some .free
def Hl(sc:Scope)(x:Str):Prop:=sc.names.lookup x=some .local\/sc.names.lookup x=some .cell
def tE(env:Env)(h:Heap)(m:Str->Option Value)(x:Str)(u:Value):Prop:=
 (env.kindOf x=some .local/\m x=some u)\/((env.kindOf x=some .cell\/env.kindOf x=some .free)/\∃c,env.cells.lookup x=some c/\h.IsCell c (some u))
structure Cx.Ok(X:Cx):Prop where
 mod:Mod X.K X.mg X.base
 kind:X.env.scope.kind=.function
 glob:X.env.globals=mainGlobals
 blt:X.env.builtins=builtinsNs
 above:X.s₀.heap.objs.size<=X.env.locals
 inj:∀x y c,X.env.cells.lookup x=some c->X.env.cells.lookup y=some c->x=y
 has:∀x,(X.env.kindOf x=some .cell\/X.env.kindOf x=some .free)->∃c,X.env.cells.lookup x=some c
 cab:∀x c,X.fn x=true->X.env.cells.lookup x=some c->X.s₀.heap.objs.size<=c
 hd:X.calm=true->X.A.handled=none
 frames:X.A.frames=some X.stack
 stk:X.stack=X.outer\/(X.stack=X.env::X.outer/\X.env.frame=some X.env.locals)
 exf:∀b∈X.ex,b≠X.env.locals/\∀x c,X.env.cells.lookup x=some c->c≠b
 bs:∀b o,X.base.get? b=some o->X.s₀.heap.get? b=some o/\X.H₀ b=none
 bsz:X.base.objs.size<=X.s₀.heap.objs.size
 noex:∀b o,X.base.get? b=some o->b∉X.ex
 exfs:∀b∈X.ex,b∉X.fs
 funs:X.s₀.heap.FunFrames X.base X.outer
 frf:∀b∈X.fs,X.H₀ b=none
structure Inv(X:Cx)(pins:List (Addr×Obj))(U:List (Option V))(H:Hp)(s:Shared):Prop where
 ok:X.Ok
 os:s.os=X.s₀.os
 bare:AllBare s.gens
 base:Un X.fs X.ex X.H₀ H X.s₀.heap s.heap
 loc:∃m,s.heap.Ns X.env.locals m/\∀(i:Nat) (x:Str) (v:V),X.N[i]? = some x->U[i]? = some (some v)->fi X.env.scope x->∃u,El v u/\tE X.env s.heap m x u
 cell:∀x c,X.env.cells.lookup x=some c->∃v,s.heap.IsCell c v
 free:H X.env.locals=none
 freeC:∀x c,X.env.cells.lookup x=some c->H c=none
 pin:∀p∈X.pn++pins,s.heap.get? p.1=some p.2/\H p.1=none/\p.1≠X.env.locals/\p.1∉X.fs/\∀v,p.2.data≠.cell v
 hok:BA X.prog X.w H s.heap
 len:U.length=X.N.length
section
variable{X:Cx}{pins:List (Addr×Obj)}{U:List (Option V)}{H H':Hp}{s:Shared}{h':Heap}
theorem Cx.Ok.nofr(ok:X.Ok){b:Addr}{o:Obj}(e:X.base.get? b=some o):b∉X.fs:=fun B=>by
 have:=(ok.funs.mem B).1;rw[e] at this;cases this
theorem Inv.bs(I:Inv X pins U H s):∀b o,X.base.get? b=some o->s.heap.get? b=some o/\H b=none:=fun b o e=>
 ⟨I.base.keep b o (I.ok.bs b o e).1 (I.ok.bs b o e).2 (I.ok.nofr e) (I.ok.noex b o e),I.base.free b o (I.ok.bs b o e).1 (I.ok.bs b o e).2 (I.ok.noex b o e)⟩
theorem Inv.bk(I:Inv X pins U H s):∀b o,X.base.get? b=some o->s.heap.get? b=some o:=fun b o e=>(I.bs b o e).1
theorem Inv.mod(I:Inv X pins U H s):Mod X.K X.mg X.base:=I.ok.mod
theorem Inv.kIn(I:Inv X pins U H s):X.K.In s.heap:=I.ok.mod.kin.keeps I.bk
theorem Inv.lt(I:Inv X pins U H s):X.env.locals<s.heap.objs.size:=let ⟨_,hn,_⟩:=I.loc;hn.lt
theorem Inv.sz(I:Inv X pins U H s):X.s₀.heap.objs.size<=s.heap.objs.size:=Uz I.ok.above (Nat.le_of_lt I.lt)
theorem Inv.nofs(I:Inv X pins U H s){a:Addr}(h:s.heap.objs.size<=a):a∉X.fs:=fun F=>by
 obtain⟨_,o,B,_⟩:=I.ok.funs.mem F;exact absurd (Uh (Uo B) (Uz I.sz h)) (Vj _)
theorem Inv.cne(I:Inv X pins U H s):∀x c,X.env.cells.lookup x=some c->c≠X.env.locals:=fun x c e z=>by
 obtain⟨v,o,L,J⟩:=I.cell x c e;obtain⟨m,⟨o',es,M,B,F,_⟩,_⟩:=I.loc;rw[z,B] at L;cases L;rw[F] at J;cases J
theorem Inv.funs(I:Inv X pins U H s):s.heap.FunFrames X.base X.outer:=by
 have all:∀(l:List Env),(∀b∈IQ l,b∈X.fs)->X.s₀.heap.FunFrames X.base l->s.heap.FunFrames X.base l:=by
  intro l
  induction l with
  |nil=>intro _ _;trivial
  |cons env r ih=>
   intro M hl;obtain⟨Z,⟨L,o,F,O,ho,Y⟩,hr⟩:=hl;have J:L∈X.fs:=M L (by unfold IQ;rw[List.filterMap_cons,F];exact UB);obtain⟨sl,e⟩:=I.base.slot L o ho (I.ok.frf L J) J fun z=>I.ok.exfs L z J;exact⟨Z,⟨L,_,F,O,e,Y⟩,ih (fun b B=>M b (by unfold IQ;rw[List.filterMap_cons,F];exact Uf _ B)) hr⟩
 exact all X.outer (fun _ B=>B) I.ok.funs
theorem Inv.stack(I:Inv X pins U H s):s.heap.FunFrames X.base X.stack:=by
 rcases I.ok.stk with e|⟨e,hf⟩
 ·rw[e];exact I.funs
 ·rw[e];obtain⟨m,B,_⟩:=I.loc;refine .cons (by rw[I.ok.kind];decide) hf B ?_ I.funs;exact Heap.get?_none_of_le (Uz I.ok.bsz I.ok.above)
theorem Inv.stkSub(I:Inv X pins U H s):∀b∈IQ X.stack,b∈X.env.locals::X.fs:=fun b B=>by
 rcases I.ok.stk with e|⟨e,hf⟩
 ·rw[e] at B;exact Uf _ B
 ·rw[e] at B;unfold IQ at B;rw[List.filterMap_cons,hf] at B;exact B
theorem Inv.stkFree(I:Inv X pins U H s):∀b∈IQ X.stack,H b=none:=fun b B=>by
 rcases Ud.mp (I.stkSub b B) with e|B
 ·rw[e];exact I.free
 ·obtain⟨_,o,F,_⟩:=I.ok.funs.mem B;exact I.base.free b o F (I.ok.frf b B) fun z=>I.ok.exfs b z B
theorem Inv.step{g':Array GenState}{t':Nat}{d':Drawn}{ch:List Addr}(I:Inv X pins U H s)
  (L:∀b∈ch,(b∈X.ex\/X.s₀.heap.objs.size<=b)/\b≠X.env.locals/\(∀x c,X.env.cells.lookup x=some c->c≠b)/\∀p∈X.pn++pins,p.1≠b)
  (F:∀b o,b≠X.env.locals->b∉X.fs->b∉ch->s.heap.get? b=some o->H b=none->h'.get? b=some o)
  (Z:∀b o,b≠X.env.locals->b∈X.fs->b∉ch->s.heap.get? b=some o->H b=none->∃sl,h'.get? b=some { o with slots:=sl }) (free:∀b o,b∉ch->s.heap.get? b=some o->H b=none->H' b=none)
  (a0:∀b o,b∉ch->s.heap.get? b=some o->∃o',h'.get? b=some o')
  (tups:∀b xs,H b=some (.tup xs)->H' b=some (.tup xs)) (a3:∀b o u,H b=some (.frz o u)->H' b=some (.frz o u)) (a1:∀b ps,H b=some (.tbl ps)->∃more,H' b=some (.tbl (ps++more)))
  (ns:∀m,s.heap.Ns X.env.locals m->h'.Ns X.env.locals m) (a5:BA X.prog X.w H' h') (hg:AllBare g') :
  Inv X pins U H' { s with heap:=h',gens:=g',drawn:=d',toks:=t' }:=by
 have a2:∀b o,X.s₀.heap.get? b=some o->b≠X.env.locals:=fun b o e=>Ut (Uh (Uo e) I.ok.above)
 have Y:∀b o,X.s₀.heap.get? b=some o->b∉X.ex->b∉ch:=fun b o e B hb=>by
  rcases(L b hb).1 with z|z
  ·exact B z
  ·exact absurd (Uh (Uo e) z) (Vj _)
 have J:∀x c,X.env.cells.lookup x=some c->∀v,s.heap.IsCell c v->h'.IsCell c v:=fun x c e v ⟨o,ho,hd⟩=>by
  have M:c∉ch:=fun z=>(L c z).2.2.1 x c e rfl;by_cases hc:c∈X.fs
  ·obtain⟨sl,q⟩:=Z c o (I.cne x c e) hc M ho (I.freeC x c e);exact⟨_,q,hd⟩
  ·exact⟨o,F c o (I.cne x c e) hc M ho (I.freeC x c e),hd⟩
 refine⟨I.ok,I.os,hg,⟨fun b o e n hb B=>?_,fun b o e n hb B=>?_,fun b o e n B=>?_,fun b o e B=>?_,fun b xs e=>tups b xs (I.base.tups b xs e),fun b o xs e=>a3 b o xs (I.base.frzs b o xs e),fun b ps e=>?_⟩,?_,fun x c e=>?_,?_,fun x c e=>?_,fun p hp=>?_,a5,I.len⟩
 ·exact F b o (a2 b o e) hb (Y b o e B) (I.base.keep b o e n hb B) (I.base.free b o e n B)
 ·obtain⟨sl,O⟩:=I.base.slot b o e n hb B;obtain⟨a4,e2⟩:=Z b _ (a2 b o e) hb (Y b o e B) O (I.base.free b o e n B);exact⟨a4,e2⟩
 ·obtain⟨o',O⟩:=I.base.there b o e B;exact free b o' (Y b o e B) O (I.base.free b o e n B)
 ·obtain⟨o',O⟩:=I.base.there b o e B;exact a0 b o' (Y b o e B) O
 ·obtain⟨m1,O⟩:=I.base.tbls b ps e;obtain⟨m2,e2⟩:=a1 b _ O;exact⟨m1++m2,by rw[e2,Array.append_assoc]⟩
 ·obtain⟨m,hn,hl⟩:=I.loc;refine⟨m,ns m hn,fun i x v O e2 e3=>?_⟩;obtain⟨u,r,l⟩:=hl i x v O e2 e3;refine⟨u,r,?_⟩;rcases l with l|⟨k,c,e,z⟩
  ·exact .inl l
  ·exact .inr ⟨k,c,e,J x c e _ z⟩
 ·obtain⟨v,z⟩:=I.cell x c e;exact⟨v,J x c e v z⟩
 ·obtain⟨m,⟨o,_,_,ho,_⟩,_⟩:=I.loc;exact free _ o (fun z=>(L _ z).2.1 rfl) ho I.free
 ·obtain⟨v,o,ho,hd⟩:=I.cell x c e;exact free c o (fun z=>(L c z).2.2.1 x c e rfl) ho (I.freeC x c e)
 ·obtain⟨e,n,ne,nf,d⟩:=I.pin p hp;have M:p.1∉ch:=fun z=>(L p.1 z).2.2.2 p hp rfl;exact⟨F p.1 p.2 ne nf M e n,free p.1 p.2 M e n,ne,nf,d⟩
theorem Inv.un{t':Nat}(I:Inv X pins U H s)(u:Un X.fs [] H H' s.heap h')(J:BA X.prog X.w H' h'):Inv X pins U H' { s with heap:=h',toks:=t' }:=by
 obtain⟨m,⟨o,es,ep,O,r⟩,_⟩:=id I.loc;obtain⟨sl,Y⟩:=u.any O I.free (by simp)
 exact I.step (g':=s.gens) (d':=s.drawn) (ch:=[]) (fun _ z=>nomatch z) (fun b o _ M _ e n=>u.keep b o e n M (by simp)) (fun b o _ M _ e n=>u.slot b o e n M (by simp)) (fun b o _ e n=>u.free b o e n (by simp)) (fun b o _ e=>u.there b o e (by simp)) u.tups u.frzs u.tbls (fun m' hm=>by
  obtain⟨o',L,F,B,Z⟩:=hm;rw[O] at B;cases B
  exact⟨_,L,F,Y,Z⟩) J I.bare
theorem Inv.call{g':Array GenState}{t':Nat}{d':Drawn}{ch:List Addr}(I:Inv X pins U H s)(u:Un (IQ X.stack) ch H H' s.heap h')(O:BA X.prog X.w H' h')(hg:AllBare g')
  (F:∀b∈ch,(b∈X.ex\/X.s₀.heap.objs.size<=b)/\b≠X.env.locals/\(∀x c,X.env.cells.lookup x=some c->c≠b)/\∀p∈X.pn++pins,p.1≠b) :
  Inv X pins U H' { s with heap:=h',gens:=g',drawn:=d',toks:=t' }:=by
 obtain⟨m,⟨o,es,ep,Z,r⟩,_⟩:=id I.loc;obtain⟨sl,L⟩:=u.any Z I.free fun z=>(F _ z).2.1 rfl
 exact I.step (ch:=ch) F (fun b o L hb B e n=>u.keep b o e n (fun z=>(Ud.mp (I.stkSub b z)).elim L hb) B) (fun b o _ _ B e n=>u.any e n B) (fun b o B e n=>u.free b o e n B) (fun b o B e=>u.there b o e B) u.tups u.frzs u.tbls (fun m' hm=>by
  obtain⟨o',Y,M,J,r'⟩:=hm;rw[Z] at J;cases J
  exact⟨_,Y,M,L,r'⟩) O hg
theorem Inv.turned{t':Nat}{B:Addr}(I:Inv X pins U H s)(k:∀b o,b≠B->s.heap.get? b=some o->h'.get? b=some o)(O:H B=none)(L:B≠X.env.locals)
  (h1:B∈X.ex\/X.s₀.heap.objs.size<=B) (h2:∀x c,X.env.cells.lookup x=some c->c≠B) (h3:∀p∈X.pn++pins,p.1≠B):Inv X pins U H { s with heap:=h',toks:=t' }:=by
 have J:∀b u,H b=some u->b≠B:=fun b u e z=>by rw[z,O] at e;cases e
 refine I.step (g':=s.gens) (d':=s.drawn) (ch:=[B]) (fun b M=>?_) (fun b o _ _ F e _=>k b o (fun z=>F (by simp[z])) e) (fun b o _ _ F e _=>⟨o.slots,k b o (fun z=>F (by simp[z])) e⟩) (fun _ _ _ _ n=>n)
  (fun b o F e=>⟨o,k b o (fun z=>F (by simp[z])) e⟩) (fun _ _ e=>e) (fun _ _ _ e=>e) (fun b ps e=>⟨#[],by rw[e];simp⟩) (fun m hm=>?_) (fun b u e=>?_) I.bare
 ·have e:b=B:=by simpa using M
  subst e;exact⟨h1,L,h2,h3⟩
 ·obtain⟨o,es,Y,Z,r⟩:=hm;exact⟨o,es,Y,k _ o (Ne.symm L) Z,r⟩
 ·refine(I.hok b u e).stay (fun c v F q=>k c v ?_ q) (fun _ q=>q) fun _ _ q=>q;rcases F with z|z
  ·rw[z];exact J b u e
  ·exact J c _ z
theorem Inv.tok(I:Inv X pins U H s)(t:Nat):Inv X pins U H { s with toks:=t }:=I.un (h':=s.heap) (t':=t) Un.refl I.hok
theorem Inv.kept{t':Nat}(I:Inv X pins U H s)(k:∀b u,s.heap.get? b=some u->h'.get? b=some u):Inv X pins U H { s with heap:=h',toks:=t' }:=I.un (Un.kept k) (I.hok.kept k)
theorem Inv.laid{a:Addr}{o:HO}{t':Nat}(I:Inv X pins U H s)(k:∀b u,s.heap.get? b=some u->h'.get? b=some u)(B:s.heap.objs.size<=a)(new:Gj X.prog X.w (upd H a o) h' a o) :
 Inv X pins U (upd H a o) { s with heap:=h',toks:=t' }:=I.un (Un.laid k B (I.hok.fresh B)) (I.hok.laid k B new)
theorem Inv.write{x e:Addr}{o:HO}{t':Nat}(I:Inv X pins U H s)(J:WZ (H x))(F:e=x\/H e=some (.own x))(k:∀b u,b≠e->s.heap.get? b=some u->h'.get? b=some u)(B:∃u,h'.get? e=some u)
 (new:Gj X.prog X.w (upd H x o) h' x o):Inv X pins U (upd H x o) { s with heap:=h',toks:=t' }:=I.un (Un.write J F k B) (I.hok.write J F k B new)
theorem Inv.pins_of{B:List (Addr×Obj)}(I:Inv X pins U H s)(h:∀p∈B,s.heap.get? p.1=some p.2/\H p.1=none/\p.1≠X.env.locals/\p.1∉X.fs/\∀v,p.2.data≠.cell v):Inv X B U H s:=
 ⟨I.ok,I.os,I.bare,I.base,I.loc,I.cell,I.free,I.freeC,fun p F=>(Uu.mp F).elim (fun z=>I.pin p (UV _ z)) (h p),I.hok,I.len⟩
theorem qy{N:List Str}(J:N.Nodup){i j:Nat}{x:Str}(a:N[i]? = some x)(b:N[j]? = some x):i=j:=by
 obtain⟨h1,B⟩:=Ui.mp a;obtain⟨h2,F⟩:=Ui.mp b;exact(List.getElem_inj J).mp (B.trans F.symm)
theorem zU{M:Model}{A:Around}{E:Value->Shared->Prop}{i:Nat}{x:Str}{v:V}{u:Value}{Q:Unit->Shared->Prop}(I:Inv X pins U H s)(hN:X.N.Nodup)(hi:X.N[i]? = some x)(O:Hl X.env.scope x)(r:El v u)
  (h:∀s',Inv X pins (U.set i (some v)) H s'->(∃a,Heap.SameBut a s.heap s'.heap/\(a=X.env.locals\/X.env.cells.lookup x=some a))->Q () s') (hf:X.fn x=true\/X.env.scope.names.lookup x=some .local:=by first|exact .inl rfl|exact .inr rfl|assumption):wpAny M A (storeName X.env x u) Q E s:=by
 obtain⟨m,hn,hl⟩:=id I.loc;have a4:(X.env.scope.kind == .class||(X.env.scope.kind == .module&&X.env.locals != X.env.globals))=false:=by rw[I.ok.kind];rfl
 have hiσ:i<U.length:=by rw[I.len];exact(Ui.mp hi).1
 have cne:=I.cne
 have J:∀ {a:Addr} {h':Heap},(∃o,s.heap.get? a=some o/\H a=none)->Heap.SameBut a s.heap h'->BA X.prog X.w H h':=fun {a h'} ha B b ob e=>by
  obtain⟨_,_,Y⟩:=ha;refine(I.hok b ob e).stay (fun c w' L q=>(B.2 c ?_).trans q) (fun _ q=>q) fun _ _ q=>q;rintro rfl;rcases L with rfl|L
  ·rw[Y] at e;cases e
  ·rw[Y] at L;cases L
 rcases O with hk|hk
 ·refine wpAny_storeName_local hk hn (fun h' a7 B=>?_) a4;obtain⟨oL,_,_,a6,_⟩:=id hn;refine h _ ⟨I.ok,I.os,I.bare,⟨fun b o e n hb O=>?_,fun b o e n hb O=>?_,I.base.free,fun b o e O=>?_,I.base.tups,I.base.frzs,I.base.tbls⟩,⟨_,a7,fun j y v' F Z e3=>?_⟩,fun y c e=>?_,I.free,I.freeC,fun p hp=>?_,J ⟨oL,a6,I.free⟩ B,by simpa using I.len⟩ ⟨_,B,.inl rfl⟩
  ·exact(B.2 b (Ut (Uh (Uo e) I.ok.above))).trans (I.base.keep b o e n hb O)
  ·obtain⟨sl,F⟩:=I.base.slot b o e n hb O;exact⟨sl,(B.2 b (Ut (Uh (Uo e) I.ok.above))).trans F⟩
  ·obtain⟨o',F⟩:=I.base.there b o e O;exact⟨o',(B.2 b (Ut (Uh (Uo e) I.ok.above))).trans F⟩
  ·by_cases hj:j=i
   ·subst hj;rw[hi] at F;cases F;rw[List.getElem?_set_self hiσ] at Z;cases Z;exact⟨u,r,.inl ⟨hk,by simp⟩⟩
   ·rw[List.getElem?_set_ne (Ne.symm hj)] at Z;obtain⟨u',r',q⟩:=hl j y v' F Z e3;refine⟨u',r',?_⟩;rcases q with ⟨k,e⟩|⟨k,c,e,z⟩
    ·refine .inl ⟨k,?_⟩;have:y≠x:=fun e=>hj (qy hN F (e ▸ hi));simp[this,e]
    ·exact .inr ⟨k,c,e,z.sameBut B (cne y c e)⟩
  ·obtain⟨w',z⟩:=I.cell y c e;exact⟨w',z.sameBut B (cne y c e)⟩
  ·obtain⟨e,n,ne,nf,d⟩:=I.pin p hp;exact⟨(B.2 p.1 ne).trans e,n,ne,nf,d⟩
 ·have a0:X.fn x=true:=by
   rcases hf with z|z
   ·exact z
   ·rw[z] at hk;cases hk
  obtain⟨c,L⟩:=I.ok.has x (.inl hk);obtain⟨w',z⟩:=I.cell x c L;refine wpAny_storeName_cell I.ok.kind hk L z (fun h' a1 B=>?_);obtain⟨oc,a2,a3⟩:=id z;refine h { s with heap:=h' } ⟨I.ok,I.os,I.bare,⟨fun b o e n hb O=>?_,fun b o e n hb O=>?_,I.base.free,fun b o e O=>?_,I.base.tups,I.base.frzs,I.base.tbls⟩,⟨m,hn.sameBut B (Ne.symm (cne x c L)),fun j y v' F Z e3=>?_⟩,fun y c' e=>?_,I.free,I.freeC,fun p hp=>?_,J ⟨oc,a2,I.freeC x c L⟩ B,by simpa using I.len⟩ ⟨c,B,.inr L⟩
  ·exact(B.2 b (Ut (Uh (Uo e) (I.ok.cab x c a0 L)))).trans (I.base.keep b o e n hb O)
  ·obtain⟨sl,F⟩:=I.base.slot b o e n hb O;exact⟨sl,(B.2 b (Ut (Uh (Uo e) (I.ok.cab x c a0 L)))).trans F⟩
  ·obtain⟨o',F⟩:=I.base.there b o e O;exact⟨o',(B.2 b (Ut (Uh (Uo e) (I.ok.cab x c a0 L)))).trans F⟩
  ·by_cases hj:j=i
   ·subst hj;rw[hi] at F;cases F;rw[List.getElem?_set_self hiσ] at Z;cases Z;exact⟨u,r,.inr ⟨.inl hk,c,L,a1⟩⟩
   ·rw[List.getElem?_set_ne (Ne.symm hj)] at Z;obtain⟨u',r',q⟩:=hl j y v' F Z e3;refine⟨u',r',?_⟩;rcases q with q|⟨k,c',e,z'⟩
    ·exact .inl q
    ·refine .inr ⟨k,c',e,z'.sameBut B ?_⟩;rintro rfl;exact hj (qy hN F (I.ok.inj _ _ _ e L ▸ hi))
  ·by_cases a5:c'=c
   ·subst a5;exact⟨_,a1⟩
   ·obtain⟨w2,z2⟩:=I.cell y c' e;exact⟨w2,z2.sameBut B a5⟩
  ·obtain⟨e,n,ne,nf,d⟩:=I.pin p hp;refine⟨(B.2 p.1 ?_).trans e,n,ne,nf,d⟩;intro q;rw[q,a2] at e;have q':oc=p.2:=Option.some.inj e;exact d w' (by rw[<- q'];exact a3)
theorem Sj{M:Model}{A:Around}{E:Value->Shared->Prop}{i:Nat}{x:Str}{v:V}{u:Value}{Q:Unit->Shared->Prop}(I:Inv X pins U H s)(B:X.N.Nodup)(hi:X.N[i]? = some x)(F:Hl X.env.scope x)(r:El v u)
  (h:∀s',Inv X pins (U.set i (some v)) H s'->Q () s') (J:X.fn x=true\/X.env.scope.names.lookup x=some .local:=by first|exact .inl rfl|exact .inr rfl|assumption):wpAny M A (storeName X.env x u) Q E s:=
 zU I B hi F r (fun s' I' _=>h s' I') J
theorem Inv.call'{s':Shared}{ch:List Addr}(I:Inv X pins U H s)(J:s'.os=s.os)(u:Un (IQ X.stack) ch H H' s.heap s'.heap)(F:BA X.prog X.w H' s'.heap)(L:AllBare s'.gens)
  (B:∀b∈ch,(b∈X.ex\/X.s₀.heap.objs.size<=b)/\b≠X.env.locals/\(∀x c,X.env.cells.lookup x=some c->c≠b)/\∀p∈X.pn++pins,p.1≠b):Inv X pins U H' s':=by
 obtain⟨h',g',d',t',o'⟩:=s';have e:o'=s.os:=J;subst e;exact I.call (g':=g') (t':=t') (d':=d') u F L B
end
abbrev XK:=Value->Option Addr->Hp->Prop
abbrev St:=List (Option V)
abbrev VK:=V->Hp->Prop
abbrev TE:=St->Hp->VK->Prop
abbrev TT:=St->Hp->(Bool->Hp->Prop)->Prop
abbrev TA:=St->Hp->(List V->Hp->Prop)->Prop
structure DQ where
 nx:St->Hp->Prop
 rt:VK
 bk:St->Hp->Prop:=fun _ _=>False
 ct:St->Hp->Prop:=fun _ _=>False
abbrev TS:=DQ->St->Hp->Prop
def EP(X:Cx)(pins:List (Addr×Obj))(U:St)(Q:VK)(u:Value)(s':Shared):Prop:=∃v H',Inv X pins U H' s'/\El v u/\Q v H'
def TP(X:Cx)(pins:List (Addr×Obj))(U:St)(Q:Bool->Hp->Prop)(b:Bool)(s':Shared):Prop:=∃H',Inv X pins U H' s'/\Q b H'
def AP(X:Cx)(pins:List (Addr×Obj))(U:St)(Q:List V->Hp->Prop)(us:List Value)(s':Shared):Prop:=∃vs H',Inv X pins U H' s'/\Em vs us/\Q vs H'
def SP(X:Cx)(pins:List (Addr×Obj))(D:DQ)(f:Flow)(s':Shared):Prop:=
 match f with
 | .next=>∃U' H',Inv X pins U' H' s'/\D.nx U' H'
 | .brk=>∃U' H',Inv X pins U' H' s'/\D.bk U' H'
 | .cont=>∃U' H',Inv X pins U' H' s'/\D.ct U' H'
 | .ret u=>∃v U' H',Inv X pins U' H' s'/\El v u/\D.rt v H'
def PE(X:Cx)(e:Expr)(t:TE):Prop:=
 ∀(pins:List (Addr×Obj)) (s:Shared) (U:St) (H:Hp) (Q:VK),Inv X pins U H s->t U H Q->wpAny (model X.prog X.w) X.A (eval e X.env) (EP X pins U Q) X.xe s
def PT(X:Cx)(e:Expr)(t:TT):Prop:=
 ∀(pins:List (Addr×Obj)) (s:Shared) (U:St) (H:Hp) (Q:Bool->Hp->Prop),Inv X pins U H s->t U H Q->wpAny (model X.prog X.w) X.A (isTrue e X.env (eval e X.env)) (TP X pins U Q) X.xe s
def PW(X:Cx)(e:Expr)(t:TT):Prop:=
 ∀(whole:Sem Value) (pins:List (Addr×Obj)) (s:Shared) (U:St) (H:Hp) (Q:Bool->Hp->Prop),Inv X pins U H s->t U H Q->wpAny (model X.prog X.w) X.A (isTrue e X.env whole) (TP X pins U Q) X.xe s
theorem PW.pt{X:Cx}{e:Expr}{t:TT}(h:PW X e t):PT X e t:=h _
def PA(X:Cx)(es:List Expr)(t:TA):Prop:=
 ∀(pos:Pos) (pins:List (Addr×Obj)) (s:Shared) (U:St) (H:Hp) (Q:List V->Hp->Prop),Inv X pins U H s->t U H Q->wpAny (model X.prog X.w) X.A (spliced (backTo pos (starEach es X.env))) (AP X pins U Q) X.xe s
def PS(X:Cx)(st:Stmt)(t:TS):Prop:=
 ∀(pins:List (Addr×Obj)) (s:Shared) (U:St) (H:Hp) (D:DQ),Inv X pins U H s->t D U H->wpAny (model X.prog X.w) X.A (exec st X.env) (SP X pins D) X.xe s
def HB(X:Cx)(st:List Stmt)(t:TS):Prop:=
 ∀(pins:List (Addr×Obj)) (s:Shared) (U:St) (H:Hp) (D:DQ),Inv X pins U H s->t D U H->wpAny (model X.prog X.w) X.A (execs st X.env) (SP X pins D) X.xe s
theorem thn{α:Type}{t:Sem α}{Q Q':α->Shared->Prop}{M:Model}{A:Around}{E:Value->Shared->Prop}{s:Shared}(h:wpAny M A t Q E s)(B:∀a s,Q a s->Q' a s):wpAny M A t Q' E s:=UJ h B fun _ _ x=>x
section
variable{X:Cx}
theorem bin{a b:Expr}{ta tb:TE}(L:PE X a ta)(hb:PE X b tb){pins:List (Addr×Obj)}{s:Shared}{U:St}{H:Hp}{R:V->V->Hp->Prop}(I:Inv X pins U H s)(h:ta U H fun x H1=>tb U H1 fun y H2=>R x y H2)
  {α:Type} {Q:α->Shared->Prop} {f:Value->Value->Sem α}
  (Z:∀v u B x y H2,Inv X pins U H2 B->El x v->El y u->R x y H2->wpAny (model X.prog X.w) X.A (f v u) Q X.xe B) :
  wpAny (model X.prog X.w) X.A (eval a X.env) (fun v s₁=>wpAny (model X.prog X.w) X.A (eval b X.env) (fun u s₂=>wpAny (model X.prog X.w) X.A (f v u) Q X.xe s₂) X.xe s₁) X.xe s:=by
 refine thn (L pins s U H _ I h) fun v F ⟨x,H1,I1,J,O⟩=>?_;refine thn (hb pins F U H1 _ I1 O) fun u B ⟨y,H2,I2,Y,M⟩=>?_;exact Z v u B x y H2 I2 J Y M
def bY(i:Nat):TE:=fun U H Q=>∃v,U[i]? = some (some v)/\Q v H
def tC(v:V):TE:=fun _ H Q=>Q v H
theorem mw{i:Nat}{x:Str}{pos:Pos}(L:X.N[i]? = some x)(O:fi X.env.scope x)(F:(x==("__debug__":Str))=false:=by decide)(J:(x==("__classdict__":Str))=false:=by decide):PE X (.Name x pos) (bY i):=by
 intro pins s U H Q I h;obtain⟨v,e,h⟩:=h;obtain⟨m,M,Y⟩:=I.loc;obtain⟨u,r,l⟩:=Y i x v L e O;have B:EP X pins U Q u s:=⟨v,H,I,r,h⟩;rcases l with ⟨hk,hm⟩|⟨hk,c,hc,hcell⟩
 ·exact wpAny_Name (wpAny_loadName_local I.ok.kind hk M hm B) F
 ·rcases hk with hk|hk
  ·exact wpAny_Name (wpAny_loadName_cell I.ok.kind hk hc hcell B) F
  ·exact wpAny_Name (wpAny_loadName_free I.ok.kind hk hc hcell B J) F
theorem my{i j pos}:PE X (.Constant (.int i) j pos) (tC (.int i)):=fun _ _ _ H _ I h=>wpAny_Constant_int ⟨.int i,H,I.tok _,⟨_,rfl⟩,h⟩
theorem sG{b j pos}:PE X (.Constant (.bool b) j pos) (tC (.bl b)):=fun _ _ _ H _ I h=>Constant_bool ⟨.bl b,H,I,rfl,h⟩
theorem mz{j pos}:PE X (.Constant .none j pos) (tC .non):=fun _ _ _ H _ I h=>Constant_none ⟨.non,H,I,rfl,h⟩
theorem nA{x j pos}:PE X (.Constant (.str x) j pos) (tC (.str x)):=fun _ _ _ H _ I h=>Calls.Constant_str ⟨.str x,H,I.tok _,⟨_,rfl⟩,h⟩
def Gl(X:Cx)(x:Str):Prop:=X.env.kindOf x=some .globalImplicit
theorem Fx{E:Value->Shared->Prop}{pins:List (Addr×Obj)}{s:Shared}{U:St}{H:Hp}{x:Str}{u:Value}{pos:Pos}{Q:Value->Shared->Prop}(I:Inv X pins U H s)(F:Gl X x)(hm:X.mg x=some u)(h:Q u s)
  (B:(x==("__debug__":Str))=false:=by decide):wpAny (model X.prog X.w) X.A (eval (.Name x pos) X.env) Q E s:=
 Calls.Name_function_global I.ok.kind F (Calls.loadGlobal_global (by rw[I.ok.glob];exact I.mod.glob.keeps I.bk) hm h) B
theorem Ct{E:Value->Shared->Prop}{pins:List (Addr×Obj)}{s:Shared}{U:St}{H:Hp}{x:Str}{u:Value}{pos:Pos}{Q:Value->Shared->Prop}(I:Inv X pins U H s)(B:Gl X x)(hm:X.mg x=none)(L:bootBuiltins x=some u)(h:Q u s)
  (F:x≠"__name__":=by decide) (J:(x==("__debug__":Str))=false:=by decide):wpAny (model X.prog X.w) X.A (eval (.Name x pos) X.env) Q E s:=by
 obtain⟨M,h1,h2⟩:=I.mod.blt;exact Calls.Name_function_global I.ok.kind B (Calls.loadGlobal_builtin (by rw[I.ok.glob];exact I.mod.glob.keeps I.bk) hm (by rw[I.ok.blt];exact h1.keeps I.bk) ((h2 x F).trans L) h) J
theorem ib{x:Str}{v:V}{u:Value}{pos:Pos}(F:Gl X x)(hm:X.mg x=some u)(r:El v u)(B:(x==("__debug__":Str))=false:=by decide):PE X (.Name x pos) (tC v):=
 fun _ _ _ H _ I h=>Fx I F hm ⟨v,H,I,r,h⟩ B
theorem ic{x:Str}{v:V}{u:Value}{pos:Pos}(L:Gl X x)(hm:X.mg x=none)(J:bootBuiltins x=some u)(r:El v u)(B:x≠"__name__":=by decide)(F:(x==("__debug__":Str))=false:=by decide):PE X (.Name x pos) (tC v):=
 fun _ _ _ H _ I h=>Ct I L hm J ⟨v,H,I,r,h⟩ B F
variable{a b:Expr}{ta tb:TE}{pos:Pos}
def tB(t:TE):TT:=fun U H Q=>t U H fun x H1=>∃c,x=.bl c/\Q c H1
theorem nB{e:Expr}{t:TE}(h:PE X e t)(F:∀B,isTrue e X.env B=(do let v <- B;standAt e.pos;holding [v] (truthy v)):=by intro _;rfl):PT X e (tB t):=by
 intro pins s U H Q I M;refine isTrue_plain (thn (h pins s U H _ I M) fun v O ⟨x,H1,I1,J,L⟩=>?_) (F _);obtain⟨d,rfl,q⟩:=L;cases J;exact wpAny_truthy_bool ⟨H1,I1,q⟩
variable{tA tB':TT}{BF:List Expr}
def bZ(t u:TT):TT:=fun U H Q=>t U H fun c H1=>if c=true then u U H1 Q else Q false H1
def nE(t u:TT):TT:=fun U H Q=>t U H fun c H1=>if c=true then Q true H1 else u U H1 Q
def ba(t:TT):TT:=fun U H Q=>t U H fun c H1=>Q (!c) H1
theorem ie(B:PT X a tA):PW X (.BoolOp .And [a] pos) tA:=by
 intro J pins s U H Q I h;refine isTrue_and (thn (B pins s U H Q I h) fun c F e=>?_)
 cases c with
 |true=>exact isTrue_and_nil e
 |false=>exact e
theorem nF(B:PT X a tA):PW X (.BoolOp .Or [a] pos) tA:=by
 intro J pins s U H Q I h;refine isTrue_or (thn (B pins s U H Q I h) fun c F e=>?_)
 cases c with
 |false=>exact isTrue_or_nil e
 |true=>exact e
theorem nG(J:PT X a tA)(L:PW X (.BoolOp .And (b::BF) pos) tB'):PW X (.BoolOp .And (a::b::BF) pos) (bZ tA tB'):=by
 intro M pins s U H Q I h;refine isTrue_and (thn (J pins s U H _ I h) fun c F ⟨H1,I1,B⟩=>?_)
 cases c with
 |true=>exact L M pins F U H1 Q I1 B
 |false=>exact⟨H1,I1,B⟩
theorem sH(J:PT X a tA)(L:PW X (.BoolOp .Or (b::BF) pos) tB'):PW X (.BoolOp .Or (a::b::BF) pos) (nE tA tB'):=by
 intro M pins s U H Q I h;refine isTrue_or (thn (J pins s U H _ I h) fun c F ⟨H1,I1,B⟩=>?_)
 cases c with
 |true=>exact⟨H1,I1,B⟩
 |false=>exact L M pins F U H1 Q I1 B
theorem nH(B:PT X a tA):PT X (.UnaryOp .Not a pos) (ba tA):=by
 intro pins s U H Q I h;exact isTrue_not (B pins s U H (fun c H1=>Q (!c) H1) I h)
def vL(ta tb:TE):TE:=fun U H Q=>ta U H fun x H1=>∃c,x=.bl c/\if c=true then tb U H1 Q else Q (.bl false) H1
def vM(ta:TE):TE:=fun U H Q=>ta U H fun x H1=>∃c,x=.bl c/\Q (.bl (!c)) H1
theorem nI{op}{t:TE}(h:PE X a t):PE X (.BoolOp op [a] pos) t:=fun pins s U H Q I B=>BoolOp_one (h pins s U H Q I B)
theorem nJ(L:PE X a ta)(M:PE X (.BoolOp .And (b::BF) pos) tb):PE X (.BoolOp .And (a::b::BF) pos) (vL ta tb):=by
 intro pins s U H Q I h;refine BoolOp_and (thn (L pins s U H _ I h) fun v F ⟨x,H1,I1,J,B⟩=>?_);obtain⟨c,rfl,B⟩:=B;cases J;refine wpAny_truthy_bool ?_
 cases c with
 |true=>exact M pins F U H1 Q I1 B
 |false=>exact⟨.bl false,H1,I1,rfl,B⟩
theorem nK(J:PE X a ta):PE X (.UnaryOp .Not a pos) (vM ta):=by
 intro pins s U H Q I h;refine UnaryOp_ (thn (J pins s U H _ I h) fun v L ⟨x,H1,I1,F,B⟩=>?_);obtain⟨c,rfl,B⟩:=B;cases F;exact not_of (wpAny_truthy_bool ⟨.bl (!c),H1,I1,rfl,B⟩)
def nL(t:TT)(ta tb:TE):TE:=fun U H Q=>t U H fun c H1=>if c=true then ta U H1 Q else tb U H1 Q
theorem bb{c:Expr}(J:PT X c tA)(L:PE X a ta)(M:PE X b tb):PE X (.IfExp c a b pos) (nL tA ta tb):=by
 intro pins s U H Q I h;refine wpAny_IfExp (thn (J pins s U H _ I h) fun d B ⟨H1,I1,F⟩=>?_)
 cases d with
 |true=>exact L pins B U H1 Q I1 F
 |false=>exact M pins B U H1 Q I1 F
end
def Eh(K:W.Frag)(H:Hp)(a:Addr)(xs:List V):Prop:=
 Rd H a (.lst xs)\/
  ∃(o:Obj) (its:Array Value) (n:Nat),K.lookup a=some o/\o.cls=.type "list"/\o.dict=none/\o.data=.seq its n/\its.size<=sizeLine/\Em xs its.toList
def GF(K:W.Frag)(H:Hp)(a:Addr)(xs:List V):Prop:=
 Rd H a (.tup xs)\/
  ∃(o:Obj) (its:Array Value) (n:Nat),K.lookup a=some o/\o.cls=.type "tuple"/\o.data=.seq its n/\its.size<=sizeLine/\Em xs its.toList
noncomputable def tF:Value->Option V
 | .none=>some .non
 | .bool b=>some (.bl b)
 | .int i _=>some (.int i)
 | .str x _=>some (.str x)
 | .bytes b _=>some (.byt b)
 | .float b _=>some (.flt b)
 | .ref a=>some (.ref a)
 | .type n=>some (.ty n)
 |_=>none
theorem El.abs{x:V}{u:Value}(r:El x u):tF u=some x:=by
 cases x with
 |non=>cases r;rfl
 |bl _=>cases r;rfl
 |int _=>obtain⟨t,rfl⟩:=r;rfl
 |str _=>obtain⟨t,rfl⟩:=r;rfl
 |byt _=>obtain⟨t,rfl⟩:=r;rfl
 |flt _=>obtain⟨t,rfl⟩:=r;rfl
 |ref _=>cases r;rfl
 |ty _=>cases r;rfl
theorem El.inj{x y:V}{u:Value}(r:El x u)(q:El y u):x=y:=Option.some.inj (r.abs.symm.trans q.abs)
theorem Em.inj:∀ {xs ys:List V} {us:List Value},Em xs us->Em ys us->xs=ys
 |_,_,_,.nil,.nil=>rfl
 |_,_,_,.cons r t,.cons r' t'=>by rw[r.inj r',Em.inj t t']
section
variable{X:Cx}{pins:List (Addr×Obj)}{U:St}{H:Hp}{s:Shared}{a:Addr}{xs ys:List V}
theorem Eh.of{K:W.Frag}(h:H a=some (.lst xs)):Eh K H a xs:=.inl (.inl h)
theorem GF.of{K:W.Frag}(h:H a=some (.tup xs)):GF K H a xs:=.inl (.inl h)
theorem Inv.list(I:Inv X pins U H s)(h:Eh X.K H a xs):∃B:List Value,Em xs B/\PlainL s.heap a B.toArray/\xs.length<=sizeLine:=by
 rcases h with h|⟨o,B,n,hk,hc,hd,hs,hz,r⟩
 ·obtain⟨z,B,n,r,e⟩:=h.ok I.hok;exact⟨B,r,⟨_,n,e,rfl,rfl,rfl⟩,z⟩
 ·refine⟨B.toList,r,⟨o,n,I.kIn a o hk,hc,hd,by simpa using hs⟩,?_⟩;have e:=r.length;simp only[UI] at e;omega
theorem Inv.tuple(I:Inv X pins U H s)(h:GF X.K H a xs):∃B:List Value,Em xs B/\IsTup s.heap a B.toArray/\xs.length<=sizeLine:=by
 rcases h with h|⟨o,B,n,hk,hc,hs,hz,r⟩
 ·obtain⟨z,B,r,p⟩:=h.ok I.hok;exact⟨B,r,p,z.1⟩
 ·refine⟨B.toList,r,⟨o,I.kIn a o hk,hc,n,by simpa using hs⟩,?_⟩;have e:=r.length;simp only[UI] at e;omega
theorem Inv.list_inj(I:Inv X pins U H s)(h:Eh X.K H a xs)(h':Eh X.K H a ys):xs=ys:=by
 obtain⟨B,r,⟨o,n,e,_,_,d⟩,_⟩:=I.list h;obtain⟨its',F,⟨o',n',e',_,_,d'⟩,_⟩:=I.list h';rw[e] at e';cases e';rw[d] at d';injection d' with d1 _;have:B=its':=by simpa using congrArg Array.toList d1
 subst this;exact r.inj F
theorem Inv.tuple_inj(I:Inv X pins U H s)(h:GF X.K H a xs)(h':GF X.K H a ys):xs=ys:=by
 obtain⟨B,r,⟨o,e,_,n,d⟩,_⟩:=I.tuple h;obtain⟨its',F,⟨o',e',_,n',d'⟩,_⟩:=I.tuple h';rw[e] at e';cases e';rw[d] at d';injection d' with d1 _;have:B=its':=by simpa using congrArg Array.toList d1
 subst this;exact r.inj F
end
noncomputable abbrev Cx.wish(X:Cx)(E:Value->Shared->Prop):Cx:={ X with xe:=E }
abbrev Cx.nox(X:Cx):Cx:=X.wish fun _ _=>False
theorem Cx.Ok.wish{X:Cx}(ok:X.Ok)(E:Value->Shared->Prop):(X.wish E).Ok:=
 ⟨ok.mod,ok.kind,ok.glob,ok.blt,ok.above,ok.inj,ok.has,ok.cab,ok.hd,ok.frames,ok.stk,ok.exf,ok.bs,ok.bsz,ok.noex,ok.exfs,ok.funs,ok.frf⟩
theorem Cx.Ok.unwish{X:Cx}{E:Value->Shared->Prop}(ok:(X.wish E).Ok):X.Ok:=
 ⟨ok.mod,ok.kind,ok.glob,ok.blt,ok.above,ok.inj,ok.has,ok.cab,ok.hd,ok.frames,ok.stk,ok.exf,ok.bs,ok.bsz,ok.noex,ok.exfs,ok.funs,ok.frf⟩
section
variable{X:Cx}{pins:List (Addr×Obj)}{U:St}{H:Hp}{s:Shared}{E:Value->Shared->Prop}
theorem Inv.wish(I:Inv X pins U H s)(E:Value->Shared->Prop):Inv (X.wish E) pins U H s:=⟨I.ok.wish E,I.os,I.bare,I.base,I.loc,I.cell,I.free,I.freeC,I.pin,I.hok,I.len⟩
theorem Inv.unwish(I:Inv (X.wish E) pins U H s):Inv X pins U H s:=⟨I.ok.unwish,I.os,I.bare,I.base,I.loc,I.cell,I.free,I.freeC,I.pin,I.hok,I.len⟩
theorem SP.unwish{D:DQ}{f:Flow}{s':Shared}(h:SP (X.wish E) pins D f s'):SP X pins D f s':=by
 cases f with
 |next=>obtain⟨U',H',I,q⟩:=h;exact⟨U',H',I.unwish,q⟩
 |brk=>obtain⟨U',H',I,q⟩:=h;exact⟨U',H',I.unwish,q⟩
 |cont=>obtain⟨U',H',I,q⟩:=h;exact⟨U',H',I.unwish,q⟩
 |ret u=>obtain⟨v,U',H',I,r,q⟩:=h;exact⟨v,U',H',I.unwish,r,q⟩
theorem HB.nox{st:List Stmt}{t:TS}(h:HB X.nox st t):HB X st t:=fun pins s U H D I B=>
 UJ (h pins s U H D (I.wish _) B) (fun _ _ q=>q.unwish) fun _ _ z=>False.elim z
end
section
variable{X:Cx}{st:Stmt}{BF:List Stmt}{t u:TS}{e:Expr}{te:TE}{pos:Pos}
def vN:TS:=fun D U H=>D.nx U H
def bc(t u:TS):TS:=fun D U H=>t { D with nx:=u D } U H
theorem ig:HB X [] vN:=fun _ _ U H _ I h=>wpAny_execs_nil ⟨U,H,I,h⟩
theorem bf(h1:PS X st t)(h2:HB X BF u):HB X (st::BF) (bc t u):=by
 intro pins s U H D I h;refine wpAny_execs_cons (thn (h1 pins s U H { D with nx:=u D } I h) fun f B q=>?_)
 cases f with
 |next=>
  obtain⟨U',H',I',q⟩:=q;exact h2 pins B U' H' D I' q
 |ret v=>exact q
 |brk=>exact q
 |cont=>exact q
theorem ii(h1:PS X st t):HB X [st] t:=by
 intro pins s U H D I h;refine wpAny_execs_cons (thn (h1 pins s U H D I h) fun f B q=>?_)
 cases f with
 |next=>exact wpAny_execs_nil q
 |ret v=>exact q
 |brk=>exact q
 |cont=>exact q
theorem Inv.quiet{pins:List (Addr×Obj)}{U:St}{H:Hp}{s:Shared}(I:Inv X pins U H s):interactive X.env=false:=by simp[interactive,I.ok.kind]
def qj(te:TE):TS:=fun D U H=>te U H fun _ H1=>D.nx U H1
theorem ij(F:PE X e te)(B:swapsWith e none pos.line X.env=pure false:=by rfl):PS X (.Expr e pos) (qj te):=by
 intro pins s U H D I h;exact wpAny_Expr_any (thn (F pins s U H _ I h) fun v L ⟨x,H1,I1,M,J⟩=>⟨U,H1,I1,J⟩) I.quiet B
def bg(te:TE):TS:=fun D U H=>te U H D.rt
theorem nM(F:PE X e te):PS X (.Return (some e) pos) (bg te):=by
 intro pins s U H D I h;exact wpAny_Return_some (thn (F pins s U H _ I h) fun v L ⟨x,H1,I1,B,J⟩=>⟨x,U,H1,I1,B,J⟩)
def Ir(c:TT)(t u:TS):TS:=fun D U H=>c U H fun b H1=>if b=true then t D U H1 else u D U H1
theorem sI{c:Expr}{a b:List Stmt}{tc:TT}(L:PT X c tc)(J:HB X a t)(M:HB X b u):PS X (.If c a b pos) (Ir tc t u):=by
 intro pins s U H D I h;refine wpAny_If (thn (L pins s U H _ I h) fun d B ⟨H1,I1,F⟩=>?_)
 cases d with
 |true=>exact J pins B U H1 D I1 F
 |false=>exact M pins B U H1 D I1 F
def yO:TS:=fun _ _ _=>False
theorem bh:PS X st yO:=fun _ _ _ _ _ _ h=>h.elim
end
abbrev TG:=V->St->Hp->(St->Hp->Prop)->Prop
abbrev FJ:=List V->St->Hp->(St->Hp->Prop)->Prop
def PG(X:Cx)(target:Expr)(t:TG):Prop:=
 ∀(pins:List (Addr×Obj)) (s:Shared) (U:St) (H:Hp) (v:V) (u:Value) (Q:St->Hp->Prop),Inv X pins U H s->El v u->t v U H Q ->
  wpAny (model X.prog X.w) X.A (assign target X.env u) (fun _ s'=>∃U' H',Inv X pins U' H' s'/\Q U' H') X.xe s
def uN(X:Cx)(ts:List Expr)(t:FJ):Prop:=
 ∀(pins:List (Addr×Obj)) (s:Shared) (U:St) (H:Hp) (vs:List V) (us:List Value) (Q:St->Hp->Prop),Inv X pins U H s->Em vs us->t vs U H Q ->
  wpAny (model X.prog X.w) X.A (assignInOrder ((assignEach ts X.env).map (·.2)) us) (fun _ s'=>∃U' H',Inv X pins U' H' s'/\Q U' H') X.xe s
abbrev qz:=V->V->V->Hp->(Hp->Prop)->Prop
def bi(X:Cx)(t:qz):Prop:=
 ∀(pins:List (Addr×Obj)) (s:Shared) (U:St) (H:Hp) (o i v:V) (ov iv u:Value) (Q:Hp->Prop),Inv X pins U H s->El o ov->El i iv->El v u->t o i v H Q ->
  wpAny (model X.prog X.w) X.A (setItem ov iv u) (fun _ s'=>∃H',Inv X pins U H' s'/\Q H') X.xe s
abbrev nN:=V->V->Hp->VK->Prop
def sq(X:Cx)(op:Operator)(t:nN):Prop:=
 ∀(pins:List (Addr×Obj)) (s:Shared) (U:St) (H:Hp) (x y:V) (v u:Value) (Q:VK),Inv X pins U H s->El x v->El y u->t x y H Q ->
  wpAny (model X.prog X.w) X.A (inplaceOp op v u) (EP X pins U Q) X.xe s
section
variable{X:Cx}{pos:Pos}
def AD(i:Nat):TG:=fun v U H Q=>Q (U.set i (some v)) H
theorem ik{i:Nat}{x:Str}(B:X.N.Nodup)(hi:X.N[i]? = some x)(F:Hl X.env.scope x)(J:X.fn x=true\/X.env.scope.names.lookup x=some .local:=by first|exact .inl rfl|exact .inr rfl|assumption):PG X (.Name x pos) (AD i):=by
 intro pins s U H v u Q I r h;exact wpAny_assign_Name (Sj I B hi F r (fun s' I'=>⟨_,H,I',h⟩) J)
def bj:FJ:=fun vs U H Q=>vs=[]/\Q U H
def vO(t:TG)(u:FJ):FJ:=fun vs U H Q=>∃v r,vs=v::r/\t v U H fun U' H'=>u r U' H' Q
theorem il:uN X [] bj:=by
 intro pins s U H vs us Q I r h;obtain⟨e,h⟩:=h;subst e;cases r;exact assignInOrder_nil ⟨U,H,I,h⟩
theorem bn{e:Expr}{es:List Expr}{t:TG}{u:FJ}(h1:PG X e t)(h2:uN X es u)
  (F:(assignEach (e::es) X.env).map (·.2)=assign e X.env::(assignEach es X.env).map (·.2):=by rfl):uN X (e::es) (vO t u):=by
 intro pins s U H vs us Q I r h;obtain⟨v,M,B,h⟩:=h;subst B
 cases r with
 |cons r rr=>
  rw[F];refine assignInOrder_cons (thn (h1 pins s U H _ _ _ I r h) fun _ J ⟨U1,H1,I1,L⟩=>?_);exact h2 pins J U1 H1 _ _ Q I1 rr L
def vP(K:W.Frag)(n:Nat)(t:FJ):TG:=fun v U H Q=>∃a xs,v=.ref a/\GF K H a xs/\xs.length=n/\t xs U H Q
theorem nO{es:List Expr}{k:Nat}{t:FJ}{n:Nat}(hc:X.calm=true)(h:uN X es t)
  (Z:(assignEach es X.env).length=n:=by rfl) (B:(assignEach es X.env).findIdx? (·.1)=none:=by rfl):PG X (.Tuple es k pos) (vP X.K n t):=by
 intro pins s U H v u Q I r F;obtain⟨a,xs,L,hq,hl,F⟩:=F;subst L;cases r;obtain⟨Y,J,O,hz⟩:=I.tuple hq;refine assign_Tuple_tuple (I.ok.hd hc) O (by simp[Z,<- hl,J.length]) B fun h' M=>?_;have I1:Inv X pins U H { s with heap:=h' }:=I.kept (t':=s.toks) fun b o e=>M b o (Ut (Uo e)) e;exact h pins _ U H xs _ Q I1 (by simpa using J) F
def bp(to ti:TE)(t:qz):TG:=fun v U H Q=>to U H fun o H1=>ti U H1 fun i H2=>t o i v H2 fun H3=>Q U H3
theorem nP{o i:Expr}{to ti:TE}{t:qz}(O:PE X o to)(hi:PE X i ti)(Y:bi X t)
  (Z:∀v,assign (.Subscript o i pos) X.env v=(do
   let B <- holding [v] (eval o X.env)
   let F <- holding [v,B] (eval i X.env)
   standAt pos
   holding [v,B,F] (setItem B F v)
   release [v,B,F] []):=by intro _;rfl):PG X (.Subscript o i pos) (bp to ti t):=by
 intro pins s U H v u Q I r h;rw[Z];refine Ua (UO (thn (O pins s U H _ I h) fun B J ⟨x,H1,I1,L,q1⟩=>?_));refine Ua (UO (thn (hi pins J U H1 _ I1 q1) fun F s2 ⟨y,H2,I2,r2,M⟩=>?_));refine Ua (wpAny_standAt (Ua (UO (thn (Y pins s2 U H2 x y v B F u _ I2 L r2 r M) fun _ s3 ⟨H3,I3,q3⟩=>?_))));exact wpAny_release ⟨U,H3,I3,q3⟩
def IC(te:TE)(g:TG):TS:=fun D U H=>te U H fun x H1=>g x U H1 D.nx
theorem nQ{tg e:Expr}{te:TE}{g:TG}(J:PE X e te)(M:PG X tg g)(B:swapsWithSole [tg] e pos.line X.env=pure false:=by rfl)(Y:swappedStores [tg] e X.env=pure none:=by rfl)
  (h1:(assignEach [tg] X.env).map (·.2)=[assign tg X.env]:=by rfl):PS X (.Assign [tg] e pos) (IC te g):=by
 intro pins s U H D I h;refine wpAny_Assign_stores (thn (J pins s U H _ I h) fun v F ⟨x,H1,I1,L,O⟩=>?_) B Y;rw[h1];exact thn (M pins F U H1 x v _ I1 L O) fun _ Z q=>q
theorem yP{i:Nat}{x:Str}{e:Expr}{te:TE}{pos':Pos}(B:X.N.Nodup)(hi:X.N[i]? = some x)(F:Hl X.env.scope x)(J:PE X e te)(M:swapsWith e (some (.Name x pos')) pos.line X.env=pure false:=by rfl)(Y:X.fn x=true\/X.env.scope.names.lookup x=some .local:=by first|exact .inl rfl|exact .inr rfl|assumption) :
  PS X (.Assign [.Name x pos'] e pos) (IC te (AD i)):=by
 intro pins s U H D I h;refine wpAny_Assign_Name (thn (J pins s U H _ I h) fun v Z ⟨y,H1,I1,L,O⟩=>?_) M;exact Sj I1 B hi F L (fun s2 I2=>⟨_,H1,I2,O⟩) Y
def bq(i:Nat)(te:TE)(ti:nN):TS:=fun D U H=>∃x,U[i]? = some (some x)/\te U H fun y H1=>ti x y H1 fun z H2=>D.nx (U.set i (some z)) H2
theorem nR{i:Nat}{x:Str}{e:Expr}{te:TE}{J:Operator}{ti:nN}{pos':Pos}(hN:X.N.Nodup)(hi:X.N[i]? = some x)(B:Hl X.env.scope x)(he:PE X e te)(ho:sq X J ti)(hf:X.fn x=true\/X.env.scope.names.lookup x=some .local:=by first|exact .inl rfl|exact .inr rfl|assumption) :
  PS X (.AugAssign (.Name x pos') J e pos) (bq i te ti):=by
 intro pins s U H D I h;obtain⟨v,M,h⟩:=h;obtain⟨m,hn,hl⟩:=I.loc;have F:fi X.env.scope x:=by rcases B with k|k;exact .inl k;exact .inr (.inl k)
 obtain⟨u,r,l⟩:=hl i x v hi M F;refine wpAny_AugAssign_Name ?_
 have L:wpAny (model X.prog X.w) X.A (eval e X.env) (fun w s₂=>wpAny (model X.prog X.w) X.A (inplaceOp J u w) (fun r s₃=>wpAny (model X.prog X.w) X.A (storeName X.env x r) (fun _=>SP X pins D .next) X.xe s₃) X.xe s₂) X.xe s:=by
  refine thn (he pins s U H _ I h) fun w O ⟨y,H1,I1,Y,q1⟩=>?_;refine thn (ho pins O U H1 v y u w _ I1 r Y q1) fun z s2 ⟨zv,H2,I2,r2,Z⟩=>?_;exact Sj I2 hN hi B r2 (fun s3 I3=>⟨_,H2,I3,Z⟩) hf
 rcases l with ⟨hk,hm⟩|⟨hk,c,hc,hcell⟩
 ·exact wpAny_loadName_local I.ok.kind hk hn hm L
 ·rcases hk with hk|hk
  ·exact wpAny_loadName_cell I.ok.kind hk hc hcell L
  ·rcases B with k|k
   ·have:X.env.scope.names.lookup x=some .free:=hk;rw[k] at this;cases this
   ·have:X.env.scope.names.lookup x=some .free:=hk;rw[k] at this;cases this
def jA(c:TT)(tb:TS):TS:=fun D U H=>∃W:Nat->St->Hp->Prop,(∃m,W m U H)/\∀m U H,W m U H ->
 c U H fun b H1=>if b=true then ∃N:St->Hp->Prop,(∀U' H',N U' H'->∃m',m'<m/\W m' U' H')/\tb { D with nx:=N,ct:=N,bk:=D.nx } U H1 else D.nx U H1
theorem br{c:Expr}{B:List Stmt}{tc:TT}{tb:TS}(Z:PassesOwn (model X.prog X.w) X.A X.env X.xe)(hc:PT X c tc)(hb:HB X B tb):PS X (.While c B [] pos) (jA tc tb):=by
 intro pins s U H D I h;obtain⟨W,⟨m0,w0⟩,F⟩:=h;refine wpAny_While (codeAny_whileLoop (fun n s'=>∃U' H',Inv X pins U' H' s'/\W n U' H') ?_ m0 ⟨U,H,I,w0⟩);rintro n s1 ⟨U1,H1,I1,w1⟩;refine wpAny_passesOwn Z (thn (hc pins s1 U1 H1 _ I1 (F n U1 H1 w1)) fun b s2 ⟨H2,I2,J⟩=>?_)
 cases b with
 |true=>
  obtain⟨N,Y,J⟩:=J;rw[if_pos rfl];refine wpAny_passesOwn Z (thn (hb pins s2 U1 H2 _ I2 J) fun f s3 L=>?_)
  cases f with
  |next=>
   obtain⟨U3,H3,I3,M⟩:=L;obtain⟨m',hm,O⟩:=Y U3 H3 M;exact⟨m',hm,U3,H3,I3,O⟩
  |cont=>
   obtain⟨U3,H3,I3,M⟩:=L;obtain⟨m',hm,O⟩:=Y U3 H3 M;exact⟨m',hm,U3,H3,I3,O⟩
  |brk=>exact L
  |ret v=>exact L
 |false=>
  rw[if_neg UA];exact wpAny_execs_nil ⟨U1,H2,I2,J⟩
end
structure It where
 go:Nat->Hp->Prop
 yld:Nat->Hp->V->Hp->Prop
 stop:Nat->Hp->Prop
def BG(X:Cx)(pins:List (Addr×Obj))(H:Hp)(b:Addr):Prop:=
 H b=none/\b≠X.env.locals/\b∉X.fs/\(b∈X.ex\/X.s₀.heap.objs.size<=b)/\(∀x c,X.env.cells.lookup x=some c->c≠b)/\∀p∈X.pn++pins,p.1≠b
theorem Inv.fpOk{X:Cx}{pins:List (Addr×Obj)}{U:St}{H H':Hp}{s:Shared}{b:Addr}(I:Inv X pins U H s)(B:s.heap.objs.size<=b)(J:H' b=none):BG X pins H' b:=by
 refine⟨J,Nat.ne_of_gt (Uh I.lt B),I.nofs B,.inr (Uz I.sz B),fun x c e z=>?_,fun p F z=>?_⟩
 ·obtain⟨v,q⟩:=I.cell x c e;exact absurd (Uh q.lt (by rw[z];exact B)) (Vj _)
 ·exact absurd (Uh (Uo (I.pin p F).1) (by rw[z];exact B)) (Vj _)
structure Kq(P:Program)(w:World)(K:W.Frag)(tg:Expr)(J:It)(fp:List Addr)(it:Addr)(tn:Nat->Heap->Prop):Prop where
 mem:it∈fp
 obj:∀i h,tn i h->∀b∈fp,∃o,h.get? b=some o/\∀v,o.data≠.cell v
 keep:∀i h h',tn i h->(∀b∈fp,∀o,h.get? b=some o->h'.get? b=some o)->tn i h'
 item:∀(X:Cx),X.prog=P->X.w=w->X.K=K->X.calm=true->∀(i:Nat) (pins:List (Addr×Obj)) (s:Shared) (U:St) (H:Hp) (E:Value->Shared->Prop),Inv X pins U H s->(∀b∈fp,BG X pins H b)->tn i s.heap->J.go i H ->
  wpAny (model P w) X.A (pyNext (.ref it)) (fun r s1=>∃u,r=some u/\
   wpAny (model P w) X.A (letOwnedTupleGo tg (.ref it) u) (fun _ s2=>∃x H',Inv X pins U H' s2/\El x u/\J.yld i H x H'/\tn (i+1) s2.heap/\∀b∈fp,H' b=none) E s1) E s
 done:∀(X:Cx),X.prog=P->X.w=w->X.K=K->X.calm=true->∀(i:Nat) (pins:List (Addr×Obj)) (s:Shared) (U:St) (H:Hp) (E:Value->Shared->Prop),Inv X pins U H s->(∀b∈fp,BG X pins H b)->tn i s.heap->J.stop i H ->
  wpAny (model P w) X.A (pyNext (.ref it)) (fun r s1=>r=none/\Inv X pins U H s1) E s
 self:∀(A:Around) (i:Nat) (s:Shared) (Q:Value->Shared->Prop) (E:Value->Shared->Prop),tn i s.heap->Q (.ref it) s->wpAny (model P w) A (pyIter (.ref it)) Q E s
abbrev TI:=St->Hp->(It->Hp->Prop)->Prop
def fj(X:Cx)(pins:List (Addr×Obj))(U:St)(tg:Expr)(R:It->Hp->Prop)(itv:Value)(s2:Shared):Prop:=
 ∃(it:Addr) (fp:List Addr) (tn:Nat->Heap->Prop) (J:It) (H':Hp),itv=.ref it/\Inv X pins U H' s2/\Kq X.prog X.w X.K tg J fp it tn/\tn 0 s2.heap/\(∀b∈fp,BG X pins H' b)/\R J H'
def PI(X:Cx)(tg iter:Expr)(wi:TI):Prop:=
 ∀(pins:List (Addr×Obj)) (s:Shared) (U:St) (H:Hp) (R:It->Hp->Prop),Inv X pins U H s->wi U H R ->
  wpAny (model X.prog X.w) X.A (eval iter X.env) (fun v s1=>wpAny (model X.prog X.w) X.A (pyIter v) (fj X pins U tg R) X.xe s1) X.xe s
theorem Lj{M:Model}{A:Around}{E:Value->Shared->Prop}{s:Shared}{tg:Expr}{F:Addr}{u:Value}{o:Obj}{n:String}{vs:Array Value}{Q:Unit->Shared->Prop}(O:s.heap.get? F=some o)(Y:o.cls=.type n)(L:o.data=.fields vs)
    (J:["enumerate","zip","dict_itemiterator","dict_reverseitemiterator","odict_iterator","itertools.zip_longest","itertools.pairwise"].contains n=false) (B:Q () s):wpAny M A (letOwnedTupleGo tg (.ref F) u) Q E s:=by
  unfold letOwnedTupleGo
  cases tg<;>first
    |exact Uj B
    | (cases u<;>first
        |exact Uj B
        | (refine Ua (wpAny_load O ?_)
           rw[Y,L];show wpAny M A (if(["enumerate","zip","dict_itemiterator","dict_reverseitemiterator","odict_iterator","itertools.zip_longest","itertools.pairwise"].contains n&&vs[0]? == some (rawInt _))=true then _ else _) Q E s;rw[if_neg (by intro h;rw[J,Vr] at h;cases h)]
           exact Uj B))
noncomputable def Wa(K:W.Frag)(a:Addr):It:=
 ⟨fun i H=>∃xs x,Eh K H a xs/\xs[i]? = some x,fun i H x H'=>H'=H/\∀xs,Eh K H a xs->xs[i]? = some x,fun i H=>∃xs,Eh K H a xs/\xs.length<=i⟩
noncomputable def Wb(K:W.Frag)(a:Addr):It:=
 ⟨fun i H=>∃xs x,GF K H a xs/\xs[i]? = some x,fun i H x H'=>H'=H/\∀xs,GF K H a xs->xs[i]? = some x,fun i H=>∃xs,GF K H a xs/\xs.length<=i⟩
noncomputable def Wc(lo:Int)(n:Nat):It:=⟨fun i _=>i<n,fun i H x H'=>H'=H/\x=.int (lo+i),fun i _=>n<=i⟩
theorem zV{P:Program}{w:World}{K:W.Frag}{tg:Expr}(a B:Addr):Kq P w K tg (Wa K a) [B] B (fun i h=>h.IsListIter B a i) where
 mem:=by simp
 obj:=fun i h st b F=>by
  have e:b=B:=by simpa using F
  subst e;obtain⟨o,e,c,d⟩:=st;exact⟨o,e,fun v z=>by rw[d] at z;cases z⟩
 keep:=fun i h h' st k=>st.at fun o e=>k B (by simp) o e
 item:=by
  intro X hP hw hK hc i pins s U H E I L st hg;subst hP hw hK;obtain⟨xs,x,M,Y⟩:=hg;obtain⟨a0,rv,p,hz⟩:=I.list M;obtain⟨u,hu,ru⟩:=rv.get Y;obtain⟨f0,f1,f2,O,Z,f5⟩:=L B (by simp);refine wpAny_pyNext_list_item st p.isList (x:=u) (by simpa using hu) fun h' J sb=>?_;have I1:Inv X pins U H { s with heap:=h' }:=I.turned (t':=s.toks) (fun b o F e=>(sb.2 b F).trans e) f0 f1 O Z f5;obtain⟨o,e,c,d⟩:=id J;exact⟨u,rfl,Lj (s:={ s with heap:=h' }) e c d (by decide) ⟨x,H,I1,ru,⟨rfl,fun ys hy=>by rw[I.list_inj hy M];exact Y⟩,J,fun b F=>(L b F).1⟩⟩
 done:=by
  intro X hP hw hK hc i pins s U H E I L st hg;subst hP hw hK;obtain⟨xs,M,Y⟩:=hg;obtain⟨a0,rv,p,hz⟩:=I.list M;obtain⟨f0,f1,f2,O,Z,f5⟩:=L B (by simp);have hl:=rv.length;exact wpAny_pyNext_list_end (I.ok.hd hc) st p.isList (by simp;omega) fun h' eb=>⟨rfl,I.turned (t':=s.toks) (fun b o F e=>eb b o F e) f0 f1 O Z f5⟩
 self:=fun _ _ _ _ _ st h=>wpAny_pyIter_listiter st h
theorem We{P:Program}{w:World}{K:W.Frag}{tg:Expr}(a B:Addr):Kq P w K tg (Wb K a) [B] B (fun i h=>h.IsTupleIter B a i) where
 mem:=by simp
 obj:=fun i h st b J=>by
  have e:b=B:=by simpa using J
  subst e;obtain⟨o,e,c,d⟩:=st;exact⟨o,e,fun v z=>by rw[d] at z;cases z⟩
 keep:=fun i h h' st k=>st.at fun o e=>k B (by simp) o e
 item:=by
  intro X hP hw hK hc i pins s U H E I M st hg;subst hP hw hK;obtain⟨xs,x,O,Z⟩:=hg;obtain⟨F,rv,p,hz⟩:=I.tuple O;obtain⟨u,hu,ru⟩:=rv.get Z;obtain⟨f0,f1,f2,Y,f4,f5⟩:=M B (by simp);refine wpAny_pyNext_tuple_item st (show s.heap.IsTuple a F.toArray from p) (x:=u) (by simpa using hu) fun h' L sb=>?_;have I1:Inv X pins U H { s with heap:=h' }:=I.turned (t':=s.toks) (fun b o J e=>(sb.2 b J).trans e) f0 f1 Y f4 f5;obtain⟨o,e,c,d⟩:=id L;exact⟨u,rfl,Lj (s:={ s with heap:=h' }) e c d (by decide) ⟨x,H,I1,ru,⟨rfl,fun ys hy=>by rw[I.tuple_inj hy O];exact Z⟩,L,fun b J=>(M b J).1⟩⟩
 done:=by
  intro X hP hw hK hc i pins s U H E I M st hg;subst hP hw hK;obtain⟨xs,O,Z⟩:=hg;obtain⟨F,rv,p,hz⟩:=I.tuple O;obtain⟨f0,f1,f2,Y,f4,f5⟩:=M B (by simp);have hl:=rv.length;exact wpAny_pyNext_tuple_end (I.ok.hd hc) st (show s.heap.IsTuple a F.toArray from p) (by simp;omega) fun h' eb=>⟨rfl,I.turned (t':=s.toks) (fun b o J e=>eb b o J e) f0 f1 Y f4 f5⟩
 self:=fun _ _ _ _ _ st h=>wpAny_pyIter_tupleiter st h
theorem vQ{P:Program}{w:World}{K:W.Frag}{tg:Expr}(B:Addr)(lo:Int)(n:Nat):Kq P w K tg (Wc lo n) [B] B (fun i h=>IsRangeIter h B (lo+(i:Nat)*1) ((n:Int)-(i:Nat)) 1) where
 mem:=by simp
 obj:=fun i h st b F=>by
  have e:b=B:=by simpa using F
  subst e
  exact⟨_,st,fun v z=>by
   have z':Data.fields _=Data.cell v:=z
   cases z'⟩
 keep:=fun i h h' st k=>k B (by simp) _ st
 item:=by
  intro X hP hw hK hc i pins s U H E I L st Z;subst hP hw hK;obtain⟨f0,f1,f2,M,O,Y⟩:=L B (by simp);have W:=Walks.range (prog:=X.prog) (w:=X.w) (I.ok.hd hc) B lo 1 n;refine W.item i s _ _ Z st fun v h' tk hv J kk=>?_;obtain⟨t,rfl⟩:=hv;have I1:Inv X pins U H { s with heap:=h',toks:=tk }:=I.turned (fun b o F e=>kk b o (by simpa using F) e) f0 f1 M O Y;refine⟨_,rfl,Lj (s:={ s with heap:=h',toks:=tk }) (n:="range_iterator") J rfl rfl (by decide) ⟨.int (lo+i),H,I1,⟨t,?_⟩,⟨rfl,rfl⟩,J,fun b F=>(L b F).1⟩⟩;rw[Int.mul_one]
 done:=by
  intro X hP hw hK hc i pins s U H E I L st Z;subst hP hw hK;obtain⟨f0,f1,f2,M,O,Y⟩:=L B (by simp);exact wpAny_pyNext_range_end (I.ok.hd hc) st (by have:n<=i:=Z;omega) fun h' eb=>⟨rfl,I.turned (t':=s.toks) (fun b o F e=>eb b o F e) f0 f1 M O Y⟩
 self:=fun _ _ _ _ _ st h=>wpAny_pyIter_rangeiter st h
section
variable{X:Cx}{tg:Expr}
def ql(K:W.Frag)(tl:TE):TI:=fun U H R=>tl U H fun x H1=>∃a,x=.ref a/\(∃xs,Eh K H1 a xs)/\R (Wa K a) H1
def vR(K:W.Frag)(tl:TE):TI:=fun U H R=>tl U H fun x H1=>∃a,x=.ref a/\(∃xs,GF K H1 a xs)/\R (Wb K a) H1
theorem im{l:Expr}{tl:TE}(Y:PE X l tl):PI X tg l (ql X.K tl):=by
 intro pins s U H R I h;refine thn (Y pins s U H _ I h) fun v B ⟨x,H1,I1,F,J⟩=>?_;obtain⟨a,e,⟨xs,M⟩,q⟩:=J;subst e;cases F;obtain⟨L,Z,p,hz⟩:=I1.list M;refine wpAny_pyIter_list p.isList ?_;refine⟨B.heap.objs.size,[B.heap.objs.size],_,_,H1,rfl,I1.kept (t':=B.toks) fun b o e=>Uc _ e,zV a _,⟨_,Ul _ rfl,rfl,rfl⟩,fun b O=>?_,q⟩;have e:b=B.heap.objs.size:=by simpa using O
 subst e;exact I1.fpOk (Ue _) (I1.hok.fresh (Ue _))
theorem nU{l:Expr}{tl:TE}(Y:PE X l tl):PI X tg l (vR X.K tl):=by
 intro pins s U H R I h;refine thn (Y pins s U H _ I h) fun v B ⟨x,H1,I1,J,L⟩=>?_;obtain⟨a,e,⟨xs,M⟩,q⟩:=L;subst e;cases J;obtain⟨F,Z,p,hz⟩:=I1.tuple M;refine wpAny_pyIter_tuple (show B.heap.IsTuple a F.toArray from p) ?_;refine⟨B.heap.objs.size,[B.heap.objs.size],_,_,H1,rfl,I1.kept (t':=B.toks) fun b o e=>Uc _ e,We a _,⟨_,Ul _ rfl,rfl,rfl⟩,fun b O=>?_,q⟩;have e:b=B.heap.objs.size:=by simpa using O
 subst e;exact I1.fpOk (Ue _) (I1.hok.fresh (Ue _))
theorem bt{pins:List (Addr×Obj)}{U:St}{H:Hp}{s:Shared}{R:It->Hp->Prop}{E:Value->Shared->Prop}{lo hi:Int}{t u v:Tok}{B:Nat}(I:Inv X pins U H s)(h1:-(2 ^ 62)<=lo)(h2:lo<2 ^ 62)(O:-(2 ^ 62)<=hi)(J:hi<2 ^ 62)
  (q:R (Wc lo (hi-lo).toNat) H):wpAny (model X.prog X.w) X.A (pyIter (.ref s.heap.objs.size)) (fj X pins U tg R) E { s with heap:=s.heap.push { cls:=.type "range",data:=.fields #[.int lo t,.int hi u,.int 1 v] },toks:=B }:=by
 refine wpAny_pyIter_range (IsRange.new ..) (small_one h1 h2 O J) ?_;have I1:Inv X pins U H { s with heap:=s.heap.push { cls:=.type "range",data:=.fields #[.int lo t,.int hi u,.int 1 v] },toks:=B }:=I.kept fun b o e=>Uc _ e
 refine⟨(s.heap.push { cls:=.type "range",data:=.fields #[.int lo t,.int hi u,.int 1 v] }).objs.size,[(s.heap.push { cls:=.type "range",data:=.fields #[.int lo t,.int hi u,.int 1 v] }).objs.size],_,_,H,rfl,
  I1.kept (t':=B) fun b o e=>Uc _ e,vQ _ lo (hi-lo).toNat,?_,fun b M=>?_,q⟩
 ·have F:lo+((0:Nat):Int)*1=lo:=by simp
  have L:(((hi-lo).toNat:Nat):Int)-((0:Nat):Int)=Builtin.Range.rangeSize lo hi 1:=by rw[rangeSize_one];split<;>omega
  show IsRangeIter _ _ (lo+((0:Nat):Int)*1) ((((hi-lo).toNat:Nat):Int)-((0:Nat):Int)) 1;rw[F,L];exact Ul _ rfl
 ·have e:b=(s.heap.push { cls:=.type "range",data:=.fields #[.int lo t,.int hi u,.int 1 v] }).objs.size:=by simpa using M
  subst e;exact I1.fpOk (Ue _) (I1.hok.fresh (Ue _))
def vS(ta:TA):TI:=fun U H R=>ta U H fun vs H1=>∃j:Int,vs=[.int j]/\-(2 ^ 62)<=j/\j<2 ^ 62/\R (Wc 0 j.toNat) H1
theorem yQ{a:Expr}{ta:TA}{p pos:Pos}(L:Gl X "range")(hm:X.mg "range"=none)(M:PA X [a] ta)(F:starEach [a] X.env=[(false,eval a X.env)]:=by rfl):PI X tg (.Call (.Name "range" p) [a] [] pos) (vS ta):=by
 intro pins s U H R I h;refine Call_ (Ct I L hm boot_range (PyProof.Rows.callWith_type1 (thn (M pos pins s U H _ I h) fun us Y ⟨vs,H1,I1,J,B⟩=>?_) F rfl));obtain⟨j,e,B,O,q⟩:=B;subst e
 cases J with
 |cons r rr=>
  cases rr;obtain⟨t,rfl⟩:=r;exact call_range_1 (bt I1 (by omega) (by omega) B O (by simpa using q))
def bu(wi:TI)(g:TG)(tb:TS):TS:=fun D U H=>wi U H fun J H1=>∃W:Nat->Nat->St->Hp->Prop,(∃m,W 0 m U H1)/\∀i m U H,W i m U H ->
 (J.stop i H/\D.nx U H)\/(J.go i H/\∃N:St->Hp->Prop,(∀U' H',N U' H'->∃m',m'<m/\W (i+1) m' U' H')/\∀x H',J.yld i H x H'->g x U H' fun U2 H2=>tb { D with nx:=N,ct:=N,bk:=D.nx } U2 H2)
noncomputable def IR(fp:List Addr)(h:Heap):List (Addr×Obj):=fp.filterMap fun b=>(h.get? b).map fun o=>(b,o)
theorem Cf{fp:List Addr}{h:Heap}{b:Addr}{o:Obj}(B:b∈fp)(e:h.get? b=some o):(b,o)∈IR fp h:=List.mem_filterMap.mpr ⟨b,B,by rw[e];rfl⟩
theorem yR{fp:List Addr}{h:Heap}{p:Addr×Obj}(B:p∈IR fp h):p.1∈fp/\h.get? p.1=some p.2:=by
 obtain⟨b,F,e⟩:=List.mem_filterMap.mp B
 cases q:h.get? b with
 |none=>rw[q] at e;cases e
 |some o=>
  rw[q] at e;have e':(b,o)=p:=Option.some.inj e;subst e';exact⟨F,q⟩
theorem Inv.pinned{pins:List (Addr×Obj)}{U:St}{H:Hp}{s:Shared}{fp:List Addr}(I:Inv X pins U H s)(Y:∀b∈fp,BG X pins H b)(O:∀b∈fp,∃o,s.heap.get? b=some o/\∀v,o.data≠.cell v):Inv X (pins++IR fp s.heap) U H s:=
 I.pins_of fun p J=>(Uu.mp J).elim (fun z=>I.pin p (Uv _ z)) fun z=>by
  obtain⟨B,e⟩:=yR z;obtain⟨F,L,M,_⟩:=Y p.1 B;obtain⟨o,e',d⟩:=O p.1 B;rw[e] at e';cases e';exact⟨e,F,L,M,d⟩
theorem Inv.unpinned{pins pl:List (Addr×Obj)}{U:St}{H:Hp}{s:Shared}(I:Inv X (pins++pl) U H s):Inv X pins U H s:=I.pins_of fun p B=>I.pin p (Uv _ (UV _ B))
theorem nV{M:Expr}{Y:List Stmt}{wi:TI}{g:TG}{tb:TS}{pos:Pos}(hp:PassesOwn (model X.prog X.w) X.A X.env X.xe)(hc:X.calm=true)(hi:PI X tg M wi)(hg:PG X tg g)(L:HB X Y tb)
  (hs:∀x,foldedSetIterable M X.env x=pure x:=by intro _;rfl):PS X (.For tg M Y [] pos) (bu wi g tb):=by
 intro pins s U H D I h;refine wpAny_For (thn (hi pins s U H _ I h) fun v s1 h1=>thn h1 fun a4 s2 h2=>?_) hs;obtain⟨it,fp,tn,J,H2,e,I2,T,a3,f2,W,⟨m0,w0⟩,a0⟩:=h2;subst e
 -- what stays true of the iterator's objects through the loop
 have F:∀ {H':Hp},(∀b∈fp,H' b=none)->∀b∈fp,BG X pins H' b:=fun hn b L=>⟨hn b L,(f2 b L).2⟩;refine codeAny_forLoop_any (fun n s'=>∃i U' H',Inv X pins U' H' s'/\tn i s'.heap/\(∀b∈fp,H' b=none)/\W i n U' H') ?_ m0 ⟨0,U,H2,I2,a3,fun b L=>(f2 b L).1,w0⟩;rintro n s3 ⟨i,U3,H3,I3,a1,fr3,w3⟩;rcases a0 i n U3 H3 w3 with ⟨stop,qn⟩|⟨go,N,hN,step⟩
 ·refine wpAny_passesOwn hp (thn (T.done X rfl rfl rfl hc i pins s3 U3 H3 X.xe I3 (F fr3) a1 stop) fun r s4 ⟨hr,I4⟩=>?_);subst hr;exact wpAny_execs_nil ⟨U3,H3,I4,qn⟩
 ·refine wpAny_passesOwn hp (thn (T.item X rfl rfl rfl hc i pins s3 U3 H3 X.xe I3 (F fr3) a1 go) fun r s4 ⟨u,hr,h4⟩=>?_);subst hr;refine wpAny_passesOwn hp (thn h4 fun _ s5 ⟨x,H5,I5,r5,y5,Z,a2⟩=>?_);have I5':=I5.pinned (F a2) (T.obj _ _ Z);refine wpAny_passesOwn hp (thn (hg _ s5 U3 H5 x u _ I5' r5 (step x H5 y5)) fun _ s6 ⟨U6,H6,I6,q6⟩=>?_);refine wpAny_passesOwn hp (thn (L _ s6 U6 H6 _ I6 q6) fun f s7 O=>?_)
  have B:∀ {U7:St} {H7:Hp},Inv X (pins++IR fp s5.heap) U7 H7 s7->N U7 H7->∃m,m<n/\∃i U' H',Inv X pins U' H' s7/\tn i s7.heap/\(∀b∈fp,H' b=none)/\W i m U' H':=fun {U7 H7} I7 n7=>by
   obtain⟨m',hm,w7⟩:=hN U7 H7 n7;refine⟨m',hm,i+1,U7,H7,I7.unpinned,T.keep _ _ _ Z fun b L o e=>(I7.pin (b,o) (Uv _ (Uv _ (Cf L e)))).1,fun b L=>?_,w7⟩;obtain⟨o,e,d⟩:=T.obj _ _ Z b L;exact(I7.pin (b,o) (Uv _ (Uv _ (Cf L e)))).2.1
  cases f with
  |next=>obtain⟨U7,H7,I7,n7⟩:=O;exact B I7 n7
  |cont=>obtain⟨U7,H7,I7,n7⟩:=O;exact B I7 n7
  |brk=>obtain⟨U7,H7,I7,O⟩:=O;exact⟨U7,H7,I7.unpinned,O⟩
  |ret v=>obtain⟨x7,U7,H7,I7,r7,O⟩:=O;exact⟨x7,U7,H7,I7.unpinned,r7,O⟩
end
theorem bv{K:W.Frag}{a:Addr}{xs:List V}{g:TG}{tb:TS}{D:DQ}{U:St}{H:Hp}(Pv:Nat->St->Hp->Prop)(h0:Pv 0 U H)(M:∀i U H,i<=xs.length->Pv i U H->Eh K H a xs)
  (F:∀i x U H,xs[i]? = some x->Pv i U H->g x U H fun U2 H2=>tb { D with nx:=Pv (i+1),ct:=Pv (i+1),bk:=D.nx } U2 H2) (J:∀U H,Pv xs.length U H->D.nx U H) :
  ∃W:Nat->Nat->St->Hp->Prop,(∃m,W 0 m U H)/\∀i m U H,W i m U H ->
   ((Wa K a).stop i H/\D.nx U H)\/((Wa K a).go i H/\∃N:St->Hp->Prop,(∀U' H',N U' H'->∃m',m'<m/\W (i+1) m' U' H')/\∀x H',(Wa K a).yld i H x H'->g x U H' fun U2 H2=>tb { D with nx:=N,ct:=N,bk:=D.nx } U2 H2):=by
 refine⟨fun i m U H=>m=xs.length-i/\i<=xs.length/\Pv i U H,⟨xs.length,by simp,UX _,h0⟩,?_⟩;rintro i m U H ⟨rfl,hi,p⟩;have q:=M i U H hi p;by_cases B:i<xs.length
 ·refine .inr ⟨⟨xs,xs[i],q,by simp[B]⟩,Pv (i+1),fun U' H' L=>⟨xs.length-(i+1),by omega,rfl,B,L⟩,fun x H' y=>?_⟩;obtain⟨e,y⟩:=y;subst e;exact F i x U _ (y xs q) p
 ·have e:i=xs.length:=by omega
  subst e;exact .inl ⟨⟨xs,q,Ue _⟩,J U H p⟩
theorem io{K:W.Frag}{a:Addr}{xs:List V}{g:TG}{tb:TS}{D:DQ}{U:St}{H:Hp}(Pv:Nat->St->Hp->Prop)(h0:Pv 0 U H)(M:∀i U H,i<=xs.length->Pv i U H->GF K H a xs)
  (F:∀i x U H,xs[i]? = some x->Pv i U H->g x U H fun U2 H2=>tb { D with nx:=Pv (i+1),ct:=Pv (i+1),bk:=D.nx } U2 H2) (J:∀U H,Pv xs.length U H->D.nx U H) :
  ∃W:Nat->Nat->St->Hp->Prop,(∃m,W 0 m U H)/\∀i m U H,W i m U H ->
   ((Wb K a).stop i H/\D.nx U H)\/((Wb K a).go i H/\∃N:St->Hp->Prop,(∀U' H',N U' H'->∃m',m'<m/\W (i+1) m' U' H')/\∀x H',(Wb K a).yld i H x H'->g x U H' fun U2 H2=>tb { D with nx:=N,ct:=N,bk:=D.nx } U2 H2):=by
 refine⟨fun i m U H=>m=xs.length-i/\i<=xs.length/\Pv i U H,⟨xs.length,by simp,UX _,h0⟩,?_⟩;rintro i m U H ⟨rfl,hi,p⟩;have q:=M i U H hi p;by_cases B:i<xs.length
 ·refine .inr ⟨⟨xs,xs[i],q,by simp[B]⟩,Pv (i+1),fun U' H' L=>⟨xs.length-(i+1),by omega,rfl,B,L⟩,fun x H' y=>?_⟩;obtain⟨e,y⟩:=y;subst e;exact F i x U _ (y xs q) p
 ·have e:i=xs.length:=by omega
  subst e;exact .inl ⟨⟨xs,q,Ue _⟩,J U H p⟩
theorem yS{lo:Int}{n:Nat}{g:TG}{tb:TS}{D:DQ}{U:St}{H:Hp}(Pv:Nat->St->Hp->Prop)(h0:Pv 0 U H)
  (F:∀i U H,i<n->Pv i U H->g (.int (lo+i)) U H fun U2 H2=>tb { D with nx:=Pv (i+1),ct:=Pv (i+1),bk:=D.nx } U2 H2) (J:∀U H,Pv n U H->D.nx U H) :
  ∃W:Nat->Nat->St->Hp->Prop,(∃m,W 0 m U H)/\∀i m U H,W i m U H ->
   ((Wc lo n).stop i H/\D.nx U H)\/((Wc lo n).go i H/\∃N:St->Hp->Prop,(∀U' H',N U' H'->∃m',m'<m/\W (i+1) m' U' H')/\∀x H',(Wc lo n).yld i H x H'->g x U H' fun U2 H2=>tb { D with nx:=N,ct:=N,bk:=D.nx } U2 H2):=by
 refine⟨fun i m U H=>m=n-i/\i<=n/\Pv i U H,⟨n,by simp,UX _,h0⟩,?_⟩;rintro i m U H ⟨rfl,hi,p⟩;by_cases B:i<n
 ·refine .inr ⟨B,Pv (i+1),fun U' H' L=>⟨n-(i+1),by omega,rfl,B,L⟩,fun x H' y=>?_⟩;obtain⟨e,y⟩:=y;subst e y;exact F i U _ B p
 ·have e:i=n:=by omega
  subst e;exact .inl ⟨Ue _,J U H p⟩
abbrev R2:=V->V->Hp->VK->Prop
def DB(X:Cx)(f:Value->Value->Sem Value)(r:R2):Prop:=
 ∀(pins:List (Addr×Obj)) (s:Shared) (U:St) (H:Hp) (x y:V) (v u:Value) (Q:VK),Inv X pins U H s->El x v->El y u->r x y H Q ->
  wpAny (model X.prog X.w) X.A (f v u) (EP X pins U Q) X.xe s
def fk(X:Cx)(f:Value->Sem Value)(r:V->Hp->VK->Prop):Prop:=
 ∀(pins:List (Addr×Obj)) (s:Shared) (U:St) (H:Hp) (x:V) (v:Value) (Q:VK),Inv X pins U H s->El x v->r x H Q ->
  wpAny (model X.prog X.w) X.A (f v) (EP X pins U Q) X.xe s
def Gr(X:Cx)(f:Value)(r:List V->Hp->VK->Prop):Prop:=
 ∀(pins:List (Addr×Obj)) (s:Shared) (U:St) (H:Hp) (xs:List V) (us:List Value) (Q:VK),Inv X pins U H s->Em xs us->r xs H Q ->
  wpAny (model X.prog X.w) X.A (call f us) (EP X pins U Q) X.xe s
def Wf(r:R2)(ta tb:TE):TE:=fun U H Q=>ta U H fun x H1=>tb U H1 fun y H2=>r x y H2 Q
def nW(r:V->Hp->VK->Prop)(ta:TE):TE:=fun U H Q=>ta U H fun x H1=>r x H1 Q
def rI(C:Int->Int->Prop)(g:Int->Int->V):R2:=fun x y H Q=>∃i j,x=.int i/\y=.int j/\C i j/\Q (g i j) H
def SB(g:Int->Int->V):R2:=fun x y H Q=>∃i j,x=.int i/\y=.int j/\Q (g i j) H
def rU(g:Int->V):V->Hp->VK->Prop:=fun x H Q=>∃i,x=.int i/\Q (g i) H
section
variable{X:Cx}{a b c:Expr}{ta tb tc:TE}{pos:Pos}
theorem bw(L:PE X a ta)(hb:PE X b tb){pins:List (Addr×Obj)}{s:Shared}{U:St}{H:Hp}{R:V->V->Hp->Prop}(I:Inv X pins U H s)
  (h:ta U H fun x H1=>tb U H1 fun y H2=>R x y H2) {Q:Value->Shared->Prop} {f:Value->Value->Sem Value}
  (Z:∀v u B x y H2,Inv X pins U H2 B->El x v->El y u->R x y H2->wpAny (model X.prog X.w) X.A (f v u) Q X.xe B) :
  wpAny (model X.prog X.w) X.A (eval a X.env) (fun v s₁=>wpAny (model X.prog X.w) X.A (eval b X.env) (fun u s₂=>wpAny (model X.prog X.w) X.A (f v u) Q X.xe s₂) X.xe s₁) X.xe s:=by
 refine thn (L pins s U H _ I h) fun v F ⟨x,H1,I1,J,O⟩=>?_;refine thn (hb pins F U H1 _ I1 O) fun u B ⟨y,H2,I2,Y,M⟩=>?_;exact Z v u B x y H2 I2 J Y M
theorem sJ{B:Operator}{r:R2}(M:DB X (binaryOp B) r)(L:PE X a ta)(O:PE X b tb):PE X (.BinOp a B b pos) (Wf r ta tb):=by
 intro pins s U H Q I h;exact wpAny_BinOp (bw L O I h fun v u Y x y H2 I2 J F q=>M pins Y U H2 x y v u Q I2 J F q)
theorem sK{B:UnaryOp}{r:V->Hp->VK->Prop}(L:fk X (unaryOp B) r)(M:PE X a ta):PE X (.UnaryOp B a pos) (nW r ta):=by
 intro pins s U H Q I h;exact UnaryOp_ (thn (M pins s U H _ I h) fun v F ⟨x,H1,I1,J,O⟩=>L pins F U H1 x v Q I1 J O)
theorem yT{f:Value->Value->Sem Value}{C:Int->Int->Prop}{g:Int->Int->Int}
  (B:∀(i j:Int) (t u:Tok) (s:Shared) (Q:Value->Shared->Prop) (E:Value->Shared->Prop),C i j->Q (.int (g i j) s.toks) { s with toks:=s.toks+1 }->wpAny (model X.prog X.w) X.A (f (.int i t) (.int j u)) Q E s) :
  DB X f (rI C fun i j=>.int (g i j)):=by
 intro pins s U H x y v u Q I J F h;obtain⟨i,j,rfl,rfl,L,q⟩:=h;obtain⟨t,rfl⟩:=J;obtain⟨t',rfl⟩:=F;exact B i j t t' s _ _ L ⟨.int (g i j),H,I.tok _,⟨_,rfl⟩,q⟩
theorem cA{f:Value->Value->Sem Value}{g:Int->Int->Int}
  (B:∀(i j:Int) (t u:Tok) (s:Shared) (Q:Value->Shared->Prop) (E:Value->Shared->Prop),Q (.int (g i j) s.toks) { s with toks:=s.toks+1 }->wpAny (model X.prog X.w) X.A (f (.int i t) (.int j u)) Q E s) :
  DB X f (SB fun i j=>.int (g i j)):=by
 intro pins s U H x y v u Q I J F h;obtain⟨i,j,rfl,rfl,q⟩:=h;obtain⟨t,rfl⟩:=J;obtain⟨t',rfl⟩:=F;exact B i j t t' s _ _ ⟨.int (g i j),H,I.tok _,⟨_,rfl⟩,q⟩
theorem vT{f:Value->Value->Sem Value}{g:Int->Int->Bool}
  (B:∀(i j:Int) (t u:Tok) (s:Shared) (Q:Value->Shared->Prop) (E:Value->Shared->Prop),Q (.bool (g i j)) s->wpAny (model X.prog X.w) X.A (f (.int i t) (.int j u)) Q E s) :
  DB X f (SB fun i j=>.bl (g i j)):=by
 intro pins s U H x y v u Q I J F h;obtain⟨i,j,rfl,rfl,q⟩:=h;obtain⟨t,rfl⟩:=J;obtain⟨t',rfl⟩:=F;exact B i j t t' s _ _ ⟨.bl (g i j),H,I,rfl,q⟩
def cB(i j:Int):Prop:=0<=j/\j<=1000000/\i.natAbs<2 ^ 64
def cC(i j:Int):Prop:=(-(2 ^ 64)<i/\i<2 ^ 64)\/(-(2 ^ 64)<j/\j<2 ^ 64)
theorem cC.ok{i j:Int}(h:cC i j):IntMulOk i j:=by
 rcases h with ⟨h1,h2⟩|⟨h1,h2⟩
 ·exact .of_left (intBits_le_64 h1 h2)
 ·exact .of_right (intBits_le_64 h1 h2)
theorem Go:DB X (binaryOp .Add) (SB fun i j=>.int (i+j)):=cA fun _ _ _ _ _ _ _ q=>add_int q
theorem BM:DB X (binaryOp .Sub) (SB fun i j=>.int (i-j)):=cA fun _ _ _ _ _ _ _ q=>sub_int q
theorem Cu:DB X (binaryOp .Mod) (rI (fun _ j=>0<j) fun i j=>.int (i % j)):=yT fun i j _ _ _ _ _ B q=>by
 have h1:(0:Int)<j:=B;exact mod_int' (by omega) (by rw[Int.fmod_eq_emod_of_nonneg i (by omega)];exact q)
theorem yU:DB X (binaryOp .Pow) (rI cB fun i j=>.int (i ^ j.toNat)):=yT fun _ _ _ _ _ _ _ B q=>pow_int_small B.1 B.2.1 B.2.2 q
theorem uO:DB X (inplaceOp .Add) (SB fun i j=>.int (i+j)):=cA fun _ _ _ _ _ _ _ q=>iadd_int q
theorem ip:DB X (inplaceOp .Mult) (rI cC fun i j=>.int (i*j)):=yT fun _ _ _ _ _ _ _ B q=>imul_int q B.ok
theorem tj{f:Value->Sem Value}{g:Int->Int}
  (B:∀(i:Int) (t:Tok) (s:Shared) (Q:Value->Shared->Prop) (E:Value->Shared->Prop),Q (.int (g i) s.toks) { s with toks:=s.toks+1 }->wpAny (model X.prog X.w) X.A (f (.int i t)) Q E s) :
  fk X f (rU fun i=>.int (g i)):=by
 intro pins s U H x v Q I F h;obtain⟨i,rfl,q⟩:=h;obtain⟨t,rfl⟩:=F;exact B i t s _ _ ⟨.int (g i),H,I.tok _,⟨_,rfl⟩,q⟩
theorem Bw:fk X (unaryOp .USub) (rU fun i=>.int (-i)):=tj fun _ _ _ _ _ q=>neg_int q
end
noncomputable def nX:V->V->Bool
 | .non,.non=>true | .non,.int _=>true | .int _,.non=>true | .non,.bl _=>true | .bl _,.non=>true | .non,.str _=>true | .str _,.non=>true
 | .int _,.int _=>true | .bl _,.bl _=>true | .str _,.str _=>true | .byt _,.byt _=>true
 | .int _,.str _=>true | .str _,.int _=>true | .bl _,.str _=>true | .str _,.bl _=>true
 |_,_=>false
def nY:R2:=fun x y H Q=>nX x y=true/\Q (.bl (decide (x=y))) H
def sr:R2:=fun x y H Q=>nX x y=true/\Q (.bl (!decide (x=y))) H
theorem uP{i j:Int}:decide (V.int i=V.int j)=(i==j):=by
 rw[Vw];simp
theorem yV{i j:Bool}:decide (V.bl i=V.bl j)=(i==j):=by
 rw[Vw];simp
theorem uQ{i j:Str}:decide (V.str i=V.str j)=(i==j):=by
 rw[Vw];simp
theorem uR{i j:Array UInt8}:decide (V.byt i=V.byt j)=(i.toList==j.toList):=by
 rw[Vw];cases i;cases j;simp
section
variable{X:Cx}{a b c:Expr}{ta tb tc:TE}{pos:Pos}
theorem GY{pins:List (Addr×Obj)}{U:St}{H:Hp}{s:Shared}{Q:VK}{k B:Bool}(I:Inv X pins U H s)(q:Q (.bl k) H)(e:k=B):EP X pins U Q (.bool B) s:=by
 subst e;exact⟨.bl k,H,I,rfl,q⟩
theorem Dk:DB X (compareOp .Eq) nY:=by
 intro pins s U H x y v u Q I J B h;obtain⟨F,q⟩:=h
 cases x with
 |non=>
  cases J
  cases y with
  |non=>cases B;exact PySem.EqNone.eq_none_none (GY I q (by simp))
  |bl j=>cases B;exact PySem.EqNone.eq_none_bool (GY I q (by simp))
  |int j=>obtain⟨t',rfl⟩:=B;exact PySem.EqNone.eq_none_int (GY I q (by simp))
  |str j=>obtain⟨t',rfl⟩:=B;exact PySem.EqNone.eq_none_str (GY I q (by simp))
  |_=>exact absurd (show false=true from F) UA
 |bl i=>
  cases J
  cases y with
  |non=>cases B;exact PySem.EqNone.eq_bool_none (GY I q (by simp))
  |bl j=>cases B;exact eq_bool (GY I q yV)
  |str j=>obtain⟨t',rfl⟩:=B;exact PySem.EqMixed.eq_bool_str (GY I q (by simp))
  |_=>exact absurd (show false=true from F) UA
 |int i=>
  obtain⟨t,rfl⟩:=J
  cases y with
  |non=>cases B;exact PySem.EqNone.eq_int_none (GY I q (by simp))
  |int j=>obtain⟨t',rfl⟩:=B;exact eq_int (GY I q uP)
  |str j=>obtain⟨t',rfl⟩:=B;exact PySem.EqMixed.eq_int_str (GY I q (by simp))
  |_=>exact absurd (show false=true from F) UA
 |str i=>
  obtain⟨t,rfl⟩:=J
  cases y with
  |non=>cases B;exact PySem.EqNone.eq_str_none (GY I q (by simp))
  |bl j=>cases B;exact PySem.EqMixed.eq_str_bool (GY I q (by simp))
  |int j=>obtain⟨t',rfl⟩:=B;exact PySem.EqMixed.eq_str_int (GY I q (by simp))
  |str j=>obtain⟨t',rfl⟩:=B;exact eq_str (GY I q uQ)
  |_=>exact absurd (show false=true from F) UA
 |byt i=>
  obtain⟨t,rfl⟩:=J
  cases y with
  |byt j=>obtain⟨t',rfl⟩:=B;exact PySem.W.eq_bytes (GY I q uR)
  |_=>exact absurd (show false=true from F) UA
 |_=>cases y<;>exact absurd (show false=true from F) UA
theorem sL:DB X (compareOp .NotEq) sr:=by
 intro pins s U H x y v u Q I J B h;obtain⟨F,q⟩:=h
 cases x with
 |non=>
  cases J
  cases y with
  |non=>cases B;exact PySem.EqNone.ne_none_none (GY I q (by simp))
  |bl j=>cases B;exact PySem.EqNone.ne_none_bool (GY I q (by simp))
  |int j=>obtain⟨t',rfl⟩:=B;exact PySem.EqNone.ne_none_int (GY I q (by simp))
  |str j=>obtain⟨t',rfl⟩:=B;exact PySem.EqNone.ne_none_str (GY I q (by simp))
  |_=>exact absurd (show false=true from F) UA
 |bl i=>
  cases J
  cases y with
  |non=>cases B;exact PySem.EqNone.ne_bool_none (GY I q (by simp))
  |bl j=>cases B;exact ne_bool (GY I q (congrArg not yV))
  |str j=>obtain⟨t',rfl⟩:=B;exact PySem.EqMixed.ne_bool_str (GY I q (by simp))
  |_=>exact absurd (show false=true from F) UA
 |int i=>
  obtain⟨t,rfl⟩:=J
  cases y with
  |non=>cases B;exact PySem.EqNone.ne_int_none (GY I q (by simp))
  |int j=>obtain⟨t',rfl⟩:=B;exact ne_int (GY I q (congrArg not uP))
  |str j=>obtain⟨t',rfl⟩:=B;exact PySem.EqMixed.ne_int_str (GY I q (by simp))
  |_=>exact absurd (show false=true from F) UA
 |str i=>
  obtain⟨t,rfl⟩:=J
  cases y with
  |non=>cases B;exact PySem.EqNone.ne_str_none (GY I q (by simp))
  |bl j=>cases B;exact PySem.EqMixed.ne_str_bool (GY I q (by simp))
  |int j=>obtain⟨t',rfl⟩:=B;exact PySem.EqMixed.ne_str_int (GY I q (by simp))
  |str j=>obtain⟨t',rfl⟩:=B;exact ne_str (GY I q (congrArg not uQ))
  |_=>exact absurd (show false=true from F) UA
 |byt i=>
  obtain⟨t,rfl⟩:=J
  cases y with
  |byt j=>obtain⟨t',rfl⟩:=B;exact PySem.W.ne_bytes (GY I q (congrArg not uR))
  |_=>exact absurd (show false=true from F) UA
 |_=>cases y<;>exact absurd (show false=true from F) UA
theorem Bm:DB X (compareOp .Lt) (SB fun i j=>.bl (decide (i<j))):=vT fun _ _ _ _ _ _ _ q=>lt_int q
theorem BU:DB X (compareOp .LtE) (SB fun i j=>.bl (decide (i<=j))):=vT fun _ _ _ _ _ _ _ q=>le_int q
theorem fm:DB X (compareOp .Gt) (SB fun i j=>.bl (decide (j<i))):=vT fun _ _ _ _ _ _ _ q=>gt_int q
theorem fo:DB X (compareOp .GtE) (SB fun i j=>.bl (decide (j<=i))):=vT fun _ _ _ _ _ _ _ q=>ge_int q
theorem nZ:DB X (compareOp .Is) (fun x y H Q=>y=.non/\Q (.bl (decide (x=.non))) H):=by
 intro pins s U H x y v u Q I B F h;obtain⟨rfl,q⟩:=h;cases F;refine is_none_gen (GY I q ?_)
 cases x<;>first
  |(cases B;rfl)
  |(obtain⟨t,rfl⟩:=B;rfl)
theorem iq:DB X (compareOp .IsNot) (fun x y H Q=>y=.non/\Q (.bl (!decide (x=.non))) H):=by
 intro pins s U H x y v u Q I B F h;obtain⟨rfl,q⟩:=h;cases F;refine isnot_none_gen (GY I q ?_)
 cases x<;>first
  |(cases B;rfl)
  |(obtain⟨t,rfl⟩:=B;rfl)
theorem Ej(b:Expr){B:CmpOp}(h:B≠.In:=by decide)(h2:B≠.NotIn:=by decide):behindInMarks B b=false:=by
 have F:(B==CmpOp.In)=false:=by cases B<;>first|rfl|exact absurd rfl h
 have J:(B==CmpOp.NotIn)=false:=by cases B<;>first|rfl|exact absurd rfl h2
 cases b<;>simp[behindInMarks,F,J]
theorem ir{B:CmpOp}{r:R2}(M:DB X (compareOp B) r)(L:PE X a ta)(O:PE X b tb)(hm:behindInMarks B b=false):PE X (.Compare a [B] [b] pos) (Wf r ta tb):=by
 intro pins s U H Q I h;exact wpAny_Compare1 (bw L O I h fun v u Y x y H2 I2 J F q=>M pins Y U H2 x y v u Q I2 J F q) hm
def Wg(t:TE):TT:=fun U H Q=>t U H fun x H'=>∃k,x=.bl k/\Q k H'
theorem iu{B:CmpOp}{r:R2}(ho:DB X (compareOp B) r)(M:PE X a ta)(L:PE X b tb)(hm:behindInMarks B b=false):PT X (.Compare a [B] [b] pos) (Wg (Wf r ta tb)):=by
 intro pins s U H Q I h
 refine wpAny_isTrue_Compare1 (thn (M pins s U H _ I h) fun v F ⟨x,H1,I1,J,Y⟩=>thn (L pins F U H1 _ I1 Y) fun u s2 ⟨y,H2,I2,r2,O⟩=>
  thn (ho pins s2 U H2 x y v u _ I2 J r2 O) fun c s3 ⟨z,H3,I3,r3,k,e,Z⟩=>?_) hm
 subst e;cases r3;exact wpAny_truthy_bool ⟨H3,I3,Z⟩
def Kr(r r':R2)(ta tb tc:TE):TE:=fun U H Q=>ta U H fun x H1=>tb U H1 fun y H2=>r x y H2 fun z H3=>∃k,z=.bl k/\
 (if k=true then tc U H3 fun w' H4=>r' y w' H4 Q else Q (.bl false) H3)
theorem cD{F B:CmpOp}{r L:R2}(ho:DB X (compareOp F) r)(J:DB X (compareOp B) L)(ha:PE X a ta)(hb:PE X b tb)(hc:PE X c tc)
  (hm:lastMarks [F,B] [b,c]=false:=by with_unfolding_all rfl):PE X (.Compare a [F,B] [b,c] pos) (Kr r L ta tb tc):=by
 intro pins s U H Q I h
 refine Compare_chain (thn (ha pins s U H _ I h) fun v Z ⟨x,H1,I1,r1,q1⟩=>chain_link (thn (hb pins Z U H1 _ I1 q1) fun u s2 ⟨y,H2,I2,O,q2⟩=>
  thn (ho pins s2 U H2 x y v u _ I2 r1 O q2) fun d Y ⟨z,H3,I3,r3,k,e,M⟩=>?_)) hm
 subst e;cases r3;refine wpAny_truthy_bool ?_
 cases k with
 |false=>exact ite_ff ⟨.bl false,H3,I3,rfl,M⟩
 |true=>exact ite_tt (chain_last (thn (hc pins Y U H3 _ I3 M) fun w' s4 ⟨z',H4,I4,r4,q4⟩=>J pins s4 U H4 y z' u w' Q I4 O r4 q4))
theorem cE{F B:CmpOp}{r L:R2}(ho:DB X (compareOp F) r)(J:DB X (compareOp B) L)(ha:PE X a ta)(hb:PE X b tb)(hc:PE X c tc)
  (hm:lastMarks [F,B] [b,c]=false:=by with_unfolding_all rfl):PT X (.Compare a [F,B] [b,c] pos) (Wg (Kr r L ta tb tc)):=by
 intro pins s U H Q I h
 refine isTrue_chain (thn (ha pins s U H _ I h) fun v Z ⟨x,H1,I1,r1,q1⟩=>test_link (thn (hb pins Z U H1 _ I1 q1) fun u s2 ⟨y,H2,I2,O,q2⟩=>
  thn (ho pins s2 U H2 x y v u _ I2 r1 O q2) fun d Y ⟨z,H3,I3,r3,k,e,M⟩=>?_)) hm
 subst e;cases r3;refine wpAny_truthy_bool ?_
 cases k with
 |false=>
  obtain⟨k',e',q'⟩:=M;cases e';exact ite_ff ⟨H3,I3,q'⟩
 |true=>
  refine ite_tt (test_last (thn (hc pins Y U H3 _ I3 M) fun w' s4 ⟨z',H4,I4,r4,q4⟩=>thn (J pins s4 U H4 y z' u w' _ I4 O r4 q4) fun d' s5 ⟨z2,H5,I5,r5,k2,e2,q5⟩=>?_));subst e2;cases r5;exact wpAny_truthy_bool ⟨H5,I5,q5⟩
theorem IS:(sizeLine:Nat)<2 ^ 63:=by rw[sizeLine_eq];decide
theorem vU:DB X (binaryOp .Add) (fun x y H Q=>∃i j,x=.str i/\y=.str j/\i.length+j.length<=sizeLine/\Q (.str (i++j)) H):=by
 intro pins s U H x y v u Q I F B h;obtain⟨i,j,rfl,rfl,hz,q⟩:=h;obtain⟨t,rfl⟩:=F;obtain⟨t',rfl⟩:=B;exact add_str (fun t' J=>⟨.str (i++j),H,I.tok _,⟨_,rfl⟩,q⟩) hz
theorem qm{x:V}{us:List Value}(r:Em [x] us):∃u,us=[u]/\El x u:=by
 cases r with
 |cons r1 r2=>cases r2;exact⟨_,rfl,r1⟩
theorem fq{x y:V}{us:List Value}(r:Em [x,y] us):∃u B,us=[u,B]/\El x u/\El y B:=by
 cases r with
 |cons r1 r2=>
  cases r2 with
  |cons r3 r4=>cases r4;exact⟨_,_,rfl,r1,r3⟩
theorem cF:Gr X (.builtin "abs") (fun xs H Q=>∃i,xs=[.int i]/\Q (.int (if i<0 then -i else i)) H):=by
 intro pins s U H xs us Q I r h;obtain⟨i,rfl,q⟩:=h;obtain⟨u,rfl,t,rfl⟩:=qm r;exact call_abs_int fun u B=>⟨.int (if i<0 then -i else i),H,I.tok _,⟨_,rfl⟩,q⟩
theorem yW(F:X.calm=true):Gr X (.builtin "max") (fun xs H Q=>∃i j,xs=[.int i,.int j]/\Q (.int (if j>i then j else i)) H):=by
 intro pins s U H xs us Q I r h;obtain⟨i,j,rfl,q⟩:=h;obtain⟨u,L,rfl,⟨t,rfl⟩,⟨t',rfl⟩⟩:=fq r;refine max_two_ints (I.ok.hd F) fun h' J k=>⟨_,H,I.kept k,?_,q⟩;by_cases B:j>i
 ·rw[if_pos B,if_pos B];exact⟨_,rfl⟩
 ·rw[if_neg B,if_neg B];exact⟨_,rfl⟩
theorem yX(F:X.calm=true):Gr X (.builtin "min") (fun xs H Q=>∃i j,xs=[.int i,.int j]/\Q (.int (if j<i then j else i)) H):=by
 intro pins s U H xs us Q I r h;obtain⟨i,j,rfl,q⟩:=h;obtain⟨u,L,rfl,⟨t,rfl⟩,⟨t',rfl⟩⟩:=fq r;refine min_two_ints (I.ok.hd F) fun h' J k=>⟨_,H,I.kept k,?_,q⟩;by_cases B:j<i
 ·rw[if_pos B,if_pos B];exact⟨_,rfl⟩
 ·rw[if_neg B,if_neg B];exact⟨_,rfl⟩
end
structure Sk(h:Heap)(x dx C:Addr)(mA:Str->Option Value):Prop where
 obj:h.get? x=some (PySem.W.instObj C dx)
 ns:h.Ns1 dx mA
 ne:dx≠x
set_option tactic.hygienic true in
theorem yY{h:Heap}{dx:Addr}{mA:Str->Option Value}(n:h.Ns1 dx mA):∃F,h.get? dx=some F/\∀name,PySem.W.lookIn name F=some (mA name):=by
 obtain⟨o,es,Z,Y,L,O,_,hm⟩:=n;refine⟨o,Y,fun name=>?_⟩;have e:=hm name;unfold nsFind findBy at e;rw[<- Array.find?_toList] at e;unfold PySem.W.lookIn;rw[L];dsimp only;split
 ·rename_i y q
  rw[q] at e;exact congrArg some e
 ·rename_i q
  rw[q] at e
  have a:es.toList.any (·.refKey)=false:=by
   rw[List.any_eq_false];intro y M;obtain⟨z,t,B⟩:=O y (Array.mem_toList_iff.mp M);simp[DictEntry.refKey,B]
  have J:¬es.toList.any (·.refKey)=true:=by rw[a];exact UA
  rw[if_neg J];exact congrArg some e
theorem Sk.look{h:Heap}{x dx C:Addr}{mA:Str->Option Value}(I:Sk h x dx C mA):∃B,PySem.W.InstAt h x (PySem.W.instObj C dx) C (some B)/\∀name,PySem.W.lookIn name B=some (mA name):=
 let ⟨B,ho,hl⟩:=yY I.ns
 ⟨B,⟨I.obj,rfl,rfl,ho⟩,hl⟩
section
variable{prog:Program}{w:World}{A:Around}{E:Value->Shared->Prop}{s:Shared}{K:W.Frag}{x dx C f:Addr}{mA:Str->Option Value}{name:Str}{v:Value}
theorem iw{B:Bool}{Q:Value->Shared->Prop}(X:K.In s.heap)(I:Sk s.heap x dx C mA)(M:PySem.W.plainGet K C name=true)(Y:PySem.W.hasDictIn K C=true)
  (O:W.findIn K (.ref C) name=some none) (L:mA name=some v) (F:PySem.W.handedIn v=true) (h:Q v { s with toks:=s.toks+1 }) :
  wpAny (model prog w) A (getAttr (.ref x) name B) Q E s:=by
 obtain⟨od,J,Z⟩:=I.look;exact PySem.W.get_value X J (PySem.W.plainGet_of M).1 (PySem.W.findObj_own Y O rfl (by rw[Z,L])) F h
theorem cG{pl:Sem Bool}{Q:Value×List Value->Shared->Prop}(X:K.In s.heap)(I:Sk s.heap x dx C mA)(B:PySem.W.plainGet K C name=true)
  (O:W.findIn K (.ref C) name=some (some (.ref f))) (L:PySem.W.isFn K (.ref f)=true) (M:mA name=none) (h:Q (.ref f,[.ref x]) s) :
  wpAny (model prog w) A (getMethod (.ref x) name pl) Q E s:=by
 obtain⟨F,J,Y⟩:=I.look;exact PySem.W.method_fn X J (PySem.W.plainGet_of B).1 (PySem.W.plainGet_of B).2 O (beq_iff_eq.mp L) (by show(PySem.W.lookIn name F).map (·.isSome)=some false;rw[Y,M];rfl) h
theorem iy{Z:List Str}{Q:Unit->Shared->Prop}(X:K.In s.heap)(I:Sk s.heap x dx C mA)
  (hs:W.findIn K (.ref C) "__setattr__"=some (some (.builtin "object.__setattr__"))) (hp:PySem.W.plainOver K C=true) (ht:PySem.W.takerIn K C name=some none) (hh:PySem.W.hasDictIn K C=true)
  (hw:PySem.Within mA Z) (hsz:Z.length<=sizeLine)
  (h:∀h',Sk h' x dx C (fun y=>if y=name then some v else mA y)->Heap.SameBut dx s.heap h'->Q () { s with heap:=h',toks:=s.toks+2 }) :
  wpAny (model prog w) A (setAttr (.ref x) name v) Q E s:=by
 obtain⟨od,J,hl⟩:=I.look;refine PySem.W.set_plain X J hs (PySem.W.osa_open (s:={ s with toks:=s.toks+1 }) (r:=none) X J hp ht fun b=>?_);obtain⟨cd,hc,L⟩:=PySem.W.any_some hh;have hx:s.heap.get? x=some ⟨.ref C,some dx,.plain,#[]⟩:=I.obj;refine Ua (Uj (Ua (Ua (wpAny_loadPart hx (Ua (PySem.W.Looks.here (s:={ s with toks:=s.toks+1 }) (PySem.W.looks_clsIn X hc) ?_))))));rw[L];refine Uj (a:=some dx) (Ua (Uj (Ua ?_)));refine wpAny_nsSet1 (s:={ s with toks:=s.toks+1 }) I.ns fun h' F B=>?_;obtain⟨oD,a0,a1,Y,M,O⟩:=F.count (PySem.Within.cons name v hw);refine Ua (wpAny_lookBehind Y (by rw[M];exact pastItsLine_dict (Uz O (by rw[Vd];omega))) ?_);exact Uj (h _ ⟨(B.2 _ (Ne.symm I.ne)).trans I.obj,F,I.ne⟩ B)
theorem cH{R:Result->Shared->Prop}{vs:List Value}{F:List (Str×Value)}(X:K.In s.heap)(hm:PySem.W.makesIn K C=true)
  (hi:W.findIn K (.ref C) "__init__"=some (some (.ref f))) (J:PySem.W.typeIn K (.ref f)=some (.type "function"))
  (h:codeAny (model prog w) (A.under (.builtin "type.__call__" ⟨.ref C::vs,F⟩)) (.call (.ref f) ⟨.ref (s.heap.objs.size+1)::vs,F⟩) (PySem.W.InitBack (s.heap.objs.size+1) R)
   { s with heap:=(s.heap.push PySem.W.emptyDict).push (PySem.W.instObj C s.heap.objs.size) }) :
  codeAny (model prog w) A (.call (.ref C) ⟨vs,F⟩) R s:=by
 obtain⟨M,g,d,t,L⟩:=s;exact PySem.W.make_core (PySem.W.makes_of X hm) (PySem.W.looks_findIn X hi) (fun B=>PySem.W.bind_fn X B J) (.inl rfl) h
end
noncomputable def GP(f:Str)(v:V):List (Str×V)->List (Str×V)
 | []=>[(f,v)]
 |(g,x)::r=>if g=f then(g,v)::r else(g,x)::GP f v r
theorem SC(f g:Str)(v:V):∀fs:List (Str×V),(GP f v fs).lookup g=if g=f then some v else fs.lookup g
 | []=>by
  show Vm g [(f,v)]=_;by_cases h:g=f
  ·have B:(g==f)=true:=beq_iff_eq.mpr h;simp only[Vm,B,if_pos h]
  ·have B:(g==f)=false:=beq_eq_false_iff_ne.mpr h;simp only[Vm,B,if_neg h]
 |(k,x)::r=>by
  have J:=SC f g v r;rw[show GP f v ((k,x)::r)=(if k=f then(k,v)::r else(k,x)::GP f v r) from rfl];by_cases F:k=f
  ·rw[if_pos F];by_cases h:g=k
   ·have B:(g==k)=true:=beq_iff_eq.mpr h;simp only[Vm,B,if_pos (h.trans F)]
   ·have B:(g==k)=false:=beq_eq_false_iff_ne.mpr h;simp only[Vm,B,if_neg (fun e:g=f=>h (e.trans F.symm))]
  ·rw[if_neg F];by_cases h:g=k
   ·have B:(g==k)=true:=beq_iff_eq.mpr h;simp only[Vm,B,if_neg (fun e:g=f=>F (h.symm.trans e))]
   ·have B:(g==k)=false:=beq_eq_false_iff_ne.mpr h;simp only[Vm,B];exact J
theorem Ks(f:Str)(v:V):∀fs:List (Str×V),f∈(GP f v fs).map (·.1)/\∀g,g∈fs.map (·.1)->g∈(GP f v fs).map (·.1)
 | []=>⟨by simp[GP],fun g h=>by simp at h⟩
 |(k,x)::r=>by
  obtain⟨J,F⟩:=Ks f v r;rw[show GP f v ((k,x)::r)=(if k=f then(k,v)::r else(k,x)::GP f v r) from rfl];by_cases B:k=f
  ·rw[if_pos B];subst B;exact⟨by simp,fun g h=>by simpa using h⟩
  ·rw[if_neg B];refine⟨?_,fun g h=>?_⟩
   ·rw[UK];exact Uf _ J
   ·rw[UK] at h ⊢;rcases Ud.mp h with e|e
    ·exact Ud.mpr (.inl e)
    ·exact Uf _ (F g e)
theorem SD(f:Str)(v:V):∀fs:List (Str×V),(GP f v fs).length<=fs.length+1
 | []=>by simp[GP]
 |(k,x)::r=>by
  have F:=SD f v r;rw[show GP f v ((k,x)::r)=(if k=f then(k,v)::r else(k,x)::GP f v r) from rfl];by_cases B:k=f
  ·rw[if_pos B,Vd,Vd];omega
  ·rw[if_neg B,Vd,Vd];omega
theorem Bl.some_of{v:V}{o:Option Value}(r:Bl (some v) o):∃u,o=some u/\El v u:=by
 cases o with
 |none=>exact(show False from r).elim
 |some u=>exact⟨u,rfl,r⟩
theorem Bl.none_of{o:Option Value}(r:Bl none o):o=none:=by
 cases o with
 |none=>rfl
 |some u=>exact(show False from r).elim
theorem yZ{v:V}{u:Value}(r:El v u):PySem.W.handedIn u=true:=by
 cases v with
 |non=>cases (show u=Value.none from r);rfl
 |bl b=>cases (show u=Value.bool b from r);rfl
 |int i=>obtain⟨t,e⟩:=(show ∃t,u=Value.int i t from r);cases e;rfl
 |str x=>obtain⟨t,e⟩:=(show ∃t,u=Value.str x t from r);cases e;rfl
 |byt b=>obtain⟨t,e⟩:=(show ∃t,u=Value.bytes b t from r);cases e;rfl
 |flt b=>obtain⟨t,e⟩:=(show ∃t,u=Value.float b t from r);cases e;rfl
 |ref a=>cases (show u=Value.ref a from r);rfl
 |ty n=>cases (show u=Value.type n from r);rfl
section
variable{P:Program}{w:World}{H H':Hp}{h h':Heap}{a C dx:Addr}{fs fs':List (Str×V)}
theorem Ll(B:BA P w H h)(e:H a=some (.ins C dx fs)):∃mA,Sk h a dx C mA/\(∀f,Bl (fs.lookup f) (mA f))/\PySem.Within mA (fs.map (·.1))/\fs.length<=1000/\H dx=some (.own a):=by
 obtain⟨d,z,ne,ob,mA,n,r,q⟩:=(show Gj P w H h a (.ins C dx fs) from B a _ e);exact⟨mA,⟨ob,n,ne⟩,r,q,z,d⟩
end
structure CM(K:W.Frag)(C:Addr):Prop where
 pg:PySem.W.plainGet K C Str.empty=true
 hd:PySem.W.hasDictIn K C=true
 po:PySem.W.plainOver K C=true
 sa:W.findIn K (.ref C) "__setattr__"=some (some (.builtin "object.__setattr__"))
theorem CM.get{K:W.Frag}{C:Addr}(c:CM K C)(f:Str):PySem.W.plainGet K C f=true:=c.pg
def Gp(K:W.Frag)(C:Addr)(f:Str):Prop:=W.findIn K (.ref C) f=some none
theorem Gp.taker{K:W.Frag}{C:Addr}{f:Str}(n:Gp K C f):PySem.W.takerIn K C f=some none:=by
 unfold PySem.W.takerIn;rw[show W.findIn K (.ref C) f=some none from n];rfl
structure DC(K:W.Frag)(C:Addr)(m:Str)(f:Addr):Prop where
 at_:W.findIn K (.ref C) m=some (some (.ref f))
 fn:PySem.W.isFn K (.ref f)=true
 kp:W.keepIn K (.ref f)=true
section
variable{X:Cx}{pins:List (Addr×Obj)}{U:St}{H:Hp}{s:Shared}{a C dx:Addr}{fs:List (Str×V)}{f:Str}{v:V}{A:Around}{E:Value->Shared->Prop}
theorem Wh{b:Bool}{Q:Value->Shared->Prop}(I:Inv X pins U H s)(e:H a=some (.ins C dx fs))(c:CM X.K C)(n:Gp X.K C f)(l:fs.lookup f=some v)
  (h:∀u s',Inv X pins U H s'->El v u->Q u s'):wpAny (model X.prog X.w) A (getAttr (.ref a) f b) Q E s:=by
 obtain⟨mA,O,r,_,_,_⟩:=Ll I.hok e;obtain⟨u,F,B⟩:=Bl.some_of (v:=v) (o:=mA f) (by rw[<- l];exact r f);exact iw I.kIn O (c.get f) c.hd n F (yZ B) (h u _ (I.tok _) B)
theorem Wi{m:Str}{g:Addr}{pl:Sem Bool}{Q:Value×List Value->Shared->Prop}(I:Inv X pins U H s)(e:H a=some (.ins C dx fs))(c:CM X.K C)(k:DC X.K C m g)(l:fs.lookup m=none)
  (h:Q (.ref g,[.ref a]) s):wpAny (model X.prog X.w) A (getMethod (.ref a) m pl) Q E s:=by
 obtain⟨mA,O,r,_,_,_⟩:=Ll I.hok e;have B:mA m=none:=Bl.none_of (by rw[<- l];exact r m);exact cG I.kIn O (c.get m) k.at_ k.fn B h
theorem Wj{y:V}{u:Value}{Q:Unit->Shared->Prop}(I:Inv X pins U H s)(e:H a=some (.ins C dx fs))(c:CM X.K C)(n:Gp X.K C f)(Z:fs.length<1000)(J:El y u)
  (h:∀s',Inv X pins U (upd H a (.ins C dx (GP f y fs))) s'->Q () s'):wpAny (model X.prog X.w) A (setAttr (.ref a) f u) Q E s:=by
 obtain⟨mA,O,r,B,_,F⟩:=Ll I.hok e;have hz:(fs.map (·.1)).length<=sizeLine:=by rw[Ug,sizeLine_eq];omega
 refine iy I.kIn O c.sa c.po n.taker c.hd B hz fun h' O' sb=>h _ ?_;have M:∃o,h'.get? dx=some o:=let ⟨o,_,_,e',_⟩:=O'.ns;⟨o,e'⟩
 refine I.write (x:=a) (e:=dx) (by rw[e];exact True.intro) (.inr F) (fun b q Y z=>(sb.2 b Y).trans z) M ?_;refine⟨by rw[Ep O.ne];exact F,?_,O.ne,O'.obj,_,O'.ns,fun g=>?_,fun g L=>?_⟩
 ·have:=SD f y fs;omega
 ·show Bl ((GP f y fs).lookup g) (if g=f then some u else mA g);rw[SC];by_cases q:g=f
  ·rw[if_pos q,if_pos q];exact J
  ·rw[if_neg q,if_neg q];exact r g
 ·by_cases q:g=f
  ·rw[q];exact(Ks f y fs).1
  ·refine(Ks f y fs).2 g (B g fun z=>L ?_);show(if g=f then some u else mA g)=none;rw[if_neg q];exact z
theorem Inv.made(I:Inv X pins U H s):Inv X pins U (upd (upd H s.heap.objs.size (.own (s.heap.objs.size+1))) (s.heap.objs.size+1) (.ins C s.heap.objs.size []))
  { s with heap:=(s.heap.push PySem.W.emptyDict).push (PySem.W.instObj C s.heap.objs.size) }:=by
 have B:(s.heap.push PySem.W.emptyDict).get? s.heap.objs.size=some PySem.W.emptyDict:=Ul s.heap rfl
 have F:((s.heap.push PySem.W.emptyDict).push (PySem.W.instObj C s.heap.objs.size)).get? (s.heap.objs.size+1)=some (PySem.W.instObj C s.heap.objs.size):=by
  have:=Ul (s.heap.push PySem.W.emptyDict) (o:=PySem.W.instObj C s.heap.objs.size) rfl
  rwa [UZ] at this
 have M:(s.heap.push PySem.W.emptyDict).Ns s.heap.objs.size (fun _=>none):=⟨PySem.W.emptyDict,#[],_,B,rfl,(fun e L=>absurd L (by simp)),fun _=>rfl⟩;have I1:=I.laid (a:=s.heap.objs.size) (o:=.own (s.heap.objs.size+1)) (h':=s.heap.push PySem.W.emptyDict) (t':=s.toks) (fun b u q=>Uc _ q) (Ue _) ⟨_,B⟩;refine I1.laid (a:=s.heap.objs.size+1) (o:=.ins C s.heap.objs.size []) (t':=s.toks) (fun b u q=>Uc _ q) (Nat.le_of_eq (UZ _ _)) ?_;have ne:s.heap.objs.size≠s.heap.objs.size+1:=Ut (Nat.lt_succ_self _);refine⟨by rw[Ep ne,EW],UX _,ne,F,fun _=>none,(Heap.Ns1.of_empty M).at fun o q=>Uc _ q,fun _=>True.intro,fun y J=>absurd rfl J⟩
theorem iz{prog:Program}{w:World}{env:Env}{e:Expr}{f:Str}{pos:Pos}{s:Shared}{Q:Value->Shared->Prop}(B:attributeBase e f env (eval e env)=eval e env)
  (h:wpAny (model prog w) A (eval e env) (fun o s₁=>wpAny (model prog w) A (getAttr o f true) Q E s₁) E s):wpAny (model prog w) A (eval (.Attribute e f pos) env) Q E s:=
 Attribute_any_ h (by rw[arm_eval_Attribute,B])
end
def cI(K:W.Frag)(ta:TE)(f:Str):TE:=fun U H Q=>ta U H fun x H1=>∃a C dx fs v,x=.ref a/\H1 a=some (.ins C dx fs)/\CM K C/\Gp K C f/\fs.lookup f=some v/\Q v H1
def cJ(K:W.Frag)(ta tv:TE)(f:Str):TS:=fun D U H=>tv U H fun y H1=>ta U H1 fun x H2=>∃a C dx fs,x=.ref a/\H2 a=some (.ins C dx fs)/\CM K C/\Gp K C f/\fs.length<1000/\
 D.nx U (upd H2 a (.ins C dx (GP f y fs)))
def na(X:Cx)(op:Operator)(rd:V->V->Hp->VK->Prop):Prop:=
 ∀(pins:List (Addr×Obj)) (s:Shared) (U:St) (H:Hp) (x y:V) (u v:Value) (Q:VK),Inv X pins U H s->El x u->El y v->rd x y H Q->wpAny (model X.prog X.w) X.A (inplaceOp op u v) (EP X pins U Q) X.xe s
def Xm(K:W.Frag)(ta tv:TE)(rd:V->V->Hp->VK->Prop)(f:Str):TS:=fun D U H=>ta U H fun x H1=>∃a C dx fs v,x=.ref a/\H1 a=some (.ins C dx fs)/\CM K C/\Gp K C f/\fs.lookup f=some v/\
 tv U H1 fun y H2=>rd v y H2 fun z H3=>∃dx' fs',H3 a=some (.ins C dx' fs')/\fs'.length<1000/\D.nx U (upd H3 a (.ins C dx' (GP f z fs')))
section
variable{X:Cx}{o e value:Expr}{f:Str}{pos pos' tpos:Pos}{ta tv:TE}
theorem nc(F:PE X e ta)(J:attributeBase e f X.env (eval e X.env)=eval e X.env):PE X (.Attribute e f pos) (cI X.K ta f):=by
 intro pins s U H Q I h;refine iz J (thn (F pins s U H _ I h) fun u Y ⟨x,H1,I1,B,a,C,dx,fs,v,ex,L,c,n,l,q⟩=>?_);subst ex;obtain rfl:u=Value.ref a:=B;exact Wh I1 L c n l fun O Z I2 M=>⟨v,H1,I2,M,q⟩
theorem ng(O:PE X o ta)(Z:PE X value tv)(L:swapsWith value (some (.Attribute o f pos')) pos.line X.env=pure false):PS X (.Assign [.Attribute o f pos'] value pos) (cJ X.K ta tv f):=by
 intro pins s U H D I h;refine plainObj_wpAny_Assign_Attribute (thn (Z pins s U H _ I h) fun u F ⟨y,H1,I1,B,q⟩=>thn (O pins F U H1 _ I1 q) fun M s2 ⟨x,H2,I2,J,a,C,dx,fs,ex,ea,c,n,l,Y⟩=>?_) L;subst ex;obtain rfl:M=Value.ref a:=J;exact Wj I2 ea c n l B fun s3 I3=>⟨U,_,I3,Y⟩
theorem ya{L:Operator}{J:V->V->Hp->VK->Prop}(ha:PE X o ta)(hv:PE X value tv)(F:na X L J):PS X (.AugAssign (.Attribute o f tpos) L value pos) (Xm X.K ta tv J f):=by
 intro pins s U H D I h;refine wpAny_AugAssign_AttributeAny (thn (ha pins s U H _ I h) fun ov s1 ⟨x,H1,I1,rx,a,C,dx,fs,v,ex,ea,c,n,l,q⟩=>?_);subst ex;obtain rfl:ov=Value.ref a:=rx;refine Wh I1 ea c n l fun u s2 I2 ru=>thn (hv pins s2 U H1 _ I2 q) fun Y O ⟨y,H2,I3,M,q3⟩=>thn (F pins O U H2 v y u Y _ I3 ru M q3) fun w4 s4 ⟨z,H3,I4,Z,a0,fs',B,l',q4⟩=>?_;exact Wj I4 B c n l' Z fun s5 I5=>⟨U,_,I5,q4⟩
def jB:V->V->Hp->VK->Prop:=fun x y H Q=>∃i j,x=.int i/\y=.int j/\Q (.int (i+j)) H
theorem nh:na X .Add jB:=by
 rintro pins s U H x y u v Q I F B ⟨i,j,rfl,rfl,q⟩;obtain⟨t,rfl⟩:=(show ∃t,u=Value.int i t from F);obtain⟨t',rfl⟩:=(show ∃t',v=Value.int j t' from B);exact PyProof.Rows.iadd_int ⟨.int (i+j),H,I.tok _,⟨_,rfl⟩,q⟩
end
section
variable{X:Cx}{pins:List (Addr×Obj)}{U:St}{H:Hp}{s:Shared}{A:Around}{E:Value->Shared->Prop}{Q:Value->Shared->Prop}{c:Value}{b:Bool}
inductive Aa (K:W.Frag) (H:Hp):V->Value->Prop where
 |non:Aa K H .non (.type "NoneType")
 |bl (x:Bool):Aa K H (.bl x) (.type "bool")
 |int (i:Int):Aa K H (.int i) (.type "int")
 |str (x:Str):Aa K H (.str x) (.type "str")
 |flt (x:UInt64):Aa K H (.flt x) (.type "float")
 |lst {a:Addr} {xs:List V} (e:H a=some (.lst xs)):Aa K H (.ref a) (.type "list")
 |frz {a:Addr} {o:Obj} {xs:List V} (e:H a=some (.frz o (.lst xs))):Aa K H (.ref a) (.type "list")
 |tup {a:Addr} {xs:List V} (e:H a=some (.tup xs)):Aa K H (.ref a) (.type "tuple")
 |dK {a:Addr} {kvs:List (Ef×V)} (e:H a=some (.dK kvs)):Aa K H (.ref a) (.type "dict")
 |dT {a:Addr} {kvs:List (List Ef×V)} (e:H a=some (.dT kvs)):Aa K H (.ref a) (.type "dict")
 |ins {a C dx:Addr} {fs:List (Str×V)} (e:H a=some (.ins C dx fs)) (cl:CM K C) (ha:W.findIn K (.ref C) "__class__"=some (some (.builtin "object.__class__")))
  (hn:PySem.W.specialIn K (.builtin "object.__class__") "__get__"=some (some (.builtin "getset_descriptor.__get__"))) (htk:PySem.W.takesIn K (.builtin "object.__class__")=some true)
  (hm:PySem.W.mroIn K C (.type "object")=some true):Aa K H (.ref a) (.ref C)
theorem yb{x:V}{u t:Value}(I:Inv X pins U H s)(B:El x u)(ty:Aa X.K H x t)(e:W.kitOne X.K t c=some b)(h:∀F,Q (.bool b) { s with toks:=F }) :
  wpAny (model X.prog X.w) A (call (.builtin "isinstance") [u,c]) Q E s:=by
 cases ty with
 |non=>cases (show u=Value.none from B);exact PySem.W.kia_one PySem.W.kitx_none I.kIn True.intro e (fun z=>nomatch z) h
 |bl y=>cases (show u=Value.bool y from B);exact PySem.W.kia_one PySem.W.kitx_bool I.kIn True.intro e (fun z=>nomatch z) h
 |int i=>obtain⟨t,q⟩:=(show ∃t,u=Value.int i t from B);cases q;exact PySem.W.kia_one PySem.W.kitx_int I.kIn True.intro e (fun z=>nomatch z) h
 |str y=>obtain⟨t,q⟩:=(show ∃t,u=Value.str y t from B);cases q;exact PySem.W.kia_one PySem.W.kitx_str I.kIn True.intro e (fun z=>nomatch z) h
 |flt y=>obtain⟨t,q⟩:=(show ∃t,u=Value.float y t from B);cases q;exact PySem.W.kia_one PySem.W.kitx_float I.kIn True.intro e (fun z=>nomatch z) h
 | @lst a xs ea=>
  cases (show u=Value.ref a from B);obtain⟨_,_,n,_,h1⟩:=(show Gj X.prog X.w H s.heap a (.lst xs) from I.hok a _ ea);exact PySem.W.kia_one PySem.W.kitx_list I.kIn ⟨_,h1,rfl⟩ e (fun z=>nomatch z) h
 | @frz a ob xs ea=>
  cases (show u=Value.ref a from B);obtain⟨_,_,_,n,_,h1⟩:=(show Gj X.prog X.w H s.heap a (.frz ob (.lst xs)) from I.hok a _ ea);exact PySem.W.kia_one PySem.W.kitx_list I.kIn ⟨_,h1,rfl⟩ e (fun z=>nomatch z) h
 | @tup a xs ea=>
  cases (show u=Value.ref a from B);obtain⟨_,_,_,p⟩:=(show Gj X.prog X.w H s.heap a (.tup xs) from I.hok a _ ea);obtain⟨o,h1,h2,_⟩:=p;exact PySem.W.kia_one PySem.W.kitx_tuple I.kIn ⟨o,h1,h2⟩ e (fun z=>nomatch z) h
 | @dK a kvs ea=>
  cases (show u=Value.ref a from B);obtain⟨_,_,vs,_,p⟩:=(show Gj X.prog X.w H s.heap a (.dK kvs) from I.hok a _ ea);obtain⟨o,es,L,h1,h2,_⟩:=p;exact PySem.W.kia_one PySem.W.kitx_dict I.kIn ⟨o,h1,h2.1⟩ e (fun z=>nomatch z) h
 | @dT a kvs ea=>
  cases (show u=Value.ref a from B);obtain⟨_,_,xs,_,o,es,L,h1,h2,_⟩:=(show Gj X.prog X.w H s.heap a (.dT kvs) from I.hok a _ ea);exact PySem.W.kia_one PySem.W.kitx_dict I.kIn ⟨o,h1,h2.1⟩ e (fun z=>nomatch z) h
 | @ins a C dx fs ea cl ha hn htk hm=>
  cases (show u=Value.ref a from B);obtain⟨mA,O,_⟩:=Ll I.hok ea;obtain⟨M,J,_⟩:=O.look;exact PySem.W.kia_one (PySem.W.kitx_own (cl.get _) cl.hd ha hn htk hm) I.kIn J e (fun z=>nomatch z) h
end
structure Room(k:Nat)(A:Around):Prop where
 hd:A.handled=none
 dp:A.depth+3*k+5<recursionLimit
 un:A.units+16*k+200<cLine
 gd:A.guards=some []
theorem Room.mono{j k:Nat}{A:Around}(r:Room k A)(h:j<=k):Room j A:=⟨r.hd,by have:=r.dp;omega,by have:=r.un;omega,r.gd⟩
theorem Room.deeper{k:Nat}{A:Around}(r:Room (k+1) A)(env:Env):Room k (A.deeper env):=
 ⟨r.hd,by have:=r.dp;show A.depth+1+3*k+5<_;omega,by have:=r.un;show A.units+3+16*k+200<_;omega,r.gd⟩
theorem Room.in1{k:Nat}{A:Around}(r:Room (k+1) A):Room k A.in1:=
 ⟨r.hd,by have:=r.dp;show A.depth+3*k+5<_;omega,by have:=r.un;show A.units+1+16*k+200<_;omega,r.gd⟩
theorem vV{A:Around}{C:Addr}{us:List Value}{B:List (Str×Value)}:(A.under (.builtin "type.__call__" ⟨.ref C::us,B⟩)).depth=A.depth+1:=by
 first|rfl|simp[Around.under,Code.weight,Code.isCreation,Code.isGuard,Code.isCaller,Code.frames,Code.isFrame,guardIds]
theorem vW{A:Around}{C:Addr}{us:List Value}{B:List (Str×Value)}:(A.under (.builtin "type.__call__" ⟨.ref C::us,B⟩)).units=A.units+1:=by
 first|rfl|simp[Around.under,Code.cUnits,Code.frames,Code.isFrame]
theorem xr{A:Around}{C:Addr}{us:List Value}{B:List (Str×Value)}:(A.under (.builtin "type.__call__" ⟨.ref C::us,B⟩)).guards=A.guards:=by
 have e:pushGuards [] A.guards=A.guards:=by cases A.guards<;>rfl
 first|exact e|rfl|simp[Around.under,Code.guards,Code.isGuard,guardIds,pushGuards]
theorem Room.make{k:Nat}{A:Around}(r:Room (k+1) A)(C:Addr)(us:List Value)(B:List (Str×Value)):Room k (A.under (.builtin "type.__call__" ⟨.ref C::us,B⟩)):=
 ⟨r.hd,by have:=r.dp;rw[vV];omega,by have:=r.un;rw[vW];omega,(xr).trans r.gd⟩
theorem Room.depth{k:Nat}{A:Around}(r:Room k A):A.depth<recursionLimit:=by have:=r.dp;omega
theorem Room.units{k:Nat}{A:Around}(r:Room k A):A.units+64<cLine:=by have:=r.un;omega
def Sl:TA:=fun _ H Q=>Q [] H
def qo(ta:TE)(tr:TA):TA:=fun U H Q=>ta U H fun x H1=>tr U H1 fun xs H2=>Q (x::xs) H2
section
variable{X:Cx}{e:Expr}{es:List Expr}{te:TE}{t:TA}{pos:Pos}
theorem ni:PA X [] Sl:=fun _ _ _ _ H Q I h=>Calls.spliced_nil ⟨[],H,I,.nil,h⟩
theorem kA(L:PE X e te)(Z:PA X es t)(B:starEach (e::es) X.env=(false,eval e X.env)::starEach es X.env:=by rfl):PA X (e::es) (qo te t):=by
 intro pos pins s U H Q I h;rw[B];show wpAny _ _ (spliced ((false,eval e X.env)::backTo pos (starEach es X.env))) _ _ s;refine Calls.spliced_cons (thn (L pins s U H _ I h) fun u F ⟨x,H1,I1,J,O⟩=>?_);exact thn (Z pos pins F U H1 _ I1 O) fun us s2 ⟨xs,H2,I2,Y,M⟩=>⟨x::xs,H2,I2,.cons J Y,M⟩
def cK(t:TA):TE:=fun U H Q=>t U H fun xs H1=>xs.length<=sizeLine/\∀p,H1 p=none->Q (.ref p) (upd H1 p (.tup xs))
def cL(t:TA):TE:=fun U H Q=>t U H fun xs H1=>xs.length<=sizeLine/\∀p,H1 p=none->Q (.ref p) (upd H1 p (.lst xs))
theorem nj{x1}(h:PA X es t):PE X (.Tuple es x1 pos) (cK t):=by
 intro pins s U H Q I F;refine wpAny_Tuple_spliced (thn (h pos pins s U H _ I F) fun us B ⟨xs,H1,I1,r,z,q⟩=>⟨by rw[<- r.length];exact z,?_⟩);have J:H1 B.heap.objs.size=none:=I1.hok.fresh (Ue _);refine⟨.ref B.heap.objs.size,upd H1 B.heap.objs.size (.tup xs),I1.laid (t':=B.toks) (fun b u e=>Uc _ e) (Ue _) ?_,rfl,q _ J⟩;exact⟨⟨z,fun _=>⟨_,Ul _ rfl,rfl,rfl⟩⟩,us,r,⟨_,Ul _ rfl,rfl,_,rfl⟩⟩
theorem nn(h:PA X es t):PE X (.List es pos) (cL t):=by
 intro pins s U H Q I J;refine wpAny_List_spliced (thn (h pos pins s U H _ I J) fun us B ⟨xs,H1,I1,r,z,q⟩=>⟨by rw[<- r.length];exact z,?_⟩);have F:H1 B.heap.objs.size=none:=I1.hok.fresh (Ue _);refine⟨.ref B.heap.objs.size,upd H1 B.heap.objs.size (.lst xs),I1.laid (t':=B.toks) (fun b u e=>Uc _ e) (Ue _) ?_,rfl,q _ F⟩;exact⟨z,us,0,r,Ul _ rfl⟩
end
abbrev Sp:=List V->Hp->VK->XK->Prop
abbrev HC:=List Env->Hp->Shared->XK->Value->Shared->Prop
structure ID(P:Program)(w:World)(K:W.Frag)(mg:Str->Option Value)(base:Heap)(A:Around)(outer:List Env)(s:Shared)(H:Hp):Prop where
 frames:A.frames=some outer
 mod:Mod K mg base
 bs:∀b o,base.get? b=some o->s.heap.get? b=some o/\H b=none
 bsz:base.objs.size<=s.heap.objs.size
 funs:s.heap.FunFrames base outer
 frf:∀b∈IQ outer,H b=none
 hok:BA P w H s.heap
 bare:AllBare s.gens
def CE(outer:List Env)(P:Program)(w:World)(H:Hp)(s:Shared)(Q:VK)(u:Value)(s':Shared):Prop:=
 ∃v H',s'.os=s.os/\AllBare s'.gens/\Un (IQ outer) [] H H' s.heap s'.heap/\BA P w H' s'.heap/\El v u/\Q v H'
def CR(CX:HC)(outer:List Env)(P:Program)(w:World)(H:Hp)(s:Shared)(Q:VK)(E:XK)(r:Result)(s':Shared):Prop:=
 match r with
 | .ok (.ret u)=>CE outer P w H s Q u s'
 | .ok _=>False
 | .error e=>CX outer H s E e s'
structure Ec(P:Program)(w:World)(K:W.Frag)(mg:Str->Option Value)(base:Heap)(CX:HC)(k:Nat)(f:Addr)(fd:FuncData)(ps:List Str)(sp:Sp):Prop where
 len:∀vs H Q E,sp vs H Q E->vs.length=ps.length
 run:∀(A:Around) (outer:List Env) (s:Shared) (H:Hp) (args:Args) (us:List Value) (vs:List V) (Q:VK) (E:XK),Room k A->ID P w K mg base A outer s H->BindsTo s fd args (ps.zip us)->Em vs us->sp vs H Q E ->
  codeAny (model P w) A (.call (.ref f) args) (CR CX outer P w H s Q E) s
theorem ID.make{P:Program}{w:World}{K:W.Frag}{mg:Str->Option Value}{base:Heap}{A:Around}{B:List Env}{s:Shared}{H:Hp}(e:ID P w K mg base A B s H)(C:Addr)(us:List Value)(F:List (Str×Value)) :
 ID P w K mg base (A.under (.builtin "type.__call__" ⟨.ref C::us,F⟩)) B s H:=⟨by first|exact e.frames|(simpa[Around.under,Code.envs,Code.isFrame,pushEnvs] using e.frames),e.mod,e.bs,e.bsz,e.funs,e.frf,e.hok,e.bare⟩
theorem ID.in1{P:Program}{w:World}{K:W.Frag}{mg:Str->Option Value}{base:Heap}{A:Around}{B:List Env}{s:Shared}{H:Hp}(e:ID P w K mg base A B s H) :
 ID P w K mg base A.in1 B s H:=⟨e.frames,e.mod,e.bs,e.bsz,e.funs,e.frf,e.hok,e.bare⟩
section
variable{X:Cx}{pins:List (Addr×Obj)}{U:St}{H:Hp}{s s':Shared}
theorem Inv.env0(I:Inv X pins U H s):ID X.prog X.w X.K X.mg X.base X.A X.stack s H:=
 ⟨I.ok.frames,I.ok.mod,I.bs,Uz I.ok.bsz I.sz,I.stack,I.stkFree,I.hok,I.bare⟩
theorem Inv.after{Q:VK}{u:Value}(I:Inv X pins U H s)(h:CE X.stack X.prog X.w H s Q u s'):EP X pins U Q u s':=by
 obtain⟨v,H',M,B,un,J,r,q⟩:=h;obtain⟨L,g,d,t,F⟩:=s';obtain rfl:F=s.os:=M;exact⟨v,H',I.call (h':=L) (g':=g) (d':=d) (t':=t) (ch:=[]) un J B (fun b z=>absurd z (by simp)),r,q⟩
end
def Wk(sp:Sp)(dvs:List V)(E:XK)(t:TA):TE:=fun U H Q=>t U H fun vs H1=>sp (vs++dvs) H1 Q E
def Wl(C:Addr)(m:Str)(sp:Sp)(dvs:List V)(E:XK)(ta:TE)(t:TA):TE:=fun U H Q=>ta U H fun x H1=>∃a dx fs,x=.ref a/\H1 a=some (.ins C dx fs)/\fs.lookup m=none/\
 t U H1 fun vs H2=>sp (x::(vs++dvs)) H2 Q E
def Wm(C:Addr)(sp:Sp)(dvs:List V)(E:XK)(t:TA):TE:=fun U H Q=>t U H fun vs H1=>∀x dx,H1 x=none->H1 dx=none->dx≠x ->
 sp (.ref x::(vs++dvs)) (upd (upd H1 dx (.own x)) x (.ins C dx [])) (fun v H2=>v=.non/\Q (.ref x) H2) E
def EX(K:W.Frag)(fd:FuncData)(ps:List Str)(ds:List Value):Prop:=
 ∀(s:Shared) (us:List Value),K.In s.heap->(us++ds).length=ps.length->BindsTo s fd ⟨us,[]⟩ (ps.zip (us++ds))
theorem EX.all{K:W.Frag}{fd:FuncData}{ps:List Str}(h:∀us:List Value,us.length=ps.length->bindArgs fd ⟨us,[]⟩=pure (ps.zip us)):EX K fd ps []:=fun s us _ B=>by
 rw[UF] at B ⊢;exact .of_eq (h us B)
def BN(CX:HC)(X:Cx)(E:XK):Prop:=∀(pins:List (Addr×Obj)) (U:St) (H:Hp) (s:Shared) (e:Value) (s':Shared),Inv X pins U H s->CX X.stack H s E e s'->X.xe e s'
section
variable{X:Cx}{CX:HC}{k:Nat}{f C:Addr}{fd:FuncData}{ps:List Str}{sp:Sp}{dvs:List V}{ds:List Value}{E:XK}{x m:Str}{p pos apos:Pos}{e o:Expr}{es:List Expr}{ta:TE}{t:TA}
theorem jC{pins:List (Addr×Obj)}{U:St}{H:Hp}{s:Shared}{Q:VK}{us:List Value}{vs:List V}(F:Ec X.prog X.w X.K X.mg X.base CX k f fd ps sp)(M:Room k X.A)(Y:EX X.K fd ps ds)(O:Em dvs ds)(L:BN CX X E)
  (I:Inv X pins U H s) (r:Em vs us) (h:sp (vs++dvs) H Q E):wpAny (model X.prog X.w) X.A (call (.ref f) us) (EP X pins U Q) X.xe s:=by
 have J:Em (vs++dvs) (us++ds):=r.append O;have Z:(us++ds).length=ps.length:=by rw[<- J.length];exact F.len _ _ _ _ h
 refine wpAny_call (codeAny_mono (F.run X.A X.stack s H ⟨us,[]⟩ (us++ds) (vs++dvs) Q E M I.env0 (Y s us I.kIn Z) J h) fun r s' B=>?_)
 cases r with
 |error e=>exact L pins U H s e s' I B
 |ok fl=>
  cases fl with
  |ret u=>exact I.after B
  |next=>exact False.elim B
  |brk=>exact False.elim B
  |cont=>exact False.elim B
theorem kB(F:Ec X.prog X.w X.K X.mg X.base CX k f fd ps sp)(hr:Room k X.A)(Y:Gl X x)(hm:X.mg x=some (.ref f))(hk:W.keepIn X.K (.ref f)=true)(O:EX X.K fd ps ds)(hd:Em dvs ds)(L:BN CX X E)
  (Z:PA X (e::es) t) (J:(x==("__debug__":Str))=false:=by decide) (M:starEach (e::es) X.env=(false,eval e X.env)::starEach es X.env:=by rfl) (B:(backTo pos (starEach es X.env)).any (·.1)=false:=by rfl) :
  PE X (.Call (.Name x p) (e::es) [] pos) (Wk sp dvs E t):=by
 intro pins s U H Q I h;refine wpAny_Call_Name_kw (Fx I Y hm ?_ J);refine PySem.W.callWith_K (h₀:=X.base) I.ok.mod.kin hk (thn (Z pos pins s U H _ I h) fun us s1 ⟨vs,H1,I1,r,q⟩=>⟨I1.kIn,?_⟩) M B;exact jC F hr O hd L I1 r q
theorem kC{pl:Sem Bool}(he:PE X o ta)(c:CM X.K C)(hm:DC X.K C m f)(F:Ec X.prog X.w X.K X.mg X.base CX k f fd ps sp)(hr:Room k X.A)(hb:EX X.K fd ps ds)(Y:Em dvs ds)(L:BN CX X E)(ha:PA X (e::es) t)
  (J:starEach (e::es) X.env=(false,eval e X.env)::starEach es X.env:=by rfl) (B:(backTo pos (starEach es X.env)).any (·.1)=false:=by rfl)
  (ht:eval (.Call (.Attribute o m apos) (e::es) [] pos) X.env=(do
   let ov <- eval o X.env
   standAt apos.atName
   let (f,first) <- holding [ov] (getMethod ov m pl)
   callWith pos f first (backTo pos (starEach (e::es) X.env)) (backToKw pos (keywordEach [] X.env))):=by rfl) :
  PE X (.Call (.Attribute o m apos) (e::es) [] pos) (Wl C m sp dvs E ta t):=by
 intro pins s U H Q I h;refine PySem.W.methodCall_KW (pl:=pl) (thn (he pins s U H _ I h) fun u M ⟨x,H1,I1,rx,a,dx,fs,ex,Z,l,q⟩=>?_) ht;subst ex;obtain rfl:u=Value.ref a:=rx;refine Wi I1 Z c hm l ?_;refine PySem.W.callWith_K (first:=[.ref a]) (h₀:=X.base) I.ok.mod.kin hm.kp (thn (ha pos pins M U H1 _ I1 q) fun us s2 ⟨vs,H2,I2,r,O⟩=>⟨I2.kIn,?_⟩) J B;exact jC (us:=.ref a::us) (vs:=.ref a::vs) F hr hb Y L I2 (.cons rfl r) O
theorem cM{pl:Sem Bool}(L:PE X o ta)(c:CM X.K C)(hm:DC X.K C m f)(F:Ec X.prog X.w X.K X.mg X.base CX k f fd ps sp)(Z:Room k X.A)(M:EX X.K fd ps ds)(Y:Em dvs ds)(B:BN CX X E)
  (O:eval (.Call (.Attribute o m apos) [] [] pos) X.env=(do
   let ov <- eval o X.env
   standAt apos.atName
   let (f,first) <- holding [ov] (getMethod ov m pl)
   callWith pos f first (backTo pos (starEach [] X.env)) (backToKw pos (keywordEach [] X.env))):=by rfl) :
  PE X (.Call (.Attribute o m apos) [] [] pos) (Wl C m sp dvs E ta Sl):=by
 intro pins s U H Q I h;refine PySem.W.methodCall_KW (pl:=pl) (thn (L pins s U H _ I h) fun u s1 ⟨x,H1,I1,J,a,dx,fs,ex,ea,l,q⟩=>?_) O;subst ex;obtain rfl:u=Value.ref a:=J;refine Wi I1 ea c hm l ?_;exact PySem.W.callWith_K0 (first:=[.ref a]) I1.kIn hm.kp (jC (us:=[.ref a]) (vs:=[.ref a]) F Z M Y B I1 (.cons rfl .nil) q)
structure Mk(K:W.Frag)(C f:Addr):Prop where
 makes:PySem.W.makesIn K C=true
 init:W.findIn K (.ref C) "__init__"=some (some (.ref f))
 fn:PySem.W.isFn K (.ref f)=true
 kp:W.keepIn K (.ref C)=true
theorem jD{pins:List (Addr×Obj)}{U:St}{H:Hp}{s:Shared}{Q:VK}{us:List Value}{vs:List V}(M:Mk X.K C f)(F:Ec X.prog X.w X.K X.mg X.base CX k f fd ps sp)(hr:Room (k+1) X.A)(Z:EX X.K fd ps ds)(hd:Em dvs ds)
  (O:BN CX X E) (I:Inv X pins U H s) (r:Em vs us)
  (h:∀x dx,H x=none->H dx=none->dx≠x->sp (.ref x::(vs++dvs)) (upd (upd H dx (.own x)) x (.ins C dx [])) (fun v H2=>v=.non/\Q (.ref x) H2) E) :
  wpAny (model X.prog X.w) X.A (call (.ref C) us) (EP X pins U Q) X.xe s:=by
 have J:=h (s.heap.objs.size+1) s.heap.objs.size (I.hok.fresh (Vl _)) (I.hok.fresh (Ue _)) (Ut (Nat.lt_succ_self _));have I2:=Inv.made (C:=C) I;have L:Em (V.ref (s.heap.objs.size+1)::(vs++dvs)) (Value.ref (s.heap.objs.size+1)::(us++ds)):=.cons rfl (r.append hd)
 have hl:(Value.ref (s.heap.objs.size+1)::us++ds).length=ps.length:=by
  have e:=L.length;rw[F.len _ _ _ _ J] at e;exact e.symm
 refine wpAny_call (cH (f:=f) I.kIn M.makes M.init (beq_iff_eq.mp M.fn) (codeAny_mono (F.run _ X.stack _ _ ⟨Value.ref (s.heap.objs.size+1)::us,[]⟩ (Value.ref (s.heap.objs.size+1)::(us++ds)) _ _ E (hr.make C us [])
  (I2.env0.make C us []) (Z _ (Value.ref (s.heap.objs.size+1)::us) I2.kIn hl) L J) fun r s' B=>?_))
 cases r with
 |error e=>exact O pins U _ _ e s' I2 B
 |ok fl=>
  cases fl with
  |ret u=>
   obtain⟨v,H',I3,Y,ev,q3⟩:=I2.after B;subst ev;exact⟨Y,⟨V.ref (s.heap.objs.size+1),H',I3,rfl,q3⟩⟩
  |next=>exact False.elim B
  |brk=>exact False.elim B
  |cont=>exact False.elim B
theorem kD(M:Mk X.K C f)(F:Ec X.prog X.w X.K X.mg X.base CX k f fd ps sp)(hr:Room (k+1) X.A)(Z:Gl X x)(hm:X.mg x=some (.ref C))(Y:EX X.K fd ps ds)(hd:Em dvs ds)(L:BN CX X E)
  (ha:PA X (e::es) t) (J:(x==("__debug__":Str))=false:=by decide) (O:starEach (e::es) X.env=(false,eval e X.env)::starEach es X.env:=by rfl) (B:(backTo pos (starEach es X.env)).any (·.1)=false:=by rfl) :
  PE X (.Call (.Name x p) (e::es) [] pos) (Wm C sp dvs E t):=by
 intro pins s U H Q I h;refine wpAny_Call_Name_kw (Fx I Z hm ?_ J);refine PySem.W.callWith_K (h₀:=X.base) I.ok.mod.kin M.kp (thn (ha pos pins s U H _ I h) fun us s1 ⟨vs,H1,I1,r,q⟩=>⟨I1.kIn,?_⟩) O B;exact jD M F hr Y hd L I1 r q
theorem cN(M:Mk X.K C f)(F:Ec X.prog X.w X.K X.mg X.base CX k f fd ps sp)(Z:Room (k+1) X.A)(Y:Gl X x)(hm:X.mg x=some (.ref C))(O:EX X.K fd ps ds)(J:Em dvs ds)(L:BN CX X E)
  (B:(x==("__debug__":Str))=false:=by decide):PE X (.Call (.Name x p) [] [] pos) (Wm C sp dvs E Sl):=by
 intro pins s U H Q I h;refine wpAny_Call_Name_kw (Fx I Y hm ?_ B);exact PySem.W.callWith_K0 I.kIn M.kp (jD (us:=[]) M F Z O J L I .nil h)
end
structure Eo(N P:List Str)(sc:Scope):Prop where
 kind:sc.kind=.function
 co:sc.isCoroutine=false
 gen:sc.isGenerator=false
 nd:N.Nodup
 pre:N.take P.length=P
 par:∀x∈P,sc.names.lookup x=some .local\/sc.names.lookup x=some .cell
 nofree:∀y∈sc.names,y.2≠.free
theorem zW{B:Str->Option NameKind}{x:Str}:∀ {binds:List (Str×Value)} {m:Str->Option Value},(∀v,(x,v)∉binds)->bindL B binds m x=m x
 | [],_,_=>rfl
 |(n,v)::r,m,h=>by
  unfold bindL;rw[zW fun w F=>h w (Uf _ F)];split
  ·have:x≠n:=by rintro rfl;exact h v UB
   simp[this]
  ·rfl
theorem zX{B:Str->Option NameKind}{x:Str}:∀ {binds:List (Str×Value)} {m:Str->Option Value},(∀v,(x,v)∉binds)->bindC B binds m x=m x
 | [],_,_=>rfl
 |(n,v)::r,m,h=>by
  unfold bindC;rw[zX fun w F=>h w (Uf _ F)];split
  ·rfl
  ·have:x≠n:=by rintro rfl;exact h v UB
   simp[this]
theorem zY{B:Str->Option NameKind}{x:Str}{v:Value}:∀ {P:List Str} {vs:List Value} {i:Nat} {m:Str->Option Value},P.Nodup->P[i]? = some x->vs[i]? = some v->B x=some .local ->
  bindL B (P.zip vs) m x=some v
 | [],_,_,_,_,h,_,_=>by simp at h
 |_::_,[],_,_,_,_,h,_=>by simp at h
 |p::P,w::vs,0,m,nd,h1,h2,hk=>by
  simp at h1 h2;subst h1;subst h2;show bindL B ((p,w)::P.zip vs) m p=_;unfold bindL;rw[zW fun v F=>(Vu.mp nd).1 (List.of_mem_zip F).1,if_pos hk];simp
 |p::P,w::vs,i+1,m,nd,h1,h2,hk=>by
  show bindL B ((p,w)::P.zip vs) m x=_;unfold bindL;exact zY (i:=i) (Vu.mp nd).2 (by simpa using h1) (by simpa using h2) hk
theorem zZ{B:Str->Option NameKind}{x:Str}{v:Value}:∀ {P:List Str} {vs:List Value} {i:Nat} {m:Str->Option Value},P.Nodup->P[i]? = some x->vs[i]? = some v->B x≠some .local ->
  bindC B (P.zip vs) m x=some v
 | [],_,_,_,_,h,_,_=>by simp at h
 |_::_,[],_,_,_,_,h,_=>by simp at h
 |p::P,w::vs,0,m,nd,h1,h2,hk=>by
  simp at h1 h2;subst h1;subst h2;show bindC B ((p,w)::P.zip vs) m p=_;unfold bindC;rw[zX fun v F=>(Vu.mp nd).1 (List.of_mem_zip F).1,if_neg hk];simp
 |p::P,w::vs,i+1,m,nd,h1,h2,hk=>by
  show bindC B ((p,w)::P.zip vs) m x=_;unfold bindC;exact zZ (i:=i) (Vu.mp nd).2 (by simpa using h1) (by simpa using h2) hk
noncomputable def start(N:List Str)(vs:List V):St:=vs.map some++List.replicate (N.length-vs.length) none
noncomputable def Sm(CX:HC)(P:Program)(w:World)(K:W.Frag)(mg:Str->Option Value)(base:Heap)(N:List Str)(qual:Str)(scope:Scope)(f:Addr)(cd:Value)(A:Around)(outer:List Env)(s:Shared)(H:Hp)(E:XK):Cx where
 prog:=P
 w:=w
 K:=K
 mg:=mg
 base:=base
 A:=A.deeper (envOfC qual scope s.heap.objs.size f cd)
 N:=N
 s₀:=s
 H₀:=H
 env:=envOfC qual scope s.heap.objs.size f cd
 outer:=outer
 stack:=envOfC qual scope s.heap.objs.size f cd::outer
 ex:=[]
 calm:=true
 fn:=fun _=>true
 pn:=[]
 xe:=fun e s'=>wpAny (model P w) (A.deeper (envOfC qual scope s.heap.objs.size f cd)) (leaving (envOfC qual scope s.heap.objs.size f cd) e) (fun _ s''=>CX outer H s E e s'') (fun e' s''=>CX outer H s E e' s'') s'
theorem jE{sc:Scope}{n:Nat}{x:Str}(h:sc.names.lookup x=some .cell):∃c,(cellsFrom n sc.names []).lookup x=some c:=by
 have q:=PySem.W.cellsFrom_some sc.names n [] (.inl h);exact Va.mp q
theorem yc{CX:HC}{P:Program}{w:World}{K:W.Frag}{mg:Str->Option Value}{base:Heap}{N ps:List Str}{qual:Str}{scope:Scope}{f:Addr}{Y:Value}{A:Around}{B:List Env}{s Z:Shared}{H:Hp}{E:XK}{us:List Value}{vs:List V}
  (S:Eo N ps scope) (hd:A.handled=none) (F:ID P w K mg base A B s H) (hl:vs.length=ps.length) (r:Em vs us)
  (x:InCallC s s.heap.objs.size (bindL (envOfC qual scope s.heap.objs.size f Y).kindOf (ps.zip us) fun _=>none) (cellsFrom (s.heap.objs.size+1) scope.names []) (bindC (envOfC qual scope s.heap.objs.size f Y).kindOf (ps.zip us) fun _=>none) Z) :
  Inv (Sm CX P w K mg base N qual scope f Y A B s H E) [] (start N vs) H Z:=by
 have a0:ps.length<=N.length:=by have:=congrArg List.length S.pre;rw[US] at this;omega
 obtain⟨h1,tk,rfl,hk⟩:=x.done;have L:∀b:Addr,b∉(Sm CX P w K mg base N qual scope f Y A B s H E).ex:=fun b z=>absurd (show b∈([]:List Addr) from z) (by simp)
 refine⟨⟨F.mod,S.kind,rfl,rfl,Ue _,fun y z c h1 h2=>?_,fun y J=>?_,fun y c _ h=>?_,fun _=>hd,Around.frames_deeper F.frames,.inr ⟨rfl,rfl⟩,fun b z=>absurd z (L b),F.bs,F.bsz,fun b _ _=>L b,fun b z=>absurd z (L b),F.funs,F.frf⟩,
  rfl,F.bare,Un.kept hk,⟨_,x.toInCall.ns,fun i y v h1 h2 h3=>?_⟩,fun y c h=>⟨_,x.cell y c h⟩,F.hok.fresh (Ue _),fun y c h=>?_,fun p O=>absurd (show p∈([]:List (Addr×Obj)) from O) (by simp),F.hok.kept hk,?_⟩
 ·exact name_of_addr x.apart (PySem.mem_of_lookup h1) (PySem.mem_of_lookup h2)
 ·have J:scope.names.lookup y=some .cell\/scope.names.lookup y=some .free:=J;rcases J with J|J
  ·exact jE J
  ·exact absurd rfl (S.nofree _ (PySem.mem_of_lookup J))
 ·exact Nat.le_of_lt (x.above y c (PySem.mem_of_lookup h))
 ·have hi:i<vs.length:=by
   unfold start at h2;by_cases hi:i<vs.length
   ·exact hi
   ·rw[Vq (by simpa using hi)] at h2;rw[List.getElem?_replicate] at h2;split at h2<;>cases h2
  have ha:vs[i]? = some v:=by
   unfold start at h2;rw[List.getElem?_append_left (by simpa using hi),UC] at h2
   cases e:vs[i]? with
   |none=>rw[e] at h2;cases h2
   |some a=>rw[e] at h2;cases h2;rfl
  obtain⟨u,hu,rv⟩:=r.get ha
  have O:ps[i]? = some y:=by
   rw[<- S.pre,List.getElem?_take_of_lt (by omega)];exact h1
  have M:ps.Nodup:=by rw[<- S.pre];exact S.nd.sublist (List.take_sublist _ _)
  refine⟨u,rv,?_⟩;rcases S.par y (Ux O) with k|k
  ·exact .inl ⟨k,zY M O hu k⟩
  ·obtain⟨c,e⟩:=jE (n:=s.heap.objs.size+1) k;refine .inr ⟨.inl k,c,e,?_⟩;have q:=x.cell y c e;rw[zZ M O hu (by show scope.names.lookup y≠_;rw[k];decide)] at q;exact q
 ·exact F.hok.fresh (Nat.le_of_lt (x.above y c (PySem.mem_of_lookup h)))
 ·unfold start;show _=N.length;rw[UD,Ug,List.length_replicate];omega
theorem ft{CX:HC}{P:Program}{w:World}{K:W.Frag}{mg:Str->Option Value}{base:Heap}{k:Nat}{f:Addr}{name qual:Str}{L:Arguments}{M:List Stmt}{scope:Scope}{dV kV a2 pm F ct oc:Value}{an od:Option Addr}
  {a4:Array (Option Value)} {N ps:List Str} {sp:Sp} (lk:K.lookup f=some ⟨oc,od,.func (W.fnOf name qual L M scope dV kV a2 pm an F ct),a4⟩) (a5:W.codeIn K F qual=true) (S:Eo N ps scope)
  (len:∀vs H Q E,sp vs H Q E->vs.length=ps.length)
  (O:∀(A:Around) (B:List Env) (s:Shared) (H:Hp) (vs:List V) (Q:VK) (E:XK),Room k (A.deeper (envOfC qual scope s.heap.objs.size f F))->sp vs H Q E ->
   ∃t,HB (Sm CX P w K mg base N qual scope f F A B s H E) M t/\t { nx:=fun _ H'=>Q .non H',rt:=Q } (start N vs) H) :
  Ec P w K mg base CX (k+1) f (W.fnOf name qual L M scope dV kV a2 pm an F ct) ps sp:=by
 refine⟨len,fun A B s H a6 us vs Q E hr e0 hb r a1=>?_⟩;have hl:=len _ _ _ _ a1;have KX:K.In s.heap:=e0.mod.kin.keeps fun b o e=>(e0.bs b o e).1;have a3:s.heap.NoLimit:=e0.mod.nolimit.keeps fun b o e=>(e0.bs b o e).1
 have Y:∀y∈ps.zip us,scope.names.lookup y.1=some .local\/(scope.names.lookup y.1=some .cell/\((cellsFrom (s.heap.objs.size+1) scope.names []).lookup y.1).isSome=true):=fun⟨n,v⟩ hy=>by
  rcases S.par n (List.of_mem_zip hy).1 with q|q
  ·exact .inl q
  ·exact .inr ⟨q,PySem.W.cellsFrom_some _ _ _ (.inl q)⟩
 refine codeAny_call_function hr.depth (KX _ _ lk) rfl S.co S.gen rfl (PySem.W.codeRec_of KX a5) (hb _ _ _ _ ?_);refine wpAny_newFunctionEnv_cells S.kind Y fun env he s1 x=>?_;subst he;refine⟨a3.keeps x.toInCall.keep,codeAny_func ?_⟩;obtain⟨t,ht,hq⟩:=O A B s H vs Q E (hr.deeper _) a1;have I:Inv (Sm CX P w K mg base N qual scope f F A B s H E) [] (start N vs) H s1:=yc S hr.hd e0 hl r x;refine UJ (ht [] s1 (start N vs) H _ I hq) (fun fl s' Z=>?_) fun e s' Z=>Z
 have a0:∀ {U':St} {H':Hp} {v:V} {u:Value},Inv (Sm CX P w K mg base N qual scope f F A B s H E) [] U' H' s'->El v u->Q v H'->CE B P w H s Q u s':=
  fun {U' H' v u} J rv q=>⟨v,H',J.os,J.bare,J.base,J.hok,rv,q⟩
 cases fl with
 |ret u=>
  obtain⟨v,U',H',J,rv,q⟩:=Z;exact a0 J rv q
 |next=>
  obtain⟨U',H',J,q⟩:=Z;exact a0 (v:=V.non) (u:=Value.none) J rfl q
 |brk=>
  obtain⟨_,_,_,q⟩:=Z;exact False.elim q
 |cont=>
  obtain⟨_,_,_,q⟩:=Z;exact False.elim q
section
variable{X:Cx}{x:Str}{p pos:Pos}{e:Expr}{es:List Expr}{t:TA}{id T:String}{r:List V->Hp->VK->Prop}
def jF(r:List V->Hp->VK->Prop)(t:TA):TE:=fun U H Q=>t U H fun vs H1=>r vs H1 Q
theorem cO(hc:Gr X (.builtin id) r)(O:Gl X x)(hm:X.mg x=none)(hv:bootBuiltins x=some (.builtin id))(Y:PA X (e::es) t)(hn:x≠"__name__":=by decide)(F:(x==("__debug__":Str))=false:=by decide)
  (L:starEach (e::es) X.env=(false,eval e X.env)::starEach es X.env:=by rfl) (B:(backTo pos (starEach es X.env)).any (·.1)=false:=by rfl):PE X (.Call (.Name x p) (e::es) [] pos) (jF r t):=by
 intro pins s U H Q I h;refine wpAny_Call_Name_kw (Ct I O hm hv ?_ hn F);exact PyProof.Rows.callWith_builtin1 (thn (Y pos pins s U H _ I h) fun us J ⟨vs,H1,I1,M,Z⟩=>hc pins J U H1 vs us Q I1 M Z) L B
theorem yd(hc:Gr X (.type T) r)(O:Gl X x)(hm:X.mg x=none)(hv:bootBuiltins x=some (.type T))(Y:PA X (e::es) t)(hn:x≠"__name__":=by decide)(F:(x==("__debug__":Str))=false:=by decide)
  (L:starEach (e::es) X.env=(false,eval e X.env)::starEach es X.env:=by rfl) (B:(backTo pos (starEach es X.env)).any (·.1)=false:=by rfl):PE X (.Call (.Name x p) (e::es) [] pos) (jF r t):=by
 intro pins s U H Q I h;refine wpAny_Call_Name_kw (Ct I O hm hv ?_ hn F);exact PyProof.Rows.callWith_type1 (thn (Y pos pins s U H _ I h) fun us J ⟨vs,H1,I1,M,Z⟩=>hc pins J U H1 vs us Q I1 M Z) L B
end
end _L
namespace _H
open PySem PyProof.Rows
section
variable{prog:Program}{w:World}{A:Around}{E:Value->Shared->Prop}{s:Shared}
noncomputable def sIx(n d:Nat):Option Int->Nat
 |none=>d
 |some v=>if v<0 then(v+(n:Int)).toNat else min v.toNat n
theorem sIx_none(n d:Nat):sIx n d none=d:=rfl
theorem sIx_nat(n d k:Nat):sIx n d (some (k:Int))=min k n:=by
 show(if(k:Int)<0 then((k:Int)+(n:Int)).toNat else min (k:Int).toNat n)=min k n;rw[if_neg (by omega),Int.toNat_natCast]
theorem nr(n d:Nat)(F:d<=n)(o:Option Int):sIx n d o<=n:=by
 cases o with
 |none=>exact F
 |some v=>
  show(if v<0 then(v+(n:Int)).toNat else min v.toNat n)<=n;by_cases B:v<0
  ·rw[if_pos B];omega
  ·rw[if_neg B];exact Nat.min_le_right _ _
theorem uS(v:Int)(n d:Nat):(if v<0 then max (v+(n:Int)) 0 else min v (n:Int))=((sIx n d (some v):Nat):Int):=by
 show(if v<0 then max (v+(n:Int)) 0 else min v (n:Int))=(((if v<0 then(v+(n:Int)).toNat else min v.toNat n):Nat):Int);by_cases B:v<0
 ·simp only[if_pos B];omega
 ·simp only[if_neg B];omega
theorem vX(lo hi:Option Int)(n:Nat):Builtin.Slice.sliceAdjust lo hi 1 (n:Int)=(((sIx n 0 lo:Nat):Int),((sIx n n hi:Nat):Int)):=by
 have h1:¬((1:Int)<0):=by omega
 unfold Builtin.Slice.sliceAdjust;simp only[h1,if_false];refine Prod.ext ?_ ?_
 ·cases lo with
  |none=>rfl
  |some v=>exact uS v n 0
 ·cases hi with
  |none=>rfl
  |some v=>exact uS v n n
theorem vY(i j:Nat):Builtin.Slice.slicePlaces (i:Int) (j:Int) 1=j-i:=by
 unfold Builtin.Slice.slicePlaces;have h1:(1:Int)>0:=by omega
 simp only[h1,if_true,Int.ediv_one];split<;>omega
theorem Wn{v:Value}{o:Option Int}{Q:Option Int->Shared->Prop}(p:IsPart v o)(h:Q o s):wpAny (model prog w) A (Builtin.Slice.slicePartIndex v) Q E s:=by
 cases p with
 |none=>exact slicePart_none h
 |int i t=>exact slicePart_int h
theorem sliceApplied_gen{sl:Addr}{vl J:Value}{lo hi:Option Int}{n:Nat}{Q:Int×Int×Nat->Shared->Prop}(M:s.heap.IsSliceOf sl vl J .none)(pl:IsPart vl lo)(L:IsPart J hi)
  (h:Q (((sIx n 0 lo:Nat):Int),1,sIx n n hi-sIx n 0 lo) s):wpAny (model prog w) A (Builtin.Slice.sliceApplied (.ref sl) (pure (n:Int))) Q E s:=by
 obtain⟨Y,F,O,B⟩:=id M;unfold Builtin.Slice.sliceApplied Builtin.Slice.sliceFields;refine Ua (Ua (Vi F B (x:=vl) rfl (Ua (Vi F B (x:=J) rfl (Ua (Vi F B (x:=.none) rfl (Uj ?_)))))));refine Ua (slicePart_none ?_);show wpAny _ _ (if((1:Int)==0)=true then _ else _) _ _ s;rw[if_neg (by decide)];refine Ua (Wn pl (Ua (Wn L (Ua (Uj ?_)))));show wpAny _ _ (match Builtin.Slice.sliceAdjust lo hi 1 (n:Int) with|(lo,hi)=>pure (lo,(1:Int),Builtin.Slice.slicePlaces lo hi 1)) _ _ s;rw[vX lo hi n];show wpAny _ _ (pure (((sIx n 0 lo:Nat):Int),(1:Int),Builtin.Slice.slicePlaces ((sIx n 0 lo:Nat):Int) ((sIx n n hi:Nat):Int) 1)) _ _ s;rw[vY];exact Uj h
theorem cP(xs:Array Value)(i k:Nat):((UM k).filterMap fun(m:Nat)=>xs[((i:Int)+(m:Int)*1).toNat]?).toArray=((xs.toList.drop i).take k).toArray:=by
 have e:(fun(m:Nat)=>xs[((i:Int)+(m:Int)*1).toNat]?)=fun m=>xs[i+m]?:=by
  funext m;have:((i:Int)+(m:Int)*1).toNat=i+m:=by omega
  rw[this]
 rw[e];have:=pick_run xs i k;rw[List.filterMap_map] at this;have B:((fun x=>xs[x]?) ∘ fun x=>i+x)=fun m=>xs[i+m]?:=rfl;rw[B] at this;rw[this]
theorem getItem_tuple_cut{t sl:Addr}{items:Array Value}{vl Y:Value}{lo hi:Option Int}{Q:Value->Shared->Prop}(F:IsTup s.heap t items)(Z:s.heap.IsSliceOf sl vl Y .none)(pl:IsPart vl lo)(pu:IsPart Y hi)
  (hw:¬(sIx items.size 0 lo=0/\sIx items.size items.size hi=items.size))
  (h:Q (.ref s.heap.objs.size) { s with heap:=s.heap.push { cls:=.type "tuple",data:=.seq ((items.toList.drop (sIx items.size 0 lo)).take (sIx items.size items.size hi-sIx items.size 0 lo)).toArray } })
  (hsz:items.size<=sizeLine):wpAny (model prog w) A (getItem (.ref t) (.ref sl)) Q E s:=by
 have B:sizeOk (.seq ((items.toList.drop (sIx items.size 0 lo)).take (sIx items.size items.size hi-sIx items.size 0 lo)).toArray):=by
  show((items.toList.drop (sIx items.size 0 lo)).take (sIx items.size items.size hi-sIx items.size 0 lo)).toArray.size<=sizeLine;rw[Uw,US,List.length_drop,UI];omega
 have hj:sIx items.size items.size hi<=items.size:=nr _ _ (Ue _) hi;obtain⟨os,O,L,a0⟩:=id Z;have M:s.TypeIs (.ref sl) "slice":=⟨os,O,L⟩;unfold getItem
 try with_reducible refine UO ?_
 first|refine Ua (Uj ?_)|skip
 refine Ua (wpAny_sequenceKey F.typeIs (by decide) ?_)
 refine Ua (wpAny_callSpecial?_slot (name:=Str.ofString "__getitem__") F.typeIs PyProof.Rows.slot_tuple_getitem
  (wpAny_call_entry PyProof.Rows.slot_tuple_getitem F.typeIs entry_tuple_getitem ?_ (args_tuple_getitem _ _)))
 show wpAny _ _ (Builtin.Tuple.tupleItemsOf (.ref t) >>= _) _ _ s;refine Ua (tupleItemsOf_ F ?_);refine Ua (wpAny_typeOf M ?_);rw[if_pos (by decide)];refine Ua (sliceApplied_gen Z pl pu ?_)
 have J:¬((((sIx items.size 0 lo:Nat):Int)==0&&(1:Int)==1&&(sIx items.size items.size hi-sIx items.size 0 lo)==items.size)=true):=by
  intro q;rw[UN,UN] at q;have q1:((sIx items.size 0 lo:Nat):Int)=0:=eq_of_beq q.1.1;have q2:sIx items.size items.size hi-sIx items.size 0 lo=items.size:=eq_of_beq q.2;exact hw ⟨by omega,by omega⟩
 show wpAny _ _ (if(((sIx items.size 0 lo:Nat):Int)==0&&(1:Int)==1&&(sIx items.size items.size hi-sIx items.size 0 lo)==items.size)=true then _ else _) _ _ s;rw[if_neg J,cP]
 first
  |exact Ua (m:=Builtin.Tuple.tupleExact _) (wpAny_newObj_type (Uj ⟨_,rfl,Uj h⟩) B)
  |exact Ua (m:=Builtin.Tuple.tupleExact _) (wpAny_newObj_type (Ua (Uj (Uj ⟨_,rfl,Uj h⟩))) B)
  |exact Ua (Ua (m:=Builtin.Tuple.tupleExact _) (wpAny_newObj_type (Uj (Uj ⟨_,rfl,Uj h⟩)) B))
  |exact Ua (Ua (m:=Builtin.Tuple.tupleExact _) (wpAny_newObj_type (Uj ⟨_,rfl,Uj h⟩) B))
end
end _H
namespace _L
open PySem PySem.Spec PyProof.Rows
abbrev TO:=St->Hp->(Option Int->Hp->Prop)->Prop
def PO(X:Cx)(e:Option Expr)(t:TO):Prop:=
 ∀(pins:List (Addr×Obj)) (s:Shared) (U:St) (H:Hp) (Q:Option Int->Hp->Prop),Inv X pins U H s->t U H Q ->
  wpAny (model X.prog X.w) X.A (evalPart e X.env) (fun u s'=>∃o H',Inv X pins U H' s'/\IsPart u o/\Q o H') X.xe s
def Xn:TO:=fun _ H Q=>Q none H
def vZ(t:TE):TO:=fun U H Q=>t U H fun x H1=>∃i,x=.int i/\Q (some i) H1
section
variable{X:Cx}{e:Expr}{te:TE}{lo hi:Option Expr}{tl th:TO}{pos p2:Pos}
theorem kE:PO X none Xn:=by
 intro pins s U H Q I h;rw[evalPart_none];exact Uj ⟨none,H,I,.none,h⟩
theorem kF(h:PE X e te):PO X (some e) (vZ te):=by
 intro pins s U H Q I J;rw[evalPart_some];refine thn (h pins s U H _ I J) fun u L ⟨x,H1,I1,B,F⟩=>?_;obtain⟨i,rfl,q⟩:=F;obtain⟨t,rfl⟩:=B;exact⟨some i,H1,I1,.int i t,q⟩
def uT(X:Cx)(r:V->Option Int->Option Int->Hp->VK->Prop):Prop:=
 ∀(pins:List (Addr×Obj)) (s:Shared) (U:St) (H:Hp) (x:V) (v vl vu:Value) (lo hi:Option Int) (sl:Addr) (Q:VK),Inv X pins U H s->El x v->s.heap.IsSliceOf sl vl vu .none->IsPart vl lo->IsPart vu hi->r x lo hi H Q ->
  ∃T id,typeLookup (.type T) "__getitem__"=pure (some (.builtin id))/\s.TypeIs v T/\wpAny (model X.prog X.w) X.A (getItem v (.ref sl)) (EP X pins U Q) X.xe s
def nu(r:V->Option Int->Option Int->Hp->VK->Prop)(te:TE)(tl th:TO):TE:=fun U H Q=>te U H fun x H1=>tl U H1 fun l H2=>th U H2 fun u H3=>r x l u H3 Q
theorem cQ{r:V->Option Int->Option Int->Hp->VK->Prop}(hr:uT X r)(he:PE X e te)(Y:PO X lo tl)(hu:PO X hi th):PE X (.Subscript e (.Slice lo hi none p2) pos) (nu r te tl th):=by
 intro pins s U H Q I h;refine Subscript_ (thn (he pins s U H _ I h) fun v J ⟨x,H1,I1,L,q1⟩=>?_);refine wpAny_Slice (thn (Y pins J U H1 _ I1 q1) fun vl s2 ⟨l,H2,I2,pl,O⟩=>thn (hu pins s2 U H2 _ I2 O) fun F B ⟨u,H3,I3,pu,q3⟩=>?_);rw[evalPart_none];refine Uj ?_;have I4:Inv X pins U H3 { B with heap:=B.heap.push { cls:=.type "slice",data:=.fields #[vl,F,.none] } }:=I3.kept (t':=B.toks) fun b ob q=>Uc _ q;obtain⟨T,id,Z,ht,M⟩:=hr pins { B with heap:=B.heap.push { cls:=.type "slice",data:=.fields #[vl,F,.none] } } U H3 x v vl F l u B.heap.objs.size Q I4 L (Heap.IsSliceOf.new ..) pl pu q3;show wpAny (model X.prog X.w) X.A (subscriptTail e (.Slice lo hi none p2) v (.ref B.heap.objs.size)) (EP X pins U Q) X.xe { B with heap:=B.heap.push { cls:=.type "slice",data:=.fields #[vl,F,.none] } };exact tail_any (ops:=[.ref B.heap.objs.size,v]) ht Z M (by with_unfolding_all rfl)
def AN(xs:List V)(lo hi:Option Int):List V:=(xs.drop (_H.sIx xs.length 0 lo)).take (_H.sIx xs.length xs.length hi-_H.sIx xs.length 0 lo)
theorem SE(xs:List V)(lo hi:Option Int):(AN xs lo hi).length<=xs.length:=by
 unfold AN;rw[US,List.length_drop];omega
def tG(K:W.Frag):V->Option Int->Option Int->Hp->VK->Prop:=fun x lo hi H Q=>∃a xs,x=.ref a/\GF K H a xs/\
 ¬(_H.sIx xs.length 0 lo=0/\_H.sIx xs.length xs.length hi=xs.length)/\∀p,H p=none->Q (.ref p) (upd H p (.tup (AN xs lo hi)))
theorem nw:uT X (tG X.K):=by
 intro pins s U H x v vl vu lo hi sl Q I O M pl Y h;obtain⟨a,xs,rfl,L,Z,q⟩:=h;cases O;obtain⟨F,r,J,hz⟩:=I.tuple L;have B:F.toArray.size=xs.length:=by rw[Uw];exact r.length.symm
 refine⟨"tuple",_,PyProof.Rows.slot_tuple_getitem.lookup,J.typeIs,?_⟩;refine _H.getItem_tuple_cut J M pl Y (by rw[B];exact Z) ?_ (by rw[B];exact hz);rw[B];refine⟨.ref s.heap.objs.size,_,I.laid (t':=s.toks) (o:=.tup (AN xs lo hi)) (fun b ob q=>Uc _ q) (Ue _) ?_,rfl,q _ (I.hok.fresh (Ue _))⟩;exact⟨⟨Uz (SE xs lo hi) hz,fun _=>⟨_,Ul _ rfl,rfl,rfl⟩⟩,_,(r.drop (_H.sIx xs.length 0 lo)).take (_H.sIx xs.length xs.length hi-_H.sIx xs.length 0 lo),IsTup.new _ _⟩
end
noncomputable def Kd(n:Nat)(i:Int):Option Nat:=if 0<=i then(if i<n then some i.toNat else none) else if -(n:Int)<=i then some (i+n).toNat else none
def Ke{α:Type}(xs:List α)(i:Int):Option α:=(Kd xs.length i).bind fun j=>xs[j]?
theorem uU{n:Nat}{i:Int}{j:Nat}(h:Kd n i=some j):seqIndex? i n=some j/\j<n/\-(n:Int)<=i/\i<n:=by
 unfold Kd at h;by_cases h0:0<=i
 ·rw[if_pos h0] at h;by_cases h1:i<n
  ·rw[if_pos h1] at h;have e:i.toNat=j:=Option.some.inj h;exact⟨by rw[seqIndex_of h0 h1,e],by omega,by omega,h1⟩
  ·rw[if_neg h1] at h;cases h
 ·rw[if_neg h0] at h;by_cases h1:-(n:Int)<=i
  ·rw[if_pos h1] at h;have e:(i+n).toNat=j:=Option.some.inj h;exact⟨by rw[seqIndex_neg (by omega) h1,e],by omega,h1,by omega⟩
  ·rw[if_neg h1] at h;cases h
theorem Xo{α:Type}{xs:List α}{i:Int}{v:α}(h:Ke xs i=some v):∃j,seqIndex? i xs.length=some j/\xs[j]? = some v/\j<xs.length/\-(xs.length:Int)<=i/\i<xs.length:=by
 unfold Ke at h
 cases e:Kd xs.length i with
 |none=>rw[e] at h;cases h
 |some j=>
  rw[e] at h;obtain⟨h1,h2,F,B⟩:=uU e;exact⟨j,h1,h,h2,F,B⟩
theorem DS{α:Type}{xs:List α}{j:Nat}{v:α}(h:xs[j]? = some v):Ke xs (j:Int)=some v:=by
 have B:j<xs.length:=(Ui.mp h).1
 have e:Kd xs.length (j:Int)=some j:=by
  unfold Kd;rw[if_pos (by omega),if_pos (by omega)];simp
 unfold Ke;rw[e];exact h
def uV(b:Expr):Prop:=∀o i,subscripted b false o i=operate [o,i] (getItem o i)
def jG(X:Cx)(r:R2):Prop:=
 ∀(value slice:Expr) (pins:List (Addr×Obj)) (s:Shared) (U:St) (H:Hp) (x y:V) (v u:Value) (Q:VK),Inv X pins U H s->El x v->El y u->r x y H Q ->
  subscripted slice false v u=operate [v,u] (getItem v u)->wpAny (model X.prog X.w) X.A (subscriptTail value slice v u) (EP X pins U Q) X.xe s
def uW(X:Cx)(id:String)(r:V->List V->Hp->VK->Prop):Prop:=
 ∀(pins:List (Addr×Obj)) (s:Shared) (U:St) (H:Hp) (x:V) (xs:List V) (v:Value) (us:List Value) (Q:VK),Inv X pins U H s->El x v->Em xs us->r x xs H Q ->
  wpAny (model X.prog X.w) X.A (call (.builtin id) (v::us)) (EP X pins U Q) X.xe s
section
variable{X:Cx}{a b:Expr}{ta tb:TE}{pos:Pos}
theorem sM{r:R2}(O:jG X r)(M:PE X a ta)(L:PE X b tb)(F:uV b):PE X (.Subscript a b pos) (Wf r ta tb):=by
 intro pins s U H Q I h;exact Subscript_ (bw M L I h fun v u Y x y H2 I2 J B q=>O a b pins Y U H2 x y v u Q I2 J B q (F _ _))
def cR(K:W.Frag):R2:=fun x y H Q=>∃p xs i v,x=.ref p/\y=.int i/\Eh K H p xs/\Ke xs i=some v/\Q v H
def cS(K:W.Frag):R2:=fun x y H Q=>∃p xs i v,x=.ref p/\y=.int i/\GF K H p xs/\Ke xs i=some v/\Q v H
def oA:R2:=fun x y H Q=>∃z i c,x=.str z/\y=.int i/\z.length<=sizeLine/\Ke z.cps.toList i=some c/\Q (.str ⟨#[c]⟩) H
theorem kG:jG X (cR X.K):=by
 intro value J pins s U H x y v u Q I rx Z h Y;obtain⟨p,xs,i,z,rfl,rfl,hq,he,q⟩:=h;cases rx;obtain⟨t,rfl⟩:=Z;obtain⟨F,r,pl,hz⟩:=I.list hq;obtain⟨j,h1,h2,h3,h4,h5⟩:=Xo he;obtain⟨w,O,L⟩:=r.get h2;have hl:=r.length;have hn:=IS;have B:EP X pins U Q w s:=⟨z,H,I,L,q⟩;by_cases h0:0<=i
 ·have M:i.toNat=j:=by
   rw[seqIndex_of h0 h5] at h1;exact Option.some.inj h1
  exact item_listR pl.isList h0 (by omega) (by rw[M];simpa using O) B Y
 ·have M:(i+(F.toArray.size:Int)).toNat=j:=by
   rw[seqIndex_neg (by omega) h4] at h1;rw[Uw,<- hl];exact Option.some.inj h1
  exact subscriptTail_builtinR (x:=w) pl.isList.typeIs slot_list_getitem.lookup
   (wpAny_getItem_list_neg (Q:=fun r s'=>r=w/\EP X pins U Q r s') pl.isList (by omega) (by rw[Uw]<;>omega) (by omega) (by rw[M];simpa using O) ⟨rfl,B⟩) Y
theorem oB:jG X (cS X.K):=by
 intro value F pins s U H x y v u Q I rx L h Z;obtain⟨p,xs,i,z,rfl,rfl,hq,he,q⟩:=h;cases rx;obtain⟨t,rfl⟩:=L;obtain⟨M,r,pl,hz⟩:=I.tuple hq;obtain⟨j,h1,h2,h3,h4,h5⟩:=Xo he;obtain⟨w,O,J⟩:=r.get h2;have Y:=r.length;have hn:=IS;have B:EP X pins U Q w s:=⟨z,H,I,J,q⟩
 exact subscriptTail_builtinR (x:=w) pl.typeIs slot_tuple_getitem.lookup
  (getItem_tuple (j:=j) (Q:=fun r s'=>r=w/\EP X pins U Q r s') pl (by omega) (by omega) (by rw[Uw,<- Y];exact h1) (by simpa using O) ⟨rfl,B⟩) Z
theorem ye:jG X oA:=by
 intro value B pins s U H x y v u Q I M J h L;obtain⟨z,i,c,rfl,rfl,hz,O,q⟩:=h;obtain⟨t,rfl⟩:=M;obtain⟨t',rfl⟩:=J;obtain⟨j,h1,h2,h3,Z,Y⟩:=Xo O;have hl:z.cps.toList.length=z.length:=by simp[Str.length]
 rw[hl] at h1 Z Y;have hn:=IS
 exact tail_any (typeIs_str s z t) slot_str_getitem.lookup (getItem_str (c:=c) (by
  have F:decide (i < -(2 ^ 63:Int))=false:=decide_eq_false (by omega);have e2:decide (i>=2 ^ 63)=false:=decide_eq_false (by omega)
  rw[F,e2,Bool.or_false]) (by rw[h1];simpa using h2) ⟨.str ⟨#[c]⟩,H,I.tok _,⟨_,rfl⟩,q⟩) L
theorem va(B:List Value)(n j:Nat)(u:Value):Obj.mapSeq (·.setIfInBounds j u) { cls:=.type "list",data:=.seq B.toArray n }={ cls:=.type "list",data:=.seq (B.set j u).toArray n }:=by
 simp[Obj.mapSeq]
theorem Inv.lst{pins:List (Addr×Obj)}{U:St}{H:Hp}{s:Shared}{p:Addr}{xs:List V}(I:Inv X pins U H s)(h:H p=some (.lst xs)) :
  ∃(B:List Value) (n:Nat),Em xs B/\s.heap.get? p=some { cls:=.type "list",data:=.seq B.toArray n }/\xs.length<=sizeLine:=by
 obtain⟨z,B,n,r,e⟩:=I.hok p _ h;exact⟨B,n,r,e,z⟩
theorem Inv.lstUpd{pins:List (Addr×Obj)}{U:St}{H:Hp}{s:Shared}{p:Addr}{xs ys:List V}{B its':List Value}{n n':Nat}{f:Obj->Obj}(I:Inv X pins U H s)(h:H p=some (.lst xs))
  (L:s.heap.get? p=some { cls:=.type "list",data:=.seq B.toArray n }) (F:f { cls:=.type "list",data:=.seq B.toArray n }={ cls:=.type "list",data:=.seq its'.toArray n' }) (r:Em ys its') (hz:ys.length<=sizeLine) (t:Nat) :
  Inv X pins U (upd H p (.lst ys)) { s with heap:=s.heap.update p f,toks:=t }:=by
 have e:(s.heap.update p f).get? p=some { cls:=.type "list",data:=.seq its'.toArray n' }:=by
  rw[Heap.get?_update_self f L (by rw[F]<;>rfl),F]
 refine I.write (x:=p) (e:=p) (by rw[h];trivial) (.inl rfl) (fun b u J q=>(UE _ _ (Ne.symm J)).trans q) ⟨_,e⟩ ?_;exact⟨hz,its',n',r,e⟩
def vc:V->V->V->Hp->(Hp->Prop)->Prop:=fun o i v H Q=>∃p xs k j,o=.ref p/\i=.int k/\H p=some (.lst xs)/\Kd xs.length k=some j/\Q (upd H p (.lst (xs.set j v)))
theorem HD:bi X vc:=by
 intro pins s U H o i v ov iv u Q I ro Z rv h;obtain⟨p,xs,k,j,rfl,rfl,Y,hj,q⟩:=h;cases ro;obtain⟨t,rfl⟩:=Z;obtain⟨B,n,r,L,hz⟩:=I.lst Y;obtain⟨h1,h2,O,M⟩:=uU hj;have F:=r.length;have hn:=IS
 have I':Inv X pins U (upd H p (.lst (xs.set j v))) { s with heap:=s.heap.update p (Obj.mapSeq (·.setIfInBounds j u)) }:=
  I.lstUpd Y L (va B n j u) (r.set rv j) (by rw[List.length_set];exact hz) s.toks
 by_cases h0:0<=k
 ·have J:k.toNat=j:=by
   rw[seqIndex_of h0 M] at h1;exact Option.some.inj h1
  exact PySem.W.ki_setAt L h0 (by omega) (by rw[Uw,<- F];exact M) (by rw[J];exact⟨_,I',q⟩)
 ·have J:(k+(B.toArray.size:Int)).toNat=j:=by
   rw[seqIndex_neg (by omega) O] at h1;rw[Uw,<- F];exact Option.some.inj h1
  exact PySem.W.ki_setBack L (by omega) (by rw[Uw,<- F];exact O) (by omega) (by rw[J];exact⟨_,I',q⟩)
theorem jH(lo hi:Option Int)(n:Nat):(sliceBounds lo hi none n).1=((_H.sIx n 0 lo:Nat):Int)/\(sliceBounds lo hi none n).2.1=((_H.sIx n n hi:Nat):Int)/\(sliceBounds lo hi none n).2.2=1:=by
 refine⟨?_,?_,rfl⟩
 ·cases lo with
  |none=>simp[sliceBounds,_H.sIx]
  |some i=>
   simp only[sliceBounds,_H.sIx,Option.getD_none,show(1:Int)>0 by decide,if_true];by_cases h:i<0
   ·simp only[h,if_true]<;>omega
   ·simp only[h,if_false]<;>omega
 ·cases hi with
  |none=>simp[sliceBounds,_H.sIx]
  |some i=>
   simp only[sliceBounds,_H.sIx,Option.getD_none,show(1:Int)>0 by decide,if_true];by_cases h:i<0
   ·simp only[h,if_true]<;>omega
   ·simp only[h,if_false]<;>omega
theorem qV(B:List Value)(lo hi:Option Int):slicePick B.toArray lo hi none=((B.drop (_H.sIx B.length 0 lo)).take (_H.sIx B.length B.length hi-_H.sIx B.length 0 lo)).toArray:=by
 obtain⟨h1,h2,F⟩:=jH lo hi B.toArray.size;unfold slicePick;rw[h1,h2,F];simp only[sliceRange_one,pick_run,Uw]<;>rfl
def vd(K:W.Frag):V->Option Int->Option Int->Hp->VK->Prop:=fun x lo hi H Q=>∃a xs,x=.ref a/\Eh K H a xs/\∀p,H p=none->Q (.ref p) (upd H p (.lst (AN xs lo hi)))
theorem kH:uT X (vd X.K):=by
 intro pins s U H x v vl Z lo hi sl Q I M L pl Y h;obtain⟨a,xs,rfl,J,q⟩:=h;cases M;obtain⟨O,r,F,hz⟩:=I.list J;have B:=r.length;refine⟨"list",_,slot_list_getitem.lookup,F.isList.typeIs,?_⟩;refine wpAny_getItem_list_slice F.isList L pl Y .none (by simp) ?_ (by rw[Uw]<;>omega);rw[qV,<- B];refine⟨.ref s.heap.objs.size,_,I.laid (t':=s.toks) (o:=.lst (AN xs lo hi)) (fun b ob q=>Uc _ q) (Ue _) ?_,rfl,q _ (I.hok.fresh (Ue _))⟩;exact⟨Uz (SE xs lo hi) hz,_,0,(r.drop (_H.sIx xs.length 0 lo)).take (_H.sIx xs.length xs.length hi-_H.sIx xs.length 0 lo),Ul _ rfl⟩
noncomputable def FD:V->Bool
 | .non=>true
 | .bl _=>true
 | .int _=>true
 | .str _=>true
 |_=>false
noncomputable def SF:V->V->Bool
 | .non,.non=>true
 | .bl a,.bl b=>a==b
 | .bl a,.int b=>(if a then 1 else 0)==b
 | .int a,.bl b=>a==(if b then 1 else 0)
 | .int a,.int b=>a==b
 | .str a,.str b=>a==b
 |_,_=>false
theorem oC{A:Around}{s:Shared}{y x:V}{u v:Value}(F:El y u)(B:El x v)(L:FD y=true)(J:FD x=true):SeqAt.EqAt A s u v (SF y x):=by
 cases y with
 |non=>
  cases F
  cases x with
  |non=>cases B;exact SeqAt.EqAt.same _
  |bl b=>cases B;exact SeqAt.EqAt.none_bool b
  |int b=>obtain⟨t,rfl⟩:=B;exact SeqAt.EqAt.none_int b t
  |str b=>obtain⟨t,rfl⟩:=B;exact SeqAt.EqAt.none_str b t
  |_=>exact absurd (show false=true from J) UA
 |bl a=>
  cases F
  cases x with
  |non=>cases B;exact SeqAt.EqAt.bool_none a
  |bl b=>cases B;exact SeqAt.EqAt.bool_bool a b
  |int b=>obtain⟨t,rfl⟩:=B;exact SeqAt.EqAt.bool_int a b t
  |str b=>obtain⟨t,rfl⟩:=B;exact SeqAt.EqAt.bool_str a b t
  |_=>exact absurd (show false=true from J) UA
 |int a=>
  obtain⟨t',rfl⟩:=F
  cases x with
  |non=>cases B;exact SeqAt.EqAt.int_none a t'
  |bl b=>cases B;exact SeqAt.EqAt.int_bool a t' b
  |int b=>obtain⟨t,rfl⟩:=B;exact SeqAt.EqAt.int_int a t' b t
  |str b=>obtain⟨t,rfl⟩:=B;exact SeqAt.EqAt.int_str a t' b t
  |_=>exact absurd (show false=true from J) UA
 |str a=>
  obtain⟨t',rfl⟩:=F
  cases x with
  |non=>cases B;exact SeqAt.EqAt.str_none a t'
  |bl b=>cases B;exact SeqAt.EqAt.str_bool a t' b
  |int b=>obtain⟨t,rfl⟩:=B;exact SeqAt.EqAt.str_int a t' b t
  |str b=>obtain⟨t,rfl⟩:=B;exact SeqAt.EqAt.str_str a t' b t
  |_=>exact absurd (show false=true from J) UA
 |_=>exact absurd (show false=true from L) UA
def Wo(x:V)(u:Value):Bool:=match u with
 | .none=>SF .non x
 | .bool b=>SF (.bl b) x
 | .int i _=>SF (.int i) x
 | .str z _=>SF (.str z) x
 |_=>false
theorem yf{x y:V}{u:Value}(r:El y u)(f:FD y=true):Wo x u=SF y x:=by
 cases y with
 |non=>cases r;rfl
 |bl b=>cases r;rfl
 |int i=>obtain⟨t,rfl⟩:=r;rfl
 |str z=>obtain⟨t,rfl⟩:=r;rfl
 |_=>exact absurd (show false=true from f) UA
theorem Xp{x:V}:∀ {xs:List V} {us:List Value},Em xs us->xs.all FD=true->us.any (Wo x)=xs.any fun y=>SF y x
 |_,_,.nil,_=>rfl
 |y::xs,u::us,.cons r t,f=>by
  rw[List.all_cons,UN] at f;rw[List.any_cons,List.any_cons,yf r f.1,Xp t f.2]
theorem Sn{A:Around}{s:Shared}{x:V}{v:Value}(rx:El x v)(fx:FD x=true):∀ {xs:List V} {us:List Value},Em xs us->xs.all FD=true->∀u∈us,SeqAt.EqAt A s u v (Wo x u)
 |_,_,.nil,_=>fun u hu=>by cases hu
 |y::xs,u::us,.cons r t,f=>fun u' hu=>by
  rw[List.all_cons,UN] at f;rcases Ud.mp hu with rfl|hu
  ·rw[yf r f.1];exact oC r rx f.1 fx
  ·exact Sn rx fx t f.2 u' hu
def fw(x:V)(xs:List V):Bool:=xs.any fun y=>SF y x
def oE(K:W.Frag)(neg:Bool):R2:=fun x y H Q=>∃p xs,y=.ref p/\(Eh K H p xs\/GF K H p xs)/\FD x=true/\xs.all FD=true/\Q (.bl (if neg then !fw x xs else fw x xs)) H
theorem yg:DB X (compareOp .In) (oE X.K false):=by
 intro pins s U H x y v u Q I M O h;obtain⟨p,xs,rfl,F,L,fs,q⟩:=h;cases O;rcases F with F|F
 ·obtain⟨B,r,pl,hz⟩:=I.list F;refine SeqAt.in_listAt (Wo x) pl.isList (fun w J=>Sn M L r fs w (by simpa using J)) ⟨.bl _,H,I,rfl,?_⟩;rw[show B.toArray.any (Wo x)=B.any (Wo x) by simp,Xp r fs];exact q
 ·obtain⟨B,r,pl,hz⟩:=I.tuple F;refine SeqAt.in_tupleAt (Wo x) pl (fun w J=>Sn M L r fs w (by simpa using J)) ⟨.bl _,H,I,rfl,?_⟩;rw[show B.toArray.any (Wo x)=B.any (Wo x) by simp,Xp r fs];exact q
theorem jI:Gr X (.builtin "len") (fun xs H Q=>∃p ys,xs=[.ref p]/\(Eh X.K H p ys\/GF X.K H p ys)/\Q (.int ys.length) H):=by
 intro pins s U H xs us Q I r h;obtain⟨p,ys,rfl,F,q⟩:=h;obtain⟨u,rfl,M⟩:=qm r;cases M;have O:=IS;rcases F with F|F
 ·obtain⟨L,J,pl,hz⟩:=I.list F;have B:=J.length;exact Calls.call_len_list pl.isList (by simp only[Uw]<;>omega) ⟨.int ys.length,H,I.tok _,⟨s.toks+1,by rw[Uw,B]⟩,q⟩
 ·obtain⟨L,J,pl,hz⟩:=I.tuple F;have B:=J.length;exact len_tuple pl (by simp only[Uw]<;>omega) ⟨.int ys.length,H,I.tok _,⟨s.toks+1,by rw[Uw,B]⟩,q⟩
theorem jJ:Gr X (.builtin "len") (fun xs H Q=>∃z,xs=[.str z]/\z.length<=sizeLine/\Q (.int z.length) H):=by
 intro pins s U H xs us Q I r h;obtain⟨z,rfl,hz,q⟩:=h;obtain⟨u,rfl,t,rfl⟩:=qm r;have B:=IS;exact len_str (by omega) ⟨.int z.length,H,I.tok _,⟨_,rfl⟩,q⟩
theorem qW:Gr X (.type "tuple") (fun xs H Q=>∃p ys,xs=[.ref p]/\((Eh X.K H p ys/\∀l,H l=none->Q (.ref l) (upd H l (.tup ys)))\/(GF X.K H p ys/\Q (.ref p) H))):=by
 intro pins s U H xs us Q I r h;obtain⟨p,ys,rfl,h⟩:=h;obtain⟨u,rfl,L⟩:=qm r;cases L;rcases h with ⟨hq,q⟩|⟨hq,q⟩
 ·obtain⟨B,F,pl,hz⟩:=I.list hq;have J:=F.length;refine call_tuple_list pl.isList (fun h' kp=>?_) (by simp only[Uw]<;>omega);have I1:Inv X pins U H { s with heap:=h' }:=I.kept (t':=s.toks) kp
  have I2:Inv X pins U (upd H h'.objs.size (.tup ys)) { s with heap:=h'.push { cls:=.type "tuple",data:=.seq B.toArray } }:=
   I1.laid (t':=s.toks) (fun b o e=>Uc _ e) (Ue _) (show Gj X.prog X.w _ _ _ (.tup ys) from⟨⟨hz,fun _=>⟨_,Ul _ rfl,rfl,rfl⟩⟩,B,F,IsTup.new _ _⟩)
  exact⟨.ref h'.objs.size,_,I2,rfl,q _ (I1.hok.fresh (Ue _))⟩
 ·obtain⟨B,F,pl,hz⟩:=I.tuple hq;exact call_tuple_same pl ⟨.ref p,H,I,rfl,q⟩
def jK(K:W.Frag)(T:String)(x:V)(H:Hp):Prop:=match x with
 | .str _=>T="str"
 | .int _=>T="int"
 | .ref p=>(T="list"/\∃xs,Eh K H p xs)\/(T="tuple"/\∃o,K.lookup p=some o/\o.cls=.type "tuple"/\o.dict=none)\/
  (T="dict"/\((∃kvs,H p=some (.dK kvs))\/∃kvs,H p=some (.dT kvs)))\/(T="set"/\∃S n,H p=some (.set S n))
 |_=>False
theorem yh{pins:List (Addr×Obj)}{U:St}{H:Hp}{s:Shared}{T:String}{x:V}{v:Value}(I:Inv X pins U H s)(r:El x v)(ty:jK X.K T x H) :
  s.TypeIs v T/\∀a,v=.ref a->∃ob,s.heap.get? a=some ob/\ob.dict=none:=by
 cases x with
 |str z=>
  obtain⟨t,rfl⟩:=r;cases (show T="str" from ty);exact⟨typeIs_str s z t,fun _ e=>nomatch e⟩
 |int i=>
  obtain⟨t,rfl⟩:=r;cases (show T="int" from ty);exact⟨typeIs_int s i t,fun _ e=>nomatch e⟩
 |ref p=>
  cases r;rcases ty with ⟨rfl,xs,hq⟩|⟨rfl,o,hk,hc,F⟩|⟨rfl,hk⟩|⟨rfl,S,n,hk⟩
  ·obtain⟨J,_,pl,_⟩:=I.list hq;refine⟨pl.isList.typeIs,fun a e=>?_⟩;cases e;obtain⟨o,n,e,c,F,_⟩:=pl;exact⟨o,e,F⟩
  ·refine⟨⟨o,I.kIn p o hk,hc⟩,fun a e=>?_⟩;cases e;exact⟨o,I.kIn _ o hk,F⟩
  ·have z:∃o,s.heap.get? p=some o/\o.ExactDict:=by
    rcases hk with ⟨kvs,hk⟩|⟨kvs,hk⟩
    ·obtain⟨_,_,_,_,o,_,_,e,ex,_⟩:=I.hok p _ hk;exact⟨o,e,ex⟩
    ·obtain⟨_,_,_,_,o,_,_,e,ex,_⟩:=I.hok p _ hk;exact⟨o,e,ex⟩
   obtain⟨o,e,ex⟩:=z;refine⟨⟨o,e,ex.1⟩,fun a B=>?_⟩;cases B;exact⟨o,e,ex.2.1⟩
  ·obtain⟨o,_,_,_,e,ex,_⟩:=I.hok p _ hk;refine⟨⟨o,e,ex.1⟩,fun a B=>?_⟩;cases B;exact⟨o,e,ex.2.1⟩
 |_=>exact False.elim ty
def cT(K:W.Frag)(T:String)(r:V->List V->Hp->VK->Prop)(to:TE):TE:=fun U H Q=>to U H fun x H1=>jK K T x H1/\r x [] H1 Q
def oF(K:W.Frag)(T:String)(r:V->List V->Hp->VK->Prop)(to:TE)(t:TA):TE:=fun U H Q=>to U H fun x H1=>jK K T x H1/\t U H1 fun xs H2=>r x xs H2 Q
variable{o e:Expr}{es:List Expr}{to:TE}{t:TA}{name:Str}{apos cpos:Pos}{T id:String}{r:V->List V->Hp->VK->Prop}
theorem oG(pa:PlainAttrs T)(J:Slot T name id)(L:typeOf (.builtin id)=pure (.type "method_descriptor"))(hm:uW X id r)(Z:PE X o to)
  (F:attributeBase o name X.env (eval o X.env)=eval o X.env:=by rfl) (B:(apos.endLine==cpos.line)=true:=by rfl):PE X (.Call (.Attribute o name apos) [] [] cpos) (cT X.K T r to):=by
 intro pins s U H Q I h;refine wpAny_Call_method0_late F B (thn (Z pins s U H _ I h) fun v O ⟨x,H1,I1,M,ty,Y⟩=>?_);obtain⟨h1,h2⟩:=yh I1 M ty;exact⟨T,id,pa,J,L,h1,h2,Calls.callWith_builtin rfl (PySem.evalArgs_none (hm pins O U H1 x [] v [] Q I1 M .nil Y))⟩
theorem sN(pa:PlainAttrs T)(L:Slot T name id)(O:typeOf (.builtin id)=pure (.type "method_descriptor"))(hm:uW X id r)(ho:PE X o to)(ha:PA X (e::es) t)
  (J:attributeBase o name X.env (eval o X.env)=eval o X.env:=by rfl)
  (M:((backTo cpos (starEach (e::es) X.env)).all (fun x=>!x.1)&&(backToKw cpos (keywordEach [] X.env)).all (fun x=>x.1.isSome)
   && decide ((e::es).length+([]:List Keyword).length+(if([]:List Keyword).isEmpty then 0 else 1)<30))=true:=by rfl)
  (F:(apos.endLine==cpos.line)=true:=by rfl) (hs:starEach (e::es) X.env=(false,eval e X.env)::starEach es X.env:=by rfl) (B:(backTo cpos (starEach es X.env)).any (·.1)=false:=by rfl) :
  PE X (.Call (.Attribute o name apos) (e::es) [] cpos) (oF X.K T r to t):=by
 intro pins s U H Q I h;refine wpAny_Call_method_late J M F rfl (thn (ho pins s U H _ I h) fun v s1 ⟨x,H1,I1,Z,ty,q1⟩=>?_);obtain⟨h1,h2⟩:=yh I1 Z ty;refine⟨T,id,pa,L,O,h1,h2,?_⟩;have Y:=ha cpos pins s1 U H1 _ I1 q1;rw[hs] at Y ⊢;refine Calls.callWith_builtin (by show(false||(backTo cpos (starEach es X.env)).any (·.1))=false;rw[B]<;>rfl) (Calls.evalArgs_plain ?_);exact thn Y fun us s2 ⟨vs,H2,I2,r2,q2⟩=>hm pins s2 U H2 x vs v us Q I2 Z r2 q2
end
def oH(X:Cx)(id:String)(r:V->List V->Hp->VK->Prop):Prop:=
 ∀(pins:List (Addr×Obj)) (s:Shared) (U:St) (H:Hp) (x:V) (xs:List V) (v:Value) (us:List Value) (Q:VK),Inv X pins U H s->El x v->Em xs us->r x xs H Q ->
  wpAny (model X.prog X.w) X.A (call (.builtin id) (v::us)) (EP X pins U Q) X.xe s
theorem Em.one:∀ {x:V} {us:List Value},Em [x] us->∃u,us=[u]/\El x u
 |_,_,.cons r .nil=>⟨_,rfl,r⟩
theorem Em.two:∀ {x y:V} {us:List Value},Em [x,y] us->∃u v,us=[u,v]/\El x u/\El y v
 |_,_,_,.cons r (.cons q .nil)=>⟨_,_,rfl,r,q⟩
theorem Em.zero:∀ {us:List Value},Em [] us->us=[]
 |_,.nil=>rfl
theorem Em.dropLast{xs:List V}{us:List Value}(h:Em xs us):Em xs.dropLast us.dropLast:=by
 induction h with
 |nil=>exact .nil
 |cons r t ih=>
  cases t with
  |nil=>exact .nil
  |cons q t'=>exact .cons r ih
theorem ve{α:Type}(l:List α):l.eraseIdx (l.length-1)=l.dropLast:=by
 induction l with
 |nil=>rfl
 |cons a r ih=>
  cases r with
  |nil=>rfl
  |cons b r=>
   have e:(a::b::r).length-1=((b::r).length-1)+1:=by
    have h1:(a::b::r).length=r.length+2:=rfl;have h2:(b::r).length=r.length+1:=rfl;omega
   rw[e,List.eraseIdx_cons_succ,ih]
   all_goals rfl
section
variable{X:Cx}{pins:List (Addr×Obj)}{U:St}{H:Hp}{s:Shared}{l b:Addr}{xs ys zs:List V}
theorem Inv.lset{B its':List Value}{n:Nat}{f:Array Value->Array Value}{t':Nat}(I:Inv X pins U H s)(J:H l=some (.lst xs))
  (e:s.heap.get? l=some { cls:=.type "list",data:=.seq B.toArray n }) (L:f B.toArray=its'.toArray) (F:Em ys its') (hz:ys.length<=sizeLine) :
  Inv X pins U (upd H l (.lst ys)) { s with heap:=s.heap.update l (Obj.mapSeq f),toks:=t' }:=by
 have q:=PySem.IsL.update e f;rw[L] at q;refine I.write (x:=l) (e:=l) (by rw[J];exact trivial) (.inl rfl) (fun Y u M O=>(UE s.heap (Obj.mapSeq f) (Ne.symm M)).trans O) ⟨_,q⟩ ?_;exact⟨hz,its',_,F,q⟩
theorem Inv.lstM(I:Inv X pins U H s)(F:H l=some (.lst xs)):xs.length<=sizeLine/\∃(B:List Value) (n:Nat),Em xs B/\xs.length=B.length/\s.heap.get? l=some { cls:=.type "list",data:=.seq B.toArray n }:=by
 obtain⟨z,B,n,r,e⟩:=I.hok l _ F;exact⟨z,B,n,r,r.length,e⟩
theorem cU{n:Nat}(h:n<=sizeLine):Builtin.List.listTooLong n=false:=by
 unfold Builtin.List.listTooLong;exact decide_eq_false (by omega)
end
section
variable{X:Cx}
def uX:V->List V->Hp->VK->Prop:=fun x vs H Q=>∃l xs y,x=.ref l/\vs=[y]/\H l=some (.lst xs)/\xs.length<sizeLine/\Q .non (upd H l (.lst (xs ++ [y])))
theorem DT:oH X "list.append" uX:=by
 intro pins s U H x vs v us Q I L M h;obtain⟨l,xs,y,rfl,rfl,J,hz,q⟩:=h;cases L;obtain⟨u,rfl,O⟩:=M.one;obtain⟨z,B,n,r,Y,e⟩:=I.lstM J;refine call_meets F.slot_list_append ⟨_,e,rfl⟩ F.entry_list_append (F.args_list_append_2 _ _) (PySem.list_append l B.toArray n u (by rw[Uw];omega)) ⟨e,?_⟩;refine⟨.non,_,I.lset (its':=B ++ [u]) J e (by simp) (r.append (.cons O .nil)) ?_,rfl,q⟩;rw[UD,List.length_singleton];omega
def oJ:V->List V->Hp->VK->Prop:=fun x vs H Q=>∃l xs y,x=.ref l/\vs=[]/\H l=some (.lst xs)/\xs[xs.length-1]? = some y/\Q y (upd H l (.lst xs.dropLast))
theorem yi:oH X "list.pop" oJ:=by
 intro pins s U H x vs v us Q I O Y h;obtain⟨l,xs,y,rfl,rfl,M,hy,q⟩:=h;cases O;have L:=Y.zero;subst L;obtain⟨z,B,n,r,hl,e⟩:=I.lstM M;obtain⟨u,Z,ru⟩:=r.get hy
 have J:B.toArray[B.toArray.size-1]? = some u:=by
  show B.toArray[B.length-1]? = some u;rw[<- Array.getElem?_toList,<- hl];exact Z
 refine call_meets F.slot_list_pop ⟨_,e,rfl⟩ F.entry_list_pop (F.args_list_pop_1 _) (MeetsSeq.list_pop_last l B.toArray n u J (by rw[Uw];omega)) ⟨e,?_⟩;refine⟨y,_,I.lset (its':=B.dropLast) M e ?_ r.dropLast ?_,ru,q⟩
 ·show B.toArray.eraseIdxIfInBounds (B.toArray.size-1)=B.dropLast.toArray;rw[Uw,List.eraseIdxIfInBounds_toArray,ve]
 ·rw[List.length_dropLast];omega
end
end _L
namespace Att
open PySem PySem.W PySem.Calls PyProof.Rows
theorem Wp{P:Params}{h:Heap}:∀(B:List Int) (vs:List Value),WellAll P h vs (B.map WData.int)->IntsAre vs B:=by
 intro B
 induction B with
 |nil=>
  intro vs w;rw[List.map_nil] at w;cases w;exact .nil
 |cons n B ih=>
  intro vs w;rw[UK] at w
  cases w with
  |cons a b=>
   cases a;exact .cons _ _ (ih _ b)
theorem yj{l:OpenLaw}{n:Nat}(hn:l.most=some n){P:Params}{h:Heap}{args:List WData}{vals:List Value}
  (F:l.row.toRowW.claim.pre args=true) (Y:WellAll P h vals args) :
  ∃a vs B,vals=[Value.ref a]/\args=[WData.list (B.map WData.int)]/\h.get? a=some { cls:=.type "list",data:=.seq vs.toArray }/\IntsAre vs B/\B.length<=n:=by
 have O:WShape.hasAll [] args [.list .int]=true:=(pre_splitW F).1;have Z:l.pre.holds [] { args:=args }=true:=(pre_splitW F).2;obtain⟨d,r,rfl,h1,h2⟩:=hasAllW_cons O;obtain rfl:=hasAllW_nil h2;obtain⟨xs,rfl,h3⟩:=hasW_list h1;obtain⟨B,rfl⟩:=items_int h3
 have J:B.length<=n:=by
  unfold OpenLaw.pre at Z
  have M:(WTm.not (.lt (.lit (.int (n:Int))) (.len (.arg 0)))).holds [] { args:=[.list (B.map .int)] }=true:=by
   have M:=(holds_andW Z).1;rw[hn] at M;exact M
  have L:=condW_of M (w_not (w_lt w_lit (w_len_list (w_arg rfl))));rw[Ug] at L;refine Nat.le_of_not_lt fun q=>?_;have q':(n:Int)<((B.length:Nat):Int):=by omega
  first
   |(rw[decide_eq_true q'] at L;exact absurd L (by decide))
   |(simp at L;omega)
 cases Y with
 |cons w1 w2=>
  cases w2
  cases w1 with
  |list ho hall=>exact⟨_,_,B,rfl,rfl,ho,Wp B _ hall,J⟩
theorem yk(l:OpenLaw)(args:List WData):l.row.toRowW.claim.post args (.bool true) args=true:=
 postW_of (r:=l.row.toRowW) (X:=(true==true))
  (show WShape.has [] (.bool true) .bool=true by first|rfl|decide|simp[WShape.has,WShape.arms,WShape.armsAll])
  (show(WTm.eq .res (.lit (.bool true))).value [] { args:=args,res:=some (.bool true),after:=args }=some (.bool (true==true)) from w_eq_bool (w_res rfl) w_lit) rfl
theorem attach_call{l:OpenLaw}{n:Nat}{q:Program}{B:List Str}{XP:(Str->Option Value)->Heap->Prop}{YP:World->Heap->Prop}{d:DefRec}
  (hn:l.most=some n) (a1:d.params.defaults=[])
  (call:∀(w:World) (s₀ s₁:Shared) (mg mb:Str->Option Value) (fa:Addr) (o:Obj) (pm Z F:Value) (a:Addr) (vs:List Value) (ns:List Int),
   Ground q B [] XP w s₀ mg mb s₁.heap->YP w s₁.heap ->
   s₁.heap.get? fa=some o->o.data=.func (docDef d.name d.params d.body d.scope pm Z F)->s₁.heap.CodeRec Z d.name->mg d.name=some (.ref fa) ->
   s₁.heap.get? a=some { cls:=.type "list",data:=.seq vs.toArray }->IntsAre vs ns->ns.length<=n->s₁.gens = #[] ->
   codeAny (model l.prog w) callerA (.call (.ref fa) ⟨[.ref a],[]⟩) (fun r s'=>r=.ok (.ret (.bool true))/\OldK s₁.heap s'.heap/\s'.os=s₁.os/\AllBare s'.gens) s₁) :
  WalkO q B XP YP l.row.toRowW d [] (fun f vs=>PySem.call f vs):=by
 intro w s₀ s₁ mg mb G Y fa o pm Z F dV kV ho hd a2 hD a0 hg a5 vals as L a4 a7 a3 a6;obtain rfl:dV=.none:=Dflts.none hD a1;obtain rfl:kV=.none:=Dflts.noKw hD;obtain⟨a,vs,ns,rfl,rfl,O,J,M⟩:=yj hn L a3;refine enter_call (codeAny_mono (call w s₀ s₁ mg mb fa o pm Z F a vs ns G Y ho (fd_plain hd) a2 a0 O J M hg) fun r s' hq=>?_);obtain⟨rfl,h2,h3,h4⟩:=hq;exact⟨.inl ⟨.bool true,.bool true,[],rfl,fun _=>rfl,.bool true,yk l _,fun _=>⟨List.Pairwise.nil,fun _ hm=>(nomatch hm)⟩⟩,h2,h3,h4⟩
section
variable{prog:Program}{w:World}{A:Around}{E:Value->Shared->Prop}{s:Shared}{K:Frag}
noncomputable def tm(h:Heap)(L d:Addr):List (Addr×Obj):=(UM h.objs.size).filterMap fun a=>if a=L\/a=d then none else(h.get? a).map fun o=>(a,o)
end
end Att
namespace _L
open PySem PySem.Spec PyProof.Rows
theorem za:∀ {vs:List Value} {ns:List Int},IntsAre vs ns->Em (ns.map V.int) vs
 |_,_,.nil=>.nil
 |_,_,.cons n t h=>.cons ⟨t,rfl⟩ (za h)
def cV(H:Hp):Prop:=∀b,H b=none\/∃o xs,H b=some (.frz o (.lst xs))
theorem cW{P:Program}{w:World}{K:W.Frag}{mg mb:Str->Option Value}{CX:HC}{k:Nat}{fa a:Addr}{fd:FuncData}{x:Str}{sp:Sp}{s₁:Shared}{vs:List Value}{ns:List Int}
  (KX:K.In s₁.heap) (Y:s₁.heap.Ns mainGlobals mg) (J:s₁.heap.Ns builtinsNs mb) (a5:∀x:Str,x≠"__name__"->mb x=bootBuiltins x) (Z:s₁.heap.NoLimit) (hg:s₁.gens = #[])
  (ha:s₁.heap.get? a=some { cls:=.type "list",data:=.seq vs.toArray }) (hi:IntsAre vs ns) (hl:ns.length<=sizeLine) (hr:Room k callerA)
  (F:∀base:Heap,K.In base->base.Ns mainGlobals mg->Ec P w K mg base CX k fa fd [x] sp) (O:∀(s:Shared) (u:Value),BindsTo s fd ⟨[u],[]⟩ [(x,u)])
  (a7:∀H:Hp,cV H->Eh K H a (ns.map V.int)->sp [.ref a] H (fun v _=>v=.bl true) fun _ _ _=>False)
  (a8:∀H e s',CX [] H s₁ (fun _ _ _=>False) e s'->False) :
  codeAny (model P w) callerA (.call (.ref fa) ⟨[.ref a],[]⟩) (fun r s'=>r=.ok (.ret (.bool true))/\OldK s₁.heap s'.heap/\s'.os=s₁.os/\AllBare s'.gens) s₁:=by
 have rv:=za hi;have a0:=hi.length
 -- from an abstract heap in which nothing but the script may be tracked
 have M:∀H:Hp,cV H->Eh K H a (ns.map V.int)->BA P w H s₁.heap->(∀b,H b≠none->b=a)->(H a≠none->K.lookup a=none) ->
   codeAny (model P w) callerA (.call (.ref fa) ⟨[.ref a],[]⟩) (fun r s'=>r=.ok (.ret (.bool true))/\OldK s₁.heap s'.heap/\s'.os=s₁.os/\AllBare s'.gens) s₁:=by
  intro H hO hS a2 hA hK;have B:∀ {b:Addr} {o:Obj},s₁.heap.get? b=some o->H b=none->(Iq s₁.heap H).get? b=some o:=fun e n=>bX e n
  have a6:∀ {b:Addr} {o:Obj} {es:Array DictEntry} {ep:Nat},s₁.heap.get? b=some o->o.data=.dict es ep->H b=none:=fun {b o es ep} e d=>by
   cases q:H b with
   |none=>rfl
   |some u=>
    have e':b=a:=hA b (by rw[q];simp);subst e';rw[ha] at e;cases e;have d':Data.seq vs.toArray _=Data.dict es ep:=d;cases d'
  have L:∀ {b:Addr} {m:Str->Option Value},s₁.heap.Ns b m->(Iq s₁.heap H).Ns b m:=fun {b m} ⟨o,es,ep,e,d,r⟩=>⟨o,es,ep,B e (a6 e d),d,r⟩
  have a3:K.In (Iq s₁.heap H):=fun b o e=>B (KX b o e) (by
   cases q:H b with
   |none=>rfl
   |some u=>
    have e':b=a:=hA b (by rw[q];simp);subst e'
    rw[hK (by rw[q];simp)] at e;cases e)
  have hM:Mod K mg (Iq s₁.heap H):=⟨a3,L Y,⟨mb,L J,a5⟩,let ⟨mc,h1,h2⟩:=Z;⟨mc,L h1,h2⟩⟩;have e0:ID P w K mg (Iq s₁.heap H) callerA [] s₁ H:=⟨rfl,hM,fun b o e=>iZ e,Nat.le_of_eq (yN _ _),trivial,fun b J=>absurd (show b∈([]:List Addr) from J) (by simp),a2,.of_eq hg⟩;refine codeAny_mono ((F _ a3 (L Y)).run callerA [] s₁ H ⟨[.ref a],[]⟩ [.ref a] [.ref a] _ _ hr e0 (O s₁ (.ref a)) (.cons rfl .nil) (a7 H hO hS)) fun r s' h=>?_
  cases r with
  |error e=>exact(a8 H e s' h).elim
  |ok fl=>
   cases fl with
   |next=>exact False.elim h
   |brk=>exact False.elim h
   |cont=>exact False.elim h
   |ret u=>
    obtain⟨v,H',os,a4,un,a1,r',q⟩:=h;have q':v=.bl true:=q;subst q';obtain rfl:u=Value.bool true:=r';refine⟨rfl,OldK.of_keep fun b o e=>?_,os,a4⟩
    cases q:H b with
    |none=>exact un.keep b o e q (by intro z;exact absurd (show b∈([]:List Addr) from z) (by simp)) (by simp)
    |some u=>
     rcases hO b with z|⟨ob,xs,z⟩
     ·rw[q] at z;cases z
     ·have z2:=un.frzs b ob _ z;obtain⟨e1,_⟩:=a2 b _ z;obtain⟨e2,_⟩:=a1 b _ z2;rw[e] at e1;cases e1;exact e2
 cases hk:K.lookup a with
 |some o=>
  -- the script is one of the module's own objects
  have e:=KX a o hk;rw[ha] at e;cases e;refine M (fun _=>none) (fun _=>.inl rfl) (.inr ⟨_,vs.toArray,_,hk,rfl,rfl,rfl,by rw[Uw,a0];exact hl,by simpa using rv⟩) (fun b u z=>by have z':(none:Option HO)=some u:=z;cases z') (fun b z=>absurd rfl z) fun z=>absurd rfl z
 |none=>
  refine M (fun b=>if b=a then some (.frz { cls:=.type "list",data:=.seq vs.toArray } (.lst (ns.map V.int))) else none) (fun b=>?_) (.inl (.inr ⟨{ cls:=.type "list",data:=.seq vs.toArray },if_pos rfl⟩)) (fun b u z=>?_) (fun b z=>?_) fun _=>hk
  ·by_cases J:b=a
   ·exact .inr ⟨_,_,if_pos J⟩
   ·exact .inl (if_neg J)
  ·by_cases J:b=a
   ·have z':=(if_pos J).symm.trans z;cases z';subst J;exact⟨ha,by rw[Ug];exact hl,vs,_,rv,ha⟩
   ·have z':=(if_neg J).symm.trans z;cases z'
  ·by_cases J:b=a
   ·exact J
   ·exact absurd (if_neg J) z
theorem walk_of{l:PySem.W.OpenLaw}{n k:Nat}{q:Program}{L:List Str}{XP:(Str->Option Value)->Heap->Prop}{YP:World->Heap->Prop}{d:DefRec}{K:Params->W.Frag}{CX:World->HC}{sp:World->Sp}{x:Str}
  (hn:l.most=some n) (a2:n<=sizeLine) (a1:d.params.defaults=[]) (hr:Room k callerA)
  (hY:∀(w:World) (h:Heap),YP w h->(K w.params).In h)
  (F:∀(w:World) (mg:Str->Option Value) (fa:Addr) (h:Heap),(K w.params).In h->h.Ns mainGlobals mg->mg d.name=some (.ref fa) ->
   ∃fd:FuncData,(∀(s:Shared) (u:Value),BindsTo s fd ⟨[u],[]⟩ [(x,u)])/\
    ∀base:Heap,(K w.params).In base->base.Ns mainGlobals mg->Ec l.prog w (K w.params) mg base (CX w) k fa fd [x] (sp w))
  (a0:∀(w:World) (H:Hp) (a:Addr) (O:List Int),O.length<=n->cV H->Eh (K w.params) H a (O.map V.int)->sp w [.ref a] H (fun v _=>v=.bl true) fun _ _ _=>False)
  (a3:∀(w:World) (H:Hp) (s:Shared) (e:Value) (s':Shared),CX w [] H s (fun _ _ _=>False) e s'->False) :
  PySem.W.WalkO q L XP YP l.row.toRowW d [] (fun f vs=>PySem.call f vs):=by
 refine Att.attach_call hn a1 fun w s₀ s₁ mg mb fa o pm cd a4 a vs O G Y ho hd a5 Z M J B hg=>?_;have KX:=hY w _ Y;obtain⟨fd,hb,hF⟩:=F w mg fa _ KX G.T.g Z;exact cW KX G.T.g G.T.b G.T.builtins G.T.nolimit hg M J (Uz B a2) hr hF hb (fun H hO hS=>a0 w H a O B hO hS) fun H e s'=>a3 w H s₁ e s'
end _L
namespace _L
open PySem PySem.Spec PyProof.Rows
noncomputable def GI(s:Stmt)(j:Nat):Stmt:=match s with
 | .ClassDef _ _ _ body _ _ _ _ _ _ _=>body.getD j (.Pass ⟨0,0,0,0⟩)
 |_=>.Pass ⟨0,0,0,0⟩
noncomputable def DG(s:Stmt):Arguments:=match s with
 | .FunctionDef _ a _ _ _ _ _ _ _ _=>a
 |_=>{ posonlyargs:=[],args:=[],vararg:=none,kwonlyargs:=[],kw_defaults:=[],kwarg:=none,defaults:=[] }
noncomputable def Gv(s:Stmt):List Stmt:=match s with
 | .FunctionDef _ _ b _ _ _ _ _ _ _=>b
 |_=>[]
noncomputable def EU(s:Stmt):Scope:=match s with
 | .FunctionDef _ _ _ _ _ _ sc _ _ _=>sc
 |_=>{ kind:=.function,names:=[],isGenerator:=false,isCoroutine:=false }
abbrev Ew:HC:=fun _ _ _ _ _ _=>False
abbrev E0:XK:=fun _ _ _=>False
theorem GK{X:Cx}:BN Ew X E0:=fun _ _ _ _ _ _ _ h=>h.elim
structure Ev(K:W.Frag)(x qual:Str)(st:Stmt)(f:Addr)(fd:FuncData):Prop where
 ex:∃(oc:Value) (od:Option Addr) (kV doc pm:Value) (an:Option Addr) (cdv ct:Value) (osl:Array (Option Value)),
  fd=W.fnOf x qual (DG st) (Gv st) (EU st) .none kV doc pm an cdv ct/\K.lookup f=some ⟨oc,od,.func fd,osl⟩/\W.codeIn K cdv qual=true
 kp:W.keepIn K (.ref f)=true
section
variable{P:Program}{w:World}{K:W.Frag}{mg:Str->Option Value}{base:Heap}
theorem Ev.ok{x qual:Str}{st:Stmt}{f:Addr}{fd:FuncData}{N ps:List Str}{k:Nat}{sp:Sp}(F:Ev K x qual st f fd)(S:Eo N ps (EU st))
  (L:∀(J:Value) (A:Around) (B:List Env) (s:Shared) (H:Hp) (vs:List V) (Q:VK) (E:XK),Room k (A.deeper (envOfC qual (EU st) s.heap.objs.size f J))->sp vs H Q E ->
   ∃t,HB (Sm Ew P w K mg base N qual (EU st) f J A B s H E).nox (Gv st) t/\t { nx:=fun _ H'=>Q .non H',rt:=Q } (start N vs) H) (len:∀vs H Q E,sp vs H Q E->vs.length=ps.length:=by walk_at "l"):Ec P w K mg base Ew (k+1) f fd ps sp:=by
 obtain⟨oc,od,kV,Y,pm,an,J,ct,a0,rfl,lk,O⟩:=F.ex;refine ft lk O S len fun A B s H vs Q E Z M=>?_;obtain⟨t,h,q⟩:=L J A B s H vs Q E Z M;exact⟨t,h.nox,q⟩
theorem Ev.binds{x qual:Str}{st:Stmt}{f:Addr}{fd:FuncData}{ps:List Str}(F:Ev K x qual st f fd)
  (h:∀(kV B O:Value) (L:Option Addr) (J M:Value) (us:List Value),us.length=ps.length->bindArgs (W.fnOf x qual (DG st) (Gv st) (EU st) .none kV B O L J M) ⟨us,[]⟩=pure (ps.zip us)):EX K fd ps []:=by
 obtain⟨oc,od,kV,B,O,L,J,M,Y,rfl,lk,Z⟩:=F.ex;exact .all (h kV B O L J M)
theorem fun_mk{x qual:Str}{st:Stmt}{f:Addr}{Y:Value}{Z L:Option Addr}{J:Array (Option Value)}{kV F O B M:Value}(l:K.lookup f=some ⟨Y,Z,.func (W.fnOf x qual (DG st) (Gv st) (EU st) .none kV F O L B M),J⟩)
 (c:W.codeIn K B qual=true) (k:W.keepIn K (.ref f)=true):Ev K x qual st f (W.fnOf x qual (DG st) (Gv st) (EU st) .none kV F O L B M):=⟨⟨Y,Z,kV,F,O,L,B,M,J,rfl,l,c⟩,k⟩
end
theorem Dc{A:Around}{k:Nat}(B:Room k A):A.units+1<cLine:=Uq (Nat.add_le_add_left (by decide:1<=64) _) B.units
theorem GV{A B:Prop}(h:B):if false=true then A else B:=by
 rw[if_neg UA];exact h
theorem DD{A B:Prop}(h:A):if true=true then A else B:=by
 rw[if_pos rfl];exact h
def ET(H H':Hp):Prop:=∀b o,H b=some o->H' b=some o
theorem ET.refl(H:Hp):ET H H:=fun _ _ h=>h
theorem ET.trans{H H1 H2:Hp}(a:ET H H1)(b:ET H1 H2):ET H H2:=fun c o h=>b c o (a c o h)
theorem ET.free{H H':Hp}(e:ET H H'){l:Addr}(h:H' l=Option.none):H l=Option.none:=by
 cases q:H l with
 |none=>rfl
 |some o=>
  rw[e l o q] at h;cases h
theorem ET.seq{K:W.Frag}{H H':Hp}{a:Addr}{xs:List V}(e:ET H H')(h:Eh K H a xs):Eh K H' a xs:=by
 rcases h with (h|⟨o,h⟩)|h
 ·exact .inl (.inl (e _ _ h))
 ·exact .inl (.inr ⟨o,e _ _ h⟩)
 ·exact .inr h
end _L
namespace _L
open PySem PySem.Spec PyProof.Rows PySem.W
noncomputable def Gq(c:Nat->Nat->Bool){α:Type}:KasT α->α
 | .ret a=>a
 | .ask i j k=>Gq c (k (c i j))
theorem As(c:Nat->Nat->Bool){α β:Type}(f:α->KasT β):∀t:KasT α,Gq c (t.bind f)=Gq c (f (Gq c t))
 | .ret _=>rfl
 | .ask i j k=>As c f (k (c i j))
noncomputable abbrev Gg(p:Array Nat)(i:Nat):Nat:=p.getD i 0
section
variable{c:Nat->Nat->Bool}{n:Nat}
structure zb(c:Nat->Nat->Bool)(n:Nat):Prop where
 tr:∀i j k,c i j=true->c j k=true->c i k=true
 asy:∀i j,c i j=true->c j i=false
 tot:∀i j,i<n->j<n->i≠j->c i j=false->c j i=true
structure zc(p:Array Nat)(n:Nat):Prop where
 size:p.size=n
 lt:∀i,i<n->Gg p i<n
 inj:∀i j,i<n->j<n->Gg p i=Gg p j->i=j
theorem Wq{p:Array Nat}{i v:Nat}(h:p[i]? = some v):Gg p i=v:=by
 simp[Gg,h]
theorem AV{p:Array Nat}{i:Nat}(h:i<p.size):p[i]? = some (Gg p i):=by
 simp[Gg,h]
theorem zc.of_perm{p:Array Nat}(h:p.toList.Perm (UM n)):zc p n:=by
 have M:p.size=n:=by have:=h.length_eq;simpa using this
 refine⟨M,fun i hi=>?_,fun i j hi Y e=>?_⟩
 ·have hm:Gg p i∈p.toList:=by
   have:=AV (p:=p) (i:=i) (by omega);exact Array.mem_toList_iff.mpr (Array.mem_of_getElem? this)
  exact List.mem_range.mp (h.mem_iff.mp hm)
 ·have O:p.toList.Nodup:=h.nodup_iff.mpr List.nodup_range;have h1:p.toList[i]? = some (Gg p i):=by rw[Array.getElem?_toList];exact AV (by omega)
  have h2:p.toList[j]? = some (Gg p i):=by rw[Array.getElem?_toList,e];exact AV (by omega)
  have B:i<p.toList.length:=by simp;omega
  have F:j<p.toList.length:=by simp;omega
  rw[Ub B] at h1;rw[Ub F] at h2;have J:=Vx.mp (Vc.mp O);have L:p.toList[i]=p.toList[j]:=by rw[Option.some.inj h1,Option.some.inj h2]
  rcases Nat.lt_trichotomy i j with z|z|z
  ·exact absurd L (J i j B F z)
  ·exact z
  ·exact absurd L.symm (J j i F B z)
def Up(c:Nat->Nat->Bool)(p:Array Nat)(m:Nat):Prop:=∀a b,a<b->b<m->c (Gg p a) (Gg p b)=true
theorem SG(O:zb c n){p:Array Nat}{m:Nat}(h:∀i,1<=i->i<m->c (Gg p (i-1)) (Gg p i)=true):Up c p m:=by
 intro a b B F;obtain⟨d,rfl⟩:=Nat.exists_eq_add_of_lt B
 induction d with
 |zero=>have:=h (a+1) (by omega) F;simpa using this
 |succ d ih=>
  have h1:=ih (by omega) (by omega);have h2:=h (a+(d+1)+1) (by omega) F;have e:a+(d+1)+1-1=a+d+1:=by omega
  rw[e] at h2;exact O.tr _ _ _ h1 h2
theorem Wr(p:Array Nat):∀(f a:Nat),a<=Gq c (kas_asc p f a)/\Gq c (kas_asc p f a)<=a+f/\(∀i,a<=i->i<Gq c (kas_asc p f a)->c (Gg p i) (Gg p (i-1))=false)/\
  (Gq c (kas_asc p f a)=a+f\/c (Gg p (Gq c (kas_asc p f a))) (Gg p (Gq c (kas_asc p f a)-1))=true)
 | 0,a=>⟨Ue _,Ue _,fun i h1 h2=>absurd h2 (by show ¬i<a;omega),.inl rfl⟩
 |f+1,a=>by
  have e:Gq c (kas_asc p (f+1) a)=Gq c (if c (Gg p a) (Gg p (a-1))=true then KasT.ret a else kas_asc p f (a+1)):=rfl;rw[e]
  cases hc:c (Gg p a) (Gg p (a-1)) with
  |true=>
   rw[if_pos rfl];exact⟨Ue _,Nat.le_add_right _ _,fun i h1 h2=>absurd h2 (by show ¬i<a;omega),.inr hc⟩
  |false=>
   rw[if_neg (by decide)];obtain⟨h1,h2,J,B⟩:=Wr p f (a+1);refine⟨by omega,by omega,fun i L F=>?_,?_⟩
   ·by_cases z:i=a
    ·rw[z];exact hc
    ·exact J i (by omega) F
   ·rcases B with B|B
    ·left;omega
    ·right;exact B
theorem uY(O:zb c n){p:Array Nat}(P:zc p n):∀(f a:Nat),1<=a->a+f<=n->∃m,Gq c (kas_desc f p a 0)=(p,m,0)/\a<=m/\m<=a+f/\∀i,a<=i->i<m->c (Gg p i) (Gg p (i-1))=true
 | 0,a,_,_=>⟨a,rfl,Ue _,Ue _,fun i h1 h2=>absurd h2 (by omega)⟩
 |f+1,a,h1,h2=>by
  have e:Gq c (kas_desc (f+1) p a 0)=Gq c (if c (Gg p a) (Gg p (a-1))=true then(if 0>0 then kas_desc f (kas_rev p (a-(0+1)) a) (a+1) 0 else kas_desc f p (a+1) 0)
   else .ask (p.getD (a-1) 0) (p.getD a 0) fun d=>if d=true then .ret (p,a,0) else kas_desc f p (a+1) (0+1)):=rfl
  rw[e]
  cases hc:c (Gg p a) (Gg p (a-1)) with
  |true=>
   rw[if_pos rfl,if_neg (by decide)];obtain⟨m,J,Z,g3,F⟩:=uY O P f (a+1) (by omega) (by omega);refine⟨m,J,by omega,by omega,fun i Y B=>?_⟩;by_cases z:i=a
   ·rw[z];exact hc
   ·exact F i (by omega) B
  |false=>
   rw[if_neg (by decide)];have M:c (Gg p (a-1)) (Gg p a)=true:=O.tot _ _ (P.lt _ (by omega)) (P.lt _ (by omega)) (fun z=>by have:=P.inj _ _ (by omega) (by omega) z;omega) hc;have L:Gq c (KasT.ask (p.getD (a-1) 0) (p.getD a 0) fun d=>if d=true then KasT.ret (p,a,0) else kas_desc f p (a+1) (0+1))=Gq c (if c (Gg p (a-1)) (Gg p a)=true then KasT.ret (p,a,0) else kas_desc f p (a+1) (0+1)):=rfl;rw[L,M,if_pos rfl];exact⟨a,rfl,Ue _,by omega,fun i Y B=>absurd B (by omega)⟩
theorem jL(p:Array Nat)(i j:Nat):(kas_rev p i j).toList.Perm p.toList:=Array.perm_iff_toList_perm.mp (mirror_perm p i j _)
theorem uZ{p:Array Nat}{m:Nat}(hm:m<=p.size)(k:Nat)(F:k<m):Gg (kas_rev p 0 m) k=Gg p (m-1-k):=by
 refine Wq ?_;have e:(kas_rev p 0 m)[k]? = if 0<=k/\k<m then p[0+m-1-k]? else p[k]?:=getElem?_mirror_all (i:=0) hm k;rw[e,if_pos ⟨by omega,F⟩];have B:0+m-1-k=m-1-k:=by omega
 rw[B];exact AV (by omega)
theorem ua(O:zb c n){p:Array Nat}(P:zc p n){m f:Nat}(h1:1<=m)(h:Up c p m)(Y:m+f<=n):Up c p (Gq c (kas_asc p f m)):=by
 obtain⟨L,M,F,_⟩:=Wr (c:=c) p f m;refine SG O fun i J B=>?_;by_cases z:i<m
 ·exact h (i-1) i (by omega) z
 ·have:=F i (by omega) B;exact O.tot _ _ (P.lt _ (by omega)) (P.lt _ (by omega)) (fun e=>by have:=P.inj _ _ (by omega) (by omega) e;omega) this
theorem cX(O:zb c n){p:Array Nat}(Y:p.toList.Perm (UM n))(hn:1<=n):(Gq c (kas_count n p)).2.toList.Perm (UM n)/\1<=(Gq c (kas_count n p)).1/\(Gq c (kas_count n p)).1<=n/\Up c (Gq c (kas_count n p)).2 (Gq c (kas_count n p)).1:=by
 have P:=zc.of_perm Y;unfold kas_count;rw[As];obtain⟨g1,g2,g3,M⟩:=Wr (c:=c) p (n-1) 1;have B:=ua O P (m:=1) (f:=n-1) (Ue _) (fun a b h1 h2=>by omega) (by omega);generalize hm:Gq c (kas_asc p (n-1) 1)=m at *;by_cases h1:(m==n)=true
 ·rw[if_pos h1];exact⟨Y,g1,by show m<=n;omega,B⟩
 ·rw[if_neg h1]
  have a3:m<n:=by
   have:m≠n:=fun z=>h1 (by simp[z]);omega
  by_cases h2:m>1
  ·rw[if_pos h2];have hc:c (Gg p 0) (Gg p (m-1))=true:=B 0 (m-1) (by omega) (by omega);have e:Gq c (KasT.ask (p.getD 0 0) (p.getD (m-1) 0) fun c=>if c=true then KasT.ret (m,p) else kas_descPart m n (kas_rev p 0 m))=Gq c (if c (Gg p 0) (Gg p (m-1))=true then KasT.ret (m,p) else kas_descPart m n (kas_rev p 0 m)):=rfl;rw[e,hc,if_pos rfl];exact⟨Y,by show 1<=m;omega,by show m<=n;omega,B⟩
  ·rw[if_neg h2];have Z:m=1:=by omega
   subst Z
   have a1:c (Gg p 1) (Gg p 0)=true:=by
    rcases M with M|M
    ·omega
    ·exact M
   unfold kas_descPart;rw[As];obtain⟨m,k1,k2,k3,k4⟩:=uY O P (n-(1+1)) (1+1) (by omega) (by omega);rw[k1];rw[if_neg (show ¬((p,m,0):Array Nat×Nat×Nat).2.2>0 by show ¬ 0>0;omega)];show(Gq c (kas_tail3 m n p)).2.toList.Perm (UM n)/\_;unfold kas_tail3;rw[As];have F:(kas_rev p 0 m).toList.Perm (UM n):=(jL p 0 m).trans Y;have R:=zc.of_perm F
   have L:Up c (kas_rev p 0 m) m:=by
    refine SG O fun i a2 a0=>?_;rw[uZ (by rw[P.size];omega) _ (by omega),uZ (by rw[P.size];omega) _ a0];have e:m-1-(i-1)=m-i:=by omega
    have e2:m-1-i=m-i-1:=by omega
    rw[e,e2];by_cases z:m-i=1
    ·rw[z];exact a1
    ·exact k4 (m-i) (by omega) (by omega)
   have J:=ua O R (m:=m) (f:=n-m) (by omega) L (by omega);obtain⟨q1,q2,_,_⟩:=Wr (c:=c) (kas_rev p 0 m) (n-m) m;exact⟨F,by show 1<=Gq c _;omega,by show Gq c _<=n;omega,J⟩
theorem So(O:zb c n){p:Array Nat}(P:zc p n){k:Nat}(J:k<n)(h:Up c p k):∀(f l r:Nat),l<=r->r<=k->r-l<=f->(∀i,i<l->c (Gg p i) (Gg p k)=true)->(∀i,r<=i->i<k->c (Gg p k) (Gg p i)=true) ->
  ∃m,Gq c (kas_place p k f l r)=m/\m<=k/\(∀i,i<m->c (Gg p i) (Gg p k)=true)/\(∀i,m<=i->i<k->c (Gg p k) (Gg p i)=true)
 | 0,l,r,h1,h2,h3,h4,h5=>⟨l,rfl,by omega,h4,fun i L F=>h5 i (by omega) F⟩
 |f+1,l,r,h1,h2,h3,h4,h5=>by
  by_cases B:l>=r
  ·have e:Gq c (kas_place p k (f+1) l r)=l:=by
    show Gq c (if l>=r then KasT.ret l else _)=l;rw[if_pos B];rfl
   exact⟨l,e,by omega,h4,fun i L F=>h5 i (by omega) F⟩
  ·have e:Gq c (kas_place p k (f+1) l r)=Gq c (if c (Gg p k) (Gg p ((l+r) / 2))=true then kas_place p k f l ((l+r) / 2) else kas_place p k f ((l+r) / 2+1) r):=by
    show Gq c (if l>=r then KasT.ret l else _)=_;rw[if_neg B];rfl
   rw[e]
   cases hc:c (Gg p k) (Gg p ((l+r) / 2)) with
   |true=>
    rw[if_pos rfl];refine So O P J h f l ((l+r) / 2) (by omega) (by omega) (by omega) h4 fun i L F=>?_;by_cases z:i=(l+r) / 2
    ·rw[z];exact hc
    ·exact O.tr _ _ _ hc (h ((l+r) / 2) i (by omega) F)
   |false=>
    rw[if_neg (by decide)];have M:c (Gg p ((l+r) / 2)) (Gg p k)=true:=O.tot _ _ (P.lt _ J) (P.lt _ (by omega)) (fun z=>by have:=P.inj _ _ J (by omega) z;omega) hc;refine So O P J h f ((l+r) / 2+1) r (by omega) h2 (by omega) (fun i L=>?_) h5;by_cases z:i=(l+r) / 2
    ·rw[z];exact M
    ·exact O.tr _ _ _ (h i ((l+r) / 2) (by omega) (by omega)) M
theorem ub{p:Array Nat}{k l:Nat}(B:k<p.size)(F:l<=k)(i:Nat)(hi:i<p.size):Gg (bubble p k (k-l)) i=if i=l then Gg p k else if l<i/\i<=k then Gg p (i-1) else Gg p i:=by
 refine Wq ?_;rw[getElem?_bubble B (k-l) (by omega)];have e:k-(k-l)=l:=by omega
 rw[e];by_cases h1:i=l
 ·rw[if_pos h1,if_pos h1];exact AV B
 ·rw[if_neg h1,if_neg h1];by_cases h2:l<i/\i<=k
  ·rw[if_pos h2,if_pos h2];exact AV (by omega)
  ·rw[if_neg h2,if_neg h2];exact AV hi
theorem yl(O:zb c n):∀(f:Nat) (p:Array Nat) (k:Nat),p.toList.Perm (UM n)->k+f=n->Up c p k->(Gq c (kas_bin f p k)).toList.Perm (UM n)/\Up c (Gq c (kas_bin f p k)) n
 | 0,p,k,hp,hk,h=>by
  have e:k=n:=by omega
  refine⟨hp,?_⟩;show Up c p n;rw[<- e];exact h
 |f+1,p,k,hp,hk,h=>by
  have P:=zc.of_perm hp;show(Gq c ((kas_place p k k 0 k).bind fun l=>kas_bin f (bubble p k (k-l)) (k+1))).toList.Perm (UM n)/\Up c (Gq c ((kas_place p k k 0 k).bind fun l=>kas_bin f (bubble p k (k-l)) (k+1))) n;rw[As];obtain⟨m,e,M,Z,g3⟩:=So O P (k:=k) (by omega) h k 0 k (by omega) (Ue _) (by omega) (fun i hi=>by omega) (fun i h1 h2=>by omega);rw[e];refine yl O f (bubble p k (k-m)) (k+1) ((Array.perm_iff_toList_perm.mp (bubble_perm p k _)).trans hp) (by omega) fun a b L hb=>?_;rw[ub (by rw[P.size];omega) M a (by rw[P.size];omega),ub (by rw[P.size];omega) M b (by rw[P.size];omega)];by_cases Y:a=m
  ·rw[if_pos Y,if_neg (by omega),if_pos ⟨by omega,by omega⟩];exact g3 (b-1) (by omega) (by omega)
  ·rw[if_neg Y];by_cases J:b=m
   ·rw[if_pos J,if_neg (by omega)];exact Z a (by omega)
   ·rw[if_neg J];by_cases F:m<a/\a<=k
    ·rw[if_pos F,if_pos ⟨by omega,by omega⟩];exact h (a-1) (b-1) (by omega) (by omega)
    ·rw[if_neg F];by_cases B:m<b/\b<=k
     ·rw[if_pos B];by_cases z:a=b-1
      ·omega
      ·exact h a (b-1) (by omega) (by omega)
     ·rw[if_neg B];exact h a b L (by omega)
theorem kI(O:zb c n)(F:1<=n):(Gq c (kas_sort n)).toList.Perm (UM n)/\Up c (Gq c (kas_sort n)) n:=by
 unfold kas_sort;rw[As];obtain⟨h1,h2,J,B⟩:=cX O (p:=List.toArray (UM n)) (List.Perm.refl _) F;generalize Gq c (kas_count n (List.toArray (UM n)))=r at *;by_cases h:r.1<n
 ·rw[if_pos h];have e:max r.1 1=r.1:=by omega
  rw[e];exact yl O (n-r.1) r.2 r.1 h1 (by omega) B
 ·rw[if_neg h];refine⟨h1,?_⟩;have e:r.1=n:=by omega
  rw[e] at B;exact B
end
section
variable{X:Cx}
theorem GM:DB X (binaryOp .Mult) (rI IntMulOk fun i j=>.int (i*j)):=yT fun _ _ _ _ _ _ _ B q=>mul_int q B
def Hm(_ j:Int):Prop:=0<j/\j.natAbs.log2<9000
theorem CN:DB X (binaryOp .FloorDiv) (rI Hm fun i j=>.int (i / j)):=yT fun i j _ _ _ _ _ B q=>by
 have h1:(0:Int)<j:=B.1;exact floordiv_int (by omega) (by rw[Int.fdiv_eq_ediv_of_nonneg i (by omega)];exact q) (.inl (PyProof.noPylong_of_log2 B.2))
theorem Hm.of{i j:Int}(h:0<j){k:Nat}(h2:j<2 ^ k)(J:k<=9000):Hm i j:=by
 refine⟨h,?_⟩
 have F:j.natAbs<2 ^ k:=by
  have e:((j.natAbs:Nat):Int)=j:=by omega
  have B:((2 ^ k:Nat):Int)=(2:Int) ^ k:=by simp
  have:((j.natAbs:Nat):Int)<((2 ^ k:Nat):Int):=by rw[e,B];exact h2
  exact Int.ofNat_lt.mp this
 have L:j.natAbs.log2<k:=(Nat.log2_lt (by omega)).mpr F;omega
theorem oK{i j:Int}(h1:-(2 ^ 64)<i)(h2:i<2 ^ 64):IntMulOk i j:=.of_left (intBits_le_64 h1 h2)
theorem tH{i j:Int}(h1:-(2 ^ 64)<j)(h2:j<2 ^ 64):IntMulOk i j:=.of_right (intBits_le_64 h1 h2)
theorem Ws:∀ {bs:List Bool} {us:List Value},Em (bs.map V.bl) us->∀(i:Nat) (v:Value),us[i]? = some v->∃b,bs[i]? = some b/\v=.bool b
 | [],_,.nil,i,v,h=>by simp at h
 |b::bs,_,.cons r t,0,v,h=>by
  simp at h;subst h;exact⟨b,rfl,r⟩
 |b::bs,_,.cons r t,i+1,v,h=>by
  simpa using Ws t i v (by simpa using h)
theorem cY(hc:X.calm=true):Gr X (.builtin "all") (fun xs H Q=>∃(p:Addr) (bs:List Bool),xs=[.ref p]/\Eh X.K H p (bs.map V.bl)/\Q (.bl (bs.all id)) H):=by
 intro pins s U H xs us Q I r h;obtain⟨p,bs,rfl,Z,q⟩:=h
 cases r with
 |cons r1 r2=>
 cases r2;cases r1;obtain⟨B,O,pl,hz⟩:=I.list Z;have L:s.heap.IsList p B.toArray:=pl.isList;have J:p<s.heap.objs.size:=by obtain⟨_,e,_⟩:=L;exact Uo e
 refine call_all_walk (wpAny_pyIter_list L ?_)
 refine⟨s.heap.objs.size,[s.heap.objs.size,p],[s.heap.objs.size],B.toArray.size,_,_,fun i=>(bs[i]?).getD true,rfl,Walks.list (A:=X.A.in1) (I.ok.hd hc) _ p (Ut J) B.toArray,
  ⟨⟨_,Ul _ rfl,rfl,rfl⟩,L.push _⟩,fun i v s' Q' E' hP M=>?_,fun h' tk Y=>?_⟩
 ·obtain⟨b,e,rfl⟩:=Ws O i v (by simpa using hP);simp only[e,Option.getD_some] at M;exact wpAny_truthy_bool M
 ·have e:((UM B.toArray.size).all fun i=>(bs[i]?).getD true)=bs.all id:=by
   have F:=O.length;rw[Ug] at F;rw[Uw,<- F];exact PyProof.Rows.LSm.range_all bs
  rw[e];refine⟨.bl _,H,I.kept fun b x e=>Y b x (fun hm=>by rw[Um.mp hm] at e;exact Vj _ (Uo e)) (Uc _ e),rfl,q⟩
def cZ(K:W.Frag):List V->Hp->VK->Prop:=fun xs H Q=>∃x n t b,xs=[x,.ty n]/\Aa K H x t/\W.kitOne K t (.type n)=some b/\Q (.bl b) H
theorem ce:Gr X (.builtin "isinstance") (cZ X.K):=by
 intro pins s U H xs us Q I r h;obtain⟨x,n,t,b,rfl,ty,e,q⟩:=h;obtain⟨u,v,rfl,F,B⟩:=r.two;obtain rfl:v=Value.type n:=B;exact yb I F ty e fun J=>⟨.bl b,H,I.tok _,rfl,q⟩
end
theorem qX{l:List (Str×Addr)}{x:Str}{c:Addr}(h:(x,c)∈l):∃d,l.lookup x=some d:=by
 induction l with
 |nil=>cases h
 |cons p r ih=>
  obtain⟨y,d⟩:=p
  cases hx:x==y with
  |true=>exact⟨d,by simp[Uk,hx]⟩
  |false=>
   have B:(x,c)∈r:=by
    rcases Ud.mp h with e|e
    ·cases e;simp at hx
    ·exact e
   obtain⟨d',e⟩:=ih B;exact⟨d',by simp only[Uk,hx];exact e⟩
theorem HE{env:Env}:∀(B:List (Str×NameKind)) (acc:List (Str×Addr)),(∀y∈B,y.2=NameKind.free->∃c,env.cells.lookup y.1=some c)->(∀p∈acc,env.cells.lookup p.1=some p.2) ->
  ∃J:List (Str×Addr),(forIn B acc fun(x:Str×NameKind) (r:List (Str×Addr))=>(match x with|(name,kind)=>if(kind==NameKind.free)=true then(do let a <- cellOf env name;pure (ForInStep.yield ((name,a)::r))) else pure (ForInStep.yield r):Sem (ForInStep (List (Str×Addr)))))=pure J
   /\(∀p∈J,env.cells.lookup p.1=some p.2)/\(∀p∈acc,p∈J)/\∀y∈B,y.2=NameKind.free->∃c,(y.1,c)∈J
 | [],acc,_,ha=>⟨acc,by simp,ha,fun _ h=>h,fun y h=>by cases h⟩
 |(n,k)::r,acc,h,ha=>by
  by_cases O:k=NameKind.free
  ·subst O;obtain⟨c,Z⟩:=h (n,.free) UB rfl
   obtain⟨J,e,h1,h2,Y⟩:=HE r ((n,c)::acc) (fun y F=>h y (Uf _ F)) (fun p L=>by
    rcases Ud.mp L with rfl|L
    ·exact Z
    ·exact ha p L)
   refine⟨J,?_,h1,fun p L=>h2 p (Uf _ L),fun y F M=>?_⟩
   ·rw[List.forIn_cons];simp only[beq_self_eq_true,if_true,cellOf,Z,pure_bind];exact e
   ·rcases Ud.mp F with rfl|F
    ·exact⟨c,h2 _ UB⟩
    ·exact Y y F M
  ·obtain⟨J,e,h1,h2,Y⟩:=HE r acc (fun y F=>h y (Uf _ F)) ha;have hb:(k==NameKind.free)=false:=by simpa using O
   refine⟨J,?_,h1,h2,fun y F M=>?_⟩
   ·rw[List.forIn_cons];simp only[hb,UW,if_false,pure_bind];exact e
   ·rcases Ud.mp F with rfl|F
    ·exact absurd M O
    ·exact Y y F M
theorem Wt{scope:Scope}{env:Env}(h:∀y∈scope.names,y.2=NameKind.free->∃c,env.cells.lookup y.1=some c) :
  ∃B,closureFor scope env=pure B/\(∀x c,B.lookup x=some c->env.cells.lookup x=some c)/\∀y∈scope.names,y.2=.free->∃c,B.lookup y.1=some c:=by
 obtain⟨B,e,h1,_,Y⟩:=HE scope.names [] h (fun p F=>by cases F);refine⟨B,?_,fun x c J=>h1 (x,c) (PySem.mem_of_lookup J),fun y L O=>?_⟩
 ·simp only[closureFor];rw[e];rfl
 ·obtain⟨c,M⟩:=Y y L O;exact qX M
theorem Au{env:Env}:∀(B:List (Str×NameKind)) (x:Str),
  (B.map fun(n,k)=>if(k==NameKind.free&&env.scope.kind == .function&&env.kindOf n==some .cell) then(n,NameKind.cell) else(n,k)).lookup x =
   (B.lookup x).map fun k=>if(k==NameKind.free&&env.scope.kind == .function&&env.kindOf x==some .cell) then NameKind.cell else k
 | [],_=>rfl
 |(n,k)::r,x=>by
  have J:=Au (env:=env) r x;show Vm x ((if(k==NameKind.free&&env.scope.kind == .function&&env.kindOf n==some .cell)=true then(n,NameKind.cell) else(n,k))::_)=_
  cases hx:x==n with
  |true=>
   have e:x=n:=eq_of_beq hx;subst e;by_cases F:(k==NameKind.free&&env.scope.kind == .function&&env.kindOf x==some .cell)=true
   ·rw[if_pos F];simp only[Uk,beq_self_eq_true,Vb];rw[if_pos F]
   ·rw[if_neg F];simp only[Uk,beq_self_eq_true,Vb];rw[if_neg F]
  |false=>
   by_cases F:(k==NameKind.free&&env.scope.kind == .function&&env.kindOf n==some .cell)=true
   ·rw[if_pos F];simp only[Uk,hx];exact J
   ·rw[if_neg F];simp only[Uk,hx];exact J
structure Kt(N:List Str)(sc:Scope)(own caps:List Str)(ks:List Nat)(scope:Scope):Prop where
 kind:scope.kind=.function
 nocell:∀y∈scope.names,y.2≠.cell
 names:∀y∈scope.names,y.2=.local->scope.names.lookup y.1=some .local
 free:∀y∈scope.names,y.2=.free->sc.names.lookup y.1=some .cell
 nd:(own++caps).Nodup
 cap:ks.map (fun k=>N[k]?)=caps.map some
 fr:∀x∈caps,scope.names.lookup x=some .free
noncomputable def GU(X:Cx)(N':List Str)(scope:Scope)(cl:List (Str×Addr))(C:Addr)(s₂:Shared)(H₂:Hp)(fp:List Addr):Cx:=
 { X with N:=N',s₀:=s₂,H₀:=H₂,env:=compEnvC scope cl C X.env,outer:=X.stack,stack:=X.stack,ex:=fp,fn:=fun _=>false,pn:=[],xe:=fun _ _=>False }
noncomputable def AE(own:Nat)(ks:List Nat)(U:St):St:=List.replicate own none++ks.map fun k=>(U[k]?).join
section
variable{prog:Program}{w:World}{A:Around}{R:Result->Shared->Prop}{s:Shared}
theorem Ab{J B F:Expr}{L:List Expr}{scope:Scope}{pos:Pos}{Y M:Value}{env:Env}(I:Nat->Shared->Prop)
  (O:∀n s,I n s->wpAny (model prog w) A (pyNext Y) (fun r s₁=>match r with
   |none=>R (.ok .next) s₁
   | some v=>wpAny (model prog w) A (letOwnedTupleGo B Y v) (fun _ s₁'=>wpAny (model prog w) A (assign B env v) (fun _ s₂=>
    wpAny (model prog w) A (forIn L true fun c r=>if r=true then do let ok <- isTrue c env (eval c env);pure (ForInStep.yield ok) else pure (ForInStep.yield r)) (fun ok s₃=>
     if ok=true then wpAny (model prog w) A (eval J env) (fun x s₄=>
      wpAny (model prog w) A (call (.builtin "list.append") [M,x]) (fun _ s₅=>∃m,m<n/\I m s₅) (notedBy (model prog w) A env fun e s'=>R (.error e) s') s₄) (notedBy (model prog w) A env fun e s'=>R (.error e) s') s₃
     else ∃m,m<n/\I m s₃) (notedBy (model prog w) A env fun e s'=>R (.error e) s') s₂) (notedBy (model prog w) A env fun e s'=>R (.error e) s') s₁') (notedBy (model prog w) A env fun e s'=>R (.error e) s') s₁) (notedBy (model prog w) A env fun e s'=>R (.error e) s') s)
  (n:Nat) (h:I n s) :
  codeAny (model prog w) A (.compLoop (.ListComp J [⟨B,F,L,0⟩] scope pos) 0 Y M env) R s:=by
 refine codeAny_loop rfl I (fun n s Z=>?_) n h;show wpAny _ A ((compTurn (.ListComp J [⟨B,F,L,0⟩] scope pos) 0 Y M env).onRaise (fun x=>do noteFrame x env;theTreesLotGoes x)) _ _ s;refine wpAny_noted ?_;rw[compTurn_list];refine Ua (wpAny_standAt (Ua (UJ (O n s Z) (fun r s₁ h₁=>?_) fun _ _ h'=>h')))
 cases r with
 |none=>exact Uj h₁
 |some v=>
  refine Ua (UJ h₁ (fun _ s₁' h₁'=>?_) fun _ _ h'=>h');refine Ua (UJ h₁' (fun _ s₂ h₂=>Ua (UJ h₂ (fun ok s₃ h₃=>?_) fun _ _ h'=>h')) fun _ _ h'=>h')
  cases ok with
  |false=>exact Uj ⟨rfl,h₃⟩
  |true=>
   exact Ua (Ua (UJ h₃ (fun x s₄ h₄=>Ua (UJ h₄ (fun _ s₅ h₅=>Uj (Uj ⟨rfl,h₅⟩)) fun _ _ h'=>h')) fun _ _ h'=>h'))
end
def Xq(X:Cx)(ifs:List Expr)(t:TT):Prop:=
 ∀(pins:List (Addr×Obj)) (s:Shared) (U:St) (H:Hp) (Q:Bool->Hp->Prop),Inv X pins U H s->t U H Q ->
  wpAny (model X.prog X.w) X.A (forIn ifs true fun c r=>if r=true then do let ok <- isTrue c X.env (eval c X.env);pure (ForInStep.yield ok) else pure (ForInStep.yield r)) (TP X pins U Q) X.xe s
def vf:TT:=fun _ H Q=>Q true H
section
variable{X:Cx}
theorem cf:Xq X [] vf:=fun _ _ _ H _ I h=>wpAny_tests_nil ⟨H,I,h⟩
theorem cg{c:Expr}{t:TT}(B:PT X c t):Xq X [c] t:=fun pins s U H Q I h=>wpAny_tests_one (B pins s U H Q I h)
def Lm(own:Nat)(ks:List Nat)(wi:TI)(g:TG)(tt:TT)(te:TE):TE:=fun U H Q=>wi U H fun J H1=>∀l,H1 l=none ->
 ∃W:Nat->Nat->St->Hp->Prop,(∃m,W 0 m (AE own ks U) (upd H1 l (.lst [])))/\∀i m U' H',W i m U' H' ->
  (J.stop i H'/\Q (.ref l) H')\/(J.go i H'/\∃N:St->Hp->Prop,(∀U2 H2,N U2 H2->∃m',m'<m/\W (i+1) m' U2 H2)/\
   ∀x H'',J.yld i H' x H''->g x U' H'' fun U2 H2=>tt U2 H2 fun b H3=>
    if b=true then te U2 H3 fun v H4=>∃xs,H4 l=some (.lst xs)/\xs.length<sizeLine/\N U2 (upd H4 l (.lst (xs ++ [v]))) else N U2 H3)
theorem zd{α:Type}{o:Option (Option α)}{v:α}(h:o.join=some v):o=some (some v):=by
 cases o with
 |none=>cases h
 |some x=>exact congrArg some h
theorem kJ{N:List Str}{sc:Scope}{own caps:List Str}{ks:List Nat}{b7 tg O:Expr}{b6:List Expr}{scope:Scope}{pos:Pos}{wi:TI}{g:TG}{tt:TT}{te:TE}
  (hN:X.N=N) (e0:X.env.scope=sc) (hc:X.calm=true) (S:Kt N sc own caps ks scope) (hi:PI X tg O wi)
  (hg:∀F C s₂ H₂ fp,PG (GU X (own++caps) scope F C s₂ H₂ fp) tg g)
  (ht:∀F C s₂ H₂ fp,Xq (GU X (own++caps) scope F C s₂ H₂ fp) b6 tt)
  (he:∀F C s₂ H₂ fp,PE (GU X (own++caps) scope F C s₂ H₂ fp) b7 te)
  (hs:∀x,foldedSetIterable O X.env x=pure x:=by intro _;rfl) :
  PE X (.ListComp b7 [⟨tg,O,b6,0⟩] scope pos) (Lm own.length ks wi g tt te):=by
 intro pins s U H Q I h;subst hN e0;rw[eval_ListComp];obtain⟨F,a9,M,a8⟩:=Wt (scope:=scope) (env:=X.env) fun y hy hf=>I.ok.has y.1 (.inl (S.free y hy hf));refine wpAny_comprehension_free (use:=none) rfl hs a9 S.kind S.names (UJ (hi pins s U H _ I h) (fun xv s₁ h₁=>UJ h₁ (fun it s₂ h₂=>?_) fun _ _ e=>e) fun _ _ e=>e);obtain⟨it,fp,tn,J,H2,e,I2,T,d3,f2,q⟩:=h₂;subst e;refine wpAny_newObj_type (wpAny_newFunctionEnv S.nocell (by intro y hy;simp at hy) (fun h₁ hns₁ hsb₁=>?_) S.kind);dsimp only at hns₁ hsb₁ ⊢;generalize c2:s₂.heap.push { cls:=.type "list",dict:=none,data:=.seq ([]:List Value).toArray }=HP at hns₁ hsb₁ ⊢;have hC:HP.objs.size=s₂.heap.objs.size+1:=by rw[<- c2,UZ]
 have c3:s₂.heap.objs.size≠HP.objs.size:=by rw[hC];exact Ut (Nat.lt_succ_self _)
 have L:s₂.heap.objs.size<=HP.objs.size:=by rw[hC];exact Vl _
 have old:∀b o,s₂.heap.get? b=some o->h₁.get? b=some o:=fun b o e=>by
  have B:b<s₂.heap.objs.size:=Uo e;exact hsb₁.extBut b o (by rw[hC];exact Ut (Vo B)) (Uc _ (c2 ▸ Uc _ e))
 have c8:h₁.get? s₂.heap.objs.size=some { cls:=.type "list",dict:=none,data:=.seq ([]:List Value).toArray }:=hsb₁.extBut _ _ c3 (Uc _ (c2 ▸ Ul _ rfl))
 have b8:∀b∈fp,b<s₂.heap.objs.size:=fun b B=>by
  obtain⟨o,e,_⟩:=T.obj _ _ d3 b B;exact Uo e
 have d2:H2 s₂.heap.objs.size=none:=I2.hok.fresh (Ue _);obtain⟨W,⟨m0,w0⟩,d1⟩:=q s₂.heap.objs.size d2;have c9:∀x,(compEnvC scope F HP.objs.size X.env).kindOf x=(scope.names.lookup x).map fun k=>if(k==NameKind.free&&X.env.scope.kind == .function&&X.env.kindOf x==some .cell) then NameKind.cell else k:=fun x=>Au (env:=X.env) scope.names x;have a0:∀x,scope.names.lookup x=some .free->X.env.kindOf x=some .cell:=fun x e=>S.free (x,.free) (PySem.mem_of_lookup e) rfl
 -- the context within
 have ok:(GU X (own++caps) scope F HP.objs.size s₂ H2 fp).Ok:=by
  refine⟨I2.ok.mod,S.kind,I2.ok.glob,I2.ok.blt,L,fun x y c e1 Y=>I2.ok.inj x y c (M x c e1) (M y c Y),fun x hx=>?_,fun x c z=>(by cases z),I2.ok.hd,I2.ok.frames,.inl rfl,fun b B=>⟨?_,fun x c e=>(f2 b B).2.2.2.2.1 x c (M x c e)⟩,
   I2.bs,Uz I2.ok.bsz I2.sz,fun b o e B=>?_,fun b B z=>?_,I2.stack,I2.stkFree⟩
  ·have a1:(scope.names.lookup x).map (fun k=>if(k==NameKind.free&&X.env.scope.kind == .function&&X.env.kindOf x==some .cell) then NameKind.cell else k)=some .cell\/
     (scope.names.lookup x).map (fun k=>if(k==NameKind.free&&X.env.scope.kind == .function&&X.env.kindOf x==some .cell) then NameKind.cell else k)=some .free:=by rw[<- c9 x];exact hx
   cases e:scope.names.lookup x with
   |none=>rw[e] at a1;rcases a1 with z|z<;>cases z
   |some k=>
    have hm:=PySem.mem_of_lookup e
    have hk:k=.free:=by
     by_cases c7:k=.free
     ·exact c7
     ·have B:(k==NameKind.free)=false:=by simpa using c7
      rw[e] at a1;simp only[Vb,B,Vr,UW,if_false,Option.some.injEq] at a1;rcases a1 with z|z
      ·exact absurd z (S.nocell _ hm)
      ·exact z
    exact a8 _ hm hk
  ·exact Ut (Uh (b8 b B) L)
  ·rcases(f2 b B).2.2.2.1 with z|z
   ·exact I2.ok.noex b o e z
   ·exact absurd (Uh (Uo e) (Uz I2.ok.bsz z)) (Vj _)
  ·rcases Ud.mp (I2.stkSub b z) with r|r
   ·exact(f2 b B).2.1 r
   ·exact(f2 b B).2.2.1 r
 have d4:(AE own.length ks U).length=(own++caps).length:=by
  have:=congrArg List.length S.cap;simp only[Ug] at this;simp[AE,this]
 have I4:Inv (GU X (own++caps) scope F HP.objs.size s₂ H2 fp) [] (AE own.length ks U) (upd H2 s₂.heap.objs.size (.lst [])) { s₂ with heap:=h₁,toks:=s₂.toks+([]:List (Str×Value)).length }:=by
  obtain⟨mX,e6,e5⟩:=I2.loc;refine⟨ok,rfl,I2.bare,Un.laid old (Ue _) d2,⟨_,hns₁,fun i x v e1 Y e3=>?_⟩,fun x c e=>?_,?_,fun x c e=>?_,fun p hp=>(by cases hp),I2.hok.laid old (Ue _) ⟨UX _,[],0,.nil,c8⟩,d4⟩
  ·have e1:(own++caps)[i]? = some x:=e1;by_cases a3:i<own.length
   ·unfold AE at Y;rw[List.getElem?_append_left (by simpa using a3),List.getElem?_replicate] at Y;rw[if_pos a3] at Y;cases Y
   ·unfold AE at Y;rw[Vq (by simpa using a3),List.length_replicate,UC] at Y;rw[Vq (by simpa using a3)] at e1
    cases ek:ks[i-own.length]? with
    |none=>rw[ek] at Y;cases Y
    |some k=>
     rw[ek] at Y;have d7:=zd (Option.some.inj Y);have a5:=congrArg (fun l=>l[i-own.length]?) S.cap;simp only[UC,ek,e1,Vb] at a5;have d6:X.N[k]? = some x:=Option.some.inj a5;have c0:=S.fr x (Ux e1);have b9:=a0 x c0;obtain⟨u,ru,lk⟩:=e5 k x v d6 d7 (.inr (.inl b9));refine⟨u,ru,.inr ⟨.inl ?_,?_⟩⟩
     ·show(compEnvC scope F HP.objs.size X.env).kindOf x=some .cell;rw[c9 x,c0];simp[I2.ok.kind,b9]
     ·rcases lk with ⟨z,_⟩|⟨_,c,ec,o,ho,hd⟩
      ·rw[b9] at z;cases z
      ·obtain⟨c',c4⟩:=a8 (x,.free) (PySem.mem_of_lookup c0) rfl;have:=M _ _ c4;rw[ec] at this;cases this;exact⟨c,c4,o,old _ _ ho,hd⟩
  ·obtain⟨v,o,ho,hd⟩:=I2.cell x c (M x c e);exact⟨v,o,old _ _ ho,hd⟩
  ·show upd H2 s₂.heap.objs.size (.lst []) HP.objs.size=none;rw[Ep (Ne.symm c3)];exact I2.hok.fresh L
  ·obtain⟨v,o,ho,hd⟩:=I2.cell x c (M x c e);show upd H2 s₂.heap.objs.size (.lst []) c=none;rw[Ep (Ut (Uo ho))];exact I2.freeC x c (M x c e)
 -- the way out
 have out:∀ {U':St} {H':Hp} {s':Shared},Inv (GU X (own++caps) scope F HP.objs.size s₂ H2 fp) [] U' H' s'->Q (.ref s₂.heap.objs.size) H' ->
   ∃m,s'.heap.Ns HP.objs.size m/\∀h',Heap.SameBut HP.objs.size s'.heap h'->EP X pins U Q (.ref s₂.heap.objs.size) { s' with heap:=h' }:=fun {U' H' s'} I' q'=>by
  obtain⟨m,hn,_⟩:=I'.loc;refine⟨m,hn,fun h' a4=>⟨.ref s₂.heap.objs.size,H',?_,rfl,q'⟩⟩;have Z:H' HP.objs.size=none:=I'.free;have b0:∀ {b:Addr} {o:Obj},s₂.heap.get? b=some o->b≠HP.objs.size:=fun e=>Ut (Uh (Uo e) L);refine I2.call' (ch:=fp) (s':={ s' with heap:=h' }) I'.os ⟨fun b o e n B hx=>?_,fun b o e n B hx=>?_,I'.base.free,fun b o e hx=>?_,I'.base.tups,I'.base.frzs,I'.base.tbls⟩ (fun b ob e=>?_) I'.bare fun b B=>⟨(f2 b B).2.2.2.1,(f2 b B).2.1,(f2 b B).2.2.2.2.1,(f2 b B).2.2.2.2.2⟩
  ·exact(a4.2 b (b0 e)).trans (I'.base.keep b o e n B hx)
  ·obtain⟨sl,e1⟩:=I'.base.slot b o e n B hx;exact⟨sl,(a4.2 b (b0 e)).trans e1⟩
  ·obtain⟨o',e1⟩:=I'.base.there b o e hx;exact⟨o',(a4.2 b (b0 e)).trans e1⟩
  ·refine(I'.hok b ob e).stay (fun c w' hc q=>(a4.2 c ?_).trans q) (fun _ q=>q) fun _ _ q=>q;rintro rfl;rcases hc with rfl|hc
   ·rw[Z] at e;cases e
   ·rw[Z] at hc;cases hc
 have a2:∀ {H':Hp},(∀b∈fp,H' b=none)->∀b∈fp,BG (GU X (own++caps) scope F HP.objs.size s₂ H2 fp) [] H' b:=fun hn b B=>
  ⟨hn b B,Ut (Uh (b8 b B) L),ok.exfs b B,.inl B,(ok.exf b B).2,fun p hp=>by cases hp⟩
 have d5:∀b∈fp,upd H2 s₂.heap.objs.size (.lst []) b=none:=fun b B=>by
  rw[Ep (Ut (b8 b B))];exact(f2 b B).1
 have c5:tn 0 h₁:=T.keep _ _ _ d3 fun b _ o e=>old b o e
 have a7:∀s4:Shared,s4={ s₂ with heap:=h₁,toks:=s₂.toks+([]:List (Str×Value)).length } ->
   codeAny (model X.prog X.w) X.A (.compLoop (.ListComp b7 [⟨tg,O,b6,0⟩] scope pos) 0 (.ref it) (.ref s₂.heap.objs.size) (compEnvC scope F HP.objs.size X.env))
    (compPost (model X.prog X.w) X.A X.xe none (EP X pins U Q) (.ref s₂.heap.objs.size) HP.objs.size) s4:=by
  rintro s4 rfl;refine Ab (fun n s'=>∃i U' H',Inv (GU X (own++caps) scope F HP.objs.size s₂ H2 fp) [] U' H' s'/\tn i s'.heap/\(∀b∈fp,H' b=none)/\W i n U' H') ?_ m0 ⟨0,_,_,I4,c5,d5,w0⟩;rintro n s3 ⟨i,U3,H3,I3,c6,fr3,w3⟩;rcases d1 i n U3 H3 w3 with ⟨stop,qn⟩|⟨go,N,hN,step⟩
  ·refine UJ (T.done (GU X (own++caps) scope F HP.objs.size s₂ H2 fp) rfl rfl rfl hc i [] s3 U3 H3 (fun _ _=>False) I3 (a2 fr3) c6 stop) (fun r s4 ⟨hr,I4'⟩=>?_) fun _ _ z=>False.elim z;subst hr;exact out I4' qn
  ·refine UJ (T.item (GU X (own++caps) scope F HP.objs.size s₂ H2 fp) rfl rfl rfl hc i [] s3 U3 H3 (fun _ _=>False) I3 (a2 fr3) c6 go) (fun r s4 ⟨u,hr,h4⟩=>?_) fun _ _ z=>False.elim z;subst hr;refine UJ h4 (fun _ s5 ⟨x,H5,I5,r5,y5,c1,e4⟩=>?_) fun _ _ z=>False.elim z;have I5':=I5.pinned (a2 e4) (T.obj _ _ c1)
   have a6:∀ {s7:Shared} {U7:St} {H7:Hp},Inv (GU X (own++caps) scope F HP.objs.size s₂ H2 fp) ([]++IR fp s5.heap) U7 H7 s7->N U7 H7 ->
     ∃m,m<n/\∃i U' H',Inv (GU X (own++caps) scope F HP.objs.size s₂ H2 fp) [] U' H' s7/\tn i s7.heap/\(∀b∈fp,H' b=none)/\W i m U' H':=fun {s7 U7 H7} I7 n7=>by
    obtain⟨m',hm,w7⟩:=hN U7 H7 n7;refine⟨m',hm,i+1,U7,H7,I7.unpinned,T.keep _ _ _ c1 fun b B o e=>(I7.pin (b,o) (Uv _ (Uv _ (Cf B e)))).1,fun b B=>?_,w7⟩;obtain⟨o,e,d⟩:=T.obj _ _ c1 b B;exact(I7.pin (b,o) (Uv _ (Uv _ (Cf B e)))).2.1
   refine UJ (hg _ _ _ _ _ _ s5 U3 H5 x u _ I5' r5 (step x H5 y5)) (fun _ s6 ⟨U6,H6,I6,q6⟩=>?_) fun _ _ z=>False.elim z;refine UJ (ht _ _ _ _ _ _ s6 U6 H6 _ I6 q6) (fun b s7 ⟨H7,I7,q7⟩=>?_) fun _ _ z=>False.elim z
   cases b with
   |false=>
    rw[if_neg UA];rw[if_neg UA] at q7;exact a6 I7 q7
   |true=>
    rw[if_pos rfl];rw[if_pos rfl] at q7;refine UJ (he _ _ _ _ _ _ s7 U6 H7 _ I7 q7) (fun y s8 ⟨v,H8,I8,r8,xs,d9,d8,n8⟩=>?_) fun _ _ z=>False.elim z;refine UJ (DT (X:=GU X (own++caps) scope F HP.objs.size s₂ H2 fp) _ s8 U6 H8 (.ref s₂.heap.objs.size) [v] (.ref s₂.heap.objs.size) [y] (fun _ H'=>N U6 H') I8 rfl (.cons r8 .nil) ⟨_,xs,v,rfl,rfl,d9,d8,n8⟩) (fun _ s9 ⟨_,H9,I9,_,n9⟩=>?_) fun _ _ z=>False.elim z;exact a6 I9 n9
 exact codeAny_compStart_list (a7 _ rfl) (T.self _ 0 _ _ _ c5 (a7 _ rfl))
end
theorem oM:bootBuiltins "int"=some (.type "int"):=by decide +kernel
theorem kK:bootBuiltins "bool"=some (.type "bool"):=by decide +kernel
theorem oN:bootBuiltins "str"=some (.type "str"):=by decide +kernel
theorem Dp:bootBuiltins "tuple"=some (.type "tuple"):=by decide +kernel
theorem kL:bootBuiltins "list"=some (.type "list"):=by decide +kernel
theorem CO:bootBuiltins "len"=some (.builtin "len"):=by decide +kernel
theorem oO:bootBuiltins "abs"=some (.builtin "abs"):=by decide +kernel
theorem IT:bootBuiltins "max"=some (.builtin "max"):=by decide +kernel
theorem IU:bootBuiltins "min"=some (.builtin "min"):=by decide +kernel
theorem oP:bootBuiltins "all"=some (.builtin "all"):=by decide +kernel
theorem AW:bootBuiltins "sorted"=some (.builtin "sorted"):=by decide +kernel
theorem FT:bootBuiltins "isinstance"=some (.builtin "isinstance"):=by decide +kernel
noncomputable def BO:Expr->Bool
 | .Starred _ _=>true
 |_=>false
def DM(es:List Expr):Bool:=es.all fun e=>!BO e
theorem DZ{e:Expr}{es:List Expr}{env:Env}(h:BO e=false):starEach (e::es) env=(false,eval e env)::starEach es env:=by
 cases e<;>first|rfl|cases h
theorem Av{e:Expr}{es:List Expr}{env:Env}(h:DM (e::es)=true):starEach (e::es) env=(false,eval e env)::starEach es env:=by
 refine DZ ?_;unfold DM at h;rw[List.all_cons,UN] at h;simpa using h.1
theorem AO{pos:Pos}{env:Env}:∀ {es:List Expr},DM es=true->(backTo pos (starEach es env)).any (·.1)=false
 | [],_=>rfl
 |e::es,h=>by
  rw[Av h]
  have h2:DM es=true:=by
   unfold DM at h ⊢;rw[List.all_cons,UN] at h;exact h.2
  exact AO h2
theorem AX{e:Expr}{es:List Expr}(h:DM (e::es)=true):DM es=true:=by
 unfold DM at h ⊢;rw[List.all_cons,UN] at h;exact h.2
section
variable{X:Cx}{CX:HC}{k:Nat}{f:Addr}{fd:FuncData}{ps:List Str}{sp:Sp}{dvs:List V}{ds:List Value}{E:XK}{x:Str}{p pos:Pos}{e:Expr}{es:List Expr}{te:TE}{t:TA}{id T:String}{r:List V->Hp->VK->Prop}
theorem tI(J:PE X e te)(F:PA X es t)(B:BO e=false:=by rfl):PA X (e::es) (qo te t):=kA J F (DZ B)
theorem ci(F:Ec X.prog X.w X.K X.mg X.base CX k f fd ps sp)(hr:Room k X.A)(Y:Gl X x)(hm:X.mg x=some (.ref f))(O:W.keepIn X.K (.ref f)=true)(hb:EX X.K fd ps ds)(L:Em dvs ds)(M:BN CX X E)
  (Z:PA X (e::es) t) (B:DM (e::es)=true:=by rfl) (J:(x==("__debug__":Str))=false:=by decide):PE X (.Call (.Name x p) (e::es) [] pos) (Wk sp dvs E t):=
 kB F hr Y hm O hb L M Z J (Av B) (AO (AX B))
theorem ym(L:Gr X (.builtin id) r)(O:Gl X x)(hm:X.mg x=none)(M:bootBuiltins x=some (.builtin id))(Y:PA X (e::es) t)(B:DM (e::es)=true:=by rfl)(J:x≠"__name__":=by decide)(F:(x==("__debug__":Str))=false:=by decide) :
 PE X (.Call (.Name x p) (e::es) [] pos) (jF r t):=cO L O hm M Y J F (Av B) (AO (AX B))
theorem vg(L:Gr X (.type T) r)(O:Gl X x)(hm:X.mg x=none)(M:bootBuiltins x=some (.type T))(Y:PA X (e::es) t)(B:DM (e::es)=true:=by rfl)(J:x≠"__name__":=by decide)(F:(x==("__debug__":Str))=false:=by decide) :
 PE X (.Call (.Name x p) (e::es) [] pos) (jF r t):=yd L O hm M Y J F (Av B) (AO (AX B))
end
noncomputable def Cg:Expr->Bool
 | .ListComp _ _ _ _=>true
 | .SetComp _ _ _ _=>true
 | .DictComp _ _ _ _ _=>true
 |_=>false
theorem HF{e:Expr}{tg:Option Expr}{n:Nat}{env:Env}(h:Cg e=false):swapsWith e tg n env=pure false:=by
 cases e<;>first|rfl|cases h
section
variable{X:Cx}{e:Expr}{te:TE}{pos:Pos}
theorem cj(F:PE X e te)(B:Cg e=false:=by rfl):PS X (.Expr e pos) (qj te):=ij F (HF B)
theorem kM{i:Nat}{x:Str}{pos':Pos}(B:X.N.Nodup)(hi:X.N[i]? = some x)(F:Hl X.env.scope x)(L:PE X e te)(J:Cg e=false:=by rfl)(M:X.fn x=true\/X.env.scope.names.lookup x=some .local:=by first|exact .inl rfl|exact .inr rfl|assumption) :
 PS X (.Assign [.Name x pos'] e pos) (IC te (AD i)):=yP B hi F L (HF J) M
end
def vh(K:W.Frag):List V->Hp->VK->Prop:=fun xs H Q=>∃p ys,xs=[.ref p]/\(Eh K H p ys\/GF K H p ys)/\Q (.int ys.length) H
def oQ:List V->Hp->VK->Prop:=fun xs H Q=>∃i,xs=[.int i]/\Q (.int (if i<0 then -i else i)) H
def oR:List V->Hp->VK->Prop:=fun xs H Q=>∃i j,xs=[.int i,.int j]/\Q (.int (if j>i then j else i)) H
def oS:List V->Hp->VK->Prop:=fun xs H Q=>∃i j,xs=[.int i,.int j]/\Q (.int (if j<i then j else i)) H
def ck(K:W.Frag):List V->Hp->VK->Prop:=fun xs H Q=>∃(p:Addr) (bs:List Bool),xs=[.ref p]/\Eh K H p (bs.map V.bl)/\Q (.bl (bs.all id)) H
def jM(K:W.Frag):List V->Hp->VK->Prop:=fun xs H Q=>∃p ys,xs=[.ref p]/\((Eh K H p ys/\∀l,H l=none->Q (.ref l) (upd H l (.tup ys)))\/(GF K H p ys/\Q (.ref p) H))
def oT:R2:=fun x y H Q=>y=.non/\Q (.bl (decide (x=.non))) H
def fz:R2:=fun x y H Q=>y=.non/\Q (.bl (!decide (x=.non))) H
section
variable{X:Cx}
theorem oU:Gr X (.builtin "len") (vh X.K):=jI
theorem oV:Gr X (.builtin "abs") oQ:=cF
theorem Wu(B:X.calm=true):Gr X (.builtin "max") oR:=yW B
theorem Wv(B:X.calm=true):Gr X (.builtin "min") oS:=yX B
theorem oW(B:X.calm=true):Gr X (.builtin "all") (ck X.K):=cY B
theorem cm:Gr X (.type "tuple") (jM X.K):=qW
theorem IV:DB X (compareOp .Is) oT:=nZ
theorem Ln:DB X (compareOp .IsNot) fz:=iq
end
section
variable{K:W.Frag}{U:St}{H:Hp}{Q:VK}{D:DQ}
theorem oX{t u:TS}(h:t { D with nx:=u D } U H):bc t u D U H:=h
theorem oY{te:TE}(h:te U H D.rt):bg te D U H:=h
theorem kN{te:TE}(h:te U H fun _ H1=>D.nx U H1):qj te D U H:=h
theorem kO(h:D.nx U H):vN D U H:=h
theorem oZ{te:TE}{g:TG}(h:te U H fun x H1=>g x U H1 D.nx):IC te g D U H:=h
theorem cn{i:Nat}{v:V}{R:St->Hp->Prop}(h:R (U.set i (some v)) H):AD i v U H R:=h
theorem kP{R:St->Hp->Prop}(h:R U H):bj [] U H R:=⟨rfl,h⟩
theorem cp{t:TG}{u:FJ}{v:V}{r:List V}{R:St->Hp->Prop}(h:t v U H fun U' H'=>u r U' H' R):vO t u (v::r) U H R:=⟨v,r,rfl,h⟩
theorem kQ{to ti:TE}{t:qz}{v:V}{R:St->Hp->Prop}(h:to U H fun o H1=>ti U H1 fun i H2=>t o i v H2 fun H3=>R U H3):bp to ti t v U H R:=h
theorem og{c:TT}{t u:TS}(h:c U H fun b H1=>if b=true then t D U H1 else u D U H1):Ir c t u D U H:=h
theorem kR{t:TE}{R:Bool->Hp->Prop}(h:t U H fun x H'=>∃k,x=.bl k/\R k H'):Wg t U H R:=h
theorem tJ{t:TE}{R:Bool->Hp->Prop}(h:t U H fun x H'=>∃k,x=.bl k/\R k H'):tB t U H R:=h
theorem Sq{b:Bool}{R:Bool->Prop}(h:R b):∃k,V.bl b=.bl k/\R k:=⟨b,rfl,h⟩
theorem oh{t u:TT}{R:Bool->Hp->Prop}(h:t U H fun c H1=>if c=true then u U H1 R else R false H1):bZ t u U H R:=h
theorem sO{t u:TT}{R:Bool->Hp->Prop}(h:t U H fun c H1=>if c=true then R true H1 else u U H1 R):nE t u U H R:=h
theorem oi{t:TT}{R:Bool->Hp->Prop}(h:t U H fun c H1=>R (!c) H1):ba t U H R:=h
theorem kS{t u:TE}(h:t U H fun x H1=>∃c,x=.bl c/\if c=true then u U H1 Q else Q (.bl false) H1):vL t u U H Q:=h
theorem kT{t:TE}(h:t U H fun x H1=>∃c,x=.bl c/\Q (.bl (!c)) H1):vM t U H Q:=h
theorem sP{t:TT}{ta tb:TE}(h:t U H fun c H1=>if c=true then ta U H1 Q else tb U H1 Q):nL t ta tb U H Q:=h
theorem oj{i:Nat}{v:V}(e:U[i]? = some (some v))(h:Q v H):bY i U H Q:=⟨v,e,h⟩
theorem jN{i j:Int}(h1:0<=j)(h2:j<=1000000)(B:i.natAbs<2 ^ 64):cB i j:=⟨h1,h2,B⟩
theorem tK{v:V}(h:Q v H):tC v U H Q:=h
theorem sQ{r:R2}{ta tb:TE}(h:ta U H fun x H1=>tb U H1 fun y H2=>r x y H2 Q):Wf r ta tb U H Q:=h
theorem sR{r:V->Hp->VK->Prop}{ta:TE}(h:ta U H fun x H1=>r x H1 Q):nW r ta U H Q:=h
theorem sS{g:Int->Int->V}{i j:Int}(h:Q (g i j) H):SB g (.int i) (.int j) H Q:=⟨i,j,rfl,rfl,h⟩
theorem FU{C:Int->Int->Prop}{g:Int->Int->V}{i j:Int}(c:C i j)(h:Q (g i j) H):rI C g (.int i) (.int j) H Q:=⟨i,j,rfl,rfl,c,h⟩
theorem tL{g:Int->V}{i:Int}(h:Q (g i) H):rU g (.int i) H Q:=⟨i,rfl,h⟩
theorem om{i j:Int}(h:Q (.bl (decide (V.int i=V.int j))) H):nY (.int i) (.int j) H Q:=⟨rfl,h⟩
theorem oo{i j:Int}(h:Q (.bl (!decide (V.int i=V.int j))) H):sr (.int i) (.int j) H Q:=⟨rfl,h⟩
theorem sT{r:List V->Hp->VK->Prop}{t:TA}(h:t U H fun vs H1=>r vs H1 Q):jF r t U H Q:=h
theorem kU{sp:Sp}{dvs:List V}{E:XK}{t:TA}(h:t U H fun vs H1=>sp (vs++dvs) H1 Q E):Wk sp dvs E t U H Q:=h
theorem kW{ta:TE}{tr:TA}{R:List V->Hp->Prop}(h:ta U H fun x H1=>tr U H1 fun xs H2=>R (x::xs) H2):qo ta tr U H R:=h
theorem ow{R:List V->Hp->Prop}(h:R [] H):Sl U H R:=h
def cq(n:Nat)(o:HO)(H:Hp)(Q:VK):Prop:=n<=sizeLine/\∀p,H p=none->Q (.ref p) (upd H p o)
theorem ox{t:TA}(h:t U H fun xs H1=>cq xs.length (.tup xs) H1 Q):cK t U H Q:=h
theorem oy{t:TA}(h:t U H fun xs H1=>cq xs.length (.lst xs) H1 Q):cL t U H Q:=h
theorem Eg{n:Nat}{o:HO}(hz:n<=sizeLine)(h:∀p H2,H p=none->H2 p=some o->ET H H2->Q (.ref p) H2):cq n o H Q:=
 ⟨hz,fun p B=>h p _ B EW (fun b u e=>by rw[Ep (GJ e B)];exact e)⟩
theorem cr{r B:R2}{ta tb tc:TE}(h:ta U H fun x H1=>tb U H1 fun y H2=>r x y H2 fun z H3=>∃k,z=.bl k/\(if k=true then tc U H3 fun F H4=>B y F H4 Q else Q (.bl false) H3)):Kr r B ta tb tc U H Q:=h
theorem CP{p:Addr}{xs:List V}{i:Int}{v:V}(h1:Eh K H p xs)(h2:Ke xs i=some v)(h:Q v H):cR K (.ref p) (.int i) H Q:=⟨p,xs,i,v,rfl,rfl,h1,h2,h⟩
theorem FK{p:Addr}{xs:List V}{i:Int}{v:V}(h1:GF K H p xs)(h2:Ke xs i=some v)(h:Q v H):cS K (.ref p) (.int i) H Q:=⟨p,xs,i,v,rfl,rfl,h1,h2,h⟩
theorem uc{p:Addr}{xs:List V}{k:Int}{j:Nat}{v:V}{R:Hp->Prop}(h1:H p=some (.lst xs))(h2:Kd xs.length k=some j)
  (h:∀H2,H2 p=some (.lst (xs.set j v))->(∀q o,H q=some o->q≠p->H2 q=some o)->R H2):vc (.ref p) (.int k) v H R:=
 ⟨p,xs,k,j,rfl,rfl,h1,h2,h _ EW fun q o e n=>by rw[Ep n];exact e⟩
theorem Xr{p:Addr}{xs:List V}{k:Int}{j:Nat}{v:V}{R:Hp->Prop}(h1:H p=some (.lst xs))(h2:Kd xs.length k=some j)(h:R (upd H p (.lst (xs.set j v)))):vc (.ref p) (.int k) v H R:=⟨p,xs,k,j,rfl,rfl,h1,h2,h⟩
def rFor(J:It)(g:TG)(tb:TS)(D:DQ)(U:St)(H:Hp):Prop:=∃W:Nat->Nat->St->Hp->Prop,(∃m,W 0 m U H)/\∀i m U H,W i m U H ->
 (J.stop i H/\D.nx U H)\/(J.go i H/\∃N:St->Hp->Prop,(∀U' H',N U' H'->∃m',m'<m/\W (i+1) m' U' H')/\∀x H',J.yld i H x H'->g x U H' fun U2 H2=>tb { D with nx:=N,ct:=N,bk:=D.nx } U2 H2)
theorem oz{B:TI}{g:TG}{tb:TS}(h:B U H fun J H1=>rFor J g tb D U H1):bu B g tb D U H:=h
def iA(vs:List V)(H:Hp)(R:It->Hp->Prop):Prop:=∃j:Int,vs=[.int j]/\-(2 ^ 62)<=j/\j<2 ^ 62/\R (Wc 0 j.toNat) H
theorem kX{ta:TA}{R:It->Hp->Prop}(h:ta U H fun vs H1=>iA vs H1 R):vS ta U H R:=h
theorem CQ{j:Int}{R:It->Hp->Prop}(h1:-(2 ^ 62)<=j)(h2:j<2 ^ 62)(h:R (Wc 0 j.toNat) H):iA [.int j] H R:=⟨j,rfl,h1,h2,h⟩
theorem pA{i:Int}(h:Q (.int (if i<0 then -i else i)) H):oQ [.int i] H Q:=⟨i,rfl,h⟩
theorem pB{i j:Int}(h:Q (.int (if j>i then j else i)) H):oR [.int i,.int j] H Q:=⟨i,j,rfl,h⟩
theorem pC{i j:Int}(h:Q (.int (if j<i then j else i)) H):oS [.int i,.int j] H Q:=⟨i,j,rfl,h⟩
theorem kY{p:Addr}{ys:List V}(h1:Eh K H p ys)(h:Q (.int ys.length) H):vh K [.ref p] H Q:=⟨p,ys,rfl,.inl h1,h⟩
theorem kZ{p:Addr}{ys:List V}(h1:GF K H p ys)(h:Q (.int ys.length) H):vh K [.ref p] H Q:=⟨p,ys,rfl,.inr h1,h⟩
theorem pD{p:Addr}{bs:List Bool}(h1:Eh K H p (bs.map V.bl))(h:Q (.bl (bs.all id)) H):ck K [.ref p] H Q:=⟨p,bs,rfl,h1,h⟩
theorem FL{x:V}{n:String}{t:Value}{b:Bool}(ty:Aa K H x t)(e:W.kitOne K t (.type n)=some b)(h:Q (.bl b) H):cZ K [x,.ty n] H Q:=⟨x,n,t,b,rfl,ty,e,h⟩
theorem pE{x:V}(h:Q (.bl (decide (x=.non))) H):oT x .non H Q:=⟨rfl,h⟩
theorem ka{x:V}(h:Q (.bl (!decide (x=.non))) H):fz x .non H Q:=⟨rfl,h⟩
theorem kb{n:Nat}{t:FJ}{p:Addr}{xs:List V}{R:St->Hp->Prop}(h1:GF K H p xs)(h2:xs.length=n)(h:t xs U H R):vP K n t (.ref p) U H R:=⟨p,xs,rfl,h1,h2,h⟩
theorem BJ{p:Addr}{ys:List V}(h1:Eh K H p ys)(h:∀l H2,H l=none->H2 l=some (.tup ys)->ET H H2->Q (.ref l) H2) :
  jM K [.ref p] H Q:=
 ⟨p,ys,rfl,.inl ⟨h1,fun l B=>h l _ B EW (fun b u e=>by rw[Ep (GJ e B)];exact e)⟩⟩
theorem pF{p:Addr}{xs:List V}{lo hi:Option Int}(h1:Eh K H p xs)(h:∀l H2,H l=none->H2 l=some (.lst (AN xs lo hi))->ET H H2->Q (.ref l) H2):vd K (.ref p) lo hi H Q:=
 ⟨p,xs,rfl,h1,fun l B=>h l _ B EW (fun b u e=>by rw[Ep (GJ e B)];exact e)⟩
theorem sU{r:V->Option Int->Option Int->Hp->VK->Prop}{te:TE}{tl th:TO}(h:te U H fun x H1=>tl U H1 fun l H2=>th U H2 fun u H3=>r x l u H3 Q):nu r te tl th U H Q:=h
theorem yn{R:Option Int->Hp->Prop}(h:R none H):Xn U H R:=h
theorem kd{t:TE}{R:Option Int->Hp->Prop}(h:t U H fun x H1=>∃i,x=.int i/\R (some i) H1):vZ t U H R:=h
theorem tM{i:Int}{R:Int->Prop}(h:R i):∃j,V.int i=.int j/\R j:=⟨i,rfl,h⟩
theorem GL{c A B:Prop}[Decidable c](h1:c->A)(h2:¬c->B):if decide c=true then A else B:=by
 by_cases h:c
 ·rw[decide_eq_true h];exact DD (h1 h)
 ·rw[decide_eq_false h];exact GV (h2 h)
theorem AF{c A B:Prop}[Decidable c](h1:¬c->A)(h2:c->B):if(!decide c)=true then A else B:=by
 by_cases h:c
 ·rw[decide_eq_true h];exact GV (h2 h)
 ·rw[decide_eq_false h];exact DD (h1 h)
theorem BQ{i j:Int}:decide (V.int i=V.int j)=decide (i=j):=by
 by_cases h:i=j
 ·subst h;simp
 ·rw[decide_eq_false h,decide_eq_false (fun z=>h (V.int.inj z))]
theorem IW{lo:Int}{n:Nat}{g:TG}{tb:TS}(Pv:Nat->St->Hp->Prop)(h0:Pv 0 U H)
 (F:∀i U H,i<n->Pv i U H->g (.int (lo+i)) U H fun U2 H2=>tb { D with nx:=Pv (i+1),ct:=Pv (i+1),bk:=D.nx } U2 H2) (B:∀U H,Pv n U H->D.nx U H) :
 rFor (Wc lo n) g tb D U H:=yS Pv h0 F B
theorem AY{a:Addr}{xs:List V}{g:TG}{tb:TS}(Pv:Nat->St->Hp->Prop)(h0:Pv 0 U H)(J:∀i U H,i<=xs.length->Pv i U H->Eh K H a xs)
 (F:∀i x U H,xs[i]? = some x->Pv i U H->g x U H fun U2 H2=>tb { D with nx:=Pv (i+1),ct:=Pv (i+1),bk:=D.nx } U2 H2) (B:∀U H,Pv xs.length U H->D.nx U H) :
 rFor (Wa K a) g tb D U H:=bv Pv h0 J F B
theorem IX{a:Addr}{xs:List V}{g:TG}{tb:TS}(Pv:Nat->St->Hp->Prop)(h0:Pv 0 U H)(J:∀i U H,i<=xs.length->Pv i U H->GF K H a xs)
 (F:∀i x U H,xs[i]? = some x->Pv i U H->g x U H fun U2 H2=>tb { D with nx:=Pv (i+1),ct:=Pv (i+1),bk:=D.nx } U2 H2) (B:∀U H,Pv xs.length U H->D.nx U H) :
 rFor (Wb K a) g tb D U H:=io Pv h0 J F B
def iB(J:It)(g:TG)(tt:TT)(te:TE)(l:Addr)(U0:St)(H:Hp)(Q:VK):Prop:=
 ∃W:Nat->Nat->St->Hp->Prop,(∃m,W 0 m U0 (upd H l (.lst [])))/\∀i m U' H',W i m U' H' ->
  (J.stop i H'/\Q (.ref l) H')\/(J.go i H'/\∃N:St->Hp->Prop,(∀U2 H2,N U2 H2->∃m',m'<m/\W (i+1) m' U2 H2)/\
   ∀x H'',J.yld i H' x H''->g x U' H'' fun U2 H2=>tt U2 H2 fun b H3=>
    if b=true then te U2 H3 fun v H4=>∃xs,H4 l=some (.lst xs)/\xs.length<sizeLine/\N U2 (upd H4 l (.lst (xs ++ [v]))) else N U2 H3)
theorem Gw{J:It}{g:TG}{M:TT}{te:TE}{U0:St}{l:Addr}(n:Nat)(Pv:Nat->St->Hp->Prop)(h0:Pv 0 U0 (upd H l (.lst [])))
  (F:∀U H,Pv n U H->J.stop n H/\Q (.ref l) H)
  (O:∀i U H,i<n->Pv i U H->J.go i H/\∀x H',J.yld i H x H'->g x U H' fun U2 H2=>M U2 H2 fun b H3=>
   if b=true then te U2 H3 fun v H4=>∃xs,H4 l=some (.lst xs)/\xs.length<sizeLine/\Pv (i+1) U2 (upd H4 l (.lst (xs ++ [v]))) else Pv (i+1) U2 H3) :
  iB J g M te l U0 H Q:=by
 refine⟨fun i m U H=>m=n-i/\i<=n/\Pv i U H,⟨n,by simp,UX _,h0⟩,?_⟩;rintro i m U H ⟨rfl,hi,p⟩;by_cases B:i<n
 ·obtain⟨L,h⟩:=O i U H B p;exact .inr ⟨L,Pv (i+1),fun U' H' Y=>⟨n-(i+1),by omega,rfl,B,Y⟩,h⟩
 ·have e:i=n:=by omega
  subst e;exact .inl (F U H p)
theorem ke{own:Nat}{ks:List Nat}{B:TI}{g:TG}{F:TT}{te:TE}(h:B U H fun J H1=>∀l,H1 l=none->iB J g F te l (AE own ks U) H1 Q):Lm own ks B g F te U H Q:=h
def pG(K:W.Frag)(x:V)(H:Hp)(R:It->Hp->Prop):Prop:=∃a,x=.ref a/\(∃xs,GF K H a xs)/\R (Wb K a) H
def pH(K:W.Frag)(x:V)(H:Hp)(R:It->Hp->Prop):Prop:=∃a,x=.ref a/\(∃xs,Eh K H a xs)/\R (Wa K a) H
theorem kg{tl:TE}{R:It->Hp->Prop}(h:tl U H fun x H1=>pG K x H1 R):vR K tl U H R:=h
theorem cw{tl:TE}{R:It->Hp->Prop}(h:tl U H fun x H1=>pH K x H1 R):ql K tl U H R:=h
theorem pI{p:Addr}{xs:List V}{R:It->Hp->Prop}(h1:GF K H p xs)(h:R (Wb K p) H):pG K (.ref p) H R:=⟨p,rfl,⟨xs,h1⟩,h⟩
theorem pJ{p:Addr}{xs:List V}{R:It->Hp->Prop}(h1:Eh K H p xs)(h:R (Wa K p) H):pH K (.ref p) H R:=⟨p,rfl,⟨xs,h1⟩,h⟩
theorem kh{R:Bool->Hp->Prop}(h:R true H):vf U H R:=h
end
theorem ET.seqT{K:W.Frag}{H H':Hp}{a:Addr}{xs:List V}(e:ET H H')(h:GF K H a xs):GF K H' a xs:=by
 rcases h with (h|⟨o,h⟩)|h
 ·exact .inl (.inl (e _ _ h))
 ·exact .inl (.inr ⟨o,e _ _ h⟩)
 ·exact .inr h
def Kp(p:Addr)(H H':Hp):Prop:=∀q o,H q=some o->q≠p->H' q=some o
theorem Kp.refl(p:Addr)(H:Hp):Kp p H H:=fun _ _ h _=>h
theorem Kp.trans{p:Addr}{H H1 H2:Hp}(a:Kp p H H1)(b:Kp p H1 H2):Kp p H H2:=fun q o h n=>b q o (a q o h n) n
theorem Kp.upd{p:Addr}{H:Hp}{o:HO}:Kp p H (upd H p o):=fun q u h n=>by rw[Ep n];exact h
theorem Kp.same{p:Addr}{H H':Hp}(a:ET H H'):Kp p H H':=fun q o h _=>a q o h
theorem ET.new{H:Hp}{l:Addr}{o:HO}(h:H l=none):ET H (upd H l o):=fun b u e=>by rw[Ep (GJ e h)];exact e
theorem Kp.then{H H1 H2:Hp}{p:Addr}(h:Kp p H H1)(s:ET H1 H2):Kp p H H2:=h.trans (Kp.same s)
structure QE(X:Cx)(e:Expr)(t:TE):Prop where
 h:PE X e t
structure QT(X:Cx)(e:Expr)(t:TT):Prop where
 h:PT X e t
structure QW(X:Cx)(e:Expr)(t:TT):Prop where
 h:PW X e t
structure QA(X:Cx)(es:List Expr)(t:TA):Prop where
 h:PA X es t
structure QS(X:Cx)(st:Stmt)(t:TS):Prop where
 h:PS X st t
structure QB(X:Cx)(st:List Stmt)(t:TS):Prop where
 h:HB X st t
structure QG(X:Cx)(e:Expr)(t:TG):Prop where
 h:PG X e t
structure ud(X:Cx)(es:List Expr)(t:FJ):Prop where
 h:uN X es t
structure QI(X:Cx)(tg e:Expr)(t:TI):Prop where
 h:PI X tg e t
structure QF(X:Cx)(es:List Expr)(t:TT):Prop where
 h:Xq X es t
structure QO(X:Cx)(e:Option Expr)(t:TO):Prop where
 h:PO X e t
noncomputable def qp:Expr->Bool
 | .Slice _ _ _ _=>true
 |_=>false
theorem ki{b:Expr}(h:qp b=false):uV b:=by
 intro o i;cases b<;>first|rfl|cases h
noncomputable def jO:Expr->Bool
 | .UnaryOp _ _ _=>false
 | .BoolOp _ _ _=>false
 | .IfExp _ _ _ _=>false
 | .Compare _ _ _ _=>false
 |_=>true
theorem pK{e:Expr}{env:Env}(h:jO e=true):∀B,isTrue e env B=(do let v <- B;standAt e.pos;holding [v] (truthy v)):=by
 intro B;cases e<;>first|rfl|cases h
section
variable{X:Cx}{a b c e o:Expr}{es BF:List Expr}{ta tb tc te to ti:TE}{tA tB':TT}{t tr:TA}{pos p p2 pos':Pos}{x:Str}
theorem qv(i:Nat){x:Str}{pos:Pos}(F:X.N[i]? = some x:=by rfl)(J:fi X.env.scope x:=by first|exact Or.inl rfl|exact Or.inr (Or.inl rfl)|exact Or.inr (Or.inr rfl))(L:(x==("__debug__":Str))=false:=by decide)
 (B:(x==("__classdict__":Str))=false:=by decide):QE X (.Name x pos) (bY i):=⟨mw F J L B⟩
theorem ER{i j pos}:QE X (.Constant (.int i) j pos) (tC (.int i)):=⟨my⟩
theorem Fg{b j pos}:QE X (.Constant (.bool b) j pos) (tC (.bl b)):=⟨sG⟩
theorem Gk{j pos}:QE X (.Constant .none j pos) (tC .non):=⟨mz⟩
theorem Bx{x j pos}:QE X (.Constant (.str x) j pos) (tC (.str x)):=⟨nA⟩
theorem Fy{v:V}{u:Value}(B:Gl X x)(hm:X.mg x=some u)(r:El v u)(F:(x==("__debug__":Str))=false:=by decide):QE X (.Name x pos) (tC v):=⟨ib B hm r F⟩
theorem Xs{v:V}{u:Value}(J:Gl X x)(hm:X.mg x=none)(F:bootBuiltins x=some u)(r:El v u)(B:x≠"__name__":=by decide)(L:(x==("__debug__":Str))=false:=by decide):QE X (.Name x pos) (tC v):=⟨ic J hm F r B L⟩
theorem Eb{B:Operator}{r:R2}(F:DB X (binaryOp B) r)(J:QE X a ta)(L:QE X b tb):QE X (.BinOp a B b pos) (Wf r ta tb):=⟨sJ F J.h L.h⟩
theorem AG{B:UnaryOp}{r:V->Hp->VK->Prop}(F:fk X (unaryOp B) r)(J:QE X a ta):QE X (.UnaryOp B a pos) (nW r ta):=⟨sK F J.h⟩
theorem pM(B:QE X a ta):QE X (.UnaryOp .Not a pos) (vM ta):=⟨nK B.h⟩
theorem Ww{op}(h:QE X a ta):QE X (.BoolOp op [a] pos) ta:=⟨nI h.h⟩
theorem Ku(F:QE X a ta)(B:QE X (.BoolOp .And (b::BF) pos) tb):QE X (.BoolOp .And (a::b::BF) pos) (vL ta tb):=⟨nJ F.h B.h⟩
theorem Bo(B:QT X c tA)(J:QE X a ta)(F:QE X b tb):QE X (.IfExp c a b pos) (nL tA ta tb):=⟨bb B.h J.h F.h⟩
theorem IY{B:CmpOp}{r:R2}(F:DB X (compareOp B) r)(J:QE X a ta)(L:QE X b tb)(hm:behindInMarks B b=false):QE X (.Compare a [B] [b] pos) (Wf r ta tb):=⟨ir F J.h L.h hm⟩
theorem Ee{B:CmpOp}{r:R2}(F:DB X (compareOp B) r)(J:QE X a ta)(L:QE X b tb)(hm:behindInMarks B b=false):QT X (.Compare a [B] [b] pos) (Wg (Wf r ta tb)):=⟨iu F J.h L.h hm⟩
theorem Sr{J B:CmpOp}{r L:R2}(M:DB X (compareOp J) r)(F:DB X (compareOp B) L)(Y:QE X a ta)(Z:QE X b tb)(O:QE X c tc)
 (hm:lastMarks [J,B] [b,c]=false:=by with_unfolding_all rfl):QE X (.Compare a [J,B] [b,c] pos) (Kr r L ta tb tc):=⟨cD M F Y.h Z.h O.h hm⟩
theorem AQ{J B:CmpOp}{r L:R2}(M:DB X (compareOp J) r)(F:DB X (compareOp B) L)(Y:QE X a ta)(Z:QE X b tb)(O:QE X c tc)
 (hm:lastMarks [J,B] [b,c]=false:=by with_unfolding_all rfl):QT X (.Compare a [J,B] [b,c] pos) (Wg (Kr r L ta tb tc)):=⟨cE M F Y.h Z.h O.h hm⟩
theorem BW(h:QE X e te)(B:jO e=true:=by rfl):QT X e (tB te):=⟨nB h.h (pK B)⟩
theorem QW.pt(h:QW X e tA):QT X e tA:=⟨h.h.pt⟩
theorem BX(B:QT X a tA):QW X (.BoolOp .And [a] pos) tA:=⟨ie B.h⟩
theorem IZ(B:QT X a tA):QW X (.BoolOp .Or [a] pos) tA:=⟨nF B.h⟩
theorem CS(F:QT X a tA)(B:QW X (.BoolOp .And (b::BF) pos) tB'):QW X (.BoolOp .And (a::b::BF) pos) (bZ tA tB'):=⟨nG F.h B.h⟩
theorem Iu(F:QT X a tA)(B:QW X (.BoolOp .Or (b::BF) pos) tB'):QW X (.BoolOp .Or (a::b::BF) pos) (nE tA tB'):=⟨sH F.h B.h⟩
theorem By(B:QT X a tA):QT X (.UnaryOp .Not a pos) (ba tA):=⟨nH B.h⟩
theorem EO:QA X [] Sl:=⟨ni⟩
theorem EN(J:QE X e te)(F:QA X es t)(B:BO e=false:=by rfl):QA X (e::es) (qo te t):=⟨tI J.h F.h B⟩
theorem GB{x1}(h:QA X es t):QE X (.Tuple es x1 pos) (cK t):=⟨nj h.h⟩
theorem Dd(h:QA X es t):QE X (.List es pos) (cL t):=⟨nn h.h⟩
theorem Ei{r:R2}(J:jG X r)(B:QE X a ta)(F:QE X b tb)(L:qp b=false:=by rfl):QE X (.Subscript a b pos) (Wf r ta tb):=⟨sM J B.h F.h (ki L)⟩
theorem Xt:QO X none Xn:=⟨kE⟩
theorem Xu(h:QE X e te):QO X (some e) (vZ te):=⟨kF h.h⟩
theorem Ss{lo hi:Option Expr}{tl th:TO}{r:V->Option Int->Option Int->Hp->VK->Prop}(J:uT X r)(F:QE X e te)(L:QO X lo tl)(B:QO X hi th):QE X (.Subscript e (.Slice lo hi none p2) pos) (nu r te tl th):=⟨cQ J F.h L.h B.h⟩
theorem cx{CX:HC}{k:Nat}{f:Addr}{fd:FuncData}{ps:List Str}{sp:Sp}{dvs:List V}{ds:List Value}{E:XK}(F:Ec X.prog X.w X.K X.mg X.base CX k f fd ps sp)(Y:Room k X.A)(M:Gl X x)(hm:X.mg x=some (.ref f))(hk:W.keepIn X.K (.ref f)=true)(hb:EX X.K fd ps ds)(Z:Em dvs ds)(L:BN CX X E)
 (O:QA X (e::es) t) (B:DM (e::es)=true:=by rfl) (J:(x==("__debug__":Str))=false:=by decide):QE X (.Call (.Name x p) (e::es) [] pos) (Wk sp dvs E t):=⟨ci F Y M hm hk hb Z L O.h B J⟩
theorem Ey{id:String}{r:List V->Hp->VK->Prop}(L:Gr X (.builtin id) r)(O:Gl X x)(hm:X.mg x=none)(M:bootBuiltins x=some (.builtin id))(Y:QA X (e::es) t)(F:DM (e::es)=true:=by rfl)(J:x≠"__name__":=by decide)(B:(x==("__debug__":Str))=false:=by decide) :
 QE X (.Call (.Name x p) (e::es) [] pos) (jF r t):=⟨ym L O hm M Y.h F J B⟩
theorem Gy{T:String}{r:List V->Hp->VK->Prop}(L:Gr X (.type T) r)(O:Gl X x)(hm:X.mg x=none)(M:bootBuiltins x=some (.type T))(Y:QA X (e::es) t)(F:DM (e::es)=true:=by rfl)(J:x≠"__name__":=by decide)(B:(x==("__debug__":Str))=false:=by decide) :
 QE X (.Call (.Name x p) (e::es) [] pos) (jF r t):=⟨vg L O hm M Y.h F J B⟩
theorem Df:QF X [] vf:=⟨cf⟩
theorem CT(B:QT X c tA):QF X [c] tA:=⟨cg B.h⟩
theorem kj{tg:Expr}(B:QE X e te):QI X tg e (ql X.K te):=⟨im B.h⟩
theorem pN{tg:Expr}(B:QE X e te):QI X tg e (vR X.K te):=⟨nU B.h⟩
theorem Dm{tg:Expr}(F:Gl X "range")(hm:X.mg "range"=none)(B:QA X [a] t)(J:BO a=false:=by rfl):QI X tg (.Call (.Name "range" p) [a] [] pos) (vS t):=⟨yQ F hm B.h (DZ J)⟩
theorem Ge{i:Nat}(B:X.N.Nodup)(hi:X.N[i]? = some x)(J:Hl X.env.scope x)(F:X.fn x=true\/X.env.scope.names.lookup x=some .local:=by first|exact .inl rfl|exact .inr rfl|assumption):QG X (.Name x pos) (AD i):=⟨ik B hi J F⟩
theorem GW:ud X [] bj:=⟨il⟩
theorem yo{e:Expr}{es:List Expr}{env:Env}(h:BO e=false):(assignEach (e::es) env).map (·.2)=assign e env::(assignEach es env).map (·.2):=by
 cases e<;>first|rfl|cases h
theorem EY{g:TG}{u:FJ}(h1:QG X e g)(h2:ud X es u)(B:BO e=false:=by rfl):ud X (e::es) (vO g u):=⟨bn h1.h h2.h (yo B)⟩
theorem pO{k:Nat}{u:FJ}{n:Nat}(F:X.calm=true)(h:ud X es u)(J:(assignEach es X.env).length=n:=by rfl)(B:(assignEach es X.env).findIdx? (·.1)=none:=by rfl):QG X (.Tuple es k pos) (vP X.K n u):=⟨nO F h.h J B⟩
theorem Kv{s:qz}(B:QE X o to)(hi:QE X e ti)(J:bi X s)
 (F:∀v,assign (.Subscript o e pos) X.env v=(do
  let ov <- holding [v] (eval o X.env)
  let iv <- holding [v,ov] (eval e X.env)
  standAt pos
  holding [v,ov,iv] (setItem ov iv v)
  release [v,ov,iv] []):=by intro _;rfl):QG X (.Subscript o e pos) (bp to ti s):=⟨nP B.h hi.h J F⟩
theorem Dg{N:List Str}{sc:Scope}{own caps:List Str}{ks:List Nat}{L tg F:Expr}{J:List Expr}{scope:Scope}{O:TI}{g:TG}{Y:TT}
  (Z:X.N=N) (M:X.env.scope=sc) (hc:X.calm=true) (S:Kt N sc own caps ks scope) (hi:QI X tg F O)
  (hg:∀B C s₂ H₂ fp,QG (GU X (own++caps) scope B C s₂ H₂ fp) tg g)
  (ht:∀B C s₂ H₂ fp,QF (GU X (own++caps) scope B C s₂ H₂ fp) J Y)
  (he:∀B C s₂ H₂ fp,QE (GU X (own++caps) scope B C s₂ H₂ fp) L te)
  (hs:∀x,foldedSetIterable F X.env x=pure x:=by intro _;rfl) :
  QE X (.ListComp L [⟨tg,F,J,0⟩] scope pos) (Lm own.length ks O g Y te):=
 ⟨kJ Z M hc S hi.h (fun B C s₂ H₂ fp=>(hg B C s₂ H₂ fp).h) (fun B C s₂ H₂ fp=>(ht B C s₂ H₂ fp).h) (fun B C s₂ H₂ fp=>(he B C s₂ H₂ fp).h) hs⟩
theorem Bp{T:String}{name:Str}{id:String}{r:V->List V->Hp->VK->Prop}{apos cpos:Pos}(pa:PlainAttrs T)(J:Slot T name id)(O:typeOf (.builtin id)=pure (.type "method_descriptor"))(hm:uW X id r)(Y:QE X o to)(Z:QA X (e::es) t)
  (L:DM (e::es)=true:=by rfl) (F:attributeBase o name X.env (eval o X.env)=eval o X.env:=by rfl)
  (M:((backTo cpos (starEach (e::es) X.env)).all (fun x=>!x.1)&&(backToKw cpos (keywordEach [] X.env)).all (fun x=>x.1.isSome)
   && decide ((e::es).length+([]:List Keyword).length+(if([]:List Keyword).isEmpty then 0 else 1)<30))=true:=by rfl)
  (B:(apos.endLine==cpos.line)=true:=by rfl):QE X (.Call (.Attribute o name apos) (e::es) [] cpos) (oF X.K T r to t):=
 ⟨sN pa J O hm Y.h Z.h F M B (Av L) (AO (AX L))⟩
end
section
variable{X:Cx}{st:Stmt}{BF sa sb:List Stmt}{t u:TS}{e c:Expr}{te:TE}{tA:TT}{pos pos':Pos}{x:Str}
theorem GC:QB X [] vN:=⟨ig⟩
theorem EQ(h1:QS X st t)(h2:QB X BF u):QB X (st::BF) (bc t u):=⟨bf h1.h h2.h⟩
theorem ES(h1:QS X st t):QB X [st] t:=⟨ii h1.h⟩
theorem Et(F:QE X e te)(B:Cg e=false:=by rfl):QS X (.Expr e pos) (qj te):=⟨cj F.h B⟩
theorem Ea(B:QE X e te):QS X (.Return (some e) pos) (bg te):=⟨nM B.h⟩
theorem GO(B:QT X c tA)(J:QB X sa t)(F:QB X sb u):QS X (.If c sa sb pos) (Ir tA t u):=⟨sI B.h J.h F.h⟩
theorem AR:QS X st yO:=⟨bh⟩
theorem kl{i:Nat}(B:X.N.Nodup)(hi:X.N[i]? = some x)(J:Hl X.env.scope x)(M:QE X e te)(L:Cg e=false:=by rfl)(F:X.fn x=true\/X.env.scope.names.lookup x=some .local:=by first|exact .inl rfl|exact .inr rfl|assumption) :
 QS X (.Assign [.Name x pos'] e pos) (IC te (AD i)):=⟨kM B hi J M.h L F⟩
theorem DE{tg:Expr}{g:TG}(L:QE X e te)(B:QG X tg g)(J:Cg e=false:=by rfl)(F:swappedStores [tg] e X.env=pure none:=by rfl)
 (h1:(assignEach [tg] X.env).map (·.2)=[assign tg X.env]:=by rfl):QS X (.Assign [tg] e pos) (IC te g):=⟨nQ L.h B.h (HF J) F h1⟩
theorem DU{tg B:Expr}{F:TI}{g:TG}(J:PassesOwn (model X.prog X.w) X.A X.env X.xe)(M:X.calm=true)(hi:QI X tg B F)(Y:QG X tg g)(O:QB X sa t)
 (L:∀x,foldedSetIterable B X.env x=pure x:=by intro _;rfl):QS X (.For tg B sa [] pos) (bu F g t):=⟨nV J M hi.h Y.h O.h L⟩
theorem jP(F:PassesOwn (model X.prog X.w) X.A X.env X.xe)(B:QT X c tA)(J:QB X sa t):QS X (.While c sa [] pos) (jA tA t):=⟨br F B.h J.h⟩
end
section
variable{X:Cx}{e:Expr}{es:List Expr}{te:TE}{pos:Pos}(K:W.Frag)(h:X.K=K)
include h
theorem Cw:Gr X (.builtin "len") (vh K):=h ▸ oU
theorem pP(B:X.calm=true):Gr X (.builtin "all") (ck K):=h ▸ oW B
theorem Dq:Gr X (.type "tuple") (jM K):=h ▸ cm
theorem jQ:Gr X (.builtin "isinstance") (cZ K):=h ▸ ce
theorem DH:jG X (cR K):=h ▸ kG
theorem Ek:jG X (cS K):=h ▸ oB
theorem km:uT X (vd K):=h ▸ kH
theorem DX{tg:Expr}(B:QE X e te):QI X tg e (ql K te):=h ▸ kj B
theorem HG{tg:Expr}(B:QE X e te):QI X tg e (vR K te):=h ▸ pN B
theorem Gm{k:Nat}{u:FJ}{n:Nat}(F:X.calm=true)(L:ud X es u)(J:(assignEach es X.env).length=n:=by rfl)(B:(assignEach es X.env).findIdx? (·.1)=none:=by rfl):QG X (.Tuple es k pos) (vP K n u):=h ▸ pO F L J B
end
mutual
inductive Bz (K:W.Frag) (H:Hp):V->PyData->Prop
 |non:Bz K H .non .none
 |bl (b:Bool):Bz K H (.bl b) (.bool b)
 |int (i:Int):Bz K H (.int i) (.int i)
 |str (x:Str):Bz K H (.str x) (.str x)
 |tup {a:Addr} {xs:List V} {ds:List PyData} (h:GF K H a xs) (r:BY K H xs ds):Bz K H (.ref a) (.tuple ds)
 |lst {a:Addr} {xs:List V} {ds:List PyData} (h:Eh K H a xs) (r:BY K H xs ds):Bz K H (.ref a) (.list ds)
inductive BY (K:W.Frag) (H:Hp):List V->List PyData->Prop
 |nil:BY K H [] []
 |cons {x:V} {d:PyData} {xs:List V} {ds:List PyData} (h:Bz K H x d) (r:BY K H xs ds):BY K H (x::xs) (d::ds)
end
section
variable{X:Cx}{pins:List (Addr×Obj)}{U:St}{H:Hp}{s:Shared}
mutual
theorem Bz.reads(I:Inv X pins U H s):∀ {x:V} {d:PyData} {u:Value},Bz X.K H x d->El x u->∃Y,Reads s.heap u d Y
 |_,_,u,.non,r=>by cases (show u=Value.none from r);exact⟨_,.none⟩
 |_,_,u,.bl b,r=>by cases (show u=Value.bool b from r);exact⟨_,.bool b⟩
 |_,_,u,.int i,r=>by obtain⟨t,rfl⟩:=(show ∃t,u=Value.int i t from r);exact⟨_,.int i t⟩
 |_,_,u,.str x,r=>by obtain⟨t,rfl⟩:=(show ∃t,u=Value.str x t from r);exact⟨_,.str x t⟩
 |_,_,u,@Bz.tup _ _ a xs ds h rs,r=>by
  cases (show u=Value.ref a from r);obtain⟨J,B,⟨o,O,M,n,L⟩,_⟩:=I.tuple h;obtain⟨Y,F⟩:=BY.reads I rs B;exact⟨_,.tuple O M L (by simpa using F)⟩
 |_,_,u,@Bz.lst _ _ a xs ds h rs,r=>by
  cases (show u=Value.ref a from r);obtain⟨J,B,⟨o,n,O,M,_,L⟩,_⟩:=I.list h;obtain⟨Y,F⟩:=BY.reads I rs B;exact⟨_,.list O M L (by simpa using F)⟩
theorem BY.reads(I:Inv X pins U H s):∀ {xs:List V} {ds:List PyData} {us:List Value},BY X.K H xs ds->Em xs us->∃B,ReadsAll s.heap us ds B
 |_,_,_,.nil,.nil=>⟨_,.nil⟩
 |_,_,_,.cons h r,.cons r1 r2=>by
  obtain⟨B,F⟩:=Bz.reads I h r1;obtain⟨bs,J⟩:=BY.reads I r r2;exact⟨_,.cons F J⟩
end
end
section
variable{X:Cx}
def vi(K:W.Frag):R2:=fun x y H Q=>∃d e,Bz K H x d/\Bz K H y e/\d.canLay0=true/\e.canLay0=true/\d.depth<=60/\Q (.bl (PyData.eqv d e)) H
def Xv(K:W.Frag):R2:=fun x y H Q=>∃d e,Bz K H x d/\Bz K H y e/\d.canLay0=true/\e.canLay0=true/\d.depth<=60/\Q (.bl (!PyData.eqv d e)) H
theorem yp(K:W.Frag)(O:X.K=K)(hu:X.A.units+64<cLine):DB X (compareOp .Eq) (vi K):=by
 subst O;intro pins s U H x y v u Q I J F h;obtain⟨d,e,h1,h2,B,M,Z,q⟩:=h;obtain⟨as,L⟩:=h1.reads I J;obtain⟨bs,Y⟩:=h2.reads I F;exact SeqAt.compareEq_reads L Y B M (by have:=Nat.min_le_left d.depth e.depth;omega) ⟨.bl _,H,I,rfl,q⟩
theorem Wx(K:W.Frag)(O:X.K=K)(hu:X.A.units+64<cLine):DB X (compareOp .NotEq) (Xv K):=by
 subst O;intro pins s U H x y v u Q I J F h;obtain⟨d,e,h1,h2,B,M,Z,q⟩:=h;obtain⟨as,L⟩:=h1.reads I J;obtain⟨bs,Y⟩:=h2.reads I F;exact SeqAt.compareNe_reads L Y B M (by have:=Nat.min_le_left d.depth e.depth;omega) ⟨.bl _,H,I,rfl,q⟩
theorem rd_eqD{K:W.Frag}{H:Hp}{Q:VK}{x y:V}{d e:PyData}(h1:Bz K H x d)(h2:Bz K H y e)(B:d.canLay0=true)(J:e.canLay0=true)(F:d.depth<=60)(h:Q (.bl (PyData.eqv d e)) H):vi K x y H Q:=⟨d,e,h1,h2,B,J,F,h⟩
theorem rd_neD{K:W.Frag}{H:Hp}{Q:VK}{x y:V}{d e:PyData}(h1:Bz K H x d)(h2:Bz K H y e)(B:d.canLay0=true)(J:e.canLay0=true)(F:d.depth<=60)(h:Q (.bl (!PyData.eqv d e)) H):Xv K x y H Q:=⟨d,e,h1,h2,B,J,F,h⟩
theorem sV{K:W.Frag}{T:String}{r:V->List V->Hp->VK->Prop}{to:TE}{t:TA}{U:St}{H:Hp}{Q:VK}(h:to U H fun x H1=>jK K T x H1/\t U H1 fun xs H2=>r x xs H2 Q):oF K T r to t U H Q:=h
theorem HH{K:W.Frag}{H:Hp}{p:Addr}{xs:List V}(h:H p=some (.lst xs)):jK K "list" (.ref p) H:=.inl ⟨rfl,xs,Eh.of h⟩
theorem Da{H:Hp}{Q:VK}{p:Addr}{xs:List V}{y:V}(h1:H p=some (.lst xs))(hz:xs.length<sizeLine)(h:∀H2,H2 p=some (.lst (xs ++ [y]))->Kp p H H2->Q .non H2):uX (.ref p) [y] H Q:=
 ⟨p,xs,y,rfl,rfl,h1,hz,h _ EW Kp.upd⟩
end
noncomputable def DN(p:Int×Int):PyData:=.tuple [.int p.1,.int p.2]
def EZ(H:Hp)(vs:List V)(l:PL):Prop:=Paired (fun v (p:Int×Int)=>∃a,v=V.ref a/\H a=some (.tup [.int p.1,.int p.2])) vs l
theorem EZ.same{H H':Hp}{vs:List V}{l:PL}(h:EZ H vs l)(s:ET H H'):EZ H' vs l:=Paired.mapP h fun _ _ ⟨a,e,z⟩=>⟨a,e,s _ _ z⟩
theorem EZ.dats{K:W.Frag}{H:Hp}:∀ {vs:List V} {l:PL},EZ H vs l->BY K H vs (l.map DN)
 |_,_,.nil=>.nil
 |_,_,.cons ⟨a,e,z⟩ t=>by
  subst e;exact .cons (.tup (GF.of z) (.cons (.int _) (.cons (.int _) .nil))) (EZ.dats t)
theorem Ho:∀l:PL,PyData.canLayAll0 (l.map DN)=true
 | []=>rfl
 |p::l=>by
  show(PyData.canLay0 (DN p)&&PyData.canLayAll0 (l.map DN))=true;rw[Ho l];rfl
section
variable{κ:Type}[DecidableEq κ]
noncomputable def GH(kvs:List (κ × V))(k:κ):Option V:=(kvs.find? fun kv=>decide (kv.1=k)).map (·.2)
noncomputable def Dh(kvs:List (κ × V))(k:κ)(v:V):List (κ × V):=
 if(kvs.any fun kv=>decide (kv.1=k))=true then kvs.map (fun kv=>if kv.1=k then(kv.1,v) else kv) else kvs ++ [(k,v)]
noncomputable def BD(kvs:List (κ × V))(k:κ):List (κ × V):=kvs.filter fun kv=>decide (kv.1≠k)
theorem DR{p:κ × V}{r:List (κ × V)}{k:κ}(e:p.1=k):GH (p::r) k=some p.2:=by simp[GH,UG,e]
theorem DK{p:κ × V}{r:List (κ × V)}{k:κ}(e:¬p.1=k):GH (p::r) k=GH r k:=by simp[GH,UG,e]
theorem Iv(k:κ):∀kvs:List (κ × V),(kvs.any fun kv=>decide (kv.1=k))=(GH kvs k).isSome
 | []=>rfl
 |p::r=>by
  rw[List.any_cons];by_cases e:p.1=k
  ·simp only[DR e,decide_eq_true e,Bool.true_or,Option.isSome_some]
  ·rw[DK e,decide_eq_false e,Bool.false_or];exact Iv k r
theorem jR(k j:κ)(y:V):∀kvs:List (κ × V),GH (kvs.map fun B=>if B.1=k then(B.1,y) else B) j=(GH kvs j).map fun x=>if j=k then y else x
 | []=>rfl
 |p::r=>by
  have F:=jR k j y r;rw[UK];by_cases h:p.1=k
  ·rw[if_pos h];by_cases e:p.1=j
   ·rw[DR (p:=(p.1,y)) e,DR e,Vb,if_pos (e.symm.trans h)]
   ·rw[DK (p:=(p.1,y)) e,DK e,F]
  ·rw[if_neg h];by_cases e:p.1=j
   ·rw[DR (p:=p) e,DR e,Vb,if_neg (fun z=>h (e.trans z))]
   ·rw[DK (p:=p) e,DK e,F]
theorem ze(k j:κ)(y:V):∀kvs:List (κ × V),GH kvs k=none->GH (kvs ++ [(k,y)]) j=if j=k then some y else GH kvs j
 | [],_=>by
  by_cases e:k=j
  ·rw[if_pos e.symm];exact DR (p:=(k,y)) e
  ·rw[if_neg (fun z=>e z.symm)];exact DK (p:=(k,y)) e
 |p::r,hn=>by
  rw[List.cons_append];have B:¬p.1=k:=fun z=>by rw[DR z] at hn;cases hn
  rw[DK B] at hn;have F:=ze k j y r hn;by_cases e:p.1=j
  ·rw[DR e,DR e,if_neg (fun z=>B (e.trans z))]
  ·rw[DK e,DK e,F]
theorem Aw(kvs:List (κ × V))(k j:κ)(y:V):GH (Dh kvs k y) j=if j=k then some y else GH kvs j:=by
 unfold Dh;by_cases a:(kvs.any fun B=>decide (B.1=k))=true
 ·rw[if_pos a,jR];rw[Iv] at a;by_cases e:j=k
  ·obtain⟨x,F⟩:=Va.mp a;rw[if_pos e,e,F,Vb,if_pos rfl]
  ·rw[if_neg e]
   cases GH kvs j with
   |none=>rfl
   |some x=>rw[Vb,if_neg e]
 ·rw[if_neg a];refine ze k j y kvs ?_;rw[Iv] at a
  cases q:GH kvs k with
  |none=>rfl
  |some x=>rw[q] at a;exact(a rfl).elim
theorem CF(kvs:List (κ × V))(k:κ)(v:V):(Dh kvs k v).length<=kvs.length+1:=by
 unfold Dh;split
 ·rw[Ug];omega
 ·rw[UD,Vd,List.length_nil];omega
theorem Bl.isSome_eq{o:Option V}{u:Option Value}(r:Bl o u):o.isSome=u.isSome:=by
 cases o with
 |none=>cases u with
  |none=>rfl
  |some _=>exact(show False from r).elim
 |some _=>cases u with
  |none=>exact(show False from r).elim
  |some _=>rfl
theorem Bl.getD{o:Option V}{u:Option Value}{d:V}{d':Value}(r:Bl o u)(B:El d d'):El (o.getD d) (u.getD d'):=by
 cases o with
 |none=>cases u with
  |none=>exact B
  |some _=>exact(show False from r).elim
 |some _=>cases u with
  |none=>exact(show False from r).elim
  |some _=>exact r
theorem KV.val{kvs:List (κ × V)}{vs:List (κ × Value)}(r:KV kvs vs)(k:κ):Bl (GH kvs k) (valueAt vs k):=by
 unfold KV at r
 induction r with
 |nil=>exact True.intro
 | @cons p q ps qs h t ih=>
  obtain⟨h1,h2⟩:=h;by_cases e:p.1=k
  ·have e':q.1=k:=h1.symm.trans e;have b:valueAt (q::qs) k=some q.2:=by simp[valueAt,UG,e']
   rw[DR e,b];exact h2
  ·have e':¬q.1=k:=fun z=>e (h1.trans z);have b:valueAt (q::qs) k=valueAt qs k:=by simp[valueAt,UG,e']
   rw[DK e,b];exact ih
theorem KV.any{kvs:List (κ × V)}{vs:List (κ × Value)}(r:KV kvs vs)(k:κ):(kvs.any fun B=>decide (B.1=k))=vs.any fun B=>decide (B.1=k):=by
 unfold KV at r
 induction r with
 |nil=>rfl
 |cons h t ih=>rw[List.any_cons,List.any_cons,ih,h.1]
theorem KV.repl{kvs:List (κ × V)}{vs:List (κ × Value)}(r:KV kvs vs)(k:κ){y:V}{u:Value}(F:El y u) :
  KV (kvs.map fun B=>if B.1=k then(B.1,y) else B) (vs.map fun B=>if B.1=k then(B.1,u) else B):=by
 unfold KV at r ⊢
 induction r with
 |nil=>exact .nil
 | @cons p q ps qs h t ih=>
  rw[UK,UK];refine .cons ?_ ih;obtain⟨h1,h2⟩:=h;by_cases e:p.1=k
  ·rw[if_pos e,if_pos (h1.symm.trans e)];exact⟨h1,F⟩
  ·rw[if_neg e,if_neg (fun z=>e (h1.trans z))];exact⟨h1,h2⟩
theorem KV.put{kvs:List (κ × V)}{vs:List (κ × Value)}(r:KV kvs vs)(k:κ){y:V}{u:Value}(B:El y u):KV (Dh kvs k y) (stored vs k u):=by
 unfold Dh stored;rw[r.any k];by_cases e:(vs.any fun F=>decide (F.1=k))=true
 ·rw[if_pos e,if_pos e];exact r.repl k B
 ·rw[if_neg e,if_neg e];exact Paired.snoc r ⟨rfl,B⟩
theorem KV.drop{kvs:List (κ × V)}{vs:List (κ × Value)}(r:KV kvs vs)(k:κ):KV (BD kvs k) (without vs k):=by
 unfold KV at r ⊢;unfold BD without
 induction r with
 |nil=>exact .nil
 | @cons p q ps qs h t ih=>
  obtain⟨h1,h2⟩:=h;rw[List.filter_cons,List.filter_cons];by_cases e:p.1=k
  ·have a:¬decide (p.1≠k)=true:=by simp[e]
   have b:¬decide (q.1≠k)=true:=by simp[h1.symm.trans e]
   rw[if_neg a,if_neg b];exact ih
  ·have e':¬q.1=k:=fun z=>e (h1.trans z);have a:decide (p.1≠k)=true:=by simp[e]
   have b:decide (q.1≠k)=true:=by simp[e']
   rw[if_pos a,if_pos b];exact .cons ⟨h1,h2⟩ ih
theorem KV.length{kvs:List (κ × V)}{vs:List (κ × Value)}(r:KV kvs vs):kvs.length=vs.length:=Paired.length r
theorem cy(kvs:List (κ × V))(k:κ):(BD kvs k).length<=kvs.length:=UL _ _
end
theorem Iw{P:Program}{w:World}{k:Ef}{u:Value}(r:El (kV k) u):(Gh P w).is k u=true:=by
 cases k with
 |inl i=>obtain⟨t,e⟩:=(show ∃t,u=Value.int i t from r);subst e;exact xp P w i t
 |inr x=>obtain⟨t,e⟩:=(show ∃t,u=Value.str x t from r);subst e;exact xq P w x t
theorem zf{P:Program}{w:World}:∀ {ks:List Ef} {us:List Value},Em (ks.map kV) us->ItemsAre (Gh P w) ks us
 | [],_,r=>by rw[List.map_nil] at r;cases r;exact .nil
 |k::ks,_,r=>by
  rw[UK] at r
  cases r with
  |cons h t=>exact .cons (Iw h) (zf t)
abbrev KT(H:Hp):List (List Ef×V)->List (List Ef×Addr×Value)->Prop:=Paired fun p q=>p.1=q.1/\H q.2.1=some (.tup (p.1.map kV))/\El p.2 q.2.2
theorem KT.val{H:Hp}{kvs:List (List Ef×V)}{xs:List (List Ef×Addr×Value)}(r:KT H kvs xs)(k:List Ef):Bl (GH kvs k) ((atKey xs k).map (·.2)):=by
 induction r with
 |nil=>exact True.intro
 | @cons p q ps qs h t ih=>
  obtain⟨h1,_,h2⟩:=h;by_cases e:p.1=k
  ·have e':q.1=k:=h1.symm.trans e;have b:atKey (q::qs) k=some q.2:=by simp[atKey,UG,e']
   rw[DR e,b];exact h2
  ·have e':¬q.1=k:=fun z=>e (h1.trans z);have b:atKey (q::qs) k=atKey qs k:=by simp[atKey,UG,e']
   rw[DK e,b];exact ih
theorem KT.repl{H:Hp}{kvs:List (List Ef×V)}{xs:List (List Ef×Addr×Value)}(r:KT H kvs xs)(k:List Ef){y:V}{u:Value}(F:El y u) :
  KT H (kvs.map fun B=>if B.1=k then(B.1,y) else B) (xs.map (putAt k u)):=by
 induction r with
 |nil=>exact .nil
 | @cons p q ps qs h t ih=>
  rw[UK,UK];refine .cons ?_ ih;obtain⟨h1,h2,J⟩:=h;unfold putAt;by_cases e:p.1=k
  ·rw[if_pos e,if_pos (h1.symm.trans e)];exact⟨h1,h2,F⟩
  ·rw[if_neg e,if_neg (fun z=>e (h1.trans z))];exact⟨h1,h2,J⟩
theorem KT.put{H:Hp}{kvs:List (List Ef×V)}{xs:List (List Ef×Addr×Value)}(r:KT H kvs xs)(k:List Ef){b:Addr}{y:V}{u:Value}(J:H b=some (.tup (k.map kV)))(B:El y u) :
  KT H (Dh kvs k y) (storedH xs k b u):=by
 have e:(kvs.any fun F=>decide (F.1=k))=(atKey xs k).isSome:=by
  rw[Iv,(r.val k).isSome_eq,Option.isSome_map]
 unfold Dh storedH;rw[e];by_cases q:(atKey xs k).isSome=true
 ·rw[if_pos q,if_pos q];exact r.repl k B
 ·rw[if_neg q,if_neg q];exact Paired.snoc r ⟨rfl,J,B⟩
theorem KT.keeps{H H':Hp}{kvs:List (List Ef×V)}{xs:List (List Ef×Addr×Value)}(r:KT H kvs xs)(B:∀b ys,H b=some (.tup ys)->H' b=some (.tup ys)):KT H' kvs xs:=
 Paired.mapP r fun _ _ z=>⟨z.1,B _ _ z.2.1,z.2.2⟩
section
variable{P:Program}{w:World}{H:Hp}{h:Heap}{a:Addr}
theorem iC{u:HO}(ok:BA P w H h)(e:Rd H a u):Gj P w H h a u:=e.ok ok
theorem Ac{kvs:List (Ef×V)}(ok:BA P w H h)(e:Rd H a (.dK kvs)):kvs.length<=sizeLine/\(a==sysModules)=false/\∃vs,KV kvs vs/\h.DictOf (Gh P w) a vs:=
 show Gj P w H h a (.dK kvs) from iC ok e
theorem Lo{kvs:List (Ef×V)}(ok:BA P w H h)(e:H a=some (.dK kvs)):kvs.length<=sizeLine/\(a==sysModules)=false/\∃vs,KV kvs vs/\h.DictOf (Gh P w) a vs:=Ac ok (.inl e)
theorem HI{ks:List Ef}(ok:BA P w H h)(e:H a=some (.tup (ks.map kV))):(tupleKind (Gh P w)).is h ks a:=by
 obtain⟨_,B,r,o,h1,h2,n,F⟩:=(show Gj P w H h a (.tup (ks.map kV)) from ok a _ e);exact⟨o,B.toArray,n,h1,h2,F,by simpa using zf r⟩
theorem Hq{kvs:List (List Ef×V)}(ok:BA P w H h)(e:Rd H a (.dT kvs)):kvs.length<=sizeLine/\(a==sysModules)=false/\
  ∃xs,KT H kvs xs/\h.DictOfH (tupleKind (Gh P w)) a xs:=by
 obtain⟨z,y,xs,r,o,es,L,h1,h2,M,J,F⟩:=(show Gj P w H h a (.dT kvs) from iC ok e);refine⟨z,y,xs,r,o,es,L,h1,h2,M,J,fun x B=>?_,F⟩
 have all:∀ {l:List (List Ef×V)} {m:List (List Ef×Addr×Value)},KT H l m->∀x∈m,(tupleKind (Gh P w)).is h x.1 x.2.1:=by
  intro l m q
  induction q with
  |nil=>intro x B;exact nomatch B
  | @cons p q ps qs hq t ih=>
   intro x B;rcases Ud.mp B with e|B
   ·subst e;exact HI ok (by rw[<- hq.1];exact hq.2.1)
   ·exact ih x B
 exact all r x B
theorem iD{kvs:List (List Ef×V)}(ok:BA P w H h)(e:H a=some (.dT kvs)):kvs.length<=sizeLine/\(a==sysModules)=false/\
 ∃xs,KT H kvs xs/\h.DictOfH (tupleKind (Gh P w)) a xs:=Hq ok (.inl e)
end
def DV(H:Hp)(a:Addr)(y:V)(r:Option V):Prop:=
 (∃kvs k,Rd H a (.dK kvs)/\y=kV k/\r=GH kvs k)\/∃kvs k b,Rd H a (.dT kvs)/\y=.ref b/\H b=some (.tup (k.map kV))/\r=GH kvs k
def IE(H:Hp)(a:Addr)(y v:V)(H':Hp):Prop:=
 (∃kvs k,H a=some (.dK kvs)/\y=kV k/\kvs.length<sizeLine/\H'=upd H a (.dK (Dh kvs k v)))\/
 ∃kvs k b,H a=some (.dT kvs)/\y=.ref b/\H b=some (.tup (k.map kV))/\kvs.length<sizeLine/\H'=upd H a (.dT (Dh kvs k v))
theorem DV.k{H:Hp}{a:Addr}{kvs:List (Ef×V)}{k:Ef}(e:H a=some (.dK kvs)):DV H a (kV k) (GH kvs k):=.inl ⟨kvs,k,.inl e,rfl,rfl⟩
theorem DV.t{H:Hp}{a b:Addr}{kvs:List (List Ef×V)}{k:List Ef}(e:H a=some (.dT kvs))(B:H b=some (.tup (k.map kV))):DV H a (.ref b) (GH kvs k):=.inr ⟨kvs,k,b,.inl e,rfl,B,rfl⟩
theorem IE.k{H:Hp}{a:Addr}{kvs:List (Ef×V)}{k:Ef}{v:V}(e:H a=some (.dK kvs))(B:kvs.length<sizeLine):IE H a (kV k) v (upd H a (.dK (Dh kvs k v))):=.inl ⟨kvs,k,e,rfl,B,rfl⟩
theorem IE.t{H:Hp}{a b:Addr}{kvs:List (List Ef×V)}{k:List Ef}{v:V}(e:H a=some (.dT kvs))(B:H b=some (.tup (k.map kV)))(F:kvs.length<sizeLine) :
 IE H a (.ref b) v (upd H a (.dT (Dh kvs k v))):=.inr ⟨kvs,k,b,e,rfl,B,F,rfl⟩
section
variable{X:Cx}{pins:List (Addr×Obj)}{U:St}{H:Hp}{s:Shared}{a:Addr}{y v:V}{u r:Value}{o:Option V}{A:Around}{E:Value->Shared->Prop}
theorem Inv.big(I:Inv X pins U H s):sysModules<s.heap.objs.size:=by
 have h:mainGlobals<s.heap.objs.size:=(I.mod.glob.keeps I.bk).lt;exact Nat.lt_trans (by decide) h
theorem yq{Q:Value->Shared->Prop}(hu:A.units+1<cLine)(I:Inv X pins U H s)(g:DV H a y (some v))(O:El y u)(h:∀J s',Inv X pins U H s'->El v J->Q J s') :
  wpAny (model X.prog X.w) A (getItem (.ref a) u) Q E s:=by
 rcases g with ⟨kvs,k,e,ey,l⟩|⟨kvs,k,b,e,ey,eb,l⟩
 ·subst ey;obtain⟨z,Z,vs,B,dd⟩:=Ac I.hok e;obtain⟨J,L,F⟩:=Bl.some_of (v:=v) (o:=valueAt vs k) (by rw[l];exact B.val k);exact wpAny_getItem_of (Iw O) dd.mapOf L (h J _ (I.tok _) F)
 ·subst ey;cases (show u=Value.ref b from O);obtain⟨z,Z,xs,B,dd⟩:=Hq I.hok e;obtain⟨J,L,F⟩:=Bl.some_of (v:=v) (o:=(atKey xs k).map (·.2)) (by rw[l];exact B.val k);obtain⟨p,Y,M⟩:=Vn.mp L;refine wpAny_getItem_heap (tupleKind_room_in1 hu) (HI I.hok eb) dd Y ?_;rw[M];exact h J _ (I.tok _) F
theorem tN{Q:Value->Shared->Prop}(L:A.units+1<cLine)(I:Inv X pins U H s)(g:DV H a y o)(J:El y u)(h:∀s',Inv X pins U H s'->Q (.bool o.isSome) s') :
  wpAny (model X.prog X.w) A (compareOp .In u (.ref a)) Q E s:=by
 rcases g with ⟨kvs,k,e,ey,l⟩|⟨kvs,k,b,e,ey,eb,l⟩
 ·subst ey;obtain⟨z,F,vs,B,dd⟩:=Ac I.hok e;refine wpAny_in_of (Iw J) F dd.mapOf ?_;rw[<- (B.val k).isSome_eq,<- l];exact h _ (I.tok _)
 ·subst ey;cases (show u=Value.ref b from J);obtain⟨z,F,xs,B,dd⟩:=Hq I.hok e;refine wpAny_in_heap (tupleKind_room_in1 L) (HI I.hok eb) F dd ?_;have q:=(B.val k).isSome_eq;rw[Option.isSome_map] at q;rw[<- q,<- l];exact h _ (I.tok _)
theorem ko{Q:Value->Shared->Prop}(L:A.units+1<cLine)(I:Inv X pins U H s)(g:DV H a y o)(J:El y u)(h:∀s',Inv X pins U H s'->Q (.bool (!o.isSome)) s') :
  wpAny (model X.prog X.w) A (compareOp .NotIn u (.ref a)) Q E s:=by
 rcases g with ⟨kvs,k,e,ey,l⟩|⟨kvs,k,b,e,ey,eb,l⟩
 ·subst ey;obtain⟨z,F,vs,B,dd⟩:=Ac I.hok e;refine wpAny_notIn_of (Iw J) F dd.mapOf ?_;rw[<- (B.val k).isSome_eq,<- l];exact h _ (I.tok _)
 ·subst ey;cases (show u=Value.ref b from J);obtain⟨z,F,xs,B,dd⟩:=Hq I.hok e;refine wpAny_notIn_heap (tupleKind_room_in1 L) (HI I.hok eb) F dd ?_;have q:=(B.val k).isSome_eq;rw[Option.isSome_map] at q;rw[<- q,<- l];exact h _ (I.tok _)
theorem Ia{h':Heap}{t':Nat}{ob:HO}(I:Inv X pins U H s)(J:WZ (H a))(B:Heap.SameBut a s.heap h')(F:∃q,h'.get? a=some q)(new:Gj X.prog X.w (upd H a ob) h' a ob) :
  Inv X pins U (upd H a ob) { s with heap:=h',toks:=t' }:=
 I.write (x:=a) (e:=a) J (.inl rfl) (fun b q L z=>(B.2 b L).trans z) F new
theorem Wy{P:Program}{w:World}{H':Hp}{h':Heap}{kvs:List (Ef×V)}{vs:List (Ef×Value)}(z:kvs.length<=sizeLine)(F:(a==sysModules)=false)(B:KV kvs vs)(dd:h'.DictOf (Gh P w) a vs) :
 Gj P w H' h' a (.dK kvs):=⟨z,F,vs,B,dd⟩
theorem yr{H':Hp}{Q:Unit->Shared->Prop}(hu:A.units+1<cLine)(I:Inv X pins U H s)(g:IE H a y v H')(Y:El y u)(Z:El v r)(h:∀s',Inv X pins U H' s'->Q () s') :
  wpAny (model X.prog X.w) A (setItem (.ref a) u r) Q E s:=by
 rcases g with ⟨kvs,k,e,ey,l,eH⟩|⟨kvs,k,b,e,ey,eb,l,eH⟩
 ·subst ey eH;obtain⟨z,O,vs,B,dd⟩:=Lo I.hok e;have hz:vs.length<=sizeLine:=by rw[<- B.length];exact z
  have M:(Dh kvs k v).length<=sizeLine:=by have:=CF kvs k v;omega
  refine wpAny_setItem_pairs (hsz:=hz) (Iw Y) dd fun h' F L=>h _ ?_;have he:∃q,h'.get? a=some q:=let ⟨q,_,_,J,_⟩:=F;⟨q,J⟩
  exact Ia I (by rw[e];exact True.intro) L he (Wy M O (B.put k Z) F)
 ·subst ey eH;cases (show u=Value.ref b from Y);obtain⟨z,O,xs,B,dd⟩:=iD I.hok e;have hz:xs.length<=sizeLine:=by rw[<- Paired.length B];exact z
  have M:(Dh kvs k v).length<=sizeLine:=by have:=CF kvs k v;omega
  refine wpAny_setItem_heap (hsz:=hz) (tupleKind_room_in1 hu) (HI I.hok eb) dd fun h' F L=>h _ ?_;obtain⟨q,es,ep,J,h2,h3,h4,_,h5⟩:=F;refine Ia I (by rw[e];exact True.intro) L ⟨q,J⟩ ⟨M,O,_,(B.put k eb Z).keeps fun c ys ec=>?_,q,es,ep,J,h2,h3,h4,h5⟩;rw[Ep (fg ec e (fun z=>nomatch z))];exact ec
end
section
variable{X:Cx}{pins:List (Addr×Obj)}{U:St}{H:Hp}{s:Shared}{a:Addr}{kvs:List (Ef×V)}{k:Ef}{u:Value}{A:Around}{E:Value->Shared->Prop}
theorem sW{v:V}{more:List Value}{Q:Value->Shared->Prop}(I:Inv X pins U H s)(e:H a=some (.dK kvs))(M:El (kV k) u)(l:GH kvs k=some v)(hm:more=[]\/∃x,more=[x])
  (h:∀L s',Inv X pins U (upd H a (.dK (BD kvs k))) s'->El v L->Q L s'):wpAny (model X.prog X.w) A (call (.builtin "dict.pop") (.ref a::u::more)) Q E s:=by
 obtain⟨z,hd,vs,B,dd⟩:=Lo I.hok e;obtain⟨L,hw,O⟩:=Bl.some_of (v:=v) (o:=valueAt vs k) (by rw[<- l];exact B.val k)
 have hp:(keyPart u).isSome=true:=by
  cases k with
  |inl i=>obtain⟨t,q⟩:=(show ∃t,u=Value.int i t from M);subst q;rfl
  |inr x=>obtain⟨t,q⟩:=(show ∃t,u=Value.str x t from M);subst q;rfl
 have ha:argsOk "dict.pop" ⟨.ref a::u::more,[]⟩:=by
  rcases hm with q|⟨x,q⟩
  ·subst q;exact PySem.F.args_dict_pop_2 _ _
  ·subst q;exact PySem.F.args_dict_pop_3 _ _ _
 refine call_meetsIn PySem.F.slot_dict_pop dd.typeIs PySem.F.entry_dict_pop ha (meets_dict_pop_there (Gh X.prog X.w) a (Iw M) more hm hp)
  ⟨vs,L,dd,by rw[<- B.length];exact z,hw,fun h' J Y=>h L _ ?_ O⟩
 have Z:∃q,h'.get? a=some q:=let ⟨q,_,_,hq,_⟩:=J;⟨q,hq⟩
 exact Ia I (by rw[e];exact True.intro) Y Z (Wy (Uz (cy kvs k) z) hd (B.drop k) J)
end
def cz(i:Expr):Prop:=∀ov iv,subscripted i false ov iv=operate [ov,iv] (getItem ov iv)
theorem kq{prog:Program}{w:World}{A:Around}{E:Value->Shared->Prop}{s:Shared}{env:Env}{value B:Expr}{pos:Pos}{T id:String}{Q:Value->Shared->Prop}
  (M:typeLookup (.type T) "__getitem__"=pure (some (.builtin id))) (L:cz B)
  (h:wpAny (model prog w) A (eval value env) (fun o s₁=>wpAny (model prog w) A (eval B env) (fun i s₂=>s₂.TypeIs o T/\wpAny (model prog w) A (getItem o i) Q E s₂) E s₁) E s) :
  wpAny (model prog w) A (eval (.Subscript value B pos) env) Q E s:=by
 refine Subscript_ (UJ h (fun o s₁ h₁=>UJ h₁ (fun i s₂ h₂=>?_) fun _ _ x=>x) fun _ _ x=>x);obtain⟨J,h₂⟩:=h₂;unfold subscriptTail;refine Ua ?_;rw[getitemInPython_of_ne J.not_modules];refine Ua (wpAny_specialOf J M ?_)
 have F:wpAny (model prog w) A (subscripted B false o i) (fun r s₃=>wpAny (model prog w) A (letTemporaryGo value o r >>= fun _=>pure r) Q E s₃) E s₂:=by
  rw[L o i];exact wpAny_operating (UJ h₂ (fun r s₃ h₃=>Ua (wpAny_letTemporaryGo (Uj h₃))) fun _ _ x=>x)
 first
  |exact Uj (Ua F)
  |exact Ua (Uj (Ua F))
  |exact Ua F
theorem xt{X:Cx}{pins:List (Addr×Obj)}{U:St}{H:Hp}{s:Shared}{a:Addr}{y:V}{o:Option V}(I:Inv X pins U H s)(g:DV H a y o):s.TypeIs (.ref a) "dict":=by
 rcases g with ⟨kvs,k,e,_,_⟩|⟨kvs,k,b,e,_,_,_⟩
 ·obtain⟨_,_,vs,_,dd⟩:=Ac I.hok e;exact dd.typeIs
 ·obtain⟨_,_,xs,_,dd⟩:=Hq I.hok e;exact dd.typeIs
theorem xu{X:Cx}{pins:List (Addr×Obj)}{U:St}{H:Hp}{s:Shared}{a:Addr}{y:V}{o:Option V}(I:Inv X pins U H s)(g:DV H a y o) :
  ∀b,Value.ref a=.ref b->∃ob,s.heap.get? b=some ob/\ob.dict=none:=fun b q=>by
 cases q;rcases g with ⟨kvs,k,e,_,_⟩|⟨kvs,k,b,e,_,_,_⟩
 ·obtain⟨_,_,vs,_,ob,_,_,h1,h2,_⟩:=Ac I.hok e;exact⟨ob,h1,h2.2.1⟩
 ·obtain⟨_,_,xs,_,ob,_,_,h1,h2,_⟩:=Hq I.hok e;exact⟨ob,h1,h2.2.1⟩
def vj(td ty:TE):TE:=fun U H Q=>td U H fun x H1=>ty U H1 fun y H2=>∃a v,x=.ref a/\DV H2 a y (some v)/\Q v H2
def vk(td ty tv:TE):TS:=fun D U H=>tv U H fun v H1=>td U H1 fun x H2=>ty U H2 fun y H3=>∃a H4,x=.ref a/\IE H3 a y v H4/\D.nx U H4
section
variable{X:Cx}{o i e value:Expr}{pos pos' tpos:Pos}{td ty tv:TE}
theorem kr(hu:X.A.units+1<cLine)(ho:PE X o td)(hi:PE X i ty)(O:cz i):PE X (.Subscript o i pos) (vj td ty):=by
 intro pins s U H Q I h;refine kq PySem.F.slot_dict_getitem.lookup O (thn (ho pins s U H _ I h) fun u L ⟨x,H1,I1,M,Y⟩=>thn (hi pins L U H1 _ I1 Y) fun iv s2 ⟨y,H2,I2,J,a,v,ex,g,Z⟩=>?_);subst ex;obtain rfl:u=Value.ref a:=M;exact⟨xt I2 g,yq hu I2 g J fun w' s3 I3 B=>⟨v,H2,I3,B,Z⟩⟩
theorem ku(hu:X.A.units+1<cLine)(L:PE X o td)(hi:PE X i ty)(M:PE X value tv)(O:swapsWith value (some (.Subscript o i pos')) pos.line X.env=pure false) :
  PS X (.Assign [.Subscript o i pos'] value pos) (vk td ty tv):=by
 intro pins s U H D I h;refine wpAny_Assign_Subscript (thn (M pins s U H _ I h) fun r F ⟨v,H1,I1,Z,q1⟩=>thn (L pins F U H1 _ I1 q1) fun u s2 ⟨x,H2,I2,Y,J⟩=>thn (hi pins s2 U H2 _ I2 J) fun iv s3 ⟨y,H3,I3,B,a,H4,ex,g,q3⟩=>?_) O;subst ex;obtain rfl:u=Value.ref a:=Y;exact yr hu I3 g B Z fun s4 I4=>⟨U,H4,I4,q3⟩
end
theorem dA{P:Program}{w:World}{H:Hp}(h:Heap)(B:sysModules<h.objs.size):Gj P w H (h.push { cls:=.type "dict",data:=.dict #[] }) h.objs.size (.dK []):=
 ⟨UX _,beq_eq_false_iff_ne.mpr (Ne.symm (Ut B)),[],.nil,Heap.DictOf.new h⟩
theorem dB{P:Program}{w:World}{H:Hp}(h:Heap)(B:sysModules<h.objs.size):Gj P w H (h.push { cls:=.type "dict",data:=.dict #[] }) h.objs.size (.dT []):=
 ⟨UX _,beq_eq_false_iff_ne.mpr (Ne.symm (Ut B)),[],.nil,_,#[],0,Ul _ rfl,⟨rfl,rfl,rfl⟩,rfl,rfl,List.nodup_nil⟩
def jS:TE:=fun _ H Q=>∀p,H p=none->Q (.ref p) (upd H p (.dK []))
def jT:TE:=fun _ H Q=>∀p,H p=none->Q (.ref p) (upd H p (.dT []))
section
variable{X:Cx}{pos:Pos}
theorem dC:PE X (.Dict [] [] pos) jS:=fun pins s U H Q I h=>
 wpAny_Dict_empty ⟨.ref s.heap.objs.size,_,I.laid (a:=s.heap.objs.size) (o:=.dK []) (t':=s.toks) (fun _ _ q=>Uc _ q) (Ue _) (dA s.heap I.big),rfl,h _ (I.hok.fresh (Ue _))⟩
theorem dD:PE X (.Dict [] [] pos) jT:=fun pins s U H Q I h=>
 wpAny_Dict_empty ⟨.ref s.heap.objs.size,_,I.laid (a:=s.heap.objs.size) (o:=.dT []) (t':=s.toks) (fun _ _ q=>Uc _ q) (Ue _) (dB s.heap I.big),rfl,h _ (I.hok.fresh (Ue _))⟩
end
structure M1(X:Cx)(o:Expr)(m:Str)(apos:Pos)(e:Expr)(cpos:Pos):Prop where
 base:attributeBase o m X.env (eval o X.env)=eval o X.env
 few:((backTo cpos (starEach [e] X.env)).all (fun x=>!x.1)&&(backToKw cpos (keywordEach [] X.env)).all (fun x=>x.1.isSome)
  && decide (([e]:List Expr).length+([]:List Keyword).length+(if([]:List Keyword).isEmpty then 0 else 1)<30))=true
 line:(apos.endLine==cpos.line)=true
 trees:backTo cpos (starEach [e] X.env)=[(false,eval e X.env)]
structure M2(X:Cx)(o:Expr)(m:Str)(apos:Pos)(e f:Expr)(cpos:Pos):Prop where
 base:attributeBase o m X.env (eval o X.env)=eval o X.env
 few:((backTo cpos (starEach [e,f] X.env)).all (fun x=>!x.1)&&(backToKw cpos (keywordEach [] X.env)).all (fun x=>x.1.isSome)
  && decide (([e,f]:List Expr).length+([]:List Keyword).length+(if([]:List Keyword).isEmpty then 0 else 1)<30))=true
 line:(apos.endLine==cpos.line)=true
 trees:backTo cpos (starEach [e,f] X.env)=[(false,eval e X.env),(false,eval f X.env)]
def ue(H:Hp)(a:Addr):Prop:=(∃kvs,Rd H a (.dK kvs))\/∃kvs,Rd H a (.dT kvs)
theorem jU{X:Cx}{pins:List (Addr×Obj)}{U:St}{H:Hp}{s:Shared}{a:Addr}(I:Inv X pins U H s)(d:ue H a) :
  s.TypeIs (.ref a) "dict"/\(∀b,Value.ref a=.ref b->∃ob,s.heap.get? b=some ob/\ob.dict=none)/\(a==sysModules)=false:=by
 rcases d with ⟨kvs,e⟩|⟨kvs,e⟩
 ·obtain⟨_,B,vs,_,dd⟩:=Ac I.hok e;refine⟨dd.typeIs,fun b q=>?_,B⟩;cases q;obtain⟨ob,_,_,h1,h2,_⟩:=dd;exact⟨ob,h1,h2.2.1⟩
 ·obtain⟨_,B,xs,_,dd⟩:=Hq I.hok e;refine⟨dd.typeIs,fun b q=>?_,B⟩;cases q;obtain⟨ob,_,_,h1,h2,_⟩:=dd;exact⟨ob,h1,h2.2.1⟩
section
variable{X:Cx}{pins:List (Addr×Obj)}{U:St}{H:Hp}{s:Shared}{a:Addr}{y d:V}{u r:Value}{o:Option V}{A:Around}{E:Value->Shared->Prop}
theorem pQ{Q:Value->Shared->Prop}(O:A.units+1<cLine)(I:Inv X pins U H s)(g:DV H a y o)(L:El y u)(h:∀M s',Inv X pins U H s'->El (o.getD .non) M->Q M s') :
  wpAny (model X.prog X.w) A (call (.builtin "dict.get") [.ref a,u]) Q E s:=by
 rcases g with ⟨kvs,k,e,ey,l⟩|⟨kvs,k,b,e,ey,eb,l⟩
 ·subst ey;obtain⟨z,J,vs,B,dd⟩:=Ac I.hok e;refine call_meetsIn PySem.F.slot_dict_get dd.typeIs PySem.F.entry_dict_get (PySem.F.args_dict_get_2 _ _) (meets_dict_get (Gh X.prog X.w) a (Iw L) J) ⟨_,dd.mapOf,h _ _ (I.tok _) ?_⟩;rw[l];exact(B.val k).getD rfl
 ·subst ey;cases (show u=Value.ref b from L);obtain⟨z,J,xs,B,dd⟩:=Hq I.hok e;refine call_meetsIn PySem.F.slot_dict_get dd.typeIs PySem.F.entry_dict_get (PySem.F.args_dict_get_2 _ _) (meetsH_dict_get (tupleKind (Gh X.prog X.w)) a b J) ⟨tupleKind_room_in1 O,k,xs,HI I.hok eb,dd,h _ _ (I.tok _) ?_⟩;rw[l];exact(B.val k).getD rfl
end
def jV(td ty:TE):TE:=fun U H Q=>td U H fun x H1=>∃a,x=.ref a/\ue H1 a/\ty U H1 fun y H2=>∃o,DV H2 a y o/\Q (o.getD .non) H2
def jW(td ty:TE):TE:=fun U H Q=>td U H fun x H1=>∃a,x=.ref a/\ue H1 a/\ty U H1 fun y H2=>∃kvs k v,H2 a=some (.dK kvs)/\y=kV k/\GH kvs k=some v/\Q v (upd H2 a (.dK (BD kvs k)))
section
variable{X:Cx}{o e f:Expr}{apos cpos:Pos}{td ty tx:TE}
theorem dE(hu:X.A.units+1<cLine)(O:PE X o td)(Z:PE X e ty)(m:M1 X o "get" apos e cpos):PE X (.Call (.Attribute o "get" apos) [e] [] cpos) (jV td ty):=by
 intro pins s U H Q I h;refine wpAny_Call_method m.base m.few m.line PySem.F.plainAttrs_dict PySem.F.slot_dict_get PySem.F.type_dict_get (thn (O pins s U H _ I h) fun u L ⟨x,H1,I1,rx,a,ex,d,q1⟩=>?_);subst ex;obtain rfl:u=Value.ref a:=rx;obtain⟨Y,t2,_⟩:=jU I1 d;refine⟨Y,t2,?_⟩;rw[m.trees];refine Calls.callWith_builtin rfl (Calls.evalArgs_plain (Calls.spliced_cons (thn (Z pins L U H1 _ I1 q1) fun iv s2 ⟨y,H2,I2,J,ov,g,M⟩=>Calls.spliced_nil ?_)));exact pQ hu I2 g J fun w' s3 I3 B=>⟨_,H2,I3,B,M⟩
theorem dF(O:PE X o td)(he:PE X e ty)(m:M1 X o "pop" apos e cpos):PE X (.Call (.Attribute o "pop" apos) [e] [] cpos) (jW td ty):=by
 intro pins s U H Q I h;refine wpAny_Call_method m.base m.few m.line PySem.F.plainAttrs_dict PySem.F.slot_dict_pop PySem.F.type_dict_pop (thn (O pins s U H _ I h) fun u L ⟨x,H1,I1,rx,a,ex,d,q1⟩=>?_);subst ex;obtain rfl:u=Value.ref a:=rx;obtain⟨Y,t2,_⟩:=jU I1 d;refine⟨Y,t2,?_⟩;rw[m.trees];refine Calls.callWith_builtin rfl (Calls.evalArgs_plain (Calls.spliced_cons (thn (he pins L U H1 _ I1 q1) fun iv s2 ⟨y,H2,I2,J,kvs,k,v,Z,ey,l,M⟩=>Calls.spliced_nil ?_)));subst ey;exact sW I2 Z J l (.inl rfl) fun w' s3 I3 B=>⟨v,_,I3,B,M⟩
end
section
variable{X:Cx}{pins:List (Addr×Obj)}{U:St}{H:Hp}{s:Shared}{a:Addr}{kvs:List (Ef×V)}{A:Around}{E:Value->Shared->Prop}
theorem dG{Q:Value->Shared->Prop}(I:Inv X pins U H s)(e:Rd H a (.dK kvs))(h:∀p s',H p=none->Inv X pins U (upd H p (.dK kvs)) s'->Q (.ref p) s'):wpAny (model X.prog X.w) A (call (.type "dict") [.ref a]) Q E s:=by
 obtain⟨z,L,vs,B,dd⟩:=Ac I.hok e;refine kt_call_dict L dd (by rw[<- B.length];exact z) fun h' F M=>?_;refine h _ _ (I.hok.fresh (Ue _)) (I.laid (a:=s.heap.objs.size) (o:=.dK kvs) (t':=s.toks) (fun b q J=>?_) (Ue _) (Wy z (beq_eq_false_iff_ne.mpr (Ne.symm (Ut I.big))) B F));exact(M.2 b (Ut (Uo J))).trans (Uc _ J)
end
noncomputable def foldS{κ:Type}[DecidableEq κ](key:Nat->κ)(val:Nat->Value):Nat->Nat->List (κ × Value)->List (κ × Value)
 |_,0,kvs=>kvs
 |i,k+1,kvs=>foldS key val (i+1) k (stored kvs (key i) (val i))
def tO(H:Hp)(vs:List V)(prs:List (Ef×V)):Prop:=Paired (fun v (p:Ef×V)=>∃a,v=V.ref a/\H a=some (.tup [kV p.1,p.2])) vs prs
section
variable{prog:Program}{w:World}{A:Around}{E:Value->Shared->Prop}{s:Shared}{κ:Type}[DecidableEq κ]{knd:KeyKind prog w κ}
theorem Kw{d:Addr}{kvs:List (κ × Value)}{ep:Nat}{Q:List Value->Shared->Prop}(hh:A.handled=none)(hd:(d==sysModules)=false)(hm:s.heap.DictAt knd d kvs ep)(hn:kvs.length<=sizeLine)
  (hQ:∀s' a5,(∀b o,s.heap.get? b=some o->s'.heap.get? b=some o)->s'.gens=s.gens->s'.drawn=s.drawn->s'.os=s.os->s.heap.objs.size<s'.heap.objs.size->ItemsOf (fun i v=>∃k x,kvs[i]? = some (k,x)/\knd.is k v=true) a5 kvs.length->Q a5.toList s') :
  wpAny (model prog w) A (collect (.ref d)) Q E s:=by
 have J:d<s.heap.objs.size:=let ⟨_,_,ho,_⟩:=hm;Uo ho
 unfold collect;refine Ua (wpAny_runValue (codeAny_builtin F.entry_proto_collect ?_));rw[Around.under_plainId F.plain_proto_collect _];show wpAny _ A.in1 (newList [] >>= fun l=>again (.builtin "list.__iadd__" ⟨[l,.ref d],[]⟩)) _ _ s;refine Ua (wpAny_newObj_type ?_);refine Uj ⟨plainId_quiet F.plain_list_iadd _,codeAny_builtin F.entry_list_iadd ?_⟩;rw[Around.under_plainId F.plain_list_iadd _];generalize hH:s.heap.push { cls:=.type "list",data:=.seq ([]:List Value).toArray }=H;have a1:H.objs.size=s.heap.objs.size+1:=by rw[<- hH,UZ]
 have M:H.DictAt knd d kvs ep:=hm.at' fun o e=>hH ▸ Uc _ e;have a7:(⟨H,s.gens,s.drawn,s.toks,s.os⟩:Shared).TypeIs (.ref d) "dict":=M.dictOf.typeIs;show wpAny _ A.in1 (Builtin.List.listExtendWith (.ref s.heap.objs.size) (.ref d) (.ref s.heap.objs.size)) _ _ (⟨H,s.gens,s.drawn,s.toks,s.os⟩:Shared);unfold Builtin.List.listExtendWith;refine Ua (wpAny_typeOf a7 ?_)
 have h1:Builtin.List.listSameRef (.ref s.heap.objs.size) (.ref d)=false:=by
  simp only[Builtin.List.listSameRef];exact beq_eq_false_iff_ne.mpr (Nat.ne_of_gt J)
 have h2:(Value.type "dict"==Value.type "list")=false:=by decide
 have h3:(Value.type "dict"==Value.type "tuple")=false:=by decide
 simp only[h1,h2,h3,Bool.or_false,UW,if_false];refine Ua (wpAny_pyIter_dict hd M ?_);generalize hO:({ cls:=.type "dict_keyiterator",data:=.fields #[.ref d,.int 0 0,.int kvs.length 0,.int ep 0] }:Obj)=O;have a4:(H.push O).DictAt knd d kvs ep:=M.at' fun o e=>Uc _ e;have a0:(⟨H.push O,s.gens,s.drawn,s.toks,s.os⟩:Shared).TypeIs (.ref d) "dict":=a4.dictOf.typeIs;refine Ua (UO ?_);unfold Builtin.List.listLengthHint;refine Ua (wpAny_specialOf a0 PySem.F.slot_dict_len.lookup ?_)
 wp_delta
 refine Ua (wpAny_isInstance (b:=true) a0 (by rw[isSubtype_type];kernel_rfl) ?_);show wpAny _ A.in1 (typeOf (Value.ref d) >>= _) _ _ _;refine Ua (wpAny_typeOf a0 ?_);refine Uj ?_
 show wpAny _ A.in1 (rule "list.extend.makes-room" >>= fun _=>Builtin.List.listTouch (.ref s.heap.objs.size) >>= fun _=>
  again (.builtin "list.extend.loop" ⟨[.ref s.heap.objs.size,.ref H.objs.size,.ref s.heap.objs.size],[]⟩)) _ _ _
 refine Ua (wpAny_rule ?_);have hS₁:(H.push O).get? s.heap.objs.size=some { cls:=.type "list",data:=.seq ([]:List Value).toArray }:=Uc _ (hH ▸ Ul _ rfl);refine Ua ?_;show wpAny _ A.in1 (updateSeq s.heap.objs.size (·.push .none) >>= fun _=>updateSeq s.heap.objs.size (·.pop)) _ _ _;refine Ua (wpAny_updateSeq hS₁ rfl ?_);have hS₂:=Heap.get?_update_self (Obj.mapSeq (·.push Value.none)) hS₁ rfl;refine wpAny_updateSeq hS₂ rfl ?_;have hS₃:=Heap.get?_update_self (Obj.mapSeq (·.pop)) hS₂ rfl
 have Y:∀b o,b≠s.heap.objs.size->(H.push O).get? b=some o->(((H.push O).update s.heap.objs.size (Obj.mapSeq (·.push Value.none))).update s.heap.objs.size (Obj.mapSeq (·.pop))).get? b=some o:=
  fun b o hb e=>(UE _ _ (Ne.symm hb)).trans ((UE _ _ (Ne.symm hb)).trans e)
 have a9:d<H.objs.size:=by rw[a1];exact Vo J
 have L:H.objs.size≠s.heap.objs.size:=by rw[a1];exact Nat.succ_ne_self _
 have a8:s.heap.objs.size∉[H.objs.size,d]:=fun z=>by
  simp only[Ud,Us,or_false] at z;rcases z with z|z
  ·exact L z.symm
  ·exact Nat.ne_of_gt J z
 have W:=(Walks.dictKeys (knd:=knd) (A:=A.in1) hh H.objs.size d (Ut a9) kvs ep).toS;refine Uj ⟨plainId_quiet F.plain_extend_loop _,codeAny_extend_loopS (A:=A) W hn _ a8 _ kvs.length 0 _ _ _ rfl (UX _) ⟨?_,?_⟩ hS₃ (ItemsOf.nil _) fun s' a2 c' B a6 a3=>?_⟩
 ·exact⟨_,Y _ _ L (Ul _ (by rw[<- hO];rfl)),by rw[<- hO],by rw[<- hO];rfl⟩
 ·exact a4.at' fun o e=>Y _ _ (Ut J) e
 ·show wpAny _ A (load s.heap.objs.size >>= _) _ _ s';refine Ua (wpAny_load a6 ?_);refine Uj (hQ s' a2 (fun b ob e=>B.heap b ob (fun hb=>?_) (Y _ _ (Ut (Uo e)) (Uc _ (hH ▸ Uc _ e)))) B.gens B.drawn B.os (Uo a6) a3);have Z:=Uo e;simp only[Ud,Us,or_false] at hb;rcases hb with h|h
  ·exact Ut Z h
  ·rw[h,a1] at Z;exact absurd Z (Nat.not_lt.mpr (Vl _))
theorem xw{d:Addr}{kvs:List (κ × Value)}{ep:Nat}{Q:Value->Shared->Prop}(hh:A.handled=none)(hd:(d==sysModules)=false)(hm:s.heap.DictAt knd d kvs ep)(a0:kvs.length<64)
  (hI:∀B:Array Value,ItemsOf (fun i v=>∃k x,kvs[i]? = some (k,x)/\knd.is k v=true) B kvs.length->∃ns,IntsAre B.toList ns/\∀(s':Shared) (l:Addr) (out:Array Value) (J:List Int) (e:Nat),s.heap.objs.size<=l->(∀b o,s.heap.get? b=some o->s'.heap.get? b=some o)->s'.gens=s.gens->s'.drawn=s.drawn->s'.os=s.os ->
   s'.heap.get? l=some (seqObj "list" out e)->out.size=kvs.length->IntsAre out.toList J->J.Perm ns->J.Pairwise (· <= ·)->Q (.ref l) s') :
  wpAny (model prog w) A (call (.builtin "sorted") [.ref d]) Q E s:=by
 refine Calls.call_function_entry kind_sorted plain_sorted entry_sorted (args_sorted1 _) ?_;unfold Builtin.«sorted»;refine Ua (m:=checkCount "sorted" 1 1 _) (Uj ?_);refine Ua (Kw (knd:=knd) hh hd hm (by rw[sizeLine_eq];omega) fun M B hk e1 e2 e3 Z F=>?_);obtain⟨ns,O,hQ⟩:=hI B F;refine Ua (wpAny_newList (hsz:=by rw[UI,F.1,sizeLine_eq];omega) ?_);have L:(M.heap.push (seqObj "list" B.toList.toArray 0)).get? M.heap.objs.size=some (seqObj "list" B.toList.toArray 0):=Ul _ rfl;show wpAny _ _ _ _ _ { M with heap:=M.heap.push (seqObj "list" B.toList.toArray 0) };refine Ua (UO (wpAny_call_entry slot_list_sort ⟨_,L,rfl⟩ entry_list_sort (list_sort_tree L O (by rw[UI,F.1];exact a0) fun out J a1 a2 a3=>⟨_,rfl,?_⟩) (args_list_sort _)));refine Uj ⟨_,rfl,?_⟩;obtain⟨e,he⟩:=sortedHeap_at (out:=out) L;have Y:s.heap.objs.size<=M.heap.objs.size:=Nat.le_of_lt Z;refine hQ _ _ out J e Y (fun b o eb=>?_) e1 e2 e3 he ?_ a1 a2 a3
 ·have hb:=Uo (hk _ _ eb);exact(sortedHeap_old (Ut hb) (by rw[UZ];exact Vo hb)).trans (Uc _ (hk _ _ eb))
 ·have l1:=IntsAre.length a1;have l2:=IntsAre.length O;have l3:=a2.length_eq;have l4:=F.1;simp only[UI] at l1 l2;omega
end
theorem zg:∀(vs:List (Ef×Value)) (ns:List Int) (l:List Value),vs.map (·.1)=ns.map Sum.inl->l.length=vs.length->(∀(j:Nat) (v:Value),l[j]? = some v->∃k x,vs[j]? = some (k,x)/\Hk k v=true)->IntsAre l ns
 | [],[],[],_,_,_=>.nil
 | [],[],_::_,_,h,_=>by simp at h
 | [],_::_,_,h,_,_=>by simp at h
 |_::_,[],_,h,_,_=>by simp at h
 |_::_,_::_,[],_,h,_=>by simp at h
 |(k,x)::vs,n::ns,v::l,h1,h2,h3=>by
  simp only[UK,List.cons.injEq] at h1;obtain⟨rfl,h1⟩:=h1;obtain⟨F,x',e,B⟩:=h3 0 v rfl;simp only[List.getElem?_cons_zero,Option.some.injEq,Prod.mk.injEq] at e;obtain⟨rfl,rfl⟩:=e;rcases Gu B with ⟨i,t,e1,e2⟩|⟨y,t,e1,e2⟩
  ·cases e1;cases e2;refine .cons _ _ (zg vs ns l h1 (by simpa using h2) fun j v e=>?_);have:=h3 (j+1) v (by simpa using e);simpa using this
  ·cases e1
theorem KV.keysEq{κ:Type}:∀ {kvs:List (κ × V)} {us:List (κ × Value)},KV kvs us->us.map (·.1)=kvs.map (·.1)
 |_,_,.nil=>rfl
 |_,_,.cons h t=>by rw[UK,UK,h.1,KV.keysEq t]
theorem IntsAre.vals:∀ {vs:List Value} {ns:List Int},IntsAre vs ns->Em (ns.map V.int) vs
 |_,_,.nil=>.nil
 |_,_,.cons _ t h=>.cons ⟨t,rfl⟩ (IntsAre.vals h)
def jX:List V->Hp->VK->Prop:=fun xs H Q=>∃(p:Addr) (kvs:List (Ef×V)) (ns:List Int),xs=[.ref p]/\Rd H p (.dK kvs)/\kvs.map (·.1)=ns.map Sum.inl/\kvs.length<64/\∀(l:Addr) (ns':List Int),H l=none->ns'.Perm ns->ns'.Pairwise (· <= ·)->Q (.ref l) (upd H l (.lst (ns'.map V.int)))
theorem Wz{X:Cx}(hc:X.calm=true):Gr X (.builtin "sorted") jX:=by
 intro pins s U H xs us Q I r h;obtain⟨p,kvs,ns,rfl,O,M,Y,q⟩:=h;obtain⟨u,rfl,ru⟩:=r.one;cases ru;obtain⟨z,O,vs,L,dd⟩:=Ac I.hok O;obtain⟨ep,dd⟩:=dd.dictAt;have F:vs.length=kvs.length:=L.length.symm;refine xw (I.ok.hd hc) O dd (by rw[F];exact Y) fun Z B=>⟨ns,?_,fun s' l out J e hl hk e1 e2 e3 he ho a1 a2 a3=>?_⟩
 ·exact zg vs ns Z.toList (by rw[KV.keysEq L];exact M) (by rw[UI];exact B.1) fun j v e=>B.2 j v (by simpa using e)
 ·obtain⟨h',g',d',tk,a0⟩:=s';simp only at e1 e2 e3;subst e1 e2 e3;refine⟨.ref l,upd H l (.lst (J.map V.int)),I.laid (t':=tk) hk hl ?_,rfl,q l J (I.hok.fresh hl) a2 a3⟩;refine⟨?_,out.toList,e,IntsAre.vals a1,he⟩;have l1:=a2.length_eq;have l2:=congrArg List.length M;simp only[Ug] at l2 ⊢;rw[sizeLine_eq];omega
section
variable{prog:Program}{w:World}{A:Around}{E:Value->Shared->Prop}{I:Addr}{fp wr:List Addr}{n:Nat}{P:Nat->Value->Prop}{St:Nat->Heap->Prop}
theorem yt(W:Walks prog w A I fp wr n P St):∀(k i:Nat) (s:Shared) (Q:List Value->Shared->Prop),St i s.heap->i+k<=n ->
  (∀vs h' Z,vs.length=k->(∀(j:Nat) v,vs[j]? = some v->P (i+j) v)->St (i+k) h'->(∀b o,b∉wr->s.heap.get? b=some o->h'.get? b=some o)->Q vs { s with heap:=h',toks:=Z }) ->
  wpAny (model prog w) A (draw (.ref I) k) Q E s
 | 0,i,s,Q,hst,_,hQ=>by
  show wpAny _ _ (pure []) Q E s;exact Uj (hQ [] s.heap s.toks rfl (fun j v e=>by simp at e) hst fun b o _ e=>e)
 |k+1,i,s,Q,hst,hle,hQ=>by
  show wpAny _ _ (pyNext (.ref I) >>= _) Q E s;refine Ua (W.item i s _ _ (by omega) hst fun v h1 a0 hv B F=>?_);refine Ua (UO (yt W k (i+1) _ _ B (by omega) fun vs h2 O hl M L J=>Uj ?_));refine hQ (v::vs) h2 O (by simp[hl]) (fun j x e=>?_) (by rw[show i+(k+1)=i+1+k by omega];exact L) fun b o Y e=>J b o Y (F b o Y e)
  cases j with
  |zero=>simp at e;subst e;exact hv
  |succ j=>rw[show i+(j+1)=i+1+j by omega];exact M j x (by simpa using e)
theorem Su{t:Addr}{items:Array Value}{s:Shared}{Q:List Value->Shared->Prop}(hh:A.handled=none)(F:s.heap.IsList t items)
  (hQ:∀h' tk,(∀b o,s.heap.get? b=some o->h'.get? b=some o)->Q items.toList { s with heap:=h',toks:=tk }):wpAny (model prog w) A (unpackItems (.ref t) items.size none) Q E s:=by
 have J:t≠s.heap.objs.size:=by obtain⟨o,Z,_⟩:=F;exact Ut (Uo Z)
 have hT:s.TypeIs (.ref t) "list":=by obtain⟨o,Z,hc,_⟩:=F;exact⟨o,Z,hc⟩
 unfold unpackItems;refine Ua ?_;unfold notIterableAtAll;refine Ua (wpAny_specialOf hT slot_list_iter.lookup ?_);refine Uj ?_;simp only[UW,if_false];refine Ua (UO (wpAny_pyIter_list F ?_));have W:=Walks.list (prog:=prog) (w:=w) (A:=A) hh s.heap.objs.size t J items;refine Ua (UO (yt W items.size 0 _ _ ⟨⟨_,Ul _ rfl,rfl,rfl⟩,?_⟩ (by omega) fun vs h1 a0 hl O B L=>?_))
 ·obtain⟨o,a1,a2,a3,a4⟩:=F;exact⟨o,Uc _ a1,a2,a3,a4⟩
 have e:vs=items.toList:=by
  refine List.ext_getElem? fun j=>?_;by_cases hj:j<vs.length
  ·have:=O j vs[j] (Ub hj);rw[Nat.zero_add] at this;rw[Ub hj,<- this];simp
  ·rw[List.getElem?_eq_none (by omega),List.getElem?_eq_none (by simp;omega)]
 subst e;rw[if_neg (by simp)];rw[Nat.zero_add] at B;refine Ua (UO (W.done _ _ _ B fun h2 Y M=>?_));simp only[Option.isSome_none,UW,if_false];refine Uj (hQ h2 Y fun b o e=>M b o ?_ (L b o ?_ (Uc _ e)))
 ·intro z;simp at z;exact Ut (Uo e) z
 ·intro z;simp at z;exact Ut (Uo e) z
theorem Lw{env:Env}{B:List Expr}{x1}{pos:Pos}{t:Addr}{items:Array Value}{s:Shared}{Q:Unit->Shared->Prop}(O:A.handled=none)(M:s.heap.IsList t items)
  (L:(assignEach B env).length=items.size) (F:(assignEach B env).findIdx? (·.1)=none)
  (h:∀h' J,(∀b o,s.heap.get? b=some o->h'.get? b=some o)->wpAny (model prog w) A (assignInOrder ((assignEach B env).map (·.2)) items.toList) Q E { s with heap:=h',toks:=J }) :
  wpAny (model prog w) A (assign (.Tuple B x1 pos) env (.ref t)) Q E s:=by
 rw[assign_Tuple];refine Ua (wpAny_standAt ?_);unfold unpack;rw[L,F];exact Ua (UO (Su O M h))
end
def dH(K:W.Frag)(n:Nat)(t:FJ):TG:=fun v U H Q=>∃a xs,v=.ref a/\Eh K H a xs/\xs.length=n/\t xs U H Q
section
variable{X:Cx}{pos:Pos}
theorem pR{es:List Expr}{k:Nat}{t:FJ}{n:Nat}(hc:X.calm=true)(h:uN X es t)
  (hn:(assignEach es X.env).length=n:=by rfl) (M:(assignEach es X.env).findIdx? (·.1)=none:=by rfl):PG X (.Tuple es k pos) (dH X.K n t):=by
 intro pins s U H v u Q I r F;obtain⟨a,xs,Z,hq,hl,F⟩:=F;subst Z;cases r;obtain⟨a0,Y,pl,_⟩:=I.list hq;obtain⟨ol,nl,L,J,a1,B⟩:=id pl;refine Lw (I.ok.hd hc) ⟨ol,L,J,nl,B⟩ (by simp[hn,<- hl,Y.length]) M fun h' O hx=>?_;have I1:Inv X pins U H { s with heap:=h',toks:=O }:=I.kept (t':=O) fun b o e=>hx b o e;exact h pins _ U H xs _ Q I1 (by simpa using Y) F
theorem yu{es:List Expr}{k:Nat}{u:FJ}{n:Nat}(K:W.Frag)(h:X.K=K)(J:X.calm=true)(L:ud X es u)(F:(assignEach es X.env).length=n:=by rfl)(B:(assignEach es X.env).findIdx? (·.1)=none:=by rfl):QG X (.Tuple es k pos) (dH K n u):=by
 subst h;exact⟨pR J L.h F B⟩
theorem uf{K:W.Frag}{U:St}{H:Hp}{n:Nat}{t:FJ}{p:Addr}{xs:List V}{R:St->Hp->Prop}(h1:Eh K H p xs)(h2:xs.length=n)(h:t xs U H R):dH K n t (.ref p) U H R:=⟨p,xs,rfl,h1,h2,h⟩
end
section
variable{X:Cx}{o i value:Expr}{pos pos':Pos}{td ty tv:TE}
theorem tP{b:Expr}(h:qp b=false):cz b:=by
 intro B F;cases b<;>first|rfl|cases h
theorem DI(J:X.A.units+1<cLine)(B:QE X o td)(hi:QE X i ty)(F:qp i=false:=by rfl):QE X (.Subscript o i pos) (vj td ty):=⟨kr J B.h hi.h (tP F)⟩
theorem Dz(L:X.A.units+1<cLine)(F:QE X value tv)(B:QE X o td)(hi:QE X i ty)(J:Cg value=false:=by rfl):QS X (.Assign [.Subscript o i pos'] value pos) (vk td ty tv):=⟨ku L B.h hi.h F.h (HF J)⟩
theorem AS:QE X (.Dict [] [] pos) jS:=⟨dC⟩
end
section
variable{U:St}{H:Hp}{Q:VK}{D:DQ}
def XA(x y:V)(H:Hp)(Q:VK):Prop:=∃a v,x=.ref a/\DV H a y (some v)/\Q v H
theorem dI{td ty:TE}(h:td U H fun x H1=>ty U H1 fun y H2=>XA x y H2 Q):vj td ty U H Q:=h
def qr(v x y:V)(H:Hp)(R:Hp->Prop):Prop:=∃a H4,x=.ref a/\IE H a y v H4/\R H4
theorem dJ{td ty tv:TE}(h:tv U H fun v H1=>td U H1 fun x H2=>ty U H2 fun y H3=>qr v x y H3 (D.nx U)):vk td ty tv D U H:=h
def qt(H:Hp)(Q:VK):Prop:=∀p,H p=none->Q (.ref p) (upd H p (.dK []))
theorem dL(h:qt H Q):jS U H Q:=h
theorem ug(h:∀p H2,H p=none->H2 p=some (.dK [])->ET H H2->Q (.ref p) H2):qt H Q:=fun p B=>h p _ B EW (ET.new B)
end
noncomputable def GG(m:PL)(t:Int):Option Int:=(m.find? fun kv=>decide (kv.1=t)).map (·.2)
noncomputable def Gx(m:PL)(t h:Int):PL:=if(m.any fun kv=>decide (kv.1=t))=true then m.map fun kv=>if kv.1=t then(kv.1,h) else kv else m ++ [(t,h)]
noncomputable def Ib(p:Int×Int):Ef×V:=(.inl p.1,.int p.2)
def Ez(m:PL):List (Ef×V):=m.map Ib
theorem jY{a b:Int}:((Sum.inl a:Ef)=Sum.inl b)↔a=b:=⟨fun h=>Sum.inl.inj h,fun h=>h ▸ rfl⟩
theorem pS(m:PL)(t:Int):((Ez m).any fun B=>decide (B.1=Sum.inl t))=m.any fun B=>decide (B.1=t):=by
 unfold Ez;rw[List.any_map];congr 1;funext p;simp only[Function.comp,Ib,jY]
theorem yv(m:PL)(t h:Int):Dh (Ez m) (.inl t) (.int h)=Ez (Gx m t h):=by
 unfold Dh Gx;rw[pS];by_cases c:(m.any fun B=>decide (B.1=t))=true
 ·rw[if_pos c,if_pos c];unfold Ez;rw[UH,UH];refine UU fun p _=>?_;simp only[Function.comp,Ib,jY];split<;>simp
 ·rw[if_neg c,if_neg c];simp[Ez,Ib]
theorem Ae(t:Int):∀m:PL,GH (Ez m) (.inl t)=(GG m t).map V.int
 | []=>rfl
 |p::m=>by
  have B:=Ae t m;by_cases e:p.1=t
  ·have:GH (Ez (p::m)) (.inl t)=some (.int p.2):=DR (p:=Ib p) (by simp[Ib,e]);rw[this];simp[GG,UG,e]
  ·have:GH (Ez (p::m)) (.inl t)=GH (Ez m) (.inl t):=DK (p:=Ib p) (by simp[Ib,e]);rw[this,B];simp[GG,UG,e]
theorem dM{H:Hp}{Q:VK}{p:Addr}{m:PL}{t v:Int}(h1:H p=some (.dK (Ez m)))(h2:GG m t=some v)(h:Q (.int v) H):XA (.ref p) (.int t) H Q:=
 ⟨p,.int v,rfl,by
  have:=DV.k (k:=Sum.inl t) h1;rw[Ae,h2] at this
  exact this,h⟩
theorem Sv{H:Hp}{R:Hp->Prop}{p:Addr}{m:PL}{t v:Int}(h1:H p=some (.dK (Ez m)))(hz:m.length<sizeLine)(h:∀H2,H2 p=some (.dK (Ez (Gx m t v)))->Kp p H H2->R H2):qr (.int v) (.ref p) (.int t) H R:=
 ⟨p,_,rfl,IE.k (k:=Sum.inl t) h1 (by simpa[Ez] using hz),by
  rw[yv]
  exact h _ EW Kp.upd⟩
theorem Sw{H:Hp}{Q:VK}(h:∀p H2,H p=none->H2 p=some (.dK (Ez []))->ET H H2->Q (.ref p) H2):qt H Q:=ug h
theorem Sx(m:PL)(t h j:Int):GG (Gx m t h) j=if j=t then some h else GG m j:=by
 have B:=Ae j (Gx m t h);rw[<- yv,Aw] at B;have F:=Ae j m;rw[F] at B;simp only[jY] at B;by_cases e:j=t
 ·rw[if_pos e] at B ⊢
  cases hg:GG (Gx m t h) j with
  |none=>rw[hg] at B;cases B
  |some x=>rw[hg] at B;simp at B;rw[B]
 ·rw[if_neg e] at B ⊢;cases hg:GG (Gx m t h) j<;>cases hm:GG m j<;>rw[hg,hm] at B<;>simp_all
theorem Sy(m:PL)(t h:Int):(Gx m t h).length<=m.length+1:=by
 unfold Gx;split<;>simp
theorem FM{t:Int}:∀ {m:PL},GG m t=none↔t∉m.map (·.1)
 | []=>by simp[GG]
 |p::m=>by
  have B:=FM (t:=t) (m:=m);by_cases e:p.1=t
  ·simp[GG,UG,e]
  ·have e':¬t=p.1:=fun z=>e z.symm;have:GG (p::m) t=GG m t:=by simp[GG,UG,e]
   rw[this,B];simp[e']
theorem yw(m:PL)(t h:Int):(Gx m t h).map (·.1)=if t∈m.map (·.1) then m.map (·.1) else m.map (·.1) ++ [t]:=by
 have F:(m.any fun B=>decide (B.1=t))=true↔t∈m.map (·.1):=by simp
 unfold Gx;by_cases c:(m.any fun B=>decide (B.1=t))=true
 ·rw[if_pos c,if_pos (F.mp c),UH];refine UU fun p _=>?_;simp only[Function.comp];split<;>rfl
 ·rw[if_neg c,if_neg (fun z=>c (F.mpr z))];simp
set_option tactic.hygienic true in
theorem Bq{m:PL}{t h:Int}(n:(m.map (·.1)).Nodup):((Gx m t h).map (·.1)).Nodup:=by
 rw[yw];split
 ·exact n
 ·rename_i c
  rw[List.nodup_append];exact⟨n,by simp,fun a F b B e=>c (by simp at B;subst B;subst e;exact F)⟩
theorem Ga{t h:Int}:∀ {m:PL},(m.map (·.1)).Nodup->(GG m t=some h↔(t,h)∈m)
 | [],_=>by simp[GG]
 |p::m,n=>by
  simp only[UK,Vu] at n;have B:=Ga (t:=t) (h:=h) n.2;by_cases e:p.1=t
  ·have:GG (p::m) t=some p.2:=by simp[GG,UG,e]
   rw[this];constructor
   ·intro z;cases z;rw[<- e];exact UB
   ·intro z;rcases Ud.mp z with z|z
    ·rw[<- z]
    ·exact absurd (Ur.mpr ⟨_,z,rfl⟩) (by rw[<- e] at *;exact n.1)
  ·have:GG (p::m) t=GG m t:=by simp[GG,UG,e]
   rw[this,B];constructor
   ·exact fun z=>Uf _ z
   ·intro z;rcases Ud.mp z with z|z
    ·exact absurd (by rw[<- z]) e
    ·exact z
def BZ(prs:PL):PL:=prs.foldl (fun m p=>Gx m p.1 p.2) []
theorem SH:∀(prs acc:PL),(acc.map (·.1)).Nodup->((prs.foldl (fun m p=>Gx m p.1 p.2) acc).map (·.1)).Nodup
 | [],_,h=>h
 |p::prs,acc,h=>SH prs _ (Bq h)
theorem Fh(prs:PL):((BZ prs).map (·.1)).Nodup:=SH prs [] List.nodup_nil
theorem zh:∀(prs B:PL),(prs.foldl (fun m p=>Gx m p.1 p.2) B).length<=B.length+prs.length
 | [],B=>Ue _
 |p::prs,B=>by
  have h1:=zh prs (Gx B p.1 p.2);have h2:=Sy B p.1 p.2;show(prs.foldl (fun m p=>Gx m p.1 p.2) (Gx B p.1 p.2)).length<=B.length+(prs.length+1);omega
theorem jZ(prs:PL):(BZ prs).length<=prs.length:=by
 have:=zh prs [];simpa[BZ] using this
theorem EZ.prs{H:Hp}:∀ {vs:List V} {l:PL},EZ H vs l->tO H vs (l.map Ib)
 |_,_,.nil=>.nil
 |_,_,.cons ⟨a,e,z⟩ t=>.cons ⟨a,e,z⟩ (EZ.prs t)
theorem EZ.length{H:Hp}{vs:List V}{l:PL}(h:EZ H vs l):vs.length=l.length:=Paired.length h
theorem EZ.snoc{H:Hp}:∀ {vs:List V} {l:PL},EZ H vs l->∀ {a:Addr} {p:Int×Int},H a=some (.tup [.int p.1,.int p.2])->EZ H (vs ++ [.ref a]) (l ++ [p])
 |_,_,.nil,a,p,z=>.cons ⟨a,rfl,z⟩ .nil
 |_,_,.cons h t,a,p,z=>.cons h (EZ.snoc t z)
theorem EZ.at{H:Hp}:∀ {vs:List V} {l:PL},EZ H vs l->∀ {i:Nat} {v:V},vs[i]? = some v->∃a p,v=.ref a/\l[i]? = some p/\H a=some (.tup [.int p.1,.int p.2])
 |_,_,.nil,i,v,e=>by simp at e
 |_,_,@Paired.cons _ _ _ _ p _ _ ⟨a,e1,z⟩ t,0,v,e=>by
  simp at e;subst e;exact⟨a,p,e1,rfl,z⟩
 |_,_,.cons _ t,i+1,v,e=>by
  obtain⟨a,p,h1,h2,B⟩:=EZ.at t (by simpa using e);exact⟨a,p,h1,by simpa using h2,B⟩
theorem EZ.kp{p:Addr}{H H':Hp}(k:Kp p H H'){n:Nat}{xs:List V}(B:H p=some (.lst xs)):∀ {vs:List V} {l:PL},EZ H vs l->EZ H' vs l
 |_,_,.nil=>.nil
 |_,_,.cons ⟨a,e,z⟩ t=>.cons ⟨a,e,k _ _ z (fun c=>by subst c;rw[B] at z;cases z)⟩ (EZ.kp k (n:=n) B t)
theorem XB{H:Hp}{Q:VK}{p:Addr}{m:PL}(h1:H p=some (.dK (Ez m)))(hz:m.length<64)(h:∀l H2 (B:List Int),H l=none->H2 l=some (.lst (B.map V.int))->B.Perm (m.map (·.1))->B.Pairwise (· <= ·)->ET H H2->Q (.ref l) H2):jX [.ref p] H Q:=
 ⟨p,_,m.map (·.1),rfl,.inl h1,by simp[Ez,Ib],by simpa[Ez] using hz,fun l B F J L=>h l _ B F EW J L (ET.new F)⟩
def DA(cv:PL):Prop:=cv.Pairwise fun a b=>a.1<b.1
def Xw(m cv:PL):Prop:=DA cv/\∀t h,(t,h)∈cv↔GG m t=some h
theorem Xx:∀ {a b:PL},DA a->DA b->(∀p,p∈a↔p∈b)->a=b
 | [],[],_,_,_=>rfl
 | [],q::b,_,_,h=>by have:=(h q).mpr UB;simp at this
 |p::a,[],_,_,h=>by have:=(h p).mp UB;simp at this
 |p::a,q::b,ha,hb,h=>by
  unfold DA at ha hb;rw[List.pairwise_cons] at ha hb
  have e:p=q:=by
   rcases Ud.mp ((h p).mp UB) with e|e
   ·exact e
   ·rcases Ud.mp ((h q).mpr UB) with e2|e2
    ·exact e2.symm
    ·have h1:=hb.1 _ e;have h2:=ha.1 _ e2;omega
  subst e;rw[Xx ha.2 hb.2 fun r=>?_];constructor
  ·intro B;rcases Ud.mp ((h r).mp (Uf _ B)) with e|e
   ·subst e;have:=ha.1 _ B;omega
   ·exact e
  ·intro B;rcases Ud.mp ((h r).mpr (Uf _ B)) with e|e
   ·subst e;have:=hb.1 _ B;omega
   ·exact e
def BK(m:PL)(ns:List Int):PL:=ns.map fun t=>(t,(GG m t).getD 0)
theorem Ix{m:PL}{F:List Int}(nd:(m.map (·.1)).Nodup)(J:F.Perm (m.map (·.1)))(M:F.Pairwise (· <= ·)):Xw m (BK m F):=by
 have O:F.Nodup:=J.nodup_iff.mpr nd;refine⟨?_,fun t h=>?_⟩
 ·unfold DA BK;rw[List.pairwise_map]
  exact(M.and O).imp fun⟨a,b⟩=>by
   show _<_;omega
 ·unfold BK;rw[Ur];constructor
  ·rintro⟨u,Y,e⟩;have L:=J.mem_iff.mp Y
   cases B:GG m u with
   |none=>exact absurd L (FM.mp B)
   |some x=>
    rw[B] at e;cases e;exact B
  ·intro B;refine⟨t,J.mem_iff.mpr ?_,by rw[B];rfl⟩;by_cases c:t∈m.map (·.1)
   ·exact c
   ·rw[FM.mpr c] at B;cases B
theorem uh:bootBuiltins "dict"=some (.type "dict"):=by decide +kernel
theorem pU:bootBuiltins "zip"=some (.type "zip"):=by decide +kernel
theorem Lx{prog:Program}{w:World}{A:Around}{E:Value->Shared->Prop}{s:Shared}{t sl:Addr}{items:Array Value}{vl O:Value}{lo hi:Option Int}{Q:Value->Shared->Prop}(B:IsTup s.heap t items)(Y:s.heap.IsSliceOf sl vl O .none)(pl:IsPart vl lo)(pu:IsPart O hi)
  (Z:_H.sIx items.size 0 lo=0/\_H.sIx items.size items.size hi=items.size) (h:Q (.ref t) s):wpAny (model prog w) A (getItem (.ref t) (.ref sl)) Q E s:=by
 obtain⟨os,M,J,a0⟩:=id Y;have L:s.TypeIs (.ref sl) "slice":=⟨os,M,J⟩;unfold getItem
 try with_reducible refine UO ?_
 first|refine Ua (Uj ?_)|skip
 refine Ua (wpAny_sequenceKey B.typeIs (by decide) ?_)
 refine Ua (wpAny_callSpecial?_slot (name:=Str.ofString "__getitem__") B.typeIs PyProof.Rows.slot_tuple_getitem
  (wpAny_call_entry PyProof.Rows.slot_tuple_getitem B.typeIs entry_tuple_getitem ?_ (args_tuple_getitem _ _)))
 show wpAny _ _ (Builtin.Tuple.tupleItemsOf (.ref t) >>= _) _ _ s;refine Ua (tupleItemsOf_ B ?_);refine Ua (wpAny_typeOf L ?_);rw[if_pos (by decide)];refine Ua (_H.sliceApplied_gen Y pl pu ?_);rw[Z.1,Z.2];have F:((((0:Nat):Int)==0&&(1:Int)==1&&(items.size-0)==items.size)=true):=by simp
 show wpAny _ _ (if((((0:Nat):Int)==0&&(1:Int)==1&&(items.size-0)==items.size)=true) then _ else _) _ _ s;rw[if_pos F];unfold Builtin.Tuple.tupleIsExact;refine Ua (Ua (wpAny_typeOf B.typeIs (Uj ?_)));rw[if_pos (by decide)];refine Ua (wpAny_rule ?_)
 first
  |exact Uj ⟨_,rfl,Uj h⟩
  |exact Ua (Uj (Uj ⟨_,rfl,Uj h⟩))
def dN(K:W.Frag):V->Option Int->Option Int->Hp->VK->Prop:=fun x lo hi H Q=>∃a xs,x=.ref a/\GF K H a xs/\
 ((_H.sIx xs.length 0 lo=0/\_H.sIx xs.length xs.length hi=xs.length)->Q (.ref a) H)/\(¬(_H.sIx xs.length 0 lo=0/\_H.sIx xs.length xs.length hi=xs.length)->∀p,H p=none->Q (.ref p) (upd H p (.tup (AN xs lo hi))))
theorem ui{X:Cx}(K:W.Frag)(hK:X.K=K):uT X (dN K):=by
 subst hK;intro pins s U H x v vl vu lo hi sl Q I O M pl Z h;obtain⟨a,xs,rfl,L,q1,q2⟩:=h;by_cases F:_H.sIx xs.length 0 lo=0/\_H.sIx xs.length xs.length hi=xs.length
 ·cases O;obtain⟨J,r,Y,hz⟩:=I.tuple L;have B:J.toArray.size=xs.length:=by rw[Uw];exact r.length.symm
  refine⟨"tuple",_,PyProof.Rows.slot_tuple_getitem.lookup,Y.typeIs,?_⟩;exact Lx Y M pl Z (by rw[B];exact F) ⟨.ref a,H,I,rfl,q1 F⟩
 ·exact nw pins s U H (.ref a) v vl vu lo hi sl Q I O M pl Z ⟨a,xs,rfl,L,F,q2 F⟩
theorem yx{xs:List V}{lo hi:Option Int}(h:_H.sIx xs.length 0 lo=0/\_H.sIx xs.length xs.length hi=xs.length):AN xs lo hi=xs:=by
 unfold AN;rw[h.1,h.2];simp
section
variable{X:Cx}{pos pos':Pos}{e:Expr}{te:TE}
theorem tQ{B:Operator}{r:R2}(F:DB X (inplaceOp B) r):sq X B r:=F
theorem ja{i:Nat}{x:Str}{B:Operator}{r:R2}(F:X.N.Nodup)(hi:X.N[i]? = some x)(J:Hl X.env.scope x)(M:DB X (inplaceOp B) r)(L:QE X e te)(O:X.fn x=true\/X.env.scope.names.lookup x=some .local:=by first|exact .inl rfl|exact .inr rfl|assumption) :
 QS X (.AugAssign (.Name x pos') B e pos) (bq i te r):=⟨nR F hi J L.h (tQ M) O⟩
theorem pV{i:Nat}{r:R2}{D:DQ}{U:St}{H:Hp}{x:V}(B:U[i]? = some (some x))(h:te U H fun y H1=>r x y H1 fun z H2=>D.nx (U.set i (some z)) H2):bq i te r D U H:=⟨x,B,h⟩
end
def iE(Pv:St->Hp->Prop)(μ:St->Hp->Nat)(tb:TS)(D:DQ)(n:Nat)(U:St)(H:Hp):Prop:=
 ∃N:St->Hp->Prop,(∀U' H',N U' H'->∃m',m'<n/\m' = μ U' H'/\Pv U' H')/\tb { D with nx:=N,ct:=N,bk:=D.nx } U H
theorem jb{c:TT}{tb:TS}{D:DQ}{U:St}{H:Hp}(Pv:St->Hp->Prop)(μ:St->Hp->Nat)(h0:Pv U H)
  (B:∀U H,Pv U H->c U H fun b H1=>if b=true then iE Pv μ tb D (μ U H) U H1 else D.nx U H1):jA c tb D U H:=by
 refine⟨fun m U H=>m = μ U H/\Pv U H,⟨_,rfl,h0⟩,?_⟩;rintro m U H ⟨rfl,p⟩;exact B U H p
theorem uj{Pv:St->Hp->Prop}{μ:St->Hp->Nat}{tb:TS}{D:DQ}{n:Nat}{U:St}{H:Hp}(h:tb { D with nx:=fun U' H'=>Pv U' H'/\μ U' H'<n,ct:=fun U' H'=>Pv U' H'/\μ U' H'<n,bk:=D.nx } U H):iE Pv μ tb D n U H:=
 ⟨_,fun U' H' ⟨p,l⟩=>⟨_,l,rfl,p⟩,h⟩
theorem yy(p q:Int×Int):PyData.eqv (DN p) (DN q)=decide (p=q):=by
 have e:PyData.eqv (DN p) (DN q)=((p.1==q.1)&&((p.2==q.2)&&true)):=rfl;rw[e];obtain⟨a,b⟩:=p;obtain⟨c,d⟩:=q;by_cases h1:a=c<;>by_cases h2:b=d<;>simp[h1,h2]
theorem Iy:∀l m:PL,PyData.eqvAll (l.map DN) (m.map DN)=decide (l=m)
 | [],[]=>rfl
 | [],q::m=>by simp[PyData.eqvAll]
 |p::l,[]=>by simp[PyData.eqvAll]
 |p::l,q::m=>by
  show(PyData.eqv (DN p) (DN q)&&PyData.eqvAll (l.map DN) (m.map DN))=_;rw[yy,Iy l m];by_cases h1:p=q<;>by_cases h2:l=m<;>simp[h1,h2]
theorem HJ:∀l:PL,PyData.depthAll (l.map DN)<=50
 | []=>by decide
 |p::l=>by
  have B:=HJ l
  have h0:PyData.depth (DN p)<=50:=by
   show PyData.depth (.tuple [.int p.1,.int p.2])<=50;simp only[PyData.depth,PyData.depthAll];decide
  show PyData.depthAll (DN p::l.map DN)<=50;simp only[PyData.depthAll];omega
section
variable{K:W.Frag}{H:Hp}{Q:VK}{a b:Addr}{vs ws:List V}{l m:PL}
theorem jc(l:PL):(PyData.tuple (l.map DN)).depth<=60:=by
 have:=HJ l;simp only[PyData.depth];omega
theorem ky(h1:GF K H a vs)(B:EZ H vs l)(h2:GF K H b ws)(p2:EZ H ws m)(h:Q (.bl (!decide (l=m))) H):Xv K (.ref a) (.ref b) H Q:=by
 refine rd_neD (.tup h1 B.dats) (.tup h2 p2.dats) (Ho l) (Ho m) (jc l) ?_;have e:PyData.eqv (.tuple (l.map DN)) (.tuple (m.map DN))=decide (l=m):=Iy l m;rw[e];exact h
end
theorem ET.kpN{H H1 H2:Hp}{l:Addr}(s:ET H H1)(B:H l=none)(k:Kp l H1 H2):ET H H2:=fun q o e=>k q o (s q o e) (GJ e B)
theorem EZ.kpL{p:Addr}{H H':Hp}(k:Kp p H H'){xs:List V}(B:H p=some (.lst xs)){vs:List V}{l:PL}(h:EZ H vs l):EZ H' vs l:=EZ.kp k (n:=0) B h
theorem EZ.app{H:Hp}:∀ {vs:List V} {l:PL},EZ H vs l->∀ {ws:List V} {m:PL},EZ H ws m->EZ H (vs++ws) (l++m)
 |_,_,.nil,_,_,h=>h
 |_,_,.cons h t,_,_,g=>.cons h (EZ.app t g)
theorem EZ.drop{H:Hp}:∀ {vs:List V} {l:PL} (n:Nat),EZ H vs l->EZ H (vs.drop n) (l.drop n)
 |_,_,0,h=>h
 |_,_,_+1,.nil=>.nil
 |_,_,n+1,.cons _ t=>EZ.drop n t
theorem EZ.take{H:Hp}:∀ {vs:List V} {l:PL} (n:Nat),EZ H vs l->EZ H (vs.take n) (l.take n)
 |_,_,0,_=>.nil
 |_,_,_+1,.nil=>.nil
 |_,_,n+1,.cons h t=>.cons h (EZ.take n t)
section
variable{K:W.Frag}{H H':Hp}{Q:VK}{a b:Addr}{xs ys:List V}{cv l m:PL}
theorem yz{lo hi:Option Int}(h1:H a=some (.tup xs))(h:∀p H2,H2 p=some (.tup (AN xs lo hi))->ET H H2->Q (.ref p) H2):dN K (.ref a) lo hi H Q:=
 ⟨a,xs,rfl,GF.of h1,fun e=>h a H (by rw[yx e];exact h1) (ET.refl H),fun _ p B=>h p _ EW (ET.new B)⟩
def Db(H:Hp)(a:Addr)(cv:PL):Prop:=∃vs,H a=some (.tup vs)/\EZ H vs cv
def Hr(H:Hp)(a:Addr)(cv:PL):Prop:=∃vs,H a=some (.lst vs)/\EZ H vs cv
theorem Db.same(h:Db H a cv)(s:ET H H'):Db H' a cv:=by
 obtain⟨vs,h1,h2⟩:=h;exact⟨vs,s _ _ h1,h2.same s⟩
theorem Hr.same(h:Hr H a cv)(s:ET H H'):Hr H' a cv:=by
 obtain⟨vs,h1,h2⟩:=h;exact⟨vs,s _ _ h1,h2.same s⟩
theorem kz(h1:Db H a l)(h2:Db H b m)(h:Q (.bl (!decide (l=m))) H):Xv K (.ref a) (.ref b) H Q:=by
 obtain⟨vs,B,J⟩:=h1;obtain⟨ws,F,p2⟩:=h2;exact ky (GF.of B) J (GF.of F) p2 h
def Kx(l:PL)(lo hi:Option Int):PL:=(l.drop (_H.sIx l.length 0 lo)).take (_H.sIx l.length l.length hi-_H.sIx l.length 0 lo)
theorem EZ.cut{vs:List V}{lo hi:Option Int}(h:EZ H vs l):EZ H (AN vs lo hi) (Kx l lo hi):=by
 unfold AN Kx;rw[h.length];exact(h.drop _).take _
theorem Db.sl{lo hi:Option Int}(h1:Db H a l)(h:∀p H2,Db H2 p (Kx l lo hi)->ET H H2->Q (.ref p) H2):dN K (.ref a) lo hi H Q:=by
 obtain⟨vs,F,J⟩:=h1;exact yz F fun p H2 B S2=>h p H2 ⟨_,B,(J.cut).same S2⟩ S2
theorem Hr.sl{lo hi:Option Int}(h1:Hr H a l)(h:∀p H2,H p=none->Hr H2 p (Kx l lo hi)->ET H H2->Q (.ref p) H2):vd K (.ref a) lo hi H Q:=by
 obtain⟨vs,F,J⟩:=h1;exact pF (Eh.of F) fun p H2 L B S2=>h p H2 L ⟨_,B,(J.cut).same S2⟩ S2
end
section
variable{X:Cx}
theorem gA{N:List Str}{sc:Scope}{own caps:List Str}{ks:List Nat}{a9 tg M:Expr}{a8:List Expr}{scope:Scope}{pos cpos:Pos}{wi:TI}{g:TG}{tt:TT}{te:TE}
  (hN:X.N=N) (d8:X.env.scope=sc) (hc:X.calm=true) (S:Kt N sc own caps ks scope) (hi:PI X tg M wi)
  (hg:∀L C s₂ H₂ fp,PG (GU X (own++caps) scope L C s₂ H₂ fp) tg g)
  (ht:∀L C s₂ H₂ fp,Xq (GU X (own++caps) scope L C s₂ H₂ fp) a8 tt)
  (he:∀L C s₂ H₂ fp,PE (GU X (own++caps) scope L C s₂ H₂ fp) a9 te)
  (hs:∀x,foldedSetIterable M X.env x=pure x) {use:Option (Value->Sem Unit)} {QQ:Value->Shared->Prop} {pins:List (Addr×Obj)} {s:Shared} {U:St} {H:Hp} {Q:VK} (I:Inv X pins U H s)
  (e0:∀(C l:Addr) (H':Hp) (s':Shared),(∃m,s'.heap.Ns C m)->Inv X pins U H' s'->BG X pins H' C->Q (.ref l) H'->compPost (model X.prog X.w) X.A X.xe use QQ (.ref l) C (.ok .next) s')
  (h:Lm own.length ks wi g tt te U H Q) :
  wpAny (model X.prog X.w) X.A (comprehension (.ListComp a9 [⟨tg,M,a8,0⟩] scope pos) scope X.env cpos (newList []) false (eval M X.env) use) QQ X.xe s:=by
 subst hN d8;obtain⟨L,a7,O,a6⟩:=Wt (scope:=scope) (env:=X.env) fun y hy hf=>I.ok.has y.1 (.inl (S.free y hy hf));refine wpAny_comprehension_free (use:=use) rfl hs a7 S.kind S.names (UJ (hi pins s U H _ I h) (fun xv s₁ h₁=>UJ h₁ (fun it s₂ h₂=>?_) fun _ _ e=>e) fun _ _ e=>e);obtain⟨it,fp,tn,J,H2,e,I2,T,c9,f2,q⟩:=h₂;subst e;refine wpAny_newObj_type (wpAny_newFunctionEnv S.nocell (by intro y hy;simp at hy) (fun h₁ hns₁ hsb₁=>?_) S.kind);dsimp only at hns₁ hsb₁ ⊢;generalize b9:s₂.heap.push { cls:=.type "list",dict:=none,data:=.seq ([]:List Value).toArray }=HP at hns₁ hsb₁ ⊢;have hC:HP.objs.size=s₂.heap.objs.size+1:=by rw[<- b9,UZ]
 have c0:s₂.heap.objs.size≠HP.objs.size:=by rw[hC];exact Ut (Nat.lt_succ_self _)
 have F:s₂.heap.objs.size<=HP.objs.size:=by rw[hC];exact Vl _
 have old:∀b o,s₂.heap.get? b=some o->h₁.get? b=some o:=fun b o e=>by
  have B:b<s₂.heap.objs.size:=Uo e;exact hsb₁.extBut b o (by rw[hC];exact Ut (Vo B)) (Uc _ (b9 ▸ Uc _ e))
 have c5:h₁.get? s₂.heap.objs.size=some { cls:=.type "list",dict:=none,data:=.seq ([]:List Value).toArray }:=hsb₁.extBut _ _ c0 (Uc _ (b9 ▸ Ul _ rfl))
 have b0:∀b∈fp,b<s₂.heap.objs.size:=fun b B=>by
  obtain⟨o,e,_⟩:=T.obj _ _ c9 b B;exact Uo e
 have c8:H2 s₂.heap.objs.size=none:=I2.hok.fresh (Ue _);obtain⟨W,⟨m0,w0⟩,c7⟩:=q s₂.heap.objs.size c8;have c6:∀x,(compEnvC scope L HP.objs.size X.env).kindOf x=(scope.names.lookup x).map fun k=>if(k==NameKind.free&&X.env.scope.kind == .function&&X.env.kindOf x==some .cell) then NameKind.cell else k:=fun x=>Au (env:=X.env) scope.names x;have Z:∀x,scope.names.lookup x=some .free->X.env.kindOf x=some .cell:=fun x e=>S.free (x,.free) (PySem.mem_of_lookup e) rfl
 -- the context within
 have ok:(GU X (own++caps) scope L HP.objs.size s₂ H2 fp).Ok:=by
  refine⟨I2.ok.mod,S.kind,I2.ok.glob,I2.ok.blt,F,fun x y c e1 Y=>I2.ok.inj x y c (O x c e1) (O y c Y),fun x hx=>?_,fun x c z=>(by cases z),I2.ok.hd,I2.ok.frames,.inl rfl,fun b B=>⟨?_,fun x c e=>(f2 b B).2.2.2.2.1 x c (O x c e)⟩,
   I2.bs,Uz I2.ok.bsz I2.sz,fun b o e B=>?_,fun b B z=>?_,I2.stack,I2.stkFree⟩
  ·have a0:(scope.names.lookup x).map (fun k=>if(k==NameKind.free&&X.env.scope.kind == .function&&X.env.kindOf x==some .cell) then NameKind.cell else k)=some .cell\/
     (scope.names.lookup x).map (fun k=>if(k==NameKind.free&&X.env.scope.kind == .function&&X.env.kindOf x==some .cell) then NameKind.cell else k)=some .free:=by rw[<- c6 x];exact hx
   cases e:scope.names.lookup x with
   |none=>rw[e] at a0;rcases a0 with z|z<;>cases z
   |some k=>
    have hm:=PySem.mem_of_lookup e
    have hk:k=.free:=by
     by_cases c4:k=.free
     ·exact c4
     ·have B:(k==NameKind.free)=false:=by simpa using c4
      rw[e] at a0;simp only[Vb,B,Vr,UW,if_false,Option.some.injEq] at a0;rcases a0 with z|z
      ·exact absurd z (S.nocell _ hm)
      ·exact z
    exact a6 _ hm hk
  ·exact Ut (Uh (b0 b B) F)
  ·rcases(f2 b B).2.2.2.1 with z|z
   ·exact I2.ok.noex b o e z
   ·exact absurd (Uh (Uo e) (Uz I2.ok.bsz z)) (Vj _)
  ·rcases Ud.mp (I2.stkSub b z) with r|r
   ·exact(f2 b B).2.1 r
   ·exact(f2 b B).2.2.1 r
 have d1:(AE own.length ks U).length=(own++caps).length:=by
  have:=congrArg List.length S.cap;simp only[Ug] at this;simp[AE,this]
 have I4:Inv (GU X (own++caps) scope L HP.objs.size s₂ H2 fp) [] (AE own.length ks U) (upd H2 s₂.heap.objs.size (.lst [])) { s₂ with heap:=h₁,toks:=s₂.toks+([]:List (Str×Value)).length }:=by
  obtain⟨mX,e6,e4⟩:=I2.loc;refine⟨ok,rfl,I2.bare,Un.laid old (Ue _) c8,⟨_,hns₁,fun i x v e1 Y e3=>?_⟩,fun x c e=>?_,?_,fun x c e=>?_,fun p hp=>(by cases hp),I2.hok.laid old (Ue _) ⟨UX _,[],0,.nil,c5⟩,d1⟩
  ·have e1:(own++caps)[i]? = some x:=e1;by_cases a2:i<own.length
   ·unfold AE at Y;rw[List.getElem?_append_left (by simpa using a2),List.getElem?_replicate] at Y;rw[if_pos a2] at Y;cases Y
   ·unfold AE at Y;rw[Vq (by simpa using a2),List.length_replicate,UC] at Y;rw[Vq (by simpa using a2)] at e1
    cases ek:ks[i-own.length]? with
    |none=>rw[ek] at Y;cases Y
    |some k=>
     rw[ek] at Y;have d4:=zd (Option.some.inj Y);have a3:=congrArg (fun l=>l[i-own.length]?) S.cap;simp only[UC,ek,e1,Vb] at a3;have d3:X.N[k]? = some x:=Option.some.inj a3;have b7:=S.fr x (Ux e1);have b6:=Z x b7;obtain⟨u,ru,lk⟩:=e4 k x v d3 d4 (.inr (.inl b6));refine⟨u,ru,.inr ⟨.inl ?_,?_⟩⟩
     ·show(compEnvC scope L HP.objs.size X.env).kindOf x=some .cell;rw[c6 x,b7];simp[I2.ok.kind,b6]
     ·rcases lk with ⟨z,_⟩|⟨_,c,ec,o,ho,hd⟩
      ·rw[b6] at z;cases z
      ·obtain⟨c',c1⟩:=a6 (x,.free) (PySem.mem_of_lookup b7) rfl;have:=O _ _ c1;rw[ec] at this;cases this;exact⟨c,c1,o,old _ _ ho,hd⟩
  ·obtain⟨v,o,ho,hd⟩:=I2.cell x c (O x c e);exact⟨v,o,old _ _ ho,hd⟩
  ·show upd H2 s₂.heap.objs.size (.lst []) HP.objs.size=none;rw[Ep (Ne.symm c0)];exact I2.hok.fresh F
  ·obtain⟨v,o,ho,hd⟩:=I2.cell x c (O x c e);show upd H2 s₂.heap.objs.size (.lst []) c=none;rw[Ep (Ut (Uo ho))];exact I2.freeC x c (O x c e)
 -- the way out
 have out:∀ {U':St} {H':Hp} {s':Shared},Inv (GU X (own++caps) scope L HP.objs.size s₂ H2 fp) [] U' H' s'->Q (.ref s₂.heap.objs.size) H' ->
   compPost (model X.prog X.w) X.A X.xe use QQ (.ref s₂.heap.objs.size) HP.objs.size (.ok .next) s':=fun {U' H' s'} I' q'=>by
  obtain⟨m,hn,_⟩:=I'.loc;refine e0 HP.objs.size s₂.heap.objs.size H' s' ⟨m,hn⟩ ?_ (I2.fpOk F I'.free) q';have e7:Heap.SameBut HP.objs.size s'.heap s'.heap:=Heap.SameBut.refl ..;have d5:H' HP.objs.size=none:=I'.free;have e5:∀ {b:Addr} {o:Obj},s₂.heap.get? b=some o->b≠HP.objs.size:=fun e=>Ut (Uh (Uo e) F);refine I2.call' (ch:=fp) (s':=s') I'.os ⟨fun b o e n B hx=>?_,fun b o e n B hx=>?_,I'.base.free,fun b o e hx=>?_,I'.base.tups,I'.base.frzs,I'.base.tbls⟩ (fun b ob e=>?_) I'.bare fun b B=>⟨(f2 b B).2.2.2.1,(f2 b B).2.1,(f2 b B).2.2.2.2.1,(f2 b B).2.2.2.2.2⟩
  ·exact(I'.base.keep b o e n B hx)
  ·obtain⟨sl,e1⟩:=I'.base.slot b o e n B hx;exact⟨sl,e1⟩
  ·obtain⟨o',e1⟩:=I'.base.there b o e hx;exact⟨o',e1⟩
  ·exact I'.hok b ob e
 have a1:∀ {H':Hp},(∀b∈fp,H' b=none)->∀b∈fp,BG (GU X (own++caps) scope L HP.objs.size s₂ H2 fp) [] H' b:=fun hn b B=>
  ⟨hn b B,Ut (Uh (b0 b B) F),ok.exfs b B,.inl B,(ok.exf b B).2,fun p hp=>by cases hp⟩
 have d2:∀b∈fp,upd H2 s₂.heap.objs.size (.lst []) b=none:=fun b B=>by
  rw[Ep (Ut (b0 b B))];exact(f2 b B).1
 have c2:tn 0 h₁:=T.keep _ _ _ c9 fun b _ o e=>old b o e
 have a5:∀s4:Shared,s4={ s₂ with heap:=h₁,toks:=s₂.toks+([]:List (Str×Value)).length } ->
   codeAny (model X.prog X.w) X.A (.compLoop (.ListComp a9 [⟨tg,M,a8,0⟩] scope pos) 0 (.ref it) (.ref s₂.heap.objs.size) (compEnvC scope L HP.objs.size X.env))
    (compPost (model X.prog X.w) X.A X.xe use QQ (.ref s₂.heap.objs.size) HP.objs.size) s4:=by
  rintro s4 rfl;refine Ab (fun n s'=>∃i U' H',Inv (GU X (own++caps) scope L HP.objs.size s₂ H2 fp) [] U' H' s'/\tn i s'.heap/\(∀b∈fp,H' b=none)/\W i n U' H') ?_ m0 ⟨0,_,_,I4,c2,d2,w0⟩;rintro n s3 ⟨i,U3,H3,I3,c3,fr3,w3⟩;rcases c7 i n U3 H3 w3 with ⟨stop,qn⟩|⟨go,N,hN,step⟩
  ·refine UJ (T.done (GU X (own++caps) scope L HP.objs.size s₂ H2 fp) rfl rfl rfl hc i [] s3 U3 H3 (fun _ _=>False) I3 (a1 fr3) c3 stop) (fun r s4 ⟨hr,I4'⟩=>?_) fun _ _ z=>False.elim z;subst hr;exact out I4' qn
  ·refine UJ (T.item (GU X (own++caps) scope L HP.objs.size s₂ H2 fp) rfl rfl rfl hc i [] s3 U3 H3 (fun _ _=>False) I3 (a1 fr3) c3 go) (fun r s4 ⟨u,hr,h4⟩=>?_) fun _ _ z=>False.elim z;subst hr;refine UJ h4 (fun _ s5 ⟨x,H5,I5,r5,y5,b8,d9⟩=>?_) fun _ _ z=>False.elim z;have I5':=I5.pinned (a1 d9) (T.obj _ _ b8)
   have a4:∀ {s7:Shared} {U7:St} {H7:Hp},Inv (GU X (own++caps) scope L HP.objs.size s₂ H2 fp) ([]++IR fp s5.heap) U7 H7 s7->N U7 H7 ->
     ∃m,m<n/\∃i U' H',Inv (GU X (own++caps) scope L HP.objs.size s₂ H2 fp) [] U' H' s7/\tn i s7.heap/\(∀b∈fp,H' b=none)/\W i m U' H':=fun {s7 U7 H7} I7 n7=>by
    obtain⟨m',hm,w7⟩:=hN U7 H7 n7;refine⟨m',hm,i+1,U7,H7,I7.unpinned,T.keep _ _ _ b8 fun b B o e=>(I7.pin (b,o) (Uv _ (Uv _ (Cf B e)))).1,fun b B=>?_,w7⟩;obtain⟨o,e,d⟩:=T.obj _ _ b8 b B;exact(I7.pin (b,o) (Uv _ (Uv _ (Cf B e)))).2.1
   refine UJ (hg _ _ _ _ _ _ s5 U3 H5 x u _ I5' r5 (step x H5 y5)) (fun _ s6 ⟨U6,H6,I6,q6⟩=>?_) fun _ _ z=>False.elim z;refine UJ (ht _ _ _ _ _ _ s6 U6 H6 _ I6 q6) (fun b s7 ⟨H7,I7,q7⟩=>?_) fun _ _ z=>False.elim z
   cases b with
   |false=>
    rw[if_neg UA];rw[if_neg UA] at q7;exact a4 I7 q7
   |true=>
    rw[if_pos rfl];rw[if_pos rfl] at q7;refine UJ (he _ _ _ _ _ _ s7 U6 H7 _ I7 q7) (fun y s8 ⟨v,H8,I8,r8,xs,d7,d6,n8⟩=>?_) fun _ _ z=>False.elim z;refine UJ (DT (X:=GU X (own++caps) scope L HP.objs.size s₂ H2 fp) _ s8 U6 H8 (.ref s₂.heap.objs.size) [v] (.ref s₂.heap.objs.size) [y] (fun _ H'=>N U6 H') I8 rfl (.cons r8 .nil) ⟨_,xs,v,rfl,rfl,d7,d6,n8⟩) (fun _ s9 ⟨_,H9,I9,_,n9⟩=>?_) fun _ _ z=>False.elim z;exact a4 I9 n9
 exact codeAny_compStart_list (a5 _ rfl) (T.self _ 0 _ _ _ c2 (a5 _ rfl))
theorem lA{N:List Str}{sc:Scope}{own caps:List Str}{ks:List Nat}{L tg B:Expr}{J:List Expr}{scope:Scope}{pos M pos':Pos}{wi:TI}{g:TG}{tt:TT}{te:TE}{i:Nat}{x:Str}
  (hN:X.N=N) (a1:X.env.scope=sc) (hc:X.calm=true) (S:Kt N sc own caps ks scope) (hi:PI X tg B wi)
  (hg:∀cl C s₂ H₂ fp,PG (GU X (own++caps) scope cl C s₂ H₂ fp) tg g)
  (ht:∀cl C s₂ H₂ fp,Xq (GU X (own++caps) scope cl C s₂ H₂ fp) J tt)
  (he:∀cl C s₂ H₂ fp,PE (GU X (own++caps) scope cl C s₂ H₂ fp) L te)
  (Z:X.N.Nodup) (a2:X.N[i]? = some x) (hx:Hl X.env.scope x)
  (a3:swapsWith (.ListComp L [⟨tg,B,J,0⟩] scope pos) (some (.Name x pos')) M.line X.env=pure true)
  (hs:∀x,foldedSetIterable B X.env x=pure x:=by intro _;rfl)
  (hf:X.fn x=true\/X.env.scope.names.lookup x=some .local:=by first|exact .inl rfl|exact .inr rfl|assumption) :
  PS X (.Assign [.Name x pos'] (.ListComp L [⟨tg,B,J,0⟩] scope pos) M) (IC (Lm own.length ks wi g tt te) (AD i)):=by
 intro pins s U H D I h;rw[exec_Assign_Name_used _ _ _ _ a3];refine Ua (wpAny_standAt (Ua ?_));show wpAny _ X.A (do let _ <- comprehension (.ListComp L [⟨tg,B,J,0⟩] scope pos) scope X.env _ (newList []) false (eval B X.env) (some (assign (.Name x pos') X.env))) _ _ s;refine Ua (UJ (gA (QQ:=fun _ s'=>SP X pins D .next s') hN a1 hc S hi hg ht he hs I ?_ h) (fun _ s' hq=>Uj (Uj hq)) fun _ _ e=>e);rintro C l H' s' ⟨m,hn⟩ I' hF q;show wpAny (model X.prog X.w) X.A (assign (.Name x pos') X.env (.ref l)) (fun _ F=>∃m,F.heap.Ns C m/\∀h',Heap.SameBut C F.heap h'->SP X pins D .next { F with heap:=h' }) X.xe s';obtain⟨f0,f1,f2,f3,f4,f5⟩:=hF;refine wpAny_assign_Name (zU (v:=.ref l) I' Z a2 hx rfl (fun F I'' ⟨b,Y,hb⟩=>?_) hf)
 have O:C≠b:=by
  rcases hb with rfl|hb
  ·exact f1
  ·exact fun z=>f4 x b hb z.symm
 refine⟨m,hn.sameBut Y O,fun h' a0=>⟨_,H',I''.turned (t':=F.toks) (fun c o hc e=>a0.extBut c o hc e) f0 f1 f3 f4 f5,q⟩⟩
theorem Fz{N:List Str}{sc:Scope}{own caps:List Str}{ks:List Nat}{M tg B:Expr}{L:List Expr}{scope:Scope}{pos J pos':Pos}{wi:TI}{g:TG}{tt:TT}{te:TE}{i:Nat}{x:Str}
  (hN:X.N=N) (Y:X.env.scope=sc) (hc:X.calm=true) (S:Kt N sc own caps ks scope) (O:X.N.Nodup) (Z:X.N[i]? = some x) (hx:Hl X.env.scope x)
  (hi:QI X tg B wi)
  (hg:∀F C s₂ H₂ fp,QG (GU X (own++caps) scope F C s₂ H₂ fp) tg g)
  (ht:∀F C s₂ H₂ fp,QF (GU X (own++caps) scope F C s₂ H₂ fp) L tt)
  (he:∀F C s₂ H₂ fp,QE (GU X (own++caps) scope F C s₂ H₂ fp) M te)
  (a0:swapsWith (.ListComp M [⟨tg,B,L,0⟩] scope pos) (some (.Name x pos')) J.line X.env=pure true:=by rfl)
  (hs:∀x,foldedSetIterable B X.env x=pure x:=by intro _;rfl)
  (hf:X.fn x=true\/X.env.scope.names.lookup x=some .local:=by first|exact .inl rfl|exact .inr rfl|assumption) :
  QS X (.Assign [.Name x pos'] (.ListComp M [⟨tg,B,L,0⟩] scope pos) J) (IC (Lm own.length ks wi g tt te) (AD i)):=
 ⟨lA hN Y hc S hi.h (fun F C s₂ H₂ fp=>(hg F C s₂ H₂ fp).h) (fun F C s₂ H₂ fp=>(ht F C s₂ H₂ fp).h) (fun F C s₂ H₂ fp=>(he F C s₂ H₂ fp).h) O Z hx a0 hs hf⟩
theorem lB{i:Nat}{x:Str}{e:Expr}{te:TE}{pos pos':Pos}(B:X.N.Nodup)(hi:X.N[i]? = some x)(F:Hl X.env.scope x)(L:QE X e te)(J:swapsWith e (some (.Name x pos')) pos.line X.env=pure false:=by rfl)(M:X.fn x=true\/X.env.scope.names.lookup x=some .local:=by first|exact .inl rfl|exact .inr rfl|assumption) :
 QS X (.Assign [.Name x pos'] e pos) (IC te (AD i)):=⟨yP B hi F L.h J M⟩
end
section
variable{K:W.Frag}{H H':Hp}{a p l:Addr}{cv:PL}{xs:List V}
theorem Db.kpL(h:Db H a cv)(k:Kp l H H')(B:H l=some (.lst xs)):Db H' a cv:=by
 obtain⟨vs,h1,h2⟩:=h;exact⟨vs,k _ _ h1 (fun e=>by subst e;rw[h1] at B;cases B),h2.kpL k B⟩
end
noncomputable def iF(lo:Int)(n:Nat):It:=⟨fun i _=>i<n,fun i H x H'=>H'=H/\x=.int (lo+i*(-1)),fun i _=>n<=i⟩
theorem gB{P:Program}{w:World}{K:W.Frag}{tg:Expr}(B:Addr)(lo:Int)(n:Nat):Kq P w K tg (iF lo n) [B] B (fun i h=>IsRangeIter h B (lo+(i:Nat)*(-1)) ((n:Int)-(i:Nat)) (-1)) where
 mem:=by simp
 obj:=fun i h st b F=>by
  have e:b=B:=by simpa using F
  subst e
  exact⟨_,st,fun v z=>by
   have z':Data.fields _=Data.cell v:=z
   cases z'⟩
 keep:=fun i h h' st k=>k B (by simp) _ st
 item:=by
  intro X hP hw hK hc i pins s U H E I L st Z;subst hP hw hK;obtain⟨f0,f1,f2,M,O,Y⟩:=L B (by simp);have W:=Walks.range (prog:=X.prog) (w:=X.w) (I.ok.hd hc) B lo (-1) n;refine W.item i s _ _ Z st fun v h' tk hv J kk=>?_;obtain⟨t,rfl⟩:=hv;have I1:Inv X pins U H { s with heap:=h',toks:=tk }:=I.turned (fun b o F e=>kk b o (by simpa using F) e) f0 f1 M O Y;exact⟨_,rfl,Lj (s:={ s with heap:=h',toks:=tk }) (n:="range_iterator") J rfl rfl (by decide) ⟨.int (lo+i*(-1)),H,I1,⟨t,rfl⟩,⟨rfl,rfl⟩,J,fun b F=>(L b F).1⟩⟩
 done:=by
  intro X hP hw hK hc i pins s U H E I L st Z;subst hP hw hK;obtain⟨f0,f1,f2,M,O,Y⟩:=L B (by simp);exact wpAny_pyNext_range_end (I.ok.hd hc) st (by have:n<=i:=Z;omega) fun h' eb=>⟨rfl,I.turned (t':=s.toks) (fun b o F e=>eb b o F e) f0 f1 M O Y⟩
 self:=fun _ _ _ _ _ st h=>wpAny_pyIter_rangeiter st h
section
variable{X:Cx}{tg:Expr}
theorem gD{pins:List (Addr×Obj)}{U:St}{H:Hp}{s:Shared}{R:It->Hp->Prop}{E:Value->Shared->Prop}{lo hi:Int}{t u v:Tok}{B:Nat}(I:Inv X pins U H s)(h1:-(2 ^ 62)<=lo)(h2:lo<2 ^ 62)(O:-(2 ^ 62)<=hi)(J:hi<2 ^ 62)
  (q:R (iF lo (lo-hi).toNat) H):wpAny (model X.prog X.w) X.A (pyIter (.ref s.heap.objs.size)) (fj X pins U tg R) E { s with heap:=s.heap.push { cls:=.type "range",data:=.fields #[.int lo t,.int hi u,.int (-1) v] },toks:=B }:=by
 refine wpAny_pyIter_range (IsRange.new ..) (PySem.W.small_down h1 h2 O J) ?_;have I1:Inv X pins U H { s with heap:=s.heap.push { cls:=.type "range",data:=.fields #[.int lo t,.int hi u,.int (-1) v] },toks:=B }:=I.kept fun b o e=>Uc _ e
 refine⟨(s.heap.push { cls:=.type "range",data:=.fields #[.int lo t,.int hi u,.int (-1) v] }).objs.size,[(s.heap.push { cls:=.type "range",data:=.fields #[.int lo t,.int hi u,.int (-1) v] }).objs.size],_,_,H,rfl,
  I1.kept (t':=B) fun b o e=>Uc _ e,gB _ lo (lo-hi).toNat,?_,fun b M=>?_,q⟩
 ·have F:lo+((0:Nat):Int)*(-1)=lo:=by simp
  have L:(((lo-hi).toNat:Nat):Int)-((0:Nat):Int)=Builtin.Range.rangeSize lo hi (-1):=by rw[PySem.W.rangeSize_downNat];simp
  show IsRangeIter _ _ (lo+((0:Nat):Int)*(-1)) ((((lo-hi).toNat:Nat):Int)-((0:Nat):Int)) (-1);rw[F,L];exact Ul _ rfl
 ·have e:b=(s.heap.push { cls:=.type "range",data:=.fields #[.int lo t,.int hi u,.int (-1) v] }).objs.size:=by simpa using M
  subst e;exact I1.fpOk (Ue _) (I1.hok.fresh (Ue _))
def vm(vs:List V)(H:Hp)(R:It->Hp->Prop):Prop:=∃i j:Int,vs=[.int i,.int j,.int (-1)]/\(-(2 ^ 62)<=i/\i<2 ^ 62/\-(2 ^ 62)<=j/\j<2 ^ 62)/\R (iF i (i-j).toNat) H
def iG(ta:TA):TI:=fun U H R=>ta U H fun vs H1=>vm vs H1 R
theorem gE{a b c:Expr}{t:TA}{p pos:Pos}(O:Gl X "range")(hm:X.mg "range"=none)(Y:QA X [a,b,c] t)(L:BO a=false:=by rfl)(B:BO b=false:=by rfl)(J:BO c=false:=by rfl) :
  QI X tg (.Call (.Name "range" p) [a,b,c] [] pos) (iG t):=by
 refine⟨?_⟩;intro pins s U H R I h;refine Call_ (Ct I O hm boot_range (PyProof.Rows.callWith_type1 (thn (Y.h pos pins s U H _ I h) fun us s1 ⟨vs,H1,I1,M,F⟩=>?_) (by rw[DZ L,DZ B]) (by rw[DZ B,DZ J];rfl)));obtain⟨i,j,e,⟨F,Z,q3,q4⟩,q⟩:=F;subst e
 cases M with
 |cons r rr=>
  cases rr with
  |cons r' rr=>
   cases rr with
   |cons r'' rr=>
    cases rr;obtain⟨t,rfl⟩:=r;obtain⟨t',rfl⟩:=r';obtain⟨a0,rfl⟩:=r'';exact call_range_3 (by decide) (gD I1 F Z q3 q4 q) (.inl (PyProof.noPylong_small (by decide)))
end
section
variable{U:St}{H:Hp}
theorem lC{ta:TA}{R:It->Hp->Prop}(h:ta U H fun vs H1=>vm vs H1 R):iG ta U H R:=h
theorem dO{i j:Int}{R:It->Hp->Prop}(h1:-(2 ^ 62)<=i)(h2:i<2 ^ 62)(F:-(2 ^ 62)<=j)(B:j<2 ^ 62)(h:R (iF i (i-j).toNat) H):vm [.int i,.int j,.int (-1)] H R:=⟨i,j,rfl,⟨h1,h2,F,B⟩,h⟩
end
theorem uk:∀ {ys:List Str} {vs:List Value},Em (ys.map V.str) vs->StrsAre vs ys
 | [],_,.nil=>.nil
 |_::_,_,.cons ⟨t,e⟩ h=>by subst e;exact .cons _ t (uk h)
def iH(K:W.Frag):V->List V->Hp->VK->Prop:=fun x vs H Q=>∃(sep:Str) (p:Addr) (ys:List Str),x=.str sep/\vs=[.ref p]/\Eh K H p (ys.map V.str)/\(ys.map (·.length)).sum+ys.length*sep.length<=16777216/\Q (.str (Txt.join sep ys)) H
theorem Xy{X:Cx}(K:W.Frag)(O:X.K=K):uW X "str.join" (iH K):=by
 subst O;intro pins s U H x vs v us Q I F J h;obtain⟨L,p,ys,rfl,rfl,Y,hz,q⟩:=h;obtain⟨t,rfl⟩:=F;obtain⟨u,rfl,Z⟩:=J.one;cases Z;obtain⟨B,r,M,_⟩:=I.list Y;refine join_list (items:=B.toArray) M.isList (by simpa using uk r) hz fun t' k=>?_;exact⟨.str _,H,I.tok _,⟨t',rfl⟩,q⟩
theorem Xz{K:W.Frag}{H:Hp}{Q:VK}{B:Str}{p:Addr}{ys:List Str}(h1:Eh K H p (ys.map V.str))(hz:(ys.map (·.length)).sum+ys.length*B.length<=16777216)(h:Q (.str (Txt.join B ys)) H):iH K (.str B) [.ref p] H Q:=⟨B,p,ys,rfl,rfl,h1,hz,h⟩
theorem Ic(a b:Str):(a++b).length=a.length+b.length:=by
 show(a.cps++b.cps).size=a.cps.size+b.cps.size;exact Array.size_append
noncomputable def Af(ys:List Str):Str:=ys.foldl (· ++ ·) Str.empty
theorem zi:∀(ys:List Str) (acc:Str),(ys.foldl (· ++ ·) acc).cps=ys.foldl (fun a p=>a++p.cps) acc.cps
 | [],_=>rfl
 |y::ys,acc=>by
  show(ys.foldl (· ++ ·) (acc++y)).cps=ys.foldl (fun a p=>a++p.cps) (acc.cps++y.cps);rw[zi ys (acc++y)];rfl
theorem Iz(ys:List Str):Txt.join "" ys=Af ys:=by
 cases ys with
 |nil=>rfl
 |cons y ys=>
  have e:(Af (y::ys)).cps=(Txt.join "" (y::ys)).cps:=by
   unfold Af;rw[zi];show _=ys.foldl (fun B p=>B++(Str.ofString "").cps++p.cps) y.cps;have F:(Str.ofString "").cps = #[]:=by decide
   simp only[F,Array.append_empty];show ys.foldl (fun a p=>a++p.cps) (Str.empty.cps++y.cps)=_;congr 1;show #[]++y.cps=y.cps;simp
  cases h1:Af (y::ys);cases h2:Txt.join "" (y::ys);rw[h1,h2] at e;simp only at e;rw[e]
theorem Sz:∀(ys:List Str),(Af ys).length=(ys.map (·.length)).sum:=by
 intro ys
 have:∀(ys:List Str) (B:Str),(ys.foldl (· ++ ·) B).length=B.length+(ys.map (·.length)).sum:=by
  intro ys
  induction ys with
  |nil=>intro B;simp
  |cons y ys ih=>
   intro B;show(ys.foldl (· ++ ·) (B++y)).length=_;rw[ih,Ic];simp;omega
 have h:=this ys Str.empty;have e:Str.empty.length=0:=rfl;rw[e,Nat.zero_add] at h;exact h
section
variable{X:Cx}
def iI:R2:=fun x y H Q=>∃i j,x=.str i/\y=.str j/\i.length+j.length<=sizeLine/\Q (.str (i++j)) H
theorem zA:DB X (binaryOp .Add) iI:=vU
theorem zB{H:Hp}{Q:VK}{i j:Str}(hz:i.length+j.length<=sizeLine)(h:Q (.str (i++j)) H):iI (.str i) (.str j) H Q:=⟨i,j,rfl,rfl,hz,h⟩
theorem gF{T:String}{name:Str}{id:String}{r:V->List V->Hp->VK->Prop}{apos cpos:Pos}{o:Expr}{to:TE}(O:PlainAttrs T)(J:Slot T name id)(L:typeOf (.builtin id)=pure (.type "method_descriptor"))(hm:uW X id r)(M:QE X o to)
 (F:attributeBase o name X.env (eval o X.env)=eval o X.env:=by rfl) (B:(apos.endLine==cpos.line)=true:=by rfl):QE X (.Call (.Attribute o name apos) [] [] cpos) (cT X.K T r to):=⟨oG O J L hm M.h F B⟩
theorem pW{K:W.Frag}{T:String}{r:V->List V->Hp->VK->Prop}{to:TE}{U:St}{H:Hp}{Q:VK}(h:to U H fun x H1=>jK K T x H1/\r x [] H1 Q):cT K T r to U H Q:=h
theorem pX{K:W.Frag}{H:Hp}{x:Str}:jK K "str" (.str x) H:=rfl
end
def dP(K:W.Frag)(x:V)(H:Hp)(R:It->Hp->Prop):Prop:=(∃a,x=.ref a/\(∃xs,Eh K H a xs)/\R (Wa K a) H)\/(∃a,x=.ref a/\(∃xs,GF K H a xs)/\R (Wb K a) H)
def pY(K:W.Frag)(tl:TE):TI:=fun U H R=>tl U H fun x H1=>dP K x H1 R
theorem pZ{X:Cx}{tg e:Expr}{te:TE}(K:W.Frag)(Y:X.K=K)(Z:QE X e te):QI X tg e (pY K te):=by
 subst Y;refine⟨?_⟩;intro pins s U H R I h;refine thn (Z.h pins s U H _ I h) fun v B ⟨x,H1,I1,L,O⟩=>?_;rcases O with ⟨a,e,⟨xs,hq⟩,q⟩|⟨a,e,⟨xs,hq⟩,q⟩
 ·subst e;cases L;obtain⟨F,M,p,hz⟩:=I1.list hq;refine wpAny_pyIter_list p.isList ?_;refine⟨B.heap.objs.size,[B.heap.objs.size],_,_,H1,rfl,I1.kept (t':=B.toks) fun b o e=>Uc _ e,zV a _,⟨_,Ul _ rfl,rfl,rfl⟩,fun b J=>?_,q⟩;have e:b=B.heap.objs.size:=by simpa using J
  subst e;exact I1.fpOk (Ue _) (I1.hok.fresh (Ue _))
 ·subst e;cases L;obtain⟨F,M,p,hz⟩:=I1.tuple hq;refine wpAny_pyIter_tuple (show B.heap.IsTuple a F.toArray from p) ?_;refine⟨B.heap.objs.size,[B.heap.objs.size],_,_,H1,rfl,I1.kept (t':=B.toks) fun b o e=>Uc _ e,We a _,⟨_,Ul _ rfl,rfl,rfl⟩,fun b J=>?_,q⟩;have e:b=B.heap.objs.size:=by simpa using J
  subst e;exact I1.fpOk (Ue _) (I1.hok.fresh (Ue _))
def SQ(b:Bool)(H:Hp)(a:Addr)(vs:List V):Prop:=H a=some (if b then .lst vs else .tup vs)
section
variable{K:W.Frag}{U:St}{H:Hp}{D:DQ}
theorem lD{tl:TE}{R:It->Hp->Prop}(h:tl U H fun x H1=>dP K x H1 R):pY K tl U H R:=h
theorem lE{b:Bool}{a:Addr}{xs:List V}{g:TG}{tb:TS}(Pv:Nat->St->Hp->Prop)(F:SQ b H a xs)(h0:Pv 0 U H)(M:∀i U H,i<=xs.length->Pv i U H->SQ b H a xs)
  (B:∀i x U H,xs[i]? = some x->Pv i U H->g x U H fun U2 H2=>tb { D with nx:=Pv (i+1),ct:=Pv (i+1),bk:=D.nx } U2 H2) (L:∀U H,Pv xs.length U H->D.nx U H) :
  dP K (.ref a) H (fun J H1=>rFor J g tb D U H1):=by
 cases b with
 |true=>exact .inl ⟨a,rfl,⟨xs,Eh.of F⟩,AY Pv h0 (fun i U H hi p=>Eh.of (M i U H hi p)) B L⟩
 |false=>exact .inr ⟨a,rfl,⟨xs,GF.of F⟩,IX Pv h0 (fun i U H hi p=>GF.of (M i U H hi p)) B L⟩
end
theorem SQ.same{b:Bool}{H H':Hp}{a:Addr}{vs:List V}(h:SQ b H a vs)(s:ET H H'):SQ b H' a vs:=s _ _ h
def DO(n:Nat){α:Type}:KasT α->(α->Prop)->Prop
 | .ret a,R=>R a
 | .ask i j k,R=>i<n/\j<n/\∀b,DO n (k b) R
theorem DO.bind{n:Nat}{α β:Type}{f:α->KasT β}{R:α->Prop}{R':β->Prop}(h:∀a,R a->DO n (f a) R'):∀t:KasT α,DO n t R->DO n (t.bind f) R'
 | .ret a,g=>h a g
 | .ask i j k,g=>⟨g.1,g.2.1,fun b=>DO.bind h (k b) (g.2.2 b)⟩
theorem gG{n:Nat}{cmp:Nat->Nat->(Bool->Shared->Prop)->Shared->Prop}{c:Nat->Nat->Bool}{s:Shared}(hc:∀i j C,i<n->j<n->C (c i j) s->cmp i j C s){α:Type}{Q:α->Shared->Prop}{R:α->Prop}:∀t:KasT α,DO n t R->Q (Gq c t) s->t.kasWp cmp Q s
 | .ret _,_,h=>h
 | .ask i j k,g,h=>hc i j _ g.1 g.2.1 (gG hc (k (c i j)) (g.2.2 _) h)
section
variable{n:Nat}
def Cq(n:Nat)(p:Array Nat):Prop:=0<n/\∀v∈p.toList,v<n
theorem Cq.at{p:Array Nat}(h:Cq n p)(i:Nat):p.getD i 0<n:=by
 by_cases hi:i<p.size
 ·have:=AV (p:=p) hi;exact h.2 _ (Array.mem_toList_iff.mpr (Array.mem_of_getElem? this))
 ·have:p.getD i 0=0:=by simp[Array.getD,hi]
  rw[this];exact h.1
theorem Cq.perm{p q:Array Nat}(h:Cq n p)(e:q.toList.Perm p.toList):Cq n q:=⟨h.1,fun v B=>h.2 v (e.mem_iff.mp B)⟩
theorem Cq.rev{p:Array Nat}(h:Cq n p)(i j:Nat):Cq n (kas_rev p i j):=h.perm (jL p i j)
theorem WA{p:Array Nat}(h:Cq n p):∀f a,DO n (kas_asc p f a) (fun _=>True)
 | 0,_=>trivial
 |f+1,a=>⟨h.at _,h.at _,fun b=>by
  cases b with
  |true=>exact trivial
  |false=>exact WA h f (a+1)⟩
theorem Hs:∀(f:Nat) {p:Array Nat} (a q:Nat),Cq n p->DO n (kas_desc f p a q) (fun r=>Cq n r.1)
 | 0,_,_,_,h=>h
 |f+1,p,a,q,h=>⟨h.at _,h.at _,fun b=>by
  cases b with
  |true=>
   show DO n (if q>0 then kas_desc f (kas_rev p (a-(q+1)) a) (a+1) 0 else kas_desc f p (a+1) 0) _;split
   ·exact Hs f _ _ (h.rev _ _)
   ·exact Hs f _ _ h
  |false=>
   refine⟨h.at _,h.at _,fun d=>?_⟩
   cases d with
   |true=>exact h
   |false=>exact Hs f _ _ h⟩
theorem zj{p:Array Nat}(h:Cq n p)(m k:Nat):DO n (kas_tail3 m k p) (fun r=>Cq n r.2):=by
 unfold kas_tail3;refine DO.bind (R:=fun _=>True) (fun a _=>?_) _ (WA (h.rev _ _) _ _);exact h.rev _ _
theorem XC{p:Array Nat}(h:Cq n p)(m k:Nat):DO n (kas_descPart m k p) (fun r=>Cq n r.2):=by
 refine DO.bind (R:=fun r=>Cq n r.1) (fun r B=>?_) _ (Hs _ _ _ h);show DO n (if r.2.2>0 then _ else _) _;split
 ·exact zj (B.rev _ _) _ _
 ·exact zj B _ _
theorem vn{p:Array Nat}(h:Cq n p)(k:Nat):DO n (kas_count k p) (fun r=>Cq n r.2):=by
 refine DO.bind (R:=fun _=>True) (fun m _=>?_) _ (WA h _ _);show DO n (if(m==k)=true then _ else _) _;split
 ·exact h
 ·split
  ·refine⟨h.at _,h.at _,fun b=>?_⟩
   cases b with
   |true=>exact h
   |false=>exact XC (h.rev _ _) _ _
  ·exact XC h _ _
theorem KA{p:Array Nat}(h:Cq n p)(k:Nat):∀f l r,DO n (kas_place p k f l r) (fun _=>True)
 | 0,_,_=>trivial
 |f+1,l,r=>by
  show DO n (if l>=r then _ else _) _;split
  ·exact trivial
  ·refine⟨h.at _,h.at _,fun b=>?_⟩
   cases b with
   |true=>exact KA h k f _ _
   |false=>exact KA h k f _ _
theorem jd:∀(f:Nat) {p:Array Nat} (k:Nat),Cq n p->DO n (kas_bin f p k) (fun _=>True)
 | 0,_,_,_=>trivial
 |f+1,p,k,h=>DO.bind (R:=fun _=>True) (fun l _=>jd f _ (h.perm (Array.perm_iff_toList_perm.mp (bubble_perm p k _)))) _ (KA h k _ _ _)
theorem gH(B:0<n):DO n (kas_sort n) (fun _=>True):=by
 have h:Cq n (List.toArray (UM n)):=⟨B,fun v F=>by simpa using F⟩;refine DO.bind (R:=fun r=>Cq n r.2) (fun r J=>?_) _ (vn h _);show DO n (if r.1<n then _ else _) _;split
 ·exact jd _ _ J
 ·exact trivial
end
noncomputable def Ag(p q:Int×Int):Bool:=decide (p.1<q.1)||(decide (p.1=q.1)&&decide (p.2<q.2))
theorem Ax{p q:Int×Int}:Ag p q=true↔p.1<q.1\/(p.1=q.1/\p.2<q.2):=by simp[Ag]
theorem Ky{p q:Int×Int}:Ag p q=false↔¬(p.1<q.1\/(p.1=q.1/\p.2<q.2)):=by
 rw[<- Ax];simp
def KB(h:Heap)(a:Addr)(v:Value)(p:Int×Int):Prop:=∃b t u,v=.ref b/\b≠a/\IsTup h b #[.int p.1 t,.int p.2 u]
def Ba(h:Heap)(a:Addr)(vs:List Value)(l:PL):Prop:=Paired (KB h a) vs l
theorem Ba.get{h:Heap}{a:Addr}:∀ {vs:List Value} {l:PL},Ba h a vs l->∀ {i:Nat},i<l.length->KB h a (vs.getD i .none) (l.getD i (0,0))
 |_,_,.nil,i,hi=>absurd hi (Nat.not_lt_zero _)
 |_,_,.cons g t,0,_=>g
 |_,_,.cons g t,i+1,hi=>by
  have:=Ba.get t (i:=i) (by simpa using hi);simpa using this
theorem Ba.katT{h:Heap}{a:Addr}:∀ {vs:List Value} {l:PL},Ba h a vs l->∃fs,KatTups h vs fs/\fs.length=vs.length/\∀v∈fs,∃x t,v=.int x t
 |_,_,.nil=>⟨[],.nil,rfl,fun v B=>by cases B⟩
 |_,_,@Paired.cons _ _ _ v p _ _ ⟨b,t,u,e,_,o,ho,hc,k,hd⟩ r=>by
  obtain⟨fs,h1,h2,F⟩:=Ba.katT r;subst e;refine⟨.int p.1 t::fs,.cons ho hc hd rfl h1,by simp[h2],fun v B=>?_⟩;rcases Ud.mp B with rfl|B
  ·exact⟨_,_,rfl⟩
  ·exact F v B
section
variable{prog:Program}{w:World}{A:Around}{E:Value->Shared->Prop}{s:Shared}
theorem xx{a:Addr}{v L:Value}{p q:Int×Int}{C:Bool->Shared->Prop}(O:KB s.heap a v p)(Y:KB s.heap a L q)(h:C (Ag p q) s):wpAny (model prog w) A (keyLt' (tuples' true) v L) C E s:=by
 obtain⟨b,t,u,rfl,_,o,ho,hc,k,Z⟩:=O;obtain⟨b',t',u',rfl,_,o',J,a0,k',F⟩:=Y;refine kat_lt ho Z J F ?_;refine kat_cons (wpAny_eqBool_int ?_);by_cases B:p.1=q.1
 ·rw[show(p.1==q.1)=true by simp[B]];refine kat_yes (kat_cons (wpAny_eqBool_int ?_));by_cases M:p.2=q.2
  ·rw[show(p.2==q.2)=true by simp[M]];refine kat_yes (kat_nil ?_);have:Ag p q=false:=by rw[Ky];omega
   rw[this] at h;exact h
  ·rw[show(p.2==q.2)=false by simp[M]];refine kat_no (kat_one _ _ (lt_int ?_));have:Ag p q=decide (p.2<q.2):=by simp[Ag,B]
   rw[this] at h;exact h
 ·rw[show(p.1==q.1)=false by simp[B]];refine kat_no (oneLt_int ?_);have:Ag p q=decide (p.1<q.1):=by simp[Ag,B]
  rw[this] at h;exact h
theorem Ht{a:Addr}{vs:List Value}{l:PL}{n:Nat}{P:Fin->Shared->Prop}(ho:s.heap.get? a=some (seqObj "list" vs.toArray n))
  (hT:Ba s.heap a vs l) (hd:l.Nodup) (b9:vs.length<64)
  (h:∀(M:List Nat),M.Perm (UM vs.length)->(M.map fun i=>l.getD i (0,0)).Pairwise (fun p q=>Ag p q=true)->P (.done (.ret .none)) { s with heap:=sortedHeap s.heap a vs (M.map fun i=>vs.getD i Value.none).toArray }) :
  wpAny (model prog w) A (Builtin.«list.sort» ⟨[.ref a],[]⟩) P E s:=by
 have c3:vs.length=l.length:=Paired.length hT;have ha:a<s.heap.objs.size:=Uo ho;rw[list_sort_plain];refine Ua (listItems_at ho rfl ?_);refine Ua (listUpdate_at ho rfl ?_ (by rw[Uw,sizeLine_eq];omega) (UX _));obtain⟨e1,a9⟩:∃e1,(s.heap.update a (Obj.mapSeq fun _=>(#[]:Array Value))).get? a=some (seqObj "list" #[] e1):=⟨_,get?_update_seq ho fun _=>#[]⟩;refine Ua (seqEpoch_at a9 rfl ?_);refine Ua (wpAny_newTuple ?_ (by show vs.length<=_;rw[sizeLine_eq];omega));refine Ua (wpAny_newList ?_ (UX _));refine UO ?_;generalize hh:(((s.heap.update a (Obj.mapSeq fun _=>(#[]:Array Value))).push (seqObj "tuple" vs.toArray 0)).push (seqObj "list" #[] 0))=h3;have J:h3.get? a=some (seqObj "list" #[] e1):=by rw[<- hh];exact Uc _ (Uc _ a9)
 have a8:∀b o,b≠a->s.heap.get? b=some o->h3.get? b=some o:=fun b o hb e=>by
  rw[<- hh];exact Uc _ (Uc _ ((UE _ _ (Ne.symm hb)).trans e))
 have a0:Ba h3 a vs l:=Paired.mapP hT fun v p ⟨b,t,u,e,hb,o,hx,r⟩=>⟨b,t,u,e,hb,o,a8 b o hb hx,r⟩
 have Z:∀(M:List Nat),M.Perm (UM vs.length)->(M.map fun i=>l.getD i (0,0)).Pairwise (fun p q=>Ag p q=true) ->
   P (.done (.ret .none)) { s with heap:=h3.update a (Obj.mapSeq fun _=>(M.map fun i=>vs.getD i Value.none).toArray) }:=fun M hp hs=>by
  have:=h M hp hs;unfold sortedHeap at this;rw[hh] at this;exact this
 show wpAny (model prog w) A _ P E { s with heap:=h3 };dsimp only;by_cases h2:vs.toArray.size<2
 ·rw[if_pos h2,if_pos h2];refine Ua (Uj ?_);rw[Uw] at h2
  have B:∀ws:List Value,ws.length<2->(UM ws.length).map (fun i=>ws.getD i Value.none)=ws:=fun ws h=>by
   rcases ws with _|⟨v,_|_⟩
   ·rfl
   ·rfl
   ·exact absurd h (by simp)
  have B:=B vs h2
  have F:∀L:PL,L.length<2->L.Pairwise (fun p q=>Ag p q=true):=fun L h=>by
   rcases L with _|⟨v,_|_⟩
   ·exact List.Pairwise.nil
   ·exact List.pairwise_singleton _ _
   ·exact absurd h (by simp)
  have F:=F ((UM vs.length).map fun i=>l.getD i (0,0)) (by rw[Ug,Ve];exact h2);have D:=Z (UM vs.length) (List.Perm.refl _) F;rw[B] at D;show wpAny (model prog w) A ((pure ():StateT SortSt Sem Unit).run (SortSt.mk' general' (vs.toArray.zip vs.toArray) #[] 7 none) >>= _) P E { s with heap:=h3 };rw[StateT.run_pure];refine Ua (Uj ?_);dsimp only
  have b0:((arrOf (SortSt.mk' general' (vs.toArray.zip vs.toArray) #[] 7 none)).map (·.2))=vs.toArray:=by
   show((vs.toArray.zip vs.toArray).map (·.2))=vs.toArray;apply Array.toList_inj.mp;rw[Array.toList_map,Array.toList_zip];exact List.map_snd_zip (Ue _)
  rw[b0];refine Ua (seqEpoch_at (s:={ s with heap:=h3 }) J rfl ?_);refine Ua (listUpdate_at (s:={ s with heap:=h3 }) J rfl ?_ (UX _) (by rw[Uw,sizeLine_eq];omega));simp only[bne_self_eq_false,UW,if_false];exact Uj D
 ·rw[if_neg h2,if_neg h2];have b8:2<=vs.length:=by rw[Uw] at h2;omega
  obtain⟨fs,k1,k2,k3⟩:=a0.katT;refine Ua (kat_kind (T:=.type "int") (s:={ s with heap:=h3 }) k1 (by omega) (fun v hv=>?_) (by decide) ?_)
  ·obtain⟨x,t,rfl⟩:=k3 v hv;exact Looks.of_pure rfl
  have c2:tuples' (Value.type "int" != Value.type "tuple")=tuples' true:=by
   have:(Value.type "int" != Value.type "tuple")=true:=by decide
   rw[this]
  rw[c2]
  let c:Nat->Nat->Bool:=fun i j=>Ag (l.getD i (0,0)) (l.getD j (0,0))
  have O:zb c vs.length:=by
   refine⟨fun i j k h1 h2=>?_,fun i j h1=>?_,fun i j hi hj b7 h1=>?_⟩
   ·have h1:=Ax.mp h1;have h2:=Ax.mp h2;exact Ax.mpr (by omega)
   ·have h1:=Ax.mp h1;exact Ky.mpr (by omega)
   ·have h1:=Ky.mp h1;refine Ax.mpr ?_
    have b6:l.getD i (0,0)≠l.getD j (0,0):=by
     intro e;have a7:i<l.length:=by omega
     have a6:j<l.length:=by omega
     have F:=Vx.mp (Vc.mp hd);have e1:l.getD i (0,0)=l[i]:=by simp[a7]
     have e2:l.getD j (0,0)=l[j]:=by simp[a6]
     rw[e1,e2] at e;rcases Nat.lt_trichotomy i j with z|z|z
     ·exact F i j a7 a6 z e
     ·exact b7 z
     ·exact F j i a6 a7 z e.symm
    have c4:¬((l.getD i (0,0)).1=(l.getD j (0,0)).1/\(l.getD i (0,0)).2=(l.getD j (0,0)).2):=fun z=>b6 (Prod.ext z.1 z.2);omega
  obtain⟨S1,S2⟩:=kI O (by omega)
  refine Ua (UJ (kat_run (E:=E) (vs:=vs) (ks:=vs) (Q:=fun Y s'=>s'={ s with heap:=h3 }/\arrOf Y=(Gq c (kas_sort vs.length)).map (kas_item (vs.toArray.zip vs.toArray))/\failedOf Y=none)
   (G:=fun p s'=>s'={ s with heap:=h3 }/\p=Gq c (kas_sort vs.length)) rfl b8 b9 (fun p Y s' a1 a2 a3 a4=>⟨a4.1,by rw[a2,a4.2],a3⟩)
   (gG (c:=c) (n:=vs.length) (fun i j C hi hj hC=>?_) _ (gH (by omega)) ⟨rfl,rfl⟩)) ?_ fun _ _ e=>e)
  ·exact xx (a0.get (by omega)) (a0.get (by omega)) hC
  ·rintro⟨⟨⟩,Y⟩ s' ⟨rfl,c1,hf⟩;dsimp only;rw[kat_snds rfl c1];have a5:(Gq c (kas_sort vs.length)).toList.Perm (UM vs.length):=S1;have hsz:(Gq c (kas_sort vs.length)).size=vs.length:=by have:=S1.length_eq;simpa using this
   have F:((Gq c (kas_sort vs.length)).toList.map fun i=>l.getD i (0,0)).Pairwise (fun p q=>Ag p q=true):=by
    rw[List.pairwise_map,Vx];intro i j hi hj c0;have:=S2 i j c0 (by simp at hj;omega);have e1:Gg (Gq c (kas_sort vs.length)) i=(Gq c (kas_sort vs.length)).toList[i]:=Wq (by rw[<- Array.getElem?_toList,Ub hi]);have e2:Gg (Gq c (kas_sort vs.length)) j=(Gq c (kas_sort vs.length)).toList[j]:=Wq (by rw[<- Array.getElem?_toList,Ub hj]);rw[e1,e2] at this;exact this
   refine Ua (seqEpoch_at (s:={ s with heap:=h3 }) J rfl ?_);refine Ua (listUpdate_at (s:={ s with heap:=h3 }) J rfl ?_ (UX _) ?_)
   ·rw[hf];simp only[bne_self_eq_false,UW,if_false];exact Uj (Z _ a5 F)
   ·show(((Gq c (kas_sort vs.length)).toList.map fun i=>vs.getD i Value.none).toArray).size<=_;rw[Uw,Ug,UI,hsz,sizeLine_eq];omega
end
section
variable{X:Cx}{pins:List (Addr×Obj)}{U:St}{H H':Hp}{s:Shared}{h':Heap}
theorem Inv.old(I:Inv X pins U H s){b:Addr}{o:HO}(e:H b=some o):b<s.heap.objs.size:=by
 by_cases h:b<s.heap.objs.size
 ·exact h
 ·rw[I.hok.fresh (Nat.le_of_not_lt h)] at e;cases e
theorem Inv.many{t':Nat}(I:Inv X pins U H s)(k:∀b u,s.heap.get? b=some u->h'.get? b=some u)(B:∀b,b<s.heap.objs.size->H' b=H b)(new:∀b o,s.heap.objs.size<=b->H' b=some o->Gj X.prog X.w H' h' b o) :
  Inv X pins U H' { s with heap:=h',toks:=t' }:=by
 have old:∀b o,H b=some o->H' b=some o:=fun b o e=>(B b (I.old e)).trans e;refine I.un ⟨fun b u q _ _ _=>k b u q,fun b u q _ _ _=>⟨u.slots,k b u q⟩,fun b u q n _=>(B b (Uo q)).trans n,fun b u q _=>⟨u,k b u q⟩,fun b xs q=>old _ _ q,fun b u xs q=>old _ _ q,fun b ps q=>⟨#[],by rw[old _ _ q];simp⟩⟩ fun b u e=>?_;by_cases F:b<s.heap.objs.size
 ·rw[B b F] at e;exact(I.hok b u e).stay (fun c v _ q=>k c v q) (fun c q=>old _ _ q) fun c xs q=>old _ _ q
 ·exact new b u (Nat.le_of_not_lt F) e
end
section
variable{X:Cx}{o:Expr}{to:TE}{apos cpos:Pos}
def WB(to:TE):(U:St)->Hp->(Addr->PL->Hp->Prop)->Prop:=fun U H R=>to U H fun x H1=>∃a m,x=.ref a/\H1 a=some (.dK (Ez m))/\R a m H1
theorem XD{pins:List (Addr×Obj)}{s:Shared}{U:St}{H:Hp}{R:Addr->PL->Hp->Prop}(ho:PE X o to)(I:Inv X pins U H s)(h:WB to U H R)
  (J:attributeBase o "items" X.env (eval o X.env)=eval o X.env) (B:(apos.endLine==cpos.line)=true) :
  wpAny (model X.prog X.w) X.A (eval (.Call (.Attribute o "items" apos) [] [] cpos) X.env) (fun u L=>∃r a m H1,u=.ref r/\L.heap.objs.size=r+1/\L.heap.IsItemsView r a/\H1 a=some (.dK (Ez m))/\Inv X pins U H1 L/\R a m H1) X.xe s:=by
 refine wpAny_Call_method0_late J B (thn (ho pins s U H _ I h) fun v L ⟨x,H1,I1,Y,a,m,ex,O,q1⟩=>?_);subst ex;cases Y;obtain⟨z,M,vs,Z,dd⟩:=Lo I1.hok O;refine⟨"dict","dict.items",PySem.F.plainAttrs_dict,PySem.F.slot_dict_items,PySem.F.type_dict_items,dd.typeIs,xu I1 (DV.k (k:=Sum.inl 0) O),?_⟩;refine Calls.callWith_builtin rfl (PySem.evalArgs_none ?_);refine call_meetsIn PySem.F.slot_dict_items dd.typeIs PySem.F.entry_dict_items (PySem.F.args_dict_items_1 _) (meets_dict_items (Gh X.prog X.w) a M) ⟨⟨vs,dd⟩,?_⟩;exact⟨_,a,m,H1,rfl,by rw[UZ],⟨_,Ul _ rfl,rfl,rfl⟩,O,I1.kept (t':=L.toks) fun b o e=>Uc _ e,q1⟩
end
set_option tactic.hygienic true in
theorem je{m:PL}{vs:List (Ef×Value)}(B:KV (Ez m) vs):vs.length=m.length/\∀(j:Nat) (k:Ef) (x:Value),vs[j]? = some (k,x)->∃(p:Int×Int) (t:Tok),m[j]? = some p/\k=Sum.inl p.1/\x=Value.int p.2 t:=by
 have F:vs.length=m.length:=by
  have:=B.length;simp[Ez] at this;omega
 refine⟨F,?_⟩
 induction m generalizing vs with
 |nil=>intro j k x e;cases B;simp at e
 |cons p m ih=>
  cases B with
  |cons h t=>
   rename_i q vs'
   intro j k x e
   cases j with
   |zero=>
    simp at e;obtain⟨h1,h2⟩:=h;rw[e] at h1 h2;obtain⟨t',rfl⟩:=h2;exact⟨p,t',rfl,h1.symm,rfl⟩
   |succ j=>
    obtain⟨O,t',L,M,J⟩:=ih t (by simpa using F) j k x (by simpa using e);exact⟨O,t',by simpa using L,M,J⟩
theorem Fi{α β:Type}{F:α->β->Prop}:∀ {l₁:List α} {l₂:List β},l₁.length=l₂.length->(∀(i:Nat) a b,l₁[i]? = some a->l₂[i]? = some b->F a b)->Paired F l₁ l₂
 | [],[],_,_=>.nil
 | [],_::_,h,_=>by simp at h
 |_::_,[],h,_=>by simp at h
 |a::l₁,b::l₂,h,f=>.cons (f 0 a b rfl rfl) (Fi (by simpa using h) fun i x y e1 e2=>f (i+1) x y (by simpa using e1) (by simpa using e2))
theorem ul{P:Program}{w:World}{m:PL}{vs:List (Ef×Value)}{lo:Addr}{h:Heap}{F:List Addr}(M:KV (Ez m) vs)(hl:F.length=vs.length)(g:KdxG (Gh P w) vs lo h F)(a:Addr)(L:∀b∈F,b≠a) :
  Ba h a (F.map Value.ref) m:=by
 obtain⟨a0,hv⟩:=je M;refine Fi (by rw[Ug];omega) fun i v p B e2=>?_;rw[UC] at B
 cases hb:F[i]? with
 |none=>rw[hb] at B;cases B
 |some b=>
  rw[hb] at B;cases B;obtain⟨J,k,x,Y,g2,g3⟩:=g.pairs i b hb;obtain⟨p',t',O,e4,Z⟩:=hv i k x Y;rw[e2] at O;cases O;subst e4 Z;rcases Gu (k:=Sum.inl p.1) (v:=J) g2 with ⟨y,t,z1,z2⟩|⟨y,t,z1,z2⟩
  ·cases z1;subst z2;exact⟨b,t,t',rfl,L b (Ux hb),_,g3,rfl,_,rfl⟩
  ·cases z1
theorem Kz{P:Program}{w:World}{h:Heap}{a b:Addr}{p:Int×Int}{Hn:Hp}(e:KB h a (.ref b) p):Gj P w Hn h b (.tup [.int p.1,.int p.2]):=by
 obtain⟨J,t,u,B,_,F⟩:=e;cases B;exact⟨⟨by show 2<=sizeLine;decide,fun z=>absurd rfl (z p.1)⟩,[.int p.1 t,.int p.2 u],.cons ⟨t,rfl⟩ (.cons ⟨u,rfl⟩ .nil),F⟩
noncomputable def Cs(H:Hp)(as:List Addr)(ps:PL)(l:Addr)(vs:List V)(n:Nat):Hp:=fun b=>if b<n then H b else if b=l then some (.lst vs) else((as.zip ps).lookup b).map fun p=>.tup [.int p.1,.int p.2]
theorem XE{F:List Addr}{ps:PL}(M:F.Nodup):∀ {i:Nat} {b:Addr} {p:Int×Int},F[i]? = some b->ps[i]? = some p->(F.zip ps).lookup b=some p:=by
 induction F generalizing ps with
 |nil=>intro i b p e;simp at e
 |cons a F ih=>
  intro i b p B J;rw[Vu] at M
  cases ps with
  |nil=>simp at J
  |cons q ps=>
   cases i with
   |zero=>simp at B J;subst B J;simp[Vm]
   |succ i=>
    have B:F[i]? = some b:=by simpa using B
    have O:b≠a:=fun z=>M.1 (z ▸ Ux B);have L:(b==a)=false:=by simpa using O
    have:=ih M.2 (ps:=ps) B (by simpa using J);simpa[Vm,L] using this
theorem Ie{B:List Addr}{ps:PL}:∀ {b:Addr} {p:Int×Int},(B.zip ps).lookup b=some p->∃i:Nat,B[i]? = some b/\ps[i]? = some p:=by
 induction B generalizing ps with
 |nil=>intro b p e;simp[Vm] at e
 |cons a B ih=>
  intro b p e
  cases ps with
  |nil=>simp[Vm] at e
  |cons q ps=>
   by_cases J:b=a
   ·subst J;simp[Vm] at e;subst e;exact⟨0,rfl,rfl⟩
   ·have F:(b==a)=false:=by simpa using J
    have e:(B.zip ps).lookup b=some p:=by simpa[Vm,F] using e
    obtain⟨i,h1,h2⟩:=ih e;exact⟨i+1,by simpa using h1,by simpa using h2⟩
theorem zk{α:Type}{l:List α}{d:α}{B:List Nat}(h:B.Perm (UM l.length)):(B.map fun i=>l.getD i d).Perm l:=by
 have e:(UM l.length).map (fun i=>l.getD i d)=l:=by
  apply List.ext_getElem
  ·simp
  ·intro i h1 h2;simp at h1 ⊢;rw[Ub h1];rfl
 have:=h.map fun i=>l.getD i d;rw[e] at this;exact this
def LA:Addr->PL->Hp->VK->Prop:=fun a m H Q=>m.Nodup/\m.length<64/\
 ∀(l:Addr) (vs:List V) (cv:PL) (H':Hp),H l=none->H' l=some (.lst vs)->EZ H' vs cv->cv.Perm m->cv.Pairwise (fun p q=>Ag p q=true)->ET H H'->Q (.ref l) H'
section
variable{X:Cx}{o:Expr}{to:TE}{apos cpos pos p:Pos}
theorem jf{pins:List (Addr×Obj)}{s:Shared}{U:St}{H:Hp}{Q:VK}{a r:Addr}{m:PL}(hc:X.calm=true)(I:Inv X pins U H s)(hd:H a=some (.dK (Ez m)))(hr:s.heap.objs.size=r+1)(hv:s.heap.IsItemsView r a)(h:LA a m H Q) :
  wpAny (model X.prog X.w) X.A (call (.builtin "sorted") [.ref r]) (EP X pins U Q) X.xe s:=by
 obtain⟨b6,c2,q⟩:=h;obtain⟨z,c4,kvs,a5,dd⟩:=Lo I.hok hd;obtain⟨ep,dd⟩:=dd.dictAt;obtain⟨c3,_⟩:=je a5;refine Calls.call_function_entry kind_sorted plain_sorted entry_sorted (args_sorted1 _) ?_;unfold Builtin.«sorted»;refine Ua (m:=checkCount "sorted" 1 1 _) (Uj ?_);refine Ua (kdx_collect (A:=X.A.in1) (knd:=Gh X.prog X.w) (I.ok.hd hc) hv dd (by rw[sizeLine_eq];omega) fun h1 tk B hk hl hG=>?_);refine Ua (wpAny_newList ?_ (by rw[Ug,sizeLine_eq];omega));have a2:(h1.push (seqObj "list" (B.map Value.ref).toArray 0)).get? h1.objs.size=some (seqObj "list" (B.map Value.ref).toArray 0):=Ul _ rfl
 have hT:Ba (h1.push (seqObj "list" (B.map Value.ref).toArray 0)) h1.objs.size (B.map Value.ref) m:=by
  have:=ul a5 hl hG h1.objs.size fun b F=>Ut (hG.there F);exact Paired.mapP this fun v p ⟨b,t,u,e,F,ot,ho,rr⟩=>⟨b,t,u,e,F,ot,Uc _ ho,rr⟩
 show wpAny _ _ _ _ _ { s with heap:=h1.push (seqObj "list" (B.map Value.ref).toArray 0),toks:=tk };refine Ua (UO (wpAny_call_entry slot_list_sort ⟨_,a2,rfl⟩ entry_list_sort (Ht (s:={ s with heap:=h1.push (seqObj "list" (B.map Value.ref).toArray 0),toks:=tk }) a2 hT b6 (by rw[Ug];omega) fun Y hp hs=>⟨_,rfl,?_⟩) (args_list_sort _)));refine Uj ⟨_,rfl,?_⟩;generalize a8:(Y.map fun i=>(B.map Value.ref).getD i Value.none).toArray=out;obtain⟨e,he⟩:=sortedHeap_at (out:=out) a2;generalize a9:sortedHeap (h1.push (seqObj "list" (B.map Value.ref).toArray 0)) h1.objs.size (B.map Value.ref) out=h2 at he
 have a0:s.heap.objs.size<=h1.objs.size:=by
  obtain⟨ov,b8,_⟩:=id hv;rw[hr];exact Uo (hk r ov b8)
 have a3:∀b u,s.heap.get? b=some u->h2.get? b=some u:=fun b u e=>by
  rw[<- a9];have F:=Uo (hk _ _ e);exact(sortedHeap_old (Ut F) (by rw[UZ];exact Vo F)).trans (Uc _ (hk _ _ e))
 have a4:B.Nodup:=Vc.mpr (hG.rise.imp fun b7 e=>Ut b7 e);have b9:B.length=m.length:=by omega
 have L:out.toList=(Y.map fun i=>B.getD i 0).map Value.ref:=by
  rw[<- a8,UH];refine UU fun i hi=>?_
  have hi:i<B.length:=by
   have:=List.mem_range.mp (hp.mem_iff.mp hi);simpa using this
  show(B.map Value.ref).getD i Value.none=Value.ref (B.getD i 0);simp[hi]
 have b0:∀(i:Nat) b p,B[i]? = some b->m[i]? = some p->KB h2 0 (.ref b) p\/KB h2 h1.objs.size (.ref b) p:=fun i b p J O=>by
  have hi:i<m.length:=(Ui.mp O).1;have g:=hT.get (i:=i) hi;have e3:(B.map Value.ref).getD i Value.none=.ref b:=by simp[J]
  have e4:m.getD i (0,0)=p:=by simp[O]
  rw[e3,e4] at g;obtain⟨b',t,u,ee,F,ot,ho,rr⟩:=g;refine .inr ⟨b',t,u,ee,F,ot,?_,rr⟩;rw[<- a9];exact(sortedHeap_old F (Uo ho)).trans ho
 have a7:∀(i:Nat) b p,B[i]? = some b->m[i]? = some p->Cs H B m h1.objs.size ((Y.map fun i=>B.getD i 0).map V.ref) s.heap.objs.size b=some (.tup [.int p.1,.int p.2]):=fun i b p J O=>by
  have Z:=hG.above b (Ux J);have c1:=hG.there (Ux J);unfold Cs;rw[if_neg (Nat.not_lt.mpr (Nat.le_of_lt Z)),if_neg (Ut c1),XE a4 J O];rfl
 have a1:Cs H B m h1.objs.size ((Y.map fun i=>B.getD i 0).map V.ref) s.heap.objs.size h1.objs.size=some (.lst ((Y.map fun i=>B.getD i 0).map V.ref)):=by
  unfold Cs;rw[if_neg (Nat.not_lt.mpr a0),if_pos rfl]
 have a6:Y.length=B.length:=by have:=hp.length_eq;simpa using this
 have M:ET H (Cs H B m h1.objs.size ((Y.map fun i=>B.getD i 0).map V.ref) s.heap.objs.size):=fun b u e=>by
  unfold Cs;rw[if_pos (I.old e)];exact e
 refine⟨.ref h1.objs.size,_,I.many (t':=tk) (h':=h2) a3 (fun b F=>by unfold Cs;rw[if_pos F]) (fun b ob F e=>?_),rfl,q h1.objs.size _ (Y.map fun i=>m.getD i (0,0)) _ (I.hok.fresh a0) a1 ?_ (zk (by rw[<- b9];simpa using hp)) hs M⟩
 ·by_cases Z:b=h1.objs.size
  ·subst Z;rw[a1] at e;cases e;refine⟨by rw[Ug,Ug,a6,sizeLine_eq];omega,out.toList,_,?_,he⟩;rw[L]
   clear L a1 a7 M
   generalize (Y.map fun i=>B.getD i 0)=bs
   induction bs with
   |nil=>exact .nil
   |cons b bs ih=>exact .cons rfl ih
  ·unfold Cs at e;rw[if_neg (Nat.not_lt.mpr F),if_neg Z] at e
   cases hlk:(B.zip m).lookup b with
   |none=>rw[hlk] at e;cases e
   |some p=>
    rw[hlk] at e;cases e;obtain⟨i,J,O⟩:=Ie hlk;rcases b0 i b p J O with g|g
    ·exact Kz g
    ·exact Kz g
 ·refine Fi (by simp) fun i v p J O=>?_;rw[UC,UC] at J;rw[UC] at O
  cases hi:Y[i]? with
  |none=>rw[hi] at J;cases J
  |some j=>
   rw[hi] at J O;cases J;cases O
   have hj:j<B.length:=by
    have:=List.mem_range.mp (hp.mem_iff.mp (Ux hi));simpa using this
   have c0:j<m.length:=by omega
   refine⟨B.getD j 0,rfl,a7 j _ _ ?_ ?_⟩
   ·simp[hj]
   ·simp[c0]
def zl(to:TE):TE:=fun U H Q=>WB to U H fun a m H1=>LA a m H1 Q
theorem SI(O:X.calm=true)(J:Gl X "sorted")(hm:X.mg "sorted"=none)(Z:QE X o to)
  (F:attributeBase o "items" X.env (eval o X.env)=eval o X.env:=by rfl) (B:(apos.endLine==cpos.line)=true:=by rfl) :
  QE X (.Call (.Name "sorted" p) [.Call (.Attribute o "items" apos) [] [] cpos] [] pos) (zl to):=by
 refine⟨?_⟩;intro pins s U H Q I h;refine wpAny_Call_Name_kw (Ct I J hm AW ?_ (by decide) (by decide));refine PyProof.Rows.callWith_builtin1 ?_ rfl rfl;show wpAny _ _ (spliced ((false,eval (.Call (.Attribute o "items" apos) [] [] cpos) X.env)::backTo pos (starEach [] X.env))) _ _ s;refine Calls.spliced_cons (thn (XD Z.h I h F B) fun u s1 ⟨r,a,m,H1,M,hsz,Y,L,I1,q⟩=>?_);subst M;refine Calls.spliced_nil ?_;exact jf O I1 L hsz Y q
end
section
variable{U:St}{H:Hp}{Q:VK}{to:TE}
def gJ(x:V)(H:Hp)(Q:VK):Prop:=∃a m,x=.ref a/\H a=some (.dK (Ez m))/\LA a m H Q
theorem jg(h:to U H fun x H1=>gJ x H1 Q):zl to U H Q:=h
theorem um{cv:PL}(h:cv.Pairwise fun p q=>Ag p q=true)(B:(cv.map (·.1)).Nodup):DA cv:=by
 rw[Vc,List.pairwise_map] at B
 exact(h.and B).imp fun⟨a,b⟩=>by
  have:=Ax.mp a;omega
theorem AH{m:PL}(h:(m.map (·.1)).Nodup):m.Nodup:=by
 rw[Vc,List.pairwise_map] at h;exact Vc.mpr (h.imp fun B e=>B (by rw[e]))
theorem SJ{p:Addr}{m:PL}(h1:H p=some (.dK (Ez m)))(F:(m.map (·.1)).Nodup)(hz:m.length<64)
  (h:∀l H2 cv,H l=none->Hr H2 l cv->Xw m cv->cv.length=m.length->ET H H2->Q (.ref l) H2):gJ (.ref p) H Q:=by
 refine⟨p,m,rfl,h1,AH F,hz,fun l vs cv H2 O L M B J S2=>h l H2 cv O ⟨vs,L,M⟩ ⟨?_,fun t x=>?_⟩ B.length_eq S2⟩
 ·exact um J ((B.map (·.1)).nodup_iff.mpr F)
 ·rw[B.mem_iff,Ga F]
end
def Fb(b:Bool)(h:Heap)(i l:Addr)(k:Nat):Prop:=if b then h.IsListIter i l k else h.IsTupleIter i l k
def Hu(b:Bool)(h:Heap)(l:Addr)(xs:Array Value):Prop:=if b then h.IsList l xs else h.IsTuple l xs
theorem Fb.at{b:Bool}{h h':Heap}{i l:Addr}{k:Nat}(x:Fb b h i l k)(e:∀o,h.get? i=some o->h'.get? i=some o):Fb b h' i l k:=by
 cases b with
 |true=>obtain⟨o,B,r⟩:=(show h.IsListIter i l k from x);exact⟨o,e _ B,r⟩
 |false=>obtain⟨o,B,r⟩:=(show h.IsTupleIter i l k from x);exact⟨o,e _ B,r⟩
theorem Hu.at{b:Bool}{h h':Heap}{l:Addr}{xs:Array Value}(x:Hu b h l xs)(e:∀o,h.get? l=some o->h'.get? l=some o):Hu b h' l xs:=by
 cases b with
 |true=>obtain⟨o,B,r⟩:=(show h.IsList l xs from x);exact⟨o,e _ B,r⟩
 |false=>obtain⟨o,B,r⟩:=(show h.IsTuple l xs from x);exact⟨o,e _ B,r⟩
theorem Fb.lt{b:Bool}{h:Heap}{i l:Addr}{k:Nat}(x:Fb b h i l k):i<h.objs.size:=by
 cases b with
 |true=>obtain⟨o,B,r⟩:=(show h.IsListIter i l k from x);exact Uo B
 |false=>obtain⟨o,B,r⟩:=(show h.IsTupleIter i l k from x);exact Uo B
theorem Hu.lt{b:Bool}{h:Heap}{l:Addr}{xs:Array Value}(x:Hu b h l xs):l<h.objs.size:=by
 cases b with
 |true=>obtain⟨o,B,r⟩:=(show h.IsList l xs from x);exact Uo B
 |false=>obtain⟨o,B,r⟩:=(show h.IsTuple l xs from x);exact Uo B
section
variable{prog:Program}{w:World}{A:Around}{E:Value->Shared->Prop}{s:Shared}
theorem IF{b:Bool}{i l:Addr}{k:Nat}{xs:Array Value}{x:Value}{Q:Value->Shared->Prop}(AC:Fb b s.heap i l k)(hl:Hu b s.heap l xs)(Y:xs[k]? = some x)
  (hQ:∀h',Fb b h' i l (k+1)->Heap.SameBut i s.heap h'->Q x { s with heap:=h' }):wpAny (model prog w) A (Builtin.SmallTypes.nextOf (.ref i)) Q E s:=by
 cases b with
 |true=>exact wpAny_nextOf_list_item (show s.heap.IsListIter i l k from AC) (show s.heap.IsList l xs from hl) Y hQ
 |false=>
  have B:s.heap.IsTupleIter i l k:=AC;obtain⟨o,J,Z,F⟩:=id B;obtain⟨ol,L,_,nl,M⟩:=(show s.heap.IsTuple l xs from hl);have O:s.TypeIs (.ref i) "tuple_iterator":=⟨o,J,Z⟩;unfold Builtin.SmallTypes.nextOf;refine Ua (wpAny_callSpecial?_slot (name:=Str.ofString "__next__") O slot_tupleiter_next (wpAny_call_entry slot_tupleiter_next O entry_tupleiter_next ?_ (args_tupleiter_next _)));show wpAny _ _ (field (.ref i) 0 >>= _) _ _ s;refine Ua (Vi J F (x:=.ref l) rfl ?_);show wpAny _ _ (if(Value.ref l==Value.none)=true then _ else _) _ _ s;rw[if_neg (show ¬((Value.ref l==Value.none)=true) from UA)];show wpAny _ _ (field (.ref i) 1 >>= _) _ _ s;refine Ua (Vi J F (x:=.int k 0) rfl ?_);show wpAny _ _ (seqItems? (.ref l) >>= _) _ _ s;refine Ua (wpAny_seqItems L M ?_);simp only[Int.toNat_natCast,Y];refine Ua (wpAny_setField J F (by simp) (Uj ⟨x,rfl,Uj (hQ _ ?_ (Heap.SameBut.update ..))⟩));exact⟨_,Heap.get?_update_self _ J (Obj.isFreed_of_fields (Obj.data_mapFields F _)),(Obj.cls_mapFields ..).trans Z,by rw[Obj.data_mapFields F];simp[rawInt]⟩
theorem XF{b:Bool}{i l:Addr}{k:Nat}{xs:Array Value}{Q:Value->Shared->Prop}(M:A.handled=none)(AC:Fb b s.heap i l k)(hl:Hu b s.heap l xs)(Z:xs[k]? = none)
  (hE:∀h' e,Heap.ExtBut i s.heap h'->(∃o,h'.get? e=some o/\o.cls=.type "StopIteration")->E (.ref e) { s with heap:=h' }):wpAny (model prog w) A (Builtin.SmallTypes.nextOf (.ref i)) Q E s:=by
 cases b with
 |true=>exact wpAny_nextOf_list_end M (show s.heap.IsListIter i l k from AC) (show s.heap.IsList l xs from hl) Z hE
 |false=>
  have B:s.heap.IsTupleIter i l k:=AC;obtain⟨o,F,hc,O⟩:=id B;obtain⟨ol,J,_,nl,L⟩:=(show s.heap.IsTuple l xs from hl);have Y:s.TypeIs (.ref i) "tuple_iterator":=⟨o,F,hc⟩;unfold Builtin.SmallTypes.nextOf;refine Ua (wpAny_callSpecial?_slot (name:=Str.ofString "__next__") Y slot_tupleiter_next (wpAny_call_entry slot_tupleiter_next Y entry_tupleiter_next ?_ (args_tupleiter_next _)));show wpAny _ _ (field (.ref i) 0 >>= _) _ _ s;refine Ua (Vi F O (x:=.ref l) rfl ?_);show wpAny _ _ (if(Value.ref l==Value.none)=true then _ else _) _ _ s;rw[if_neg (show ¬((Value.ref l==Value.none)=true) from UA)];show wpAny _ _ (field (.ref i) 1 >>= _) _ _ s;refine Ua (Vi F O (x:=.int k 0) rfl ?_);show wpAny _ _ (seqItems? (.ref l) >>= _) _ _ s;refine Ua (wpAny_seqItems J L ?_);simp only[Int.toNat_natCast,Z];refine Ua (wpAny_rule (Ua (wpAny_setField F O (by simp) ?_)));show wpAny _ _ (newExc (.type "StopIteration") [] >>= _) _ _ _;refine Ua ?_;simp only[newExc,newTuple];refine Ua (wpAny_newObj_type ?_ (by size_fits));refine Ua (m:=firstArgMember _ _) (wpAny_of_eq (a:=Value.none) (by first|rfl|(simp only[firstArgMember];rfl)) ?_);refine wpAny_newObj_type ?_ (by size_fits);simp only[raiseNew];refine Ua (wpAny_handled ?_)
  first|rw[show A.in1.handled=none from M]|rw[M]
  refine Ua (Uj (wpAny_throw ?_));exact hE _ _ (((Heap.SameBut.update ..).extBut.push _).push _) ⟨_,Ul _ rfl,rfl⟩
structure Zp(b1 b2:Bool)(h:Heap)(z TI TO i1 i2 l1 l2:Addr)(k:Nat)(xs ys:Array Value)(f0:Value):Prop where
 hz:IsZip h z TI TO f0
 hTI:IsPair h TI (.ref i1) (.ref i2)
 hTO:∃a b,IsPair h TO a b
 h1:Fb b1 h i1 l1 k
 h2:Fb b2 h i2 l2 k
 hl1:Hu b1 h l1 xs
 hl2:Hu b2 h l2 ys
theorem dQ{b1 b2:Bool}{z TI TO O L l1 l2:Addr}{k:Nat}{xs ys:Array Value}{x y:Value}{Q:Option Value->Shared->Prop}(D:ZipApart z TI TO O L l1 l2)(Z:Zp b1 b2 s.heap z TI TO O L l1 l2 k xs ys .none)
  (hx:xs[k]? = some x) (hy:ys[k]? = some y)
  (hQ:∀h',Zp b1 b2 h' z TI TO O L l1 l2 (k+1) xs ys (rawInt s.heap.objs.size)->IsPair h' s.heap.objs.size x y ->
   (∀c o,c≠z->c≠TO->c≠O->c≠L->s.heap.get? c=some o->h'.get? c=some o)->Q (some (.ref s.heap.objs.size)) { s with heap:=h' }) :
  wpAny (model prog w) A (pyNext (.ref z)) Q E s:=by
 obtain⟨hz,a2,⟨a,b,a6⟩,h1,h2,a5,a4⟩:=Z;have hT:s.TypeIs (.ref z) "zip":=⟨_,hz,rfl⟩;unfold pyNext;refine Ua (wpAny_attempt (wpAny_callSpecial?_slot (name:=Str.ofString "__next__") hT F.slot_zip_next (wpAny_call_entry F.slot_zip_next hT F.entry_zip_next ?_ (F.args_zip_next_1 _))));show wpAny _ _ (field (.ref z) 2 >>= _) _ _ _;refine Ua (Vi hz rfl (x:=.bool false) rfl ?_);show wpAny _ _ (field (.ref z) 3 >>= _) _ _ _;refine Ua (Vi hz rfl (x:=.ref TI) rfl ?_);refine Ua (wpAny_seqItems a2 rfl ?_);show wpAny _ _ (Builtin.SmallTypes.ownedTupleIsFree (.ref z) >>= _) _ _ _;refine Ua ?_;unfold Builtin.SmallTypes.ownedTupleIsFree;refine Ua (Vi hz rfl (x:=.none) rfl (Uj ?_));simp only[if_true];refine Ua (wpAny_rule ?_);refine Ua (Vi hz rfl (x:=.ref TO) rfl ?_);refine Ua (wpAny_setField_rec hz (by simp) fun g1 z1 s1=>?_)
 replace z1:IsZip g1 z TI TO .ellipsis:=z1
 refine Ua ?_;simp only[List.zipIdx_cons,List.zipIdx_nil,List.forIn_cons,List.forIn_nil];refine Ua (Ua (wpAny_onRaise ?_));show wpAny _ _ (Builtin.SmallTypes.nextOf (.ref O) >>= _) _ _ _;refine Ua (IF (h1.at fun o e=>s1.extBut _ _ D.i1z e) (a5.at fun o e=>s1.extBut _ _ D.l1z e) hx fun g2 j1 s2=>Uj ?_);have a1:IsPair g2 TO a b:=s2.extBut _ _ D.TOi1 (s1.extBut _ _ D.TOz a6);refine Ua (wpAny_seqItems a1 rfl ?_);refine Ua (wpAny_updateSeq_pair a1 fun g3 a0 s3=>?_)
 replace a0:IsPair g3 TO x b:=a0
 refine Ua (wpAny_letGo (Uj ?_));refine Ua (Ua (wpAny_onRaise ?_));show wpAny _ _ (Builtin.SmallTypes.nextOf (.ref L) >>= _) _ _ _
 refine Ua (IF (((h2.at fun o e=>s1.extBut _ _ D.i2z e).at fun o e=>s2.extBut _ _ D.i12.symm e).at fun o e=>s3.extBut _ _ D.TOi2.symm e)
  (((a4.at fun o e=>s1.extBut _ _ D.l2z e).at fun o e=>s2.extBut _ _ D.l2i1 e).at fun o e=>s3.extBut _ _ D.l2TO e) hy fun g4 j2 s4=>Uj ?_)
 have a3:IsPair g4 TO x b:=s4.extBut _ _ D.TOi2 a0;refine Ua (wpAny_seqItems a3 rfl ?_);refine Ua (wpAny_updateSeq_pair a3 fun B J s5=>?_)
 replace J:IsPair B TO x y:=J
 refine Ua (wpAny_letGo (Uj (Uj ?_)));refine Ua (wpAny_seqItems J rfl ?_);refine Ua (wpAny_newTuple ?_);have hsz:B.objs.size=s.heap.objs.size:=by rw[s5.1,s4.1,s3.1,s2.1,s1.1]
 have z5:IsZip B z TI TO .ellipsis:=s5.extBut _ _ D.TOz.symm (s4.extBut _ _ D.i2z.symm (s3.extBut _ _ D.TOz.symm (s2.extBut _ _ D.i1z.symm z1)))
 have k5:∀c o,c≠z->c≠TO->c≠O->c≠L->s.heap.get? c=some o->B.get? c=some o:=fun c o Y c2 c3 c4 e=>
  s5.extBut _ _ c2 (s4.extBut _ _ c4 (s3.extBut _ _ c2 (s2.extBut _ _ c3 (s1.extBut _ _ Y e))))
 have a9:Fb b1 B O l1 (k+1):=((j1.at fun o e=>s3.extBut _ _ D.TOi1.symm e).at fun o e=>s4.extBut _ _ D.i12 e).at fun o e=>s5.extBut _ _ D.TOi1.symm e;have a7:Fb b2 B L l2 (k+1):=j2.at fun o e=>s5.extBut _ _ D.TOi2.symm e;have a8:IsPair B TI (.ref O) (.ref L):=k5 _ _ D.TIz D.TITO D.TIi1 D.TIi2 a2;have b0:Hu b1 B l1 xs:=a5.at fun o e=>k5 _ o D.l1z D.l1TO D.l1i1 D.l1i2 e;have b6:Hu b2 B l2 ys:=a4.at fun o e=>k5 _ o D.l2z D.l2TO D.l2i1 D.l2i2 e;have M:z<B.objs.size:=Uo z5;show wpAny _ _ (Builtin.SmallTypes.ownedTupleHandOut (.ref z) (.ref B.objs.size) >>= _) _ _ _;refine Ua ?_;unfold Builtin.SmallTypes.ownedTupleHandOut;have z6:IsZip (B.push { cls:=.type "tuple",data:=.seq #[x,y] }) z TI TO .ellipsis:=Uc _ z5;refine Ua (wpAny_setField_rec z6 (by simp) fun g7 z7 s7=>?_)
 replace z7:IsZip g7 z TI TO (rawInt B.objs.size):=z7
 refine wpAny_setField_rec z7 (by simp) fun g8 z8 s8=>?_
 replace z8:IsZip g8 z TI TO (rawInt B.objs.size):=z8
 have up:∀c o,c≠z->B.get? c=some o->g8.get? c=some o:=fun c o Y e=>s8.extBut _ _ Y (s7.extBut _ _ Y (Uc _ e));have t8:IsPair g8 B.objs.size x y:=s8.extBut _ _ (Nat.ne_of_gt M) (s7.extBut _ _ (Nat.ne_of_gt M) (Ul _ rfl));rw[hsz] at z8 t8;refine Uj ⟨_,rfl,Uj ?_⟩;show Q (some (.ref B.objs.size)) _;rw[hsz];exact hQ g8 ⟨z8,up _ _ D.TIz a8,⟨x,y,up _ _ D.TOz J⟩,a9.at fun o e=>up _ o D.i1z e,a7.at fun o e=>up _ o D.i2z e,b0.at fun o e=>up _ o D.l1z e,b6.at fun o e=>up _ o D.l2z e⟩ t8 fun c o Y c2 c3 c4 e=>up c o Y (k5 c o Y c2 c3 c4 e)
theorem lF{b1 b2:Bool}{z TI TO i1 i2 l1 l2:Addr}{k:Nat}{xs ys:Array Value}{Q:Option Value->Shared->Prop}(hh:A.handled=none)(D:ZipApart z TI TO i1 i2 l1 l2)(Z:Zp b1 b2 s.heap z TI TO i1 i2 l1 l2 k xs ys .none)
  (a1:xs[k]? = none\/ys[k]? = none) (hQ:∀h',(∀c o,c≠z->c≠TO->c≠i1->c≠i2->s.heap.get? c=some o->h'.get? c=some o)->Q none { s with heap:=h' }):wpAny (model prog w) A (pyNext (.ref z)) Q E s:=by
 obtain⟨hz,a5,⟨a,b,a3⟩,h1,h2,a2,a4⟩:=Z;have hT:s.TypeIs (.ref z) "zip":=⟨_,hz,rfl⟩;unfold pyNext;refine Ua (wpAny_attempt (wpAny_callSpecial?_slot (name:=Str.ofString "__next__") hT F.slot_zip_next (wpAny_call_entry F.slot_zip_next hT F.entry_zip_next ?_ (F.args_zip_next_1 _))))
 have out:∀h' e,(∀c o,c≠z->c≠TO->c≠i1->c≠i2->s.heap.get? c=some o->h'.get? c=some o)->(∃o,h'.get? e=some o/\o.cls=.type "StopIteration")->wpAny (model prog w) A (do
   if(<- isInstance (.ref e) (.type "StopIteration"))=true then pure none else throw (.ref e)) Q E { s with heap:=h' }:=fun h' e hk ⟨o,ho,hc⟩=>by
  refine Ua (wpAny_isInstance (T:="StopIteration") (b:=true) ⟨o,ho,hc⟩ isSubtype_stop ?_);exact Uj (hQ _ hk)
 show wpAny _ _ (field (.ref z) 2 >>= _) _ _ _;refine Ua (Vi hz rfl (x:=.bool false) rfl ?_);show wpAny _ _ (field (.ref z) 3 >>= _) _ _ _;refine Ua (Vi hz rfl (x:=.ref TI) rfl ?_);refine Ua (wpAny_seqItems a5 rfl ?_);show wpAny _ _ (Builtin.SmallTypes.ownedTupleIsFree (.ref z) >>= _) _ _ _;refine Ua ?_;unfold Builtin.SmallTypes.ownedTupleIsFree;refine Ua (Vi hz rfl (x:=.none) rfl (Uj ?_));simp only[if_true];refine Ua (wpAny_rule ?_);refine Ua (Vi hz rfl (x:=.ref TO) rfl ?_);refine Ua (wpAny_setField_rec hz (by simp) fun g1 z1 L=>?_)
 replace z1:IsZip g1 z TI TO .ellipsis:=z1
 refine Ua ?_;simp only[List.zipIdx_cons,List.zipIdx_nil,List.forIn_cons,List.forIn_nil];refine Ua (Ua (wpAny_onRaise ?_));show wpAny _ _ (Builtin.SmallTypes.nextOf (.ref i1) >>= _) _ _ _
 cases hx:xs[k]? with
 |none=>
  refine Ua (XF hh (h1.at fun o e=>L.extBut _ _ D.i1z e) (a2.at fun o e=>L.extBut _ _ D.l1z e) hx fun g2 e M he=>?_);obtain⟨oe,B,J⟩:=he;have z2:IsZip g2 z TI TO .ellipsis:=M _ _ D.i1z.symm z1;have Y:e≠z:=fun q=>by subst q;rw[z2] at B;cases B;simp at J
  exact wpAny_setField_rec z2 (by simp) fun g3 _ O=>out g3 e (fun c o c1 _ c3 _ q=>O.extBut _ _ c1 (M _ _ c3 (L.extBut _ _ c1 q))) ⟨oe,O.extBut _ _ Y B,J⟩
 |some x=>
  have hy:ys[k]? = none:=by rcases a1 with h|h;rw[hx] at h;cases h;exact h
  refine Ua (IF (h1.at fun o e=>L.extBut _ _ D.i1z e) (a2.at fun o e=>L.extBut _ _ D.l1z e) hx fun g2 j1 M=>Uj ?_);have a0:IsPair g2 TO a b:=M.extBut _ _ D.TOi1 (L.extBut _ _ D.TOz a3);refine Ua (wpAny_seqItems a0 rfl ?_);refine Ua (wpAny_updateSeq_pair a0 fun g3 a6 O=>?_);refine Ua (wpAny_letGo (Uj ?_));refine Ua (Ua (wpAny_onRaise ?_));show wpAny _ _ (Builtin.SmallTypes.nextOf (.ref i2) >>= _) _ _ _
  refine Ua (XF hh (((h2.at fun o e=>L.extBut _ _ D.i2z e).at fun o e=>M.extBut _ _ D.i12.symm e).at fun o e=>O.extBut _ _ D.TOi2.symm e)
   (((a4.at fun o e=>L.extBut _ _ D.l2z e).at fun o e=>M.extBut _ _ D.l2i1 e).at fun o e=>O.extBut _ _ D.l2TO e) hy fun g4 e s4 he=>?_)
  obtain⟨oe,B,J⟩:=he;have z4:IsZip g4 z TI TO .ellipsis:=s4 _ _ D.i2z.symm (O.extBut _ _ D.TOz.symm (M.extBut _ _ D.i1z.symm z1));have Y:e≠z:=fun q=>by subst q;rw[z4] at B;cases B;simp at J
  exact wpAny_setField_rec z4 (by simp) fun g5 _ s5=>out g5 e (fun c o c1 c2 c3 c4 q=>s5.extBut _ _ c1 (s4 _ _ c4 (O.extBut _ _ c2 (M.extBut _ _ c3 (L.extBut _ _ c1 q))))) ⟨oe,s5.extBut _ _ Y B,J⟩
end
section
variable{X:Cx}{pins:List (Addr×Obj)}{U:St}{H H':Hp}{s:Shared}{h':Heap}
theorem Inv.turnNew{t':Nat}{fp:List Addr}(I:Inv X pins U H s)(M:∀b∈fp,BG X pins H b)(k:∀b o,b∉fp->s.heap.get? b=some o->h'.get? b=some o)(L:∀b,b<s.heap.objs.size->H' b=H b)
  (new:∀b o,s.heap.objs.size<=b->H' b=some o->Gj X.prog X.w H' h' b o):Inv X pins U H' { s with heap:=h',toks:=t' }:=by
 have old:∀b o,H b=some o->H' b=some o:=fun b o e=>(L b (I.old e)).trans e;have F:∀b u,H b=some u->b∉fp:=fun b u e z=>by rw[(M b z).1] at e;cases e
 refine I.step (g':=s.gens) (d':=s.drawn) (ch:=fp) (fun b J=>?_) (fun b o _ _ B e _=>k b o B e) (fun b o _ _ B e _=>⟨o.slots,k b o B e⟩) (fun b o _ e n=>(L b (Uo e)).trans n)
  (fun b o B e=>⟨o,k b o B e⟩) (fun b xs e=>old _ _ e) (fun b o xs e=>old _ _ e) (fun b ps e=>⟨#[],by rw[old _ _ e];simp⟩) (fun m hm=>?_) (fun b u e=>?_) I.bare
 ·obtain⟨f0,f1,f2,O,Y,Z⟩:=M b J;exact⟨O,f1,Y,Z⟩
 ·obtain⟨o,es,ep,ho,r⟩:=hm;exact⟨o,es,ep,k _ o (fun z=>(M _ z).2.1 rfl) ho,r⟩
 ·by_cases J:b<s.heap.objs.size
  ·rw[L b J] at e;refine(I.hok b u e).stay (fun c v B q=>k c v ?_ q) (fun c q=>old _ _ q) fun c xs q=>old _ _ q;rcases B with z|z
   ·rw[z];exact F b u e
   ·exact F c _ z
  ·exact new b u (Nat.le_of_not_lt J) e
end
def BR(b:Bool)(K:W.Frag)(H:Hp)(a:Addr)(xs:List V):Prop:=if b then Eh K H a xs else GF K H a xs
theorem BR.ofL{K:W.Frag}{H:Hp}{a:Addr}{xs:List V}(h:H a=some (.lst xs)):BR true K H a xs:=Eh.of h
theorem BR.ofT{K:W.Frag}{H:Hp}{a:Addr}{xs:List V}(h:H a=some (.tup xs)):BR false K H a xs:=GF.of h
theorem Inv.sqB{X:Cx}{pins:List (Addr×Obj)}{U:St}{H:Hp}{s:Shared}{b:Bool}{a:Addr}{xs:List V}(I:Inv X pins U H s)(h:BR b X.K H a xs):∃B:List Value,Em xs B/\Hu b s.heap a B.toArray/\xs.length<=sizeLine:=by
 cases b with
 |true=>
  obtain⟨B,F,p,hz⟩:=I.list h;exact⟨B,F,p.isList,hz⟩
 |false=>
  obtain⟨B,F,p,hz⟩:=I.tuple h;exact⟨B,F,p,hz⟩
theorem Inv.sqB_inj{X:Cx}{pins:List (Addr×Obj)}{U:St}{H:Hp}{s:Shared}{b:Bool}{a:Addr}{xs ys:List V}(I:Inv X pins U H s)(h:BR b X.K H a xs)(g:BR b X.K H a ys):xs=ys:=by
 cases b with
 |true=>exact I.list_inj h g
 |false=>exact I.tuple_inj h g
def gK(K:W.Frag)(b1:Bool)(p1:Addr)(b2:Bool)(p2:Addr):It:=
 ⟨fun i H=>∃xs ys,BR b1 K H p1 xs/\BR b2 K H p2 ys/\i<xs.length/\i<ys.length,
  fun i H x H'=>∃T a b,H T=none/\x=.ref T/\H'=upd H T (.tup [a,b])/\(∀xs,BR b1 K H p1 xs->xs[i]? = some a)/\∀ys,BR b2 K H p2 ys->ys[i]? = some b,
  fun i H=>∃xs ys,BR b1 K H p1 xs/\BR b2 K H p2 ys/\(xs.length<=i\/ys.length<=i)⟩
def Zo(b1 b2:Bool)(z TI TO i1 i2 l1 l2:Addr)(i:Nat)(h:Heap):Prop:=IsZip h z TI TO .none/\IsPair h TI (.ref i1) (.ref i2)/\(∃a b,IsPair h TO a b)/\Fb b1 h i1 l1 i/\Fb b2 h i2 l2 i
theorem dR{P:Program}{w:World}{K:W.Frag}{es:List Expr}{kk:Nat}{pos:Pos}(b1 b2:Bool)(z TI TO Y M l1 l2:Addr)(D:ZipApart z TI TO Y M l1 l2) :
  Kq P w K (.Tuple es kk pos) (gK K b1 l1 b2 l2) [z,TI,TO,Y,M] z (Zo b1 b2 z TI TO Y M l1 l2) where
 mem:=by simp
 obj:=fun i h st b B=>by
  obtain⟨hz,L,⟨x,y,J⟩,h1,h2⟩:=st
  have si:∀ {b:Bool} {c l:Addr},Fb b h c l i->∃o,h.get? c=some o/\∀v,o.data≠.cell v:=fun {b c l} q=>by
   cases b with
   |true=>obtain⟨o,e,c,d⟩:=(show h.IsListIter _ _ _ from q);exact⟨o,e,fun v z=>by rw[d] at z;cases z⟩
   |false=>obtain⟨o,e,c,d⟩:=(show h.IsTupleIter _ _ _ from q);exact⟨o,e,fun v z=>by rw[d] at z;cases z⟩
  simp only[Ud,Us,or_false] at B;rcases B with rfl|rfl|rfl|rfl|rfl
  ·exact⟨_,hz,fun v q=>by cases q⟩
  ·exact⟨_,L,fun v q=>by cases q⟩
  ·exact⟨_,J,fun v q=>by cases q⟩
  ·exact si h1
  ·exact si h2
 keep:=fun i h h' st k=>by
  obtain⟨hz,L,⟨x,y,J⟩,h1,h2⟩:=st;exact⟨k z (by simp) _ hz,k TI (by simp) _ L,⟨x,y,k TO (by simp) _ J⟩,h1.at (k Y (by simp)),h2.at (k M (by simp))⟩
 item:=by
  intro X hP hw hK hc i pins s U H E I hf st hg;subst hP hw hK;obtain⟨xs,ys,q1,q2,a1,a5⟩:=hg;obtain⟨hz,L,J,h1,h2⟩:=st;obtain⟨us,r1,o1,_⟩:=I.sqB q1;obtain⟨ws,r2,o2,_⟩:=I.sqB q2;obtain⟨u,hu,ru⟩:=r1.get (Ub a1);obtain⟨v,hv,rv⟩:=r2.get (Ub a5);have Z:Zp b1 b2 s.heap z TI TO Y M l1 l2 i us.toArray ws.toArray .none:=⟨hz,L,J,h1,h2,o1,o2⟩;refine dQ D Z (x:=u) (y:=v) (by simpa using hu) (by simpa using hv) fun h' Z' hT hk=>⟨_,rfl,?_⟩;refine wpAny_letOwnedTupleGo_zip Z'.hz fun h'' a2 F=>?_;have a7:s.heap.objs.size≠z:=Nat.ne_of_gt (Uo hz);have O:IsPair h'' s.heap.objs.size u v:=F.extBut _ _ a7 hT
  have kk:∀b o,b∉[z,TI,TO,Y,M]->s.heap.get? b=some o->h''.get? b=some o:=fun b o B e=>by
   simp only[Ud,Us,or_false,not_or] at B;exact F.extBut _ _ B.1 (hk b o B.1 B.2.2.1 B.2.2.2.1 B.2.2.2.2 e)
  have I1:Inv X pins U (upd H s.heap.objs.size (.tup [xs[i],ys[i]])) { s with heap:=h'',toks:=s.toks }:=by
   refine I.turnNew (fp:=[z,TI,TO,Y,M]) hf kk (fun b B=>Ep (Ut B)) fun b o B e=>?_;by_cases a0:b=s.heap.objs.size
   ·subst a0;rw[EW] at e;cases e;exact⟨⟨by show 2<=sizeLine;decide,fun _=>⟨_,O,rfl,rfl⟩⟩,[u,v],.cons ru (.cons rv .nil),_,O,rfl,_,rfl⟩
   ·rw[Ep a0,I.hok.fresh B] at e;cases e
  refine⟨.ref s.heap.objs.size,_,I1,rfl,⟨_,_,_,I.hok.fresh (Ue _),rfl,rfl,fun zs hq=>?_,fun zs hq=>?_⟩,?_,fun b B=>?_⟩
  ·rw[I.sqB_inj hq q1];exact Ub a1
  ·rw[I.sqB_inj hq q2];exact Ub a5
  ·obtain⟨x,y,a6⟩:=Z'.hTO;exact⟨a2,F.extBut _ _ D.TIz Z'.hTI,⟨x,y,F.extBut _ _ D.TOz a6⟩,Z'.h1.at fun o e=>F.extBut _ _ D.i1z e,Z'.h2.at fun o e=>F.extBut _ _ D.i2z e⟩
  ·have a8:b<s.heap.objs.size:=by
    obtain⟨x,y,a3⟩:=J;simp only[Ud,Us,or_false] at B;rcases B with rfl|rfl|rfl|rfl|rfl
    ·exact Uo hz
    ·exact Uo L
    ·exact Uo a3
    ·exact h1.lt
    ·exact h2.lt
   rw[Ep (Ut a8)];exact(hf b B).1
 done:=by
  intro X hP hw hK hc i pins s U H E I hf st hg;subst hP hw hK;obtain⟨xs,ys,q1,q2,a4⟩:=hg;obtain⟨hz,L,J,h1,h2⟩:=st;obtain⟨us,r1,o1,_⟩:=I.sqB q1;obtain⟨ws,r2,o2,_⟩:=I.sqB q2;have e1:=r1.length;have e2:=r2.length;refine lF (I.ok.hd hc) D ⟨hz,L,J,h1,h2,o1,o2⟩ ?_ fun h' hk=>⟨rfl,?_⟩
  ·rcases a4 with h|h
   ·exact .inl (by simp;omega)
   ·exact .inr (by simp;omega)
  ·refine I.turnNew (t':=s.toks) (fp:=[z,TI,TO,Y,M]) hf (fun b o B e=>?_) (fun b _=>rfl) fun b o B e=>?_
   ·simp only[Ud,Us,or_false,not_or] at B;exact hk b o B.1 B.2.2.1 B.2.2.2.1 B.2.2.2.2 e
   ·rw[I.hok.fresh B] at e;cases e
 self:=fun _ _ _ _ _ st h=>wpAny_pyIter_zip st.1 h
noncomputable def XG(b:Bool)(l:Addr):Obj:={ cls:=.type (if b then"list_iterator" else"tuple_iterator"),data:=.fields #[.ref l,.int 0 0] }
def iJ(b1:Bool)(h:Heap)(l1:Addr):Heap:=h.push (XG b1 l1)
def iK(b1 b2:Bool)(h:Heap)(l1 l2:Addr):Heap:=(iJ b1 h l1).push (XG b2 l2)
def iL(b1 b2:Bool)(h:Heap)(l1 l2:Addr):Heap:=(iK b1 b2 h l1 l2).push { cls:=.type "tuple",data:=.seq #[.ref h.objs.size,.ref (iJ b1 h l1).objs.size] }
def iM(b1 b2:Bool)(h:Heap)(l1 l2:Addr):Heap:=(iL b1 b2 h l1 l2).push { cls:=.type "tuple",data:=.seq #[.none,.none] }
def SK(b1 b2:Bool)(h:Heap)(l1 l2:Addr):Heap:=(iM b1 b2 h l1 l2).push { cls:=.type "zip",data:=.fields #[.none,.bool false,.bool false,.ref (iK b1 b2 h l1 l2).objs.size,.ref (iL b1 b2 h l1 l2).objs.size] }
theorem vo(b1 b2:Bool)(l1 l2:Addr)(xs ys:Array Value) :
  Meets (Builtin.«zip.__new__» ⟨[.type "zip",.ref l1,.ref l2],[]⟩) (fun _ R s=>Hu b1 s.heap l1 xs/\Hu b2 s.heap l2 ys/\
   R (.ok (.ret (.ref (iM b1 b2 s.heap l1 l2).objs.size))) { s with heap:=SK b1 b2 s.heap l1 l2 }):=by
 cases b1<;>cases b2
 ·exact .of_wp fun prog w A R s h=>by
   obtain⟨L,g,d,O,Z⟩:=s;obtain⟨M,F,h⟩:=h;have Y:=sub_zip;have J:Heap.IsTuple (Shared.heap ⟨L,g,d,O,Z⟩) l1 xs:=M
   have B:Heap.IsTuple (Shared.heap ⟨L.push { cls:=.type "tuple_iterator",data:=.fields #[.ref l1,.int 0 0] },g,d,O,Z⟩) l2 ys:=by
    obtain⟨o,ho,r⟩:=(show Heap.IsTuple L l2 ys from F);exact⟨o,Uc _ ho,r⟩
   wp_walk using wpAny_pyIter_tuple J,wpAny_pyIter_tuple B
   exact⟨_,rfl,h⟩
 ·exact .of_wp fun prog w A R s h=>by
   obtain⟨L,g,d,O,Z⟩:=s;obtain⟨M,F,h⟩:=h;have Y:=sub_zip;have J:Heap.IsTuple (Shared.heap ⟨L,g,d,O,Z⟩) l1 xs:=M
   have B:Heap.IsList (Shared.heap ⟨L.push { cls:=.type "tuple_iterator",data:=.fields #[.ref l1,.int 0 0] },g,d,O,Z⟩) l2 ys:=by
    obtain⟨o,ho,r⟩:=(show Heap.IsList L l2 ys from F);exact⟨o,Uc _ ho,r⟩
   wp_walk using wpAny_pyIter_tuple J,wpAny_pyIter_list B
   exact⟨_,rfl,h⟩
 ·exact .of_wp fun prog w A R s h=>by
   obtain⟨L,g,d,O,Z⟩:=s;obtain⟨M,F,h⟩:=h;have Y:=sub_zip;have J:Heap.IsList (Shared.heap ⟨L,g,d,O,Z⟩) l1 xs:=M
   have B:Heap.IsTuple (Shared.heap ⟨L.push { cls:=.type "list_iterator",data:=.fields #[.ref l1,.int 0 0] },g,d,O,Z⟩) l2 ys:=by
    obtain⟨o,ho,r⟩:=(show Heap.IsTuple L l2 ys from F);exact⟨o,Uc _ ho,r⟩
   wp_walk using wpAny_pyIter_list J,wpAny_pyIter_tuple B
   exact⟨_,rfl,h⟩
 ·exact .of_wp fun prog w A R s h=>by
   obtain⟨L,g,d,O,Z⟩:=s;obtain⟨M,F,h⟩:=h;have Y:=sub_zip;have J:Heap.IsList (Shared.heap ⟨L,g,d,O,Z⟩) l1 xs:=M
   have B:Heap.IsList (Shared.heap ⟨L.push { cls:=.type "list_iterator",data:=.fields #[.ref l1,.int 0 0] },g,d,O,Z⟩) l2 ys:=by
    obtain⟨o,ho,r⟩:=(show Heap.IsList L l2 ys from F);exact⟨o,Uc _ ho,r⟩
   wp_walk using wpAny_pyIter_list J,wpAny_pyIter_list B
   exact⟨_,rfl,h⟩
section
variable{X:Cx}{tg:Expr}
theorem dS{pins:List (Addr×Obj)}{U:St}{H:Hp}{s:Shared}{R:It->Hp->Prop}{b1 b2:Bool}{l1 l2:Addr}{xs ys:List V}{es:List Expr}{kk:Nat}{pos:Pos}(I:Inv X pins U H s)(q1:BR b1 X.K H l1 xs)(q2:BR b2 X.K H l2 ys)
  (q:R (gK X.K b1 l1 b2 l2) H):wpAny (model X.prog X.w) X.A (call (.type "zip") [.ref l1,.ref l2]) (fun v s1=>wpAny (model X.prog X.w) X.A (pyIter v) (fj X pins U (.Tuple es kk pos) R) X.xe s1) X.xe s:=by
 obtain⟨us,r1,o1,_⟩:=I.sqB q1;obtain⟨ws,r2,o2,_⟩:=I.sqB q2;refine callType_new F.called_zip (by decide) (F.typeCall_zip_2 _ _) (F.newCall_zip_2 _ _) (fun a1=>F.args_object_init_3 a1 _ _) F.entry_zip_new (vo b1 b2 l1 l2 us.toArray ws.toArray) ⟨o1,o2,?_⟩;have z1:(iJ b1 s.heap l1).objs.size=s.heap.objs.size+1:=UZ ..;have z2:(iK b1 b2 s.heap l1 l2).objs.size=s.heap.objs.size+2:=(UZ ..).trans (by rw[z1]);have z3:(iL b1 b2 s.heap l1 l2).objs.size=s.heap.objs.size+3:=(UZ ..).trans (by rw[z2]);have z4:(iM b1 b2 s.heap l1 l2).objs.size=s.heap.objs.size+4:=(UZ ..).trans (by rw[z3]);have Y:(SK b1 b2 s.heap l1 l2).get? (iM b1 b2 s.heap l1 l2).objs.size=some _:=Ul _ rfl;have g4:(SK b1 b2 s.heap l1 l2).get? (iL b1 b2 s.heap l1 l2).objs.size=some _:=Uc _ (Ul _ rfl);have g3:(SK b1 b2 s.heap l1 l2).get? (iK b1 b2 s.heap l1 l2).objs.size=some _:=Uc _ (Uc _ (Ul _ rfl));have g2:(SK b1 b2 s.heap l1 l2).get? (iJ b1 s.heap l1).objs.size=some (XG b2 l2):=Uc _ (Uc _ (Uc _ (Ul _ rfl)));have g1:(SK b1 b2 s.heap l1 l2).get? s.heap.objs.size=some (XG b1 l1):=Uc _ (Uc _ (Uc _ (Uc _ (Ul _ rfl))))
 have L:∀c o,s.heap.get? c=some o->(SK b1 b2 s.heap l1 l2).get? c=some o:=fun c o x=>
  Uc _ (Uc _ (Uc _ (Uc _ (Uc _ x))))
 rw[z1] at g2;rw[z2,z1] at g3;rw[z3] at g4;rw[z4,z3,z2] at Y;rw[z4]
 have O:∀ {b:Bool} {c l:Addr},(SK b1 b2 s.heap l1 l2).get? c=some (XG b l)->Fb b (SK b1 b2 s.heap l1 l2) c l 0:=fun {b c l} e=>by
  cases b with
  |true=>exact⟨_,e,rfl,rfl⟩
  |false=>exact⟨_,e,rfl,rfl⟩
 have I1:Inv X pins U H { s with heap:=SK b1 b2 s.heap l1 l2,toks:=s.toks }:=I.kept L;have a0:l1<s.heap.objs.size:=o1.lt;have Z:l2<s.heap.objs.size:=o2.lt;have ne:∀ {a b:Nat},a<b->(a:Addr)≠b:=fun h=>Ut h
 have D:ZipApart (s.heap.objs.size+4) (s.heap.objs.size+2) (s.heap.objs.size+3) s.heap.objs.size (s.heap.objs.size+1) l1 l2:=by
  have B:(l1:Nat)<s.heap.objs.size:=a0;have M:(l2:Nat)<s.heap.objs.size:=Z;constructor
  all_goals first
   |exact Ut (by omega)
   |exact Nat.ne_of_gt (by omega)
   |exact Ut (Uh B (by omega))
   |exact Ut (Uh M (by omega))
 refine⟨⟨_,Y,rfl⟩,wpAny_pyIter_zip Y ⟨s.heap.objs.size+4,[s.heap.objs.size+4,s.heap.objs.size+2,s.heap.objs.size+3,s.heap.objs.size,s.heap.objs.size+1],_,_,H,rfl,I1,dR b1 b2 _ _ _ _ _ l1 l2 D,⟨Y,g3,⟨_,_,g4⟩,O g1,O g2⟩,fun b hb=>?_,q⟩⟩
 have J:s.heap.objs.size<=b:=by
  simp only[Ud,Us,or_false] at hb;rcases hb with rfl|rfl|rfl|rfl|rfl
  ·exact Nat.le_add_right _ _
  ·exact Nat.le_add_right _ _
  ·exact Nat.le_add_right _ _
  ·exact Ue _
  ·exact Nat.le_add_right _ _
 exact I.fpOk J (I.hok.fresh J)
def dU(K:W.Frag)(vs:List V)(H:Hp)(R:It->Hp->Prop):Prop:=∃b1 b2 l1 l2 xs ys,vs=[.ref l1,.ref l2]/\BR b1 K H l1 xs/\BR b2 K H l2 ys/\R (gK K b1 l1 b2 l2) H
def pb(K:W.Frag)(ta:TA):TI:=fun U H R=>ta U H fun vs H1=>dU K vs H1 R
theorem gM{a b:Expr}{t:TA}{p pos tpos:Pos}{es:List Expr}{kk:Nat}(K:W.Frag)(M:X.K=K)(L:Gl X "zip")(hm:X.mg "zip"=none)(ha:QA X [a,b] t)(Z:BO a=false:=by rfl)(B:BO b=false:=by rfl) :
  QI X (.Tuple es kk tpos) (.Call (.Name "zip" p) [a,b] [] pos) (pb K t):=by
 subst M;refine⟨?_⟩;intro pins s U H R I h;refine Call_ (Ct I L hm pU (PyProof.Rows.callWith_type1 (thn (ha.h pos pins s U H _ I h) fun us s1 ⟨vs,H1,I1,F,q1⟩=>?_) (by rw[DZ Z,DZ B]) (by rw[DZ B];rfl)));obtain⟨b1,b2,l1,l2,xs,ys,e,J,O,q⟩:=q1;subst e;obtain⟨u,v,rfl,Y,rv⟩:=F.two;cases Y;cases rv;exact dS I1 J O q
end
section
variable{K:W.Frag}{U:St}{H:Hp}{D:DQ}
theorem lG{ta:TA}{R:It->Hp->Prop}(h:ta U H fun vs H1=>dU K vs H1 R):pb K ta U H R:=h
theorem gO{b1 b2:Bool}{l1 l2:Addr}{xs ys:List V}{R:It->Hp->Prop}(h1:BR b1 K H l1 xs)(h2:BR b2 K H l2 ys)(h:R (gK K b1 l1 b2 l2) H):dU K [.ref l1,.ref l2] H R:=⟨b1,b2,l1,l2,xs,ys,rfl,h1,h2,h⟩
theorem uo{b1 b2:Bool}{l1 l2:Addr}{xs ys:List V}{g:TG}{tb:TS}(n:Nat)(hn:n=min xs.length ys.length)(Pv:Nat->St->Hp->Prop)(h0:Pv 0 U H)(hl:∀i U H,Pv i U H->BR b1 K H l1 xs/\BR b2 K H l2 ys)
  (hs:∀i U H T H2 a b,i<n->Pv i U H->xs[i]? = some a->ys[i]? = some b->H T=none->H2 T=some (.tup [a,b])->ET H H2->g (.ref T) U H2 fun U2 H3=>tb { D with nx:=Pv (i+1),ct:=Pv (i+1),bk:=D.nx } U2 H3)
  (Y:∀U H,Pv n U H->D.nx U H):rFor (gK K b1 l1 b2 l2) g tb D U H:=by
 refine⟨fun i m U H=>m=n-i/\i<=n/\Pv i U H,⟨n,by simp,UX _,h0⟩,?_⟩;rintro i m U H ⟨rfl,hi,p⟩;obtain⟨J,F⟩:=hl i U H p;by_cases B:i<n
 ·refine .inr ⟨⟨xs,ys,J,F,by omega,by omega⟩,Pv (i+1),fun U' H' Z=>⟨n-(i+1),by omega,rfl,B,Z⟩,?_⟩;rintro x H' ⟨T,a,b,L,rfl,rfl,M,O⟩;exact hs i U H T _ a b B p (M _ J) (O _ F) L EW (ET.new L)
 ·have e:i=n:=by omega
  subst e;exact .inl ⟨⟨xs,ys,J,F,by omega⟩,Y U H p⟩
end
section
variable{X:Cx}
def iN(K:W.Frag):List V->Hp->VK->Prop:=fun xs H Q=>∃(p:Addr) (ns:List Int),xs=[.ref p]/\Eh K H p (ns.map V.int)/\ns≠[]/\∀m,m∈ns->(∀n∈ns,m<=n)->Q (.int m) H
def iO(K:W.Frag):List V->Hp->VK->Prop:=fun xs H Q=>∃(p:Addr) (ns:List Int),xs=[.ref p]/\Eh K H p (ns.map V.int)/\ns≠[]/\∀m,m∈ns->(∀n∈ns,n<=m)->Q (.int m) H
theorem Ig:∀ {ns:List Int} {its:List Value},Em (ns.map V.int) its->∀ {i:Nat} {v:Value},its[i]? = some v->∃t,v=.int (ns.getD i 0) t
 | [],_,.nil,i,v,e=>by simp at e
 |n::ns,_,.cons ⟨t,r⟩ h,0,v,e=>by simp at e;subst e;exact⟨t,r⟩
 |n::ns,_,.cons _ h,i+1,v,e=>by
  obtain⟨t,r⟩:=Ig h (i:=i) (v:=v) (by simpa using e);exact⟨t,by simpa using r⟩
theorem lH(K:W.Frag)(hK:X.K=K)(hc:X.calm=true):Gr X (.builtin "min") (iN K):=by
 subst hK;intro pins s U H xs us Q I r h;obtain⟨p,F,rfl,hS,M,q⟩:=h;obtain⟨u,rfl,ru⟩:=r.one;cases ru;obtain⟨B,Y,pl,_⟩:=I.list hS;have a1:B.length=F.length:=by have:=Y.length;simpa using this.symm
 have a0:0<F.length:=Vt.mpr M;have O:s.heap.IsList p B.toArray:=pl.isList;have J:p<s.heap.objs.size:=by obtain⟨_,e,_⟩:=O;exact Uo e
 refine call_min_walk (wpAny_pyIter_list O ⟨_,_,_,_,_,_,_,rfl,Walks.list (A:=X.A.in1) (I.ok.hd hc) _ p (Ut J) B.toArray,⟨⟨_,Ul _ rfl,rfl,rfl⟩,O.push _⟩,fun b hb=>?_,by rw[Uw];omega,
  CmpOf.ints_lt (fun i=>F.getD i 0) (fun i v e=>Ig Y (by simpa using e)),fun v h' tk hP hk=>?_⟩)
 ·rw[UZ];simp only[Ud,Us,or_false] at hb;rcases hb with rfl|rfl
  ·exact Nat.lt_succ_self _
  ·exact Vo J
 ·have Z:B[argBest (fun i j=>decide (F.getD i 0<F.getD j 0)) (B.length-1)]? = some v:=by simpa using hP
  obtain⟨t,rfl⟩:=Ig Y Z;obtain⟨h1,h2⟩:=argBest_lt (fun i=>F.getD i 0) (B.toArray.size-1);rw[Uw] at h1 h2;generalize hb:argBest (fun i j=>decide (F.getD i 0<F.getD j 0)) (B.length-1)=b at *;have L:b<F.length:=by omega
  refine⟨.int (F.getD b 0),H,I.kept (t':=tk) fun c o e=>hk c o ?_ (Uc _ e),⟨t,rfl⟩,q _ ?_ fun n hn=>?_⟩
  ·intro z;simp at z;exact Ut (Uo e) z
  ·have:F.getD b 0=F[b]:=by simp[L]
   rw[this];exact Vg L
  ·obtain⟨j,hj,e⟩:=UQ hn;have:=h2 j (by omega);have e2:F.getD j 0=n:=by simp[hj,e]
   rw[e2] at this;exact this
theorem lI(K:W.Frag)(hK:X.K=K)(hc:X.calm=true):Gr X (.builtin "max") (iO K):=by
 subst hK;intro pins s U H xs us Q I r h;obtain⟨p,F,rfl,hS,M,q⟩:=h;obtain⟨u,rfl,ru⟩:=r.one;cases ru;obtain⟨B,Y,pl,_⟩:=I.list hS;have a1:B.length=F.length:=by have:=Y.length;simpa using this.symm
 have a0:0<F.length:=Vt.mpr M;have O:s.heap.IsList p B.toArray:=pl.isList;have J:p<s.heap.objs.size:=by obtain⟨_,e,_⟩:=O;exact Uo e
 refine call_max_walk (wpAny_pyIter_list O ⟨_,_,_,_,_,_,_,rfl,Walks.list (A:=X.A.in1) (I.ok.hd hc) _ p (Ut J) B.toArray,⟨⟨_,Ul _ rfl,rfl,rfl⟩,O.push _⟩,fun b hb=>?_,by rw[Uw];omega,
  CmpOf.ints_gt (fun i=>F.getD i 0) (fun i v e=>Ig Y (by simpa using e)),fun v h' tk hP hk=>?_⟩)
 ·rw[UZ];simp only[Ud,Us,or_false] at hb;rcases hb with rfl|rfl
  ·exact Nat.lt_succ_self _
  ·exact Vo J
 ·have Z:B[argBest (fun i j=>decide (F.getD i 0>F.getD j 0)) (B.length-1)]? = some v:=by simpa using hP
  obtain⟨t,rfl⟩:=Ig Y Z;obtain⟨h1,h2⟩:=argBest_gt (fun i=>F.getD i 0) (B.toArray.size-1);rw[Uw] at h1 h2;generalize hb:argBest (fun i j=>decide (F.getD i 0>F.getD j 0)) (B.length-1)=b at *;have L:b<F.length:=by omega
  refine⟨.int (F.getD b 0),H,I.kept (t':=tk) fun c o e=>hk c o ?_ (Uc _ e),⟨t,rfl⟩,q _ ?_ fun n hn=>?_⟩
  ·intro z;simp at z;exact Ut (Uo e) z
  ·have:F.getD b 0=F[b]:=by simp[L]
   rw[this];exact Vg L
  ·obtain⟨j,hj,e⟩:=UQ hn;have:=h2 j (by omega);have e2:F.getD j 0=n:=by simp[hj,e]
   rw[e2] at this;exact this
theorem lJ{K:W.Frag}{H:Hp}{Q:VK}{p:Addr}{B:List Int}(h1:Eh K H p (B.map V.int))(h2:B≠[])(h:∀m,m∈B->(∀n∈B,m<=n)->Q (.int m) H):iN K [.ref p] H Q:=⟨p,B,rfl,h1,h2,h⟩
theorem lK{K:W.Frag}{H:Hp}{Q:VK}{p:Addr}{B:List Int}(h1:Eh K H p (B.map V.int))(h2:B≠[])(h:∀m,m∈B->(∀n∈B,n<=m)->Q (.int m) H):iO K [.ref p] H Q:=⟨p,B,rfl,h1,h2,h⟩
end
def Bn(n:Nat)(x:Int):Prop:=x.natAbs<2 ^ n
theorem Bn.mono{m n:Nat}{x:Int}(h:Bn m x)(hm:m<=n):Bn n x:=Uh h (Nat.pow_le_pow_right (by decide) hm)
theorem Bn.mul{m n:Nat}{x y:Int}(h:Bn m x)(g:Bn n y):Bn (m+n) (x*y):=by
 unfold Bn at *;rw[Int.natAbs_mul,Nat.pow_add];exact Nat.mul_lt_mul'' h g
theorem Bn.add{n:Nat}{x y:Int}(h:Bn n x)(g:Bn n y):Bn (n+1) (x+y):=by
 unfold Bn at *;have:=Int.natAbs_add_le x y;rw[Nat.pow_succ];omega
theorem Bn.sub{n:Nat}{x y:Int}(h:Bn n x)(g:Bn n y):Bn (n+1) (x-y):=by
 unfold Bn at *;have:=Int.natAbs_sub_le x y;rw[Nat.pow_succ];omega
theorem Bn.lt{n:Nat}{x:Int}(h:Bn n x):-(2 ^ n)<x/\x<2 ^ n:=by
 have e:((2 ^ n:Nat):Int)=(2:Int) ^ n:=by simp
 have:(x.natAbs:Int)<((2 ^ n:Nat):Int):=Int.ofNat_lt.mpr h;rw[e] at this;omega
theorem FN{m n:Nat}{x y:Int}(h:Bn m x)(g:Bn n y)(hm:m+n<=8000):IntMulOk x y:=by
 have h1:Builtin.Int.intBits x<=m:=intBits_le h;have h2:Builtin.Int.intBits y<=n:=intBits_le g;unfold IntMulOk
 have:Builtin.Int.intTooBig ((Builtin.Int.intBits x:Int)+(Builtin.Int.intBits y:Int))=false:=by
  unfold Builtin.Int.intTooBig;refine decide_eq_false ?_;have B:(8000:Int)<=bitsLine:=by decide
  omega
 rw[this];simp
theorem Bn.divB{n:Nat}{i j:Int}(h:Bn n j)(h0:0<j)(B:n<=8000):Hm i j:=Hm.of h0 h.lt.2 (by omega)
inductive Br (H:Hp):V->Option (Int×Int)->Prop where
 |non:Br H .non Option.none
 |pr {c:Addr} {p:Int×Int} (e:H c=Option.some (.tup [.int p.1,.int p.2])):Br H (.ref c) (Option.some p)
theorem Br.same{H H':Hp}{v:V}{o:Option (Int×Int)}(h:Br H v o)(s:ET H H'):Br H' v o:=by
 cases h with
 |non=>exact .non
 |pr e=>exact .pr (s _ _ e)
theorem Br.kpL{H H':Hp}{l:Addr}{xs:List V}{v:V}{o:Option (Int×Int)}(h:Br H v o)(k:Kp l H H')(B:H l=Option.some (.lst xs)):Br H' v o:=by
 cases h with
 |non=>exact .non
 |pr e=>exact .pr (k _ _ e (fun z=>by subst z;rw[B] at e;cases e))
inductive Dv (H:Hp):List V->List (Option (Int×Int))->Prop where
 |nil:Dv H [] []
 |cons {v:V} {o:Option (Int×Int)} {vs:List V} {os:List (Option (Int×Int))} (h:Br H v o) (t:Dv H vs os):Dv H (v::vs) (o::os)
theorem Dv.mapP{H H':Hp}(f:∀v o,Br H v o->Br H' v o):∀ {vs:List V} {os:List (Option (Int×Int))},Dv H vs os->Dv H' vs os
 |_,_,.nil=>.nil
 |_,_,.cons h t=>.cons (f _ _ h) (Dv.mapP f t)
theorem Dv.same{H H':Hp}{vs:List V}{B:List (Option (Int×Int))}(h:Dv H vs B)(s:ET H H'):Dv H' vs B:=h.mapP fun _ _ d=>d.same s
theorem Dv.len{H:Hp}:∀ {vs:List V} {os:List (Option (Int×Int))},Dv H vs os->vs.length=os.length
 |_,_,.nil=>rfl
 |_,_,.cons _ t=>by simp[Dv.len t]
theorem Dv.snoc{H:Hp}:∀ {vs:List V} {os:List (Option (Int×Int))},Dv H vs os->∀ {v:V} {o:Option (Int×Int)},Br H v o->Dv H (vs ++ [v]) (os ++ [o])
 |_,_,.nil,_,_,d=>.cons d .nil
 |_,_,.cons h t,_,_,d=>.cons h (Dv.snoc t d)
theorem Dv.at{H:Hp}:∀ {vs:List V} {os:List (Option (Int×Int))},Dv H vs os->∀ {i:Nat} {v:V},vs[i]? = Option.some v->∃o,os[i]? = Option.some o/\Br H v o
 |_,_,.nil,i,v,e=>by simp at e
 |_,_,.cons h t,0,v,e=>by simp at e;subst e;exact⟨_,rfl,h⟩
 |_,_,.cons _ t,i+1,v,e=>by
  obtain⟨o,h1,h2⟩:=Dv.at t (by simpa using e);exact⟨o,by simpa using h1,h2⟩
section
variable{X:Cx}
def jh:V->List V->Hp->VK->Prop:=fun x vs H Q=>∃l b xs zs,x=.ref l/\vs=[.ref b]/\H l=some (.lst xs)/\H b=some (.tup zs)/\(∀i:Int,zs.head? ≠ some (.int i))/\xs.length+zs.length<=sizeLine/\Q .non (upd H l (.lst (xs++zs)))
theorem vp:oH X "list.extend" jh:=by
 intro pins s U H x vs v us Q I rx rv h;obtain⟨l,b,xs,zs,rfl,rfl,hH,hB,hh,hz,q⟩:=h;cases rx;obtain⟨u,rfl,ru⟩:=rv.one;cases ru;obtain⟨z,J,n,r,hl,e⟩:=I.lstM hH;obtain⟨⟨_,a0⟩,B,r2,ht⟩:=(show Gj X.prog X.w H s.heap b (.tup zs) from I.hok b _ hB);obtain⟨od,Y,hd,O⟩:=a0 hh;obtain⟨ob,Z,hc,n2,L⟩:=ht;rw[Y] at Z;cases Z;have a1:=r2.length
 have e2:s.heap.get? b=some { cls:=.type "tuple",dict:=none,data:=.seq B.toArray n2,slots:=#[] }:=by
  rw[Y];obtain⟨c,d,dt,sl⟩:=od;simp only at hc hd L O;subst hc hd L O;rfl
 have hsz:J.toArray.size+B.toArray.size<=sizeLine:=by rw[Uw,Uw];omega
 have M:¬(!J.toArray.isEmpty&&Builtin.List.listTooLong (J.toArray.size+B.toArray.size))=true:=by
  rw[cU hsz,Bool.and_false];exact UA
 refine call_meets F.slot_list_extend ⟨_,e,rfl⟩ F.entry_list_extend (F.args_list_extend_2 _ _)
  (AutoSeq1.list_extend_list_tuple_0 l J.toArray n b B.toArray n2 M (by rw[Uw];omega) (by omega)) ⟨e,e2,?_⟩
 refine⟨.non,_,I.lset (its':=J++B) hH e (by simp) (r.append r2) ?_,rfl,q⟩;rw[UD];omega
theorem vq{H:Hp}{Q:VK}{l b:Addr}{xs zs:List V}(h1:H l=some (.lst xs))(h2:H b=some (.tup zs))(B:∀i:Int,zs.head? ≠ some (.int i))(hz:xs.length+zs.length<=sizeLine)(h:∀H2,H2 l=some (.lst (xs++zs))->Kp l H H2->Q .non H2):jh (.ref l) [.ref b] H Q:=
 ⟨l,b,xs,zs,rfl,rfl,h1,h2,B,hz,h _ EW Kp.upd⟩
end
inductive GR (H:Hp):V->Option (PL)->Prop where
 |non:GR H .non Option.none
 |pr {c:Addr} {qs:PL} (h:Db H c qs) (hl:qs.length=4):GR H (.ref c) (Option.some qs)
theorem GR.same{H H':Hp}{v:V}{o:Option (PL)}(h:GR H v o)(s:ET H H'):GR H' v o:=by
 cases h with
 |non=>exact .non
 |pr e hl=>exact .pr (e.same s) hl
theorem GR.kpL{H H':Hp}{l:Addr}{xs:List V}{v:V}{o:Option (PL)}(h:GR H v o)(k:Kp l H H')(B:H l=Option.some (.lst xs)):GR H' v o:=by
 cases h with
 |non=>exact .non
 |pr e hn=>exact .pr (e.kpL k B) hn
inductive GT (H:Hp):List V->List (Option (PL))->Prop where
 |nil:GT H [] []
 |cons {v:V} {o:Option (PL)} {vs:List V} {os:List (Option (PL))} (h:GR H v o) (t:GT H vs os):GT H (v::vs) (o::os)
theorem GT.mapP{H H':Hp}(f:∀v o,GR H v o->GR H' v o):∀ {vs:List V} {os:List (Option (PL))},GT H vs os->GT H' vs os
 |_,_,.nil=>.nil
 |_,_,.cons h t=>.cons (f _ _ h) (GT.mapP f t)
theorem GT.same{H H':Hp}{vs:List V}{B:List (Option (PL))}(h:GT H vs B)(s:ET H H'):GT H' vs B:=h.mapP fun _ _ d=>d.same s
theorem GT.len{H:Hp}:∀ {vs:List V} {os:List (Option (PL))},GT H vs os->vs.length=os.length
 |_,_,.nil=>rfl
 |_,_,.cons _ t=>by simp[GT.len t]
theorem GT.snoc{H:Hp}:∀ {vs:List V} {os:List (Option (PL))},GT H vs os->∀ {v:V} {o:Option (PL)},GR H v o->GT H (vs ++ [v]) (os ++ [o])
 |_,_,.nil,_,_,d=>.cons d .nil
 |_,_,.cons h t,_,_,d=>.cons h (GT.snoc t d)
theorem GT.at{H:Hp}:∀ {vs:List V} {os:List (Option (PL))},GT H vs os->∀ {i:Nat} {v:V},vs[i]? = Option.some v->∃o,os[i]? = Option.some o/\GR H v o
 |_,_,.nil,i,v,e=>by simp at e
 |_,_,.cons h t,0,v,e=>by simp at e;subst e;exact⟨_,rfl,h⟩
 |_,_,.cons _ t,i+1,v,e=>by
  obtain⟨o,h1,h2⟩:=GT.at t (by simpa using e);exact⟨o,by simpa using h1,h2⟩
def DW:Option (PL)->PyData
 |none=>.none
 |some qs=>.tuple (qs.map DN)
theorem GT.dats{K:W.Frag}{H:Hp}{vs:List V}{B:List (Option (PL))}(h:GT H vs B):BY K H vs (B.map DW):=by
 induction h with
 |nil=>exact .nil
 |cons h t ih=>
  cases h with
  |non=>exact .cons .non ih
  |pr g _=>
   obtain⟨us,g,p⟩:=g;exact .cons (.tup (GF.of g) p.dats) ih
section
variable{X:Cx}
mutual
theorem Bz.same{K:W.Frag}{H H':Hp}(s:ET H H'):∀ {x:V} {d:PyData},Bz K H x d->Bz K H' x d
 |_,_,.non=>.non
 |_,_,.bl b=>.bl b
 |_,_,.int i=>.int i
 |_,_,.str x=>.str x
 |_,_,.tup h r=>.tup (s.seqT h) (BY.same s r)
 |_,_,.lst h r=>.lst (s.seq h) (BY.same s r)
theorem BY.same{K:W.Frag}{H H':Hp}(s:ET H H'):∀ {x:List V} {d:List PyData},BY K H x d->BY K H' x d
 |_,_,.nil=>.nil
 |_,_,.cons h r=>.cons (Bz.same s h) (BY.same s r)
end
end
section
variable{X:Cx}{pins:List (Addr×Obj)}{U:St}{H:Hp}{s:Shared}
theorem zm{h':Heap}{a:Addr}(I:Inv X pins U H s)(k:∀b o,s.heap.get? b=some o->h'.get? b=some o)(F:s.heap.objs.size<=a) :
  ∀ {us:List V} {m:PL} {B:List Value},EZ H us m->Em us B->Ba h' a B m
 |_,_,_,.nil,.nil=>.nil
 |_,_,_,.cons (b:=p) ⟨b,e,z⟩ t,.cons r q=>by
  subst e;cases r;obtain⟨B,M,Z,_⟩:=I.tuple (GF.of z);obtain⟨o,J,hc,n,hd⟩:=Z;have O:b<s.heap.objs.size:=Uo J;obtain⟨u1,u2,e2,L,r2⟩:=M.two;obtain⟨t1,rfl⟩:=L;obtain⟨Y,rfl⟩:=r2;subst e2;exact .cons ⟨b,t1,Y,rfl,fun z=>Vj _ (Uh (z ▸ O) F),o,k _ _ J,hc,n,hd⟩ (zm I k F t q)
end
section
variable{prog:Program}{w:World}{A:Around}{E:Value->Shared->Prop}{s:Shared}
theorem qY{l:Addr}{vs:List Value}{m:PL}{Q:Value->Shared->Prop}(Z:s.heap.IsList l vs.toArray)
  (L:∀h' a,(∀b o,s.heap.get? b=some o->h'.get? b=some o)->s.heap.objs.size<=a->Ba h' a vs m) (M:m.Nodup) (J:vs.length<64)
  (h:∀(B:List Nat),B.Perm (UM vs.length)->(B.map fun i=>m.getD i (0,0)).Pairwise (fun p q=>Ag p q=true)->Q (.ref (s.heap.objs.size+1)) { s with heap:=sortedAll s.heap vs (B.map fun i=>vs.getD i Value.none).toArray }) :
  wpAny (model prog w) A (call (.builtin "sorted") [.ref l]) Q E s:=by
 refine Calls.call_function_entry kind_sorted plain_sorted entry_sorted (args_sorted1 _) ?_;unfold Builtin.«sorted»;refine Ua (m:=checkCount "sorted" 1 1 _) (Uj ?_);refine Ua (collect_list Z ?_ (by rw[sizeLine_eq];omega));refine Ua (wpAny_newList ?_ (by rw[sizeLine_eq];omega))
 have hsz:((s.heap.push (seqObj "list" #[] 0)).update s.heap.objs.size (Obj.mapSeq (· ++ vs.toArray))).objs.size=s.heap.objs.size+1:=by
  rw[Heap.size_update,size_push']
 have F:(((s.heap.push (seqObj "list" #[] 0)).update s.heap.objs.size (Obj.mapSeq (· ++ vs.toArray))).push (seqObj "list" vs.toArray 0)).get? (s.heap.objs.size+1)=some (seqObj "list" vs.toArray 0):=by
  rw[<- hsz];exact Ul _ rfl
 show wpAny _ _ _ _ _ { s with heap:=((s.heap.push (seqObj "list" #[] 0)).update s.heap.objs.size (Obj.mapSeq (· ++ vs.toArray))).push (seqObj "list" vs.toArray 0) };rw[hsz]
 have kp:∀b o,s.heap.get? b=some o->(((s.heap.push (seqObj "list" #[] 0)).update s.heap.objs.size (Obj.mapSeq (· ++ vs.toArray))).push (seqObj "list" vs.toArray 0)).get? b=some o:=fun b o e=>
  Uc _ ((UE _ _ (Ne.symm (Ut (Uo e)))).trans (Uc _ e))
 refine Ua (UO (wpAny_call_entry slot_list_sort ⟨_,F,rfl⟩ entry_list_sort (Ht (s:={ s with heap:=((s.heap.push (seqObj "list" #[] 0)).update s.heap.objs.size (Obj.mapSeq (· ++ vs.toArray))).push (seqObj "list" vs.toArray 0) }) F (L _ _ kp (Vl _)) M J fun B Y O=>⟨_,rfl,?_⟩) (args_list_sort _)));exact Uj ⟨_,rfl,h B Y O⟩
end
theorem lL:∀ {us:List V} {B:List Value},Em us B->∀(F:List Nat),(∀i∈F,i<us.length)->Em (F.map fun i=>us.getD i .non) (F.map fun i=>B.getD i Value.none):=by
 intro us B O F
 induction F with
 |nil=>intro _;exact .nil
 |cons i F ih=>
  intro h;have hi:=h i (UB ..);obtain⟨u,Y,Z⟩:=O.get (Ub hi);have J:us.getD i .non=us[i]:=by simp[hi]
  have L:B.getD i Value.none=u:=by simp[Y]
  refine .cons ?_ (ih fun j M=>h j (Uf _ M));show El (us.getD i .non) (B.getD i Value.none);rw[J,L];exact Z
theorem dW{H:Hp}{us:List V}{m:PL}(Y:EZ H us m):∀(B:List Nat),(∀i∈B,i<us.length)->EZ H (B.map fun i=>us.getD i .non) (B.map fun i=>m.getD i (0,0)):=by
 intro B
 induction B with
 |nil=>intro _;exact .nil
 |cons i B ih=>
  intro h;have hi:=h i (UB ..);obtain⟨c,p,e,L,O⟩:=Y.at (Ub hi);have F:us.getD i .non=us[i]:=by simp[hi]
  have M:m.getD i (0,0)=p:=by simp[L]
  refine .cons ⟨c,?_,?_⟩ (ih fun j J=>h j (Uf _ J))
  ·show us.getD i .non=_;rw[F,e]
  ·show H c=some (.tup [.int (m.getD i (0,0)).1,.int (m.getD i (0,0)).2]);rw[M];exact O
def ji(K:W.Frag):List V->Hp->VK->Prop:=fun xs H Q=>∃(p:Addr) (us:List V) (m:PL),xs=[.ref p]/\Eh K H p us/\EZ H us m/\m.Nodup/\m.length<64/\
 ∀(l:Addr) (us':List V) (m':PL),H l=none->EZ H us' m'->m'.Perm m->m'.Pairwise (fun p q=>Ag p q=true)->Q (.ref l) (upd H l (.lst us'))
theorem vt{X:Cx}(K:W.Frag)(hK:X.K=K):Gr X (.builtin "sorted") (ji K):=by
 subst hK;intro pins s U H xs us Q I r h;obtain⟨p,vs,m,rfl,hS,Z,hn,a0,q⟩:=h;obtain⟨u,rfl,ru⟩:=r.one;cases ru;obtain⟨B,Y,pl,hz⟩:=I.list hS;have J:vs.length=m.length:=Z.length;have O:=Y.length;refine qY (vs:=B) pl.isList (fun h' a k ha=>zm I k ha Z Y) hn (by omega) fun F M a2=>?_
 have L:∀i∈F,i<vs.length:=fun i hi=>by
  have:=List.mem_range.mp (M.mem_iff.mp hi);omega
 obtain⟨e,he⟩:=sortedAll_at s.heap B (F.map fun i=>B.getD i Value.none).toArray;refine⟨.ref (s.heap.objs.size+1),upd H (s.heap.objs.size+1) (.lst (F.map fun i=>vs.getD i .non)),I.laid (t':=s.toks) (fun b o e=>sortedAll_old e) (Vl _) ?_,rfl,q _ _ (F.map fun i=>m.getD i (0,0)) (I.hok.fresh (Vl _)) (dW Z F L) (zk (by rw[<- J,O];exact M)) a2⟩;refine⟨?_,_,e,lL Y F L,he⟩;have:=M.length_eq;rw[Ug,this,Ve,sizeLine_eq];omega
theorem vv{K:W.Frag}{H:Hp}{Q:VK}{p:Addr}{us:List V}{m:PL}(h1:Eh K H p us)(h2:EZ H us m)(O:m.Nodup)(F:m.length<64)
  (h:∀l B m' H2,H l=none->H2 l=some (.lst B)->EZ H2 B m'->m'.Perm m->m'.Pairwise (fun p q=>Ag p q=true)->ET H H2->Q (.ref l) H2):ji K [.ref p] H Q:=
 ⟨p,us,m,rfl,h1,h2,O,F,fun l B m' n L M J=>h l B m' _ n EW (L.same (ET.new n)) M J (ET.new n)⟩
section
variable{X:Cx}{k:Nat}{f:Addr}{fd:FuncData}{ps:List Str}{sp:Sp}
theorem Lp{pins:List (Addr×Obj)}{U:St}{H:Hp}{s:Shared}{Q:VK}{us:List Value}{vs:List V}{E1:Value->Shared->Prop}(F:Ec X.prog X.w X.K X.mg X.base Ew k f fd ps sp)(L:Room k X.A.in1)(J:EX X.K fd ps [])
  (I:Inv X pins U H s) (r:Em vs us) (h:sp vs H Q E0):wpAny (model X.prog X.w) X.A.in1 (call (.ref f) us) (EP X pins U Q) E1 s:=by
 have M:(us ++ []).length=ps.length:=by rw[UF,<- r.length];exact F.len _ _ _ _ h
 refine wpAny_call (codeAny_mono (F.run X.A.in1 X.stack s H ⟨us,[]⟩ (us ++ []) vs Q E0 L I.env0.in1 (J s us I.kIn M) (by rw[UF];exact r) h) fun r s' B=>?_)
 cases r with
 |error e=>exact False.elim B
 |ok fl=>
  cases fl with
  |ret u=>exact I.after B
  |next=>exact False.elim B
  |brk=>exact False.elim B
  |cont=>exact False.elim B
theorem Inv.pin2{pins:List (Addr×Obj)}{U:St}{H:Hp}{s:Shared}{a b:Addr}{J ob:Obj}(I:Inv X pins U H s)(fa:BG X pins H a)(F:BG X pins H b)(O:s.heap.get? a=some J)(Y:s.heap.get? b=some ob)(M:∀v,J.data≠.cell v)(L:∀v,ob.data≠.cell v) :
  Inv X ((a,J)::(b,ob)::pins) U H s:=I.pins_of fun p B=>by
 rcases Ud.mp B with rfl|B
 ·exact⟨O,fa.1,fa.2.1,fa.2.2.1,M⟩
 ·rcases Ud.mp B with rfl|B
  ·exact⟨Y,F.1,F.2.1,F.2.2.1,L⟩
  ·exact I.pin p (Uv _ B)
theorem Inv.unpin2{pins:List (Addr×Obj)}{U:St}{H:Hp}{s:Shared}{a b:Addr}{B ob:Obj}(I:Inv X ((a,B)::(b,ob)::pins) U H s):s.heap.get? a=some B/\s.heap.get? b=some ob/\Inv X pins U H s:=
 ⟨(I.pin (a,B) (Uv _ (.head _))).1,(I.pin (b,ob) (Uv _ (.tail _ (.head _)))).1,I.pins_of fun p F=>I.pin p (Uv _ (.tail _ (.tail _ F)))⟩
theorem Inv.turnedAt{pins:List (Addr×Obj)}{U:St}{H:Hp}{s:Shared}{h':Heap}{t':Nat}{B:Addr}(I:Inv X pins U H s)(fa:BG X pins H B)(k:∀b o,b≠B->s.heap.get? b=some o->h'.get? b=some o):Inv X pins U H { s with heap:=h',toks:=t' }:=by
 obtain⟨L,J,Y,F,M,O⟩:=fa;exact I.turned k L J F M O
theorem qZ{pins:List (Addr×Obj)}{U:St}{H:Hp}(hc:X.calm=true)(F:Ec X.prog X.w X.K X.mg X.base Ew k f fd ps sp)(hr:Room k X.A.in1)(Y:EX X.K fd ps []){l I S:Addr}{us:List V}(B:Nat->Int)(a2:S≠I)(hS:GF X.K H l us)
  (fI:BG X pins H I) (fS:BG X pins H S) (a9:∀i v,us[i]? = some v->∀Q:VK,Q (.int (B i)) H->sp [v] H Q E0) {R:Result->Shared->Prop}
  (hR:∀i v u s',us[i]? = some v->El v u->(∀j,j<us.length->B i<=B j/\(j<i->B i<B j))->Inv X pins U H s'->R (.ok (.ret u)) s') :
  ∀(r j i:Nat) (s:Shared) (v:V) (Z:Value) (tb:Tok) (c:Nat),us.length-(j+1)=r->j+1<=us.length->Inv X pins U H s->s.heap.get? S=some (seqObj "list" #[Z,.int (B i) tb] c)->s.heap.IsTupleIter I l (j+1) ->
   us[i]? = some v->El v Z->i<=j->(∀M,M<=j->B i<=B M/\(M<i->B i<B M)) ->
   codeAny (model X.prog X.w) X.A (.builtin "min.loop" ⟨[.ref I,.ref f,.ref S],[]⟩) R s:=by
 have O:(toString "min"++toString ".loop":String)="min.loop":=by decide
 intro r
 induction r with
 |zero=>
  intro j i s v Z tb c c0 hj J nS AC hv rv c1 L;have c6:j+1=us.length:=by omega
  obtain⟨a1,a6,p,hz⟩:=J.tuple hS;have hl:=a6.length;refine codeAny_builtin PySem.F.entry_min_loop ?_;rw[Around.under_plainId PySem.F.plain_min_loop _];show wpAny _ X.A.in1 (seqItems? (.ref S) >>= _) _ _ _;refine Ua (wpAny_seqItems nS rfl ?_);show wpAny _ X.A.in1 (tryCatch (pyNext (.ref I)) _ >>= _) _ _ _;refine Ua (wpAny_tryCatch (wpAny_pyNext_tuple_end (J.ok.hd hc) AC (show s.heap.IsTuple l a1.toArray from p) (by simp;omega) fun h' eb=>?_));have J1:Inv X pins U H { s with heap:=h' }:=J.turnedAt (t':=s.toks) fI fun b o Y e=>eb b o Y e;have a4:h'.get? S=some (seqObj "list" #[Z,.int (B i) tb] c):=eb S _ a2 nS;show wpAny _ X.A.in1 (updateSeq S (fun _=>#[]) >>= _) _ _ _;refine Ua ?_;refine wpAny_updateSeq a4 rfl (Ua (wpAny_letGo (Uj ?_)));exact hR i v Z _ hv rv (fun M b6=>L M (by omega)) (J1.turnedAt (t':=s.toks) fS fun b o Y e=>(UE _ _ (Ne.symm Y)).trans e)
 |succ r ih=>
  intro j i s v Z tb c c0 hj J nS AC hv rv c1 L;have a0:j+1<us.length:=by omega
  obtain⟨a1,a6,p,hz⟩:=J.tuple hS;have hx:us[j+1]? = some us[j+1]:=Ub a0;obtain⟨u,hu,ru⟩:=a6.get hx;refine codeAny_builtin PySem.F.entry_min_loop ?_;rw[Around.under_plainId PySem.F.plain_min_loop _];show wpAny _ X.A.in1 (seqItems? (.ref S) >>= _) _ _ _;refine Ua (wpAny_seqItems nS rfl ?_);show wpAny _ X.A.in1 (tryCatch (pyNext (.ref I)) _ >>= _) _ _ _;refine Ua (wpAny_tryCatch (wpAny_pyNext_tuple_item AC (show s.heap.IsTuple l a1.toArray from p) (x:=u) (by simpa using hu) fun h' c4 sb=>?_));have J1:Inv X pins U H { s with heap:=h' }:=J.turnedAt (t':=s.toks) fI fun b o Y e=>(sb.2 b Y).trans e;have a4:h'.get? S=some (seqObj "list" #[Z,.int (B i) tb] c):=(sb.2 S a2).trans nS;obtain⟨oI,b9,b7,a7⟩:=id c4;have J2:=J1.pin2 (s:={ s with heap:=h' }) fS fI a4 b9 (fun v z=>by cases z) (fun v z=>by rw[a7] at z;cases z);show wpAny _ X.A.in1 (tryCatch (holding [u] (call (.ref f) [u])) _ >>= _) _ _ _;refine Ua (wpAny_tryCatch (UO (UJ (Lp (E1:=fun _ _=>False) F hr Y J2 (.cons ru .nil) (a9 (j+1) _ hx (fun v H'=>v=.int (B (j+1))/\H'=H) ⟨rfl,rfl⟩)) (fun x a5 he=>?_) fun _ _ hF=>hF.elim)));obtain⟨v2,H2,J3,r2,e2,e3⟩:=he;subst e2 e3;obtain⟨t2,rfl⟩:=r2;obtain⟨a3,b8,J4⟩:=J3.unpin2;have b0:a5.heap.IsTupleIter I l (j+1+1):=⟨oI,b8,b7,a7⟩;show wpAny _ X.A.in1 (tryCatch (holding [u,.int (B (j+1)) t2] (richCompare .Lt (.int (B (j+1)) t2) (.int (B i) tb) >>= _)) _ >>= _) _ _ _;refine Ua (wpAny_tryCatch (UO (Ua (CmpOf.ints_lt (prog:=X.prog) (w:=X.w) (A:=X.A.in1) (P:=fun i v=>∃t,v=.int (B i) t) B (fun i v h=>h) (j+1) i _ _ _ _ _ ⟨t2,rfl⟩ ⟨tb,rfl⟩ ?_))));refine Ua (UO (wpAny_truthy_bool ?_));refine Ua (wpAny_letGo (Uj ?_));by_cases a8:B (j+1)<B i
  ·obtain⟨c2,c5⟩:∃c2,(a5.heap.update S (Obj.mapSeq fun _=>#[u,.int (B (j+1)) t2])).get? S=some (seqObj "list" #[u,.int (B (j+1)) t2] c2):=⟨_,get?_update_seq a3 fun _=>#[u,.int (B (j+1)) t2]⟩;simp only[a8,decide_true,if_true];refine Ua ?_;refine wpAny_updateSeq a3 rfl (Ua (wpAny_letGo ?_));rw[O];refine Uj ⟨plainId_quiet PySem.F.plain_min_loop _,ih (j+1) (j+1) _ _ u t2 c2 (by omega) a0 (J4.turnedAt (t':=a5.toks) fS fun b o Y e=>(UE _ _ (Ne.symm Y)).trans e) c5 ⟨oI,(UE _ _ a2).trans b8,b7,a7⟩ hx ru (Ue _) fun M b6=>?_⟩;by_cases e:M=j+1
   ·subst e;exact⟨by omega,fun _=>by omega⟩
   ·have c3:=L M (by omega);have c7:=c3.1;exact⟨by omega,fun _=>by omega⟩
  ·simp only[a8,decide_false,UW,if_false];refine Ua (wpAny_letGo ?_);rw[O];refine Uj ⟨plainId_quiet PySem.F.plain_min_loop _,ih (j+1) i _ v Z tb c (by omega) a0 J4 a3 b0 hv rv (by omega) fun M b6=>?_⟩;by_cases e:M=j+1
   ·subst e;exact⟨by omega,fun _=>by omega⟩
   ·exact L M (by omega)
theorem qa{pins:List (Addr×Obj)}{U:St}{H:Hp}{s:Shared}{Q:VK}{E1:Value->Shared->Prop}(hc:X.calm=true)(F:Ec X.prog X.w X.K X.mg X.base Ew k f fd ps sp)(hr:Room k X.A.in1)(hb:EX X.K fd ps []){l:Addr}{us:List V}(B:Nat->Int)(J:Inv X pins U H s)(hS:GF X.K H l us)(a9:us≠[])
  (Y:∀i v,us[i]? = some v->∀Q:VK,Q (.int (B i)) H->sp [v] H Q E0) (hQ:∀i v,us[i]? = some v->(∀j,j<us.length->B i<=B j/\(j<i->B i<B j))->Q v H) :
  wpAny (model X.prog X.w) X.A (call (.builtin "min") [.ref l] [(Str.ofString "key",.ref f)]) (EP X pins U Q) E1 s:=by
 have L:(toString "min"++toString ".loop":String)="min.loop":=by decide
 have M:0<us.length:=Vt.mpr a9;obtain⟨a8,c3,p,hz⟩:=J.tuple hS;have b8:s.heap.IsTuple l a8.toArray:=p;refine kmk_tree PySem.F.kind_min PySem.F.plain_min PySem.F.entry_min (kmk_min_key _ _) ?_;show wpAny _ X.A.in1 (Builtin.Builtins.bindParams "min" ["key","default"] 0 ⟨[],[(Str.ofString "key",.ref f)]⟩ >>= _) _ _ s;refine Ua (wpAny_of_eq (show Builtin.Builtins.bindParams "min" ["key","default"] 0 ⟨[],[(Str.ofString "key",.ref f)]⟩=pure [some (.ref f),none] from rfl) ?_);refine Ua (Uj ?_);refine Ua (wpAny_pyIter_tuple b8 ?_);refine Ua (wpAny_newList ?_ (UX _));rw[L];refine Uj ⟨plainId_quiet PySem.F.plain_min_loop _,?_⟩;generalize hO:({ cls:=.type "tuple_iterator",data:=.fields #[.ref l,.int 0 0] }:Obj)=O;have a0:(s.heap.push O).objs.size=s.heap.objs.size+1:=size_push' ..;have Z:(s.heap.push O).objs.size≠s.heap.objs.size:=by rw[a0];exact Nat.ne_of_gt (Nat.lt_succ_self _)
 have gI:((s.heap.push O).push (seqObj "list" #[] 0)).get? s.heap.objs.size=some O:=Uc _ (Ul _ (by rw[<- hO];rfl));have gS:((s.heap.push O).push (seqObj "list" #[] 0)).get? (s.heap.push O).objs.size=some (seqObj "list" #[] 0):=Ul _ rfl;have fI:BG X pins H s.heap.objs.size:=J.fpOk (Ue _) (J.hok.fresh (Ue _));have fS:BG X pins H (s.heap.push O).objs.size:=J.fpOk (by rw[a0];exact Vl _) (J.hok.fresh (by rw[a0];exact Vl _));have J0:Inv X pins U H { s with heap:=(s.heap.push O).push (seqObj "list" #[] 0) }:=J.kept (t':=s.toks) fun b o e=>Uc _ (Uc _ e);obtain⟨a4,a6,p0,c4⟩:=J0.tuple hS;have hx:us[0]? = some us[0]:=Ub M;obtain⟨u,hu,ru⟩:=a6.get hx;refine codeAny_builtin PySem.F.entry_min_loop ?_;rw[Around.under_plainId PySem.F.plain_min_loop _];show wpAny _ X.A.in1 (seqItems? (.ref _) >>= _) _ _ _;refine Ua (wpAny_seqItems gS rfl ?_);show wpAny _ X.A.in1 (tryCatch (pyNext (.ref s.heap.objs.size)) _ >>= _) _ _ _;refine Ua (wpAny_tryCatch (wpAny_pyNext_tuple_item (s:={ s with heap:=(s.heap.push O).push (seqObj "list" #[] 0) }) (i:=0) ⟨O,gI,by rw[<- hO],by rw[<- hO];rfl⟩ (show((s.heap.push O).push (seqObj "list" #[] 0)).IsTuple l a4.toArray from p0) (x:=u) (by simpa using hu) fun h' b7 sb=>?_));have J1:Inv X pins U H { s with heap:=h' }:=J0.turnedAt (t':=s.toks) fI fun b o hb e=>(sb.2 b hb).trans e;have b0:h'.get? (s.heap.push O).objs.size=some (seqObj "list" #[] 0):=(sb.2 _ Z).trans gS;obtain⟨oI,a7,b6,a5⟩:=id b7;have J2:=J1.pin2 (s:={ s with heap:=h' }) fS fI b0 a7 (fun v z=>by cases z) (fun v z=>by rw[a5] at z;cases z);show wpAny _ X.A.in1 (tryCatch (holding [u] (call (.ref f) [u])) _ >>= _) _ _ _;refine Ua (wpAny_tryCatch (UO (UJ (Lp (E1:=fun _ _=>False) F hr hb J2 (.cons ru .nil) (Y 0 _ hx (fun v H'=>v=.int (B 0)/\H'=H) ⟨rfl,rfl⟩)) (fun x a3 he=>?_) fun _ _ hF=>hF.elim)));obtain⟨v2,H2,J3,r2,e2,e3⟩:=he;subst e2 e3;obtain⟨t2,rfl⟩:=r2;obtain⟨a2,b9,J4⟩:=J3.unpin2;obtain⟨c2,c0⟩:∃c2,(a3.heap.update (s.heap.push O).objs.size (Obj.mapSeq fun _=>#[u,.int (B 0) t2])).get? (s.heap.push O).objs.size=some (seqObj "list" #[u,.int (B 0) t2] c2):=⟨_,get?_update_seq a2 fun _=>#[u,.int (B 0) t2]⟩;show wpAny _ X.A.in1 (updateSeq (s.heap.push O).objs.size (fun _=>#[u,.int (B 0) t2]) >>= _) _ _ _;refine Ua ?_;refine wpAny_updateSeq a2 rfl ?_;rw[L];refine Uj ⟨plainId_quiet PySem.F.plain_min_loop _,qZ hc F hr hb B Z hS fI fS Y (fun i v u s' hv rv a1 J'=>⟨v,_,J',rv,hQ i v hv a1⟩) _ 0 0 _ _ u t2 c2 rfl M (J4.turnedAt (t':=a3.toks) fS fun b o hb e=>(UE _ _ (Ne.symm hb)).trans e) c0 ⟨oI,(UE _ _ Z).trans b9,b6,a5⟩ hx ru (Ue _) fun j' c1=>?_⟩;have e:j'=0:=by omega
 subst e;exact⟨by omega,fun h=>absurd h (Vj _)⟩
def WC(K:W.Frag)(sp:Sp)(vs:List V)(H:Hp)(Q:VK):Prop:=∃(l:Addr) (us:List V) (kf:Nat->Int),vs=[.ref l]/\GF K H l us/\us≠[]/\(∀i v,us[i]? = some v->∀Q:VK,Q (.int (kf i)) H->sp [v] H Q E0)/\
 ∀i v,us[i]? = some v->(∀j,j<us.length->kf i<=kf j/\(j<i->kf i<kf j))->Q v H
def jj(K:W.Frag)(sp:Sp)(t:TA):TE:=fun U H Q=>t U H fun vs H1=>WC K sp vs H1 Q
theorem vx{x:Str}{e:Expr}{t:TA}{p kp J pos:Pos}(K:W.Frag)(hK:X.K=K)(hc:X.calm=true)(F:Ec X.prog X.w X.K X.mg X.base Ew k f fd ps sp)(hr:Room (k+1) X.A)(L:Gl X "min")(M:X.mg "min"=none)(hg:Gl X x)(hm:X.mg x=some (.ref f))(hb:EX X.K fd ps [])(ha:QA X [e] t)
  (hs:BO e=false:=by rfl) (hd:(x==("__debug__":Str))=false:=by decide):QE X (.Call (.Name "min" p) [e] [⟨some "key",.Name x kp,J⟩] pos) (jj K sp t):=by
 subst hK;refine⟨?_⟩;intro pins s U H Q I h;refine wpAny_Call_Name_kw (Ct I L M IU ?_ (by decide) (by decide));have B:=DZ (e:=e) (es:=[]) (env:=X.env) hs;refine PyProof.Rows.callWith_kw (thn (ha.h pos pins s U H _ I h) fun us s1 ⟨vs,H1,I1,Z,q1⟩=>PyProof.Rows.kws_cons (Fx I1 hg hm (PyProof.Rows.kws_nil ?_) hd)) (by rw[B];rfl) (by rw[B];rfl);obtain⟨l,ws,kf,O,g1,g2,g3,Y⟩:=q1;subst O;obtain⟨u,rfl,ru⟩:=Z.one;cases ru;exact qa hc F hr.in1 hb kf I1 g1 g2 g3 Y
theorem vy{K:W.Frag}{H:Hp}{Q:VK}{sp:Sp}{l:Addr}{us:List V}(B:Nat->Int)(h1:GF K H l us)(h2:us≠[])(F:∀i v,us[i]? = some v->∀Q:VK,Q (.int (B i)) H->sp [v] H Q E0)
 (h:∀i v,us[i]? = some v->(∀j,j<us.length->B i<=B j/\(j<i->B i<B j))->Q v H):WC K sp [.ref l] H Q:=⟨l,us,B,rfl,h1,h2,F,h⟩
theorem xy{K:W.Frag}{sp:Sp}{t:TA}{U:St}{H:Hp}{Q:VK}(h:t U H fun vs H1=>WC K sp vs H1 Q):jj K sp t U H Q:=h
theorem qb{pins:List (Addr×Obj)}{U:St}{H:Hp}(hc:X.calm=true)(F:Ec X.prog X.w X.K X.mg X.base Ew k f fd ps sp)(hr:Room k X.A.in1)(Y:EX X.K fd ps []){l I S:Addr}{us:List V}(B:Nat->Int)(a2:S≠I)(hS:GF X.K H l us)
  (fI:BG X pins H I) (fS:BG X pins H S) (a9:∀i v,us[i]? = some v->∀Q:VK,Q (.int (B i)) H->sp [v] H Q E0) {R:Result->Shared->Prop}
  (hR:∀i v u s',us[i]? = some v->El v u->(∀j,j<us.length->B i>=B j/\(j<i->B i>B j))->Inv X pins U H s'->R (.ok (.ret u)) s') :
  ∀(r j i:Nat) (s:Shared) (v:V) (Z:Value) (tb:Tok) (c:Nat),us.length-(j+1)=r->j+1<=us.length->Inv X pins U H s->s.heap.get? S=some (seqObj "list" #[Z,.int (B i) tb] c)->s.heap.IsTupleIter I l (j+1) ->
   us[i]? = some v->El v Z->i<=j->(∀M,M<=j->B i>=B M/\(M<i->B i>B M)) ->
   codeAny (model X.prog X.w) X.A (.builtin "max.loop" ⟨[.ref I,.ref f,.ref S],[]⟩) R s:=by
 have O:(toString "max"++toString ".loop":String)="max.loop":=by decide
 intro r
 induction r with
 |zero=>
  intro j i s v Z tb c c0 hj J nS AC hv rv c1 L;have c6:j+1=us.length:=by omega
  obtain⟨a1,a6,p,hz⟩:=J.tuple hS;have hl:=a6.length;refine codeAny_builtin PySem.F.entry_max_loop ?_;rw[Around.under_plainId PySem.F.plain_max_loop _];show wpAny _ X.A.in1 (seqItems? (.ref S) >>= _) _ _ _;refine Ua (wpAny_seqItems nS rfl ?_);show wpAny _ X.A.in1 (tryCatch (pyNext (.ref I)) _ >>= _) _ _ _;refine Ua (wpAny_tryCatch (wpAny_pyNext_tuple_end (J.ok.hd hc) AC (show s.heap.IsTuple l a1.toArray from p) (by simp;omega) fun h' eb=>?_));have J1:Inv X pins U H { s with heap:=h' }:=J.turnedAt (t':=s.toks) fI fun b o Y e=>eb b o Y e;have a4:h'.get? S=some (seqObj "list" #[Z,.int (B i) tb] c):=eb S _ a2 nS;show wpAny _ X.A.in1 (updateSeq S (fun _=>#[]) >>= _) _ _ _;refine Ua ?_;refine wpAny_updateSeq a4 rfl (Ua (wpAny_letGo (Uj ?_)));exact hR i v Z _ hv rv (fun M b6=>L M (by omega)) (J1.turnedAt (t':=s.toks) fS fun b o Y e=>(UE _ _ (Ne.symm Y)).trans e)
 |succ r ih=>
  intro j i s v Z tb c c0 hj J nS AC hv rv c1 L;have a0:j+1<us.length:=by omega
  obtain⟨a1,a6,p,hz⟩:=J.tuple hS;have hx:us[j+1]? = some us[j+1]:=Ub a0;obtain⟨u,hu,ru⟩:=a6.get hx;refine codeAny_builtin PySem.F.entry_max_loop ?_;rw[Around.under_plainId PySem.F.plain_max_loop _];show wpAny _ X.A.in1 (seqItems? (.ref S) >>= _) _ _ _;refine Ua (wpAny_seqItems nS rfl ?_);show wpAny _ X.A.in1 (tryCatch (pyNext (.ref I)) _ >>= _) _ _ _;refine Ua (wpAny_tryCatch (wpAny_pyNext_tuple_item AC (show s.heap.IsTuple l a1.toArray from p) (x:=u) (by simpa using hu) fun h' c4 sb=>?_));have J1:Inv X pins U H { s with heap:=h' }:=J.turnedAt (t':=s.toks) fI fun b o Y e=>(sb.2 b Y).trans e;have a4:h'.get? S=some (seqObj "list" #[Z,.int (B i) tb] c):=(sb.2 S a2).trans nS;obtain⟨oI,b9,b7,a7⟩:=id c4;have J2:=J1.pin2 (s:={ s with heap:=h' }) fS fI a4 b9 (fun v z=>by cases z) (fun v z=>by rw[a7] at z;cases z);show wpAny _ X.A.in1 (tryCatch (holding [u] (call (.ref f) [u])) _ >>= _) _ _ _;refine Ua (wpAny_tryCatch (UO (UJ (Lp (E1:=fun _ _=>False) F hr Y J2 (.cons ru .nil) (a9 (j+1) _ hx (fun v H'=>v=.int (B (j+1))/\H'=H) ⟨rfl,rfl⟩)) (fun x a5 he=>?_) fun _ _ hF=>hF.elim)));obtain⟨v2,H2,J3,r2,e2,e3⟩:=he;subst e2 e3;obtain⟨t2,rfl⟩:=r2;obtain⟨a3,b8,J4⟩:=J3.unpin2;have b0:a5.heap.IsTupleIter I l (j+1+1):=⟨oI,b8,b7,a7⟩;show wpAny _ X.A.in1 (tryCatch (holding [u,.int (B (j+1)) t2] (richCompare .Gt (.int (B (j+1)) t2) (.int (B i) tb) >>= _)) _ >>= _) _ _ _;refine Ua (wpAny_tryCatch (UO (Ua (CmpOf.ints_gt (prog:=X.prog) (w:=X.w) (A:=X.A.in1) (P:=fun i v=>∃t,v=.int (B i) t) B (fun i v h=>h) (j+1) i _ _ _ _ _ ⟨t2,rfl⟩ ⟨tb,rfl⟩ ?_))));refine Ua (UO (wpAny_truthy_bool ?_));refine Ua (wpAny_letGo (Uj ?_));by_cases a8:B (j+1)>B i
  ·obtain⟨c2,c5⟩:∃c2,(a5.heap.update S (Obj.mapSeq fun _=>#[u,.int (B (j+1)) t2])).get? S=some (seqObj "list" #[u,.int (B (j+1)) t2] c2):=⟨_,get?_update_seq a3 fun _=>#[u,.int (B (j+1)) t2]⟩;simp only[a8,decide_true,if_true];refine Ua ?_;refine wpAny_updateSeq a3 rfl (Ua (wpAny_letGo ?_));rw[O];refine Uj ⟨plainId_quiet PySem.F.plain_max_loop _,ih (j+1) (j+1) _ _ u t2 c2 (by omega) a0 (J4.turnedAt (t':=a5.toks) fS fun b o Y e=>(UE _ _ (Ne.symm Y)).trans e) c5 ⟨oI,(UE _ _ a2).trans b8,b7,a7⟩ hx ru (Ue _) fun M b6=>?_⟩;by_cases e:M=j+1
   ·subst e;exact⟨by omega,fun _=>by omega⟩
   ·have c3:=L M (by omega);have c7:=c3.1;exact⟨by omega,fun _=>by omega⟩
  ·simp only[a8,decide_false,UW,if_false];refine Ua (wpAny_letGo ?_);rw[O];refine Uj ⟨plainId_quiet PySem.F.plain_max_loop _,ih (j+1) i _ v Z tb c (by omega) a0 J4 a3 b0 hv rv (by omega) fun M b6=>?_⟩;by_cases e:M=j+1
   ·subst e;exact⟨by omega,fun _=>by omega⟩
   ·exact L M (by omega)
theorem qc{pins:List (Addr×Obj)}{U:St}{H:Hp}{s:Shared}{Q:VK}{E1:Value->Shared->Prop}(hc:X.calm=true)(F:Ec X.prog X.w X.K X.mg X.base Ew k f fd ps sp)(hr:Room k X.A.in1)(hb:EX X.K fd ps []){l:Addr}{us:List V}(B:Nat->Int)(J:Inv X pins U H s)(hS:GF X.K H l us)(a9:us≠[])
  (Y:∀i v,us[i]? = some v->∀Q:VK,Q (.int (B i)) H->sp [v] H Q E0) (hQ:∀i v,us[i]? = some v->(∀j,j<us.length->B i>=B j/\(j<i->B i>B j))->Q v H) :
  wpAny (model X.prog X.w) X.A (call (.builtin "max") [.ref l] [(Str.ofString "key",.ref f)]) (EP X pins U Q) E1 s:=by
 have L:(toString "max"++toString ".loop":String)="max.loop":=by decide
 have M:0<us.length:=Vt.mpr a9;obtain⟨a8,c3,p,hz⟩:=J.tuple hS;have b8:s.heap.IsTuple l a8.toArray:=p;refine kmk_tree PySem.F.kind_max PySem.F.plain_max PySem.F.entry_max (kmk_max_key _ _) ?_;show wpAny _ X.A.in1 (Builtin.Builtins.bindParams "max" ["key","default"] 0 ⟨[],[(Str.ofString "key",.ref f)]⟩ >>= _) _ _ s;refine Ua (wpAny_of_eq (show Builtin.Builtins.bindParams "max" ["key","default"] 0 ⟨[],[(Str.ofString "key",.ref f)]⟩=pure [some (.ref f),none] from rfl) ?_);refine Ua (Uj ?_);refine Ua (wpAny_pyIter_tuple b8 ?_);refine Ua (wpAny_newList ?_ (UX _));rw[L];refine Uj ⟨plainId_quiet PySem.F.plain_max_loop _,?_⟩;generalize hO:({ cls:=.type "tuple_iterator",data:=.fields #[.ref l,.int 0 0] }:Obj)=O;have a0:(s.heap.push O).objs.size=s.heap.objs.size+1:=size_push' ..;have Z:(s.heap.push O).objs.size≠s.heap.objs.size:=by rw[a0];exact Nat.ne_of_gt (Nat.lt_succ_self _)
 have gI:((s.heap.push O).push (seqObj "list" #[] 0)).get? s.heap.objs.size=some O:=Uc _ (Ul _ (by rw[<- hO];rfl));have gS:((s.heap.push O).push (seqObj "list" #[] 0)).get? (s.heap.push O).objs.size=some (seqObj "list" #[] 0):=Ul _ rfl;have fI:BG X pins H s.heap.objs.size:=J.fpOk (Ue _) (J.hok.fresh (Ue _));have fS:BG X pins H (s.heap.push O).objs.size:=J.fpOk (by rw[a0];exact Vl _) (J.hok.fresh (by rw[a0];exact Vl _));have J0:Inv X pins U H { s with heap:=(s.heap.push O).push (seqObj "list" #[] 0) }:=J.kept (t':=s.toks) fun b o e=>Uc _ (Uc _ e);obtain⟨a4,a6,p0,c4⟩:=J0.tuple hS;have hx:us[0]? = some us[0]:=Ub M;obtain⟨u,hu,ru⟩:=a6.get hx;refine codeAny_builtin PySem.F.entry_max_loop ?_;rw[Around.under_plainId PySem.F.plain_max_loop _];show wpAny _ X.A.in1 (seqItems? (.ref _) >>= _) _ _ _;refine Ua (wpAny_seqItems gS rfl ?_);show wpAny _ X.A.in1 (tryCatch (pyNext (.ref s.heap.objs.size)) _ >>= _) _ _ _;refine Ua (wpAny_tryCatch (wpAny_pyNext_tuple_item (s:={ s with heap:=(s.heap.push O).push (seqObj "list" #[] 0) }) (i:=0) ⟨O,gI,by rw[<- hO],by rw[<- hO];rfl⟩ (show((s.heap.push O).push (seqObj "list" #[] 0)).IsTuple l a4.toArray from p0) (x:=u) (by simpa using hu) fun h' b7 sb=>?_));have J1:Inv X pins U H { s with heap:=h' }:=J0.turnedAt (t':=s.toks) fI fun b o hb e=>(sb.2 b hb).trans e;have b0:h'.get? (s.heap.push O).objs.size=some (seqObj "list" #[] 0):=(sb.2 _ Z).trans gS;obtain⟨oI,a7,b6,a5⟩:=id b7;have J2:=J1.pin2 (s:={ s with heap:=h' }) fS fI b0 a7 (fun v z=>by cases z) (fun v z=>by rw[a5] at z;cases z);show wpAny _ X.A.in1 (tryCatch (holding [u] (call (.ref f) [u])) _ >>= _) _ _ _;refine Ua (wpAny_tryCatch (UO (UJ (Lp (E1:=fun _ _=>False) F hr hb J2 (.cons ru .nil) (Y 0 _ hx (fun v H'=>v=.int (B 0)/\H'=H) ⟨rfl,rfl⟩)) (fun x a3 he=>?_) fun _ _ hF=>hF.elim)));obtain⟨v2,H2,J3,r2,e2,e3⟩:=he;subst e2 e3;obtain⟨t2,rfl⟩:=r2;obtain⟨a2,b9,J4⟩:=J3.unpin2;obtain⟨c2,c0⟩:∃c2,(a3.heap.update (s.heap.push O).objs.size (Obj.mapSeq fun _=>#[u,.int (B 0) t2])).get? (s.heap.push O).objs.size=some (seqObj "list" #[u,.int (B 0) t2] c2):=⟨_,get?_update_seq a2 fun _=>#[u,.int (B 0) t2]⟩;show wpAny _ X.A.in1 (updateSeq (s.heap.push O).objs.size (fun _=>#[u,.int (B 0) t2]) >>= _) _ _ _;refine Ua ?_;refine wpAny_updateSeq a2 rfl ?_;rw[L];refine Uj ⟨plainId_quiet PySem.F.plain_max_loop _,qb hc F hr hb B Z hS fI fS Y (fun i v u s' hv rv a1 J'=>⟨v,_,J',rv,hQ i v hv a1⟩) _ 0 0 _ _ u t2 c2 rfl M (J4.turnedAt (t':=a3.toks) fS fun b o hb e=>(UE _ _ (Ne.symm hb)).trans e) c0 ⟨oI,(UE _ _ Z).trans b9,b6,a5⟩ hx ru (Ue _) fun j' c1=>?_⟩;have e:j'=0:=by omega
 subst e;exact⟨by omega,fun h=>absurd h (Vj _)⟩
def WD(K:W.Frag)(sp:Sp)(vs:List V)(H:Hp)(Q:VK):Prop:=∃(l:Addr) (us:List V) (kf:Nat->Int),vs=[.ref l]/\GF K H l us/\us≠[]/\(∀i v,us[i]? = some v->∀Q:VK,Q (.int (kf i)) H->sp [v] H Q E0)/\
 ∀i v,us[i]? = some v->(∀j,j<us.length->kf i>=kf j/\(j<i->kf i>kf j))->Q v H
def jk(K:W.Frag)(sp:Sp)(t:TA):TE:=fun U H Q=>t U H fun vs H1=>WD K sp vs H1 Q
theorem vz{x:Str}{e:Expr}{t:TA}{p kp J pos:Pos}(K:W.Frag)(hK:X.K=K)(hc:X.calm=true)(F:Ec X.prog X.w X.K X.mg X.base Ew k f fd ps sp)(hr:Room (k+1) X.A)(L:Gl X "max")(M:X.mg "max"=none)(hg:Gl X x)(hm:X.mg x=some (.ref f))(hb:EX X.K fd ps [])(ha:QA X [e] t)
  (hs:BO e=false:=by rfl) (hd:(x==("__debug__":Str))=false:=by decide):QE X (.Call (.Name "max" p) [e] [⟨some "key",.Name x kp,J⟩] pos) (jk K sp t):=by
 subst hK;refine⟨?_⟩;intro pins s U H Q I h;refine wpAny_Call_Name_kw (Ct I L M IT ?_ (by decide) (by decide));have B:=DZ (e:=e) (es:=[]) (env:=X.env) hs;refine PyProof.Rows.callWith_kw (thn (ha.h pos pins s U H _ I h) fun us s1 ⟨vs,H1,I1,Z,q1⟩=>PyProof.Rows.kws_cons (Fx I1 hg hm (PyProof.Rows.kws_nil ?_) hd)) (by rw[B];rfl) (by rw[B];rfl);obtain⟨l,ws,kf,O,g1,g2,g3,Y⟩:=q1;subst O;obtain⟨u,rfl,ru⟩:=Z.one;cases ru;exact qc hc F hr.in1 hb kf I1 g1 g2 g3 Y
theorem wA{K:W.Frag}{H:Hp}{Q:VK}{sp:Sp}{l:Addr}{us:List V}(B:Nat->Int)(h1:GF K H l us)(h2:us≠[])(F:∀i v,us[i]? = some v->∀Q:VK,Q (.int (B i)) H->sp [v] H Q E0)
 (h:∀i v,us[i]? = some v->(∀j,j<us.length->B i>=B j/\(j<i->B i>B j))->Q v H):WD K sp [.ref l] H Q:=⟨l,us,B,rfl,h1,h2,F,h⟩
theorem xz{K:W.Frag}{sp:Sp}{t:TA}{U:St}{H:Hp}{Q:VK}(h:t U H fun vs H1=>WD K sp vs H1 Q):jk K sp t U H Q:=h
end
section
variable{X:Cx}{o e value:Expr}{f m:Str}{pos pos' tpos apos:Pos}{ta tv:TE}{t:TA}
def pe(K:W.Frag)(f:Str)(x:V)(H:Hp)(Q:VK):Prop:=∃a C dx fs v,x=.ref a/\H a=some (.ins C dx fs)/\CM K C/\Gp K C f/\fs.lookup f=some v/\Q v H
def iP(K:W.Frag)(f:Str)(y x:V)(H:Hp)(R:Hp->Prop):Prop:=∃a C dx fs,x=.ref a/\H a=some (.ins C dx fs)/\CM K C/\Gp K C f/\fs.length<1000/\R (upd H a (.ins C dx (GP f y fs)))
theorem Eu(K:W.Frag)(B:X.K=K)(J:QE X e ta)(F:attributeBase e f X.env (eval e X.env)=eval e X.env:=by rfl):QE X (.Attribute e f pos) (cI K ta f):=by
 subst B;exact⟨nc J.h F⟩
theorem Dt(K:W.Frag)(B:X.K=K)(F:QE X o ta)(J:QE X value tv)(L:Cg value=false:=by rfl):QS X (.Assign [.Attribute o f pos'] value pos) (cJ K ta tv f):=by
 subst B;exact⟨ng F.h J.h (HF L)⟩
theorem zn(K:W.Frag)(B:X.K=K)(F:QE X o ta)(J:QE X value tv):QS X (.AugAssign (.Attribute o f tpos) .Add value pos) (Xm K ta tv jB f):=by
 subst B;exact⟨ya F.h J.h nh⟩
section
variable{CX:HC}{k:Nat}{fa C:Addr}{fd:FuncData}{ps:List Str}{sp:Sp}{dvs:List V}{ds:List Value}{E:XK}{es:List Expr}{x:Str}{p:Pos}
theorem GQ{pl:Sem Bool}(M:QE X o ta)(c:CM X.K C)(hm:DC X.K C m fa)(F:Ec X.prog X.w X.K X.mg X.base CX k fa fd ps sp)(hr:Room k X.A)(Z:EX X.K fd ps ds)(J:Em dvs ds)(L:BN CX X E)(Y:QA X (e::es) t)(B:DM (e::es)=true:=by rfl)
 (O:eval (.Call (.Attribute o m apos) (e::es) [] pos) X.env=(do
  let ov <- eval o X.env
  standAt apos.atName
  let (f,first) <- holding [ov] (getMethod ov m pl)
  callWith pos f first (backTo pos (starEach (e::es) X.env)) (backToKw pos (keywordEach [] X.env))):=by rfl) :
 QE X (.Call (.Attribute o m apos) (e::es) [] pos) (Wl C m sp dvs E ta t):=⟨kC M.h c hm F hr Z J L Y.h (Av B) (AO (AX B)) O⟩
theorem BB{pl:Sem Bool}(L:QE X o ta)(c:CM X.K C)(hm:DC X.K C m fa)(F:Ec X.prog X.w X.K X.mg X.base CX k fa fd ps sp)(Y:Room k X.A)(O:EX X.K fd ps ds)(B:Em dvs ds)(J:BN CX X E)
 (M:eval (.Call (.Attribute o m apos) [] [] pos) X.env=(do
  let ov <- eval o X.env
  standAt apos.atName
  let (f,first) <- holding [ov] (getMethod ov m pl)
  callWith pos f first (backTo pos (starEach [] X.env)) (backToKw pos (keywordEach [] X.env))):=by rfl) :
 QE X (.Call (.Attribute o m apos) [] [] pos) (Wl C m sp dvs E ta Sl):=⟨cM L.h c hm F Y O B J M⟩
theorem uq(M:Mk X.K C fa)(F:Ec X.prog X.w X.K X.mg X.base CX k fa fd ps sp)(hr:Room (k+1) X.A)(Y:Gl X x)(hm:X.mg x=some (.ref C))(hb:EX X.K fd ps ds)(L:Em dvs ds)(O:BN CX X E)(Z:QA X (e::es) t)
 (B:DM (e::es)=true:=by rfl) (J:(x==("__debug__":Str))=false:=by decide):QE X (.Call (.Name x p) (e::es) [] pos) (Wm C sp dvs E t):=⟨kD M F hr Y hm hb L O Z.h J (Av B) (AO (AX B))⟩
theorem jl(M:Mk X.K C fa)(F:Ec X.prog X.w X.K X.mg X.base CX k fa fd ps sp)(Z:Room (k+1) X.A)(O:Gl X x)(hm:X.mg x=some (.ref C))(Y:EX X.K fd ps ds)(J:Em dvs ds)(L:BN CX X E)
 (B:(x==("__debug__":Str))=false:=by decide):QE X (.Call (.Name x p) [] [] pos) (Wm C sp dvs E Sl):=⟨cN M F Z O hm Y J L B⟩
end
end
section
variable{K:W.Frag}{U:St}{H:Hp}{Q:VK}{D:DQ}{f m:Str}{ta tv:TE}{t:TA}{C:Addr}{sp:Sp}{dvs:List V}{E:XK}
theorem lM(h:ta U H fun x H1=>pe K f x H1 Q):cI K ta f U H Q:=h
theorem GS{a dx:Addr}{fs:List (Str×V)}{v:V}(h1:H a=some (.ins C dx fs))(c:CM K C)(n:Gp K C f)(l:fs.lookup f=some v)(q:Q v H):pe K f (.ref a) H Q:=⟨a,C,dx,fs,v,rfl,h1,c,n,l,q⟩
theorem dX(h:tv U H fun y H1=>ta U H1 fun x H2=>iP K f y x H2 (D.nx U)):cJ K ta tv f D U H:=h
theorem DY{a dx:Addr}{fs:List (Str×V)}{y:V}{R:Hp->Prop}(h1:H a=some (.ins C dx fs))(c:CM K C)(n:Gp K C f)(l:fs.length<1000)(q:∀H2,H2 a=some (.ins C dx (GP f y fs))->Kp a H H2->R H2):iP K f y (.ref a) H R:=⟨a,C,dx,fs,rfl,h1,c,n,l,q _ EW Kp.upd⟩
def ur(K:W.Frag)(f:Str)(tv:TE)(U:St)(R:Hp->Prop)(x:V)(H:Hp):Prop:=∃a C dx fs v,x=.ref a/\H a=some (.ins C dx fs)/\CM K C/\Gp K C f/\fs.lookup f=some v/\
 tv U H fun y H2=>jB v y H2 fun z H3=>∃dx' fs',H3 a=some (.ins C dx' fs')/\fs'.length<1000/\R (upd H3 a (.ins C dx' (GP f z fs')))
theorem wB(h:ta U H fun x H1=>ur K f tv U (D.nx U) x H1):Xm K ta tv jB f D U H:=h
def gP(C:Addr)(m:Str)(x:V)(H:Hp)(R:Prop):Prop:=∃a dx fs,x=.ref a/\H a=some (.ins C dx fs)/\fs.lookup m=none/\R
theorem dY(h:ta U H fun x H1=>gP C m x H1 (t U H1 fun vs H2=>sp (x::(vs++dvs)) H2 Q E)):Wl C m sp dvs E ta t U H Q:=h
theorem En{a dx:Addr}{fs:List (Str×V)}{R:Prop}(h1:H a=some (.ins C dx fs))(l:fs.lookup m=none)(q:R):gP C m (.ref a) H R:=⟨a,dx,fs,rfl,h1,l,q⟩
def iQ(C:Addr)(sp:Sp)(dvs:List V)(E:XK)(vs:List V)(H:Hp)(Q:VK):Prop:=∀x dx,H x=none->H dx=none->dx≠x->sp (.ref x::(vs++dvs)) (upd (upd H dx (.own x)) x (.ins C dx [])) (fun v H2=>v=.non/\Q (.ref x) H2) E
theorem dZ(h:t U H fun vs H1=>iQ C sp dvs E vs H1 Q):Wm C sp dvs E t U H Q:=h
theorem Lq{vs:List V}(h:∀x dx H2,H x=none->H2 x=some (.ins C dx [])->ET H H2->sp (.ref x::(vs++dvs)) H2 (fun v H3=>v=.non/\Q (.ref x) H3) E):iQ C sp dvs E vs H Q:=fun x dx F B J=>
 h x dx _ F EW fun b o e=>by rw[Ep (GJ e F),Ep (GJ e B)];exact e
end
structure jm(K:W.Frag)(x qual:Str)(st:Stmt)(f:Addr)(fd:FuncData):Prop where
 ex:∃(oc:Value) (od:Option Addr) (dV kV doc pm:Value) (an:Option Addr) (cdv ct:Value) (osl:Array (Option Value)),
  fd=W.fnOf x qual (DG st) (Gv st) (EU st) dV kV doc pm an cdv ct/\K.lookup f=some ⟨oc,od,.func fd,osl⟩/\W.codeIn K cdv qual=true
 kp:W.keepIn K (.ref f)=true
theorem jm.ok{P:Program}{w:World}{K:W.Frag}{mg:Str->Option Value}{base:Heap}{x qual:Str}{st:Stmt}{f:Addr}{fd:FuncData}{N ps:List Str}{k:Nat}{sp:Sp}(F:jm K x qual st f fd)(S:Eo N ps (EU st))
  (L:∀(J:Value) (A:Around) (B:List Env) (s:Shared) (H:Hp) (vs:List V) (Q:VK) (E:XK),Room k (A.deeper (envOfC qual (EU st) s.heap.objs.size f J))->sp vs H Q E ->
   ∃t,HB (Sm Ew P w K mg base N qual (EU st) f J A B s H E).nox (Gv st) t/\t { nx:=fun _ H'=>Q .non H',rt:=Q } (start N vs) H) (len:∀vs H Q E,sp vs H Q E->vs.length=ps.length:=by walk_at "l"):Ec P w K mg base Ew (k+1) f fd ps sp:=by
 obtain⟨oc,od,dV,kV,Y,pm,an,J,ct,a0,rfl,lk,O⟩:=F.ex;refine ft lk O S len fun A B s H vs Q E Z M=>?_;obtain⟨t,h,q⟩:=L J A B s H vs Q E Z M;exact⟨t,h.nox,q⟩
section
variable{K:W.Frag}{U:St}{H:Hp}{Q:VK}{f:Str}{tv td ty:TE}{C:Addr}
theorem XH{a dx:Addr}{fs:List (Str×V)}{v:V}{R:Hp->Prop}(h1:H a=some (.ins C dx fs))(c:CM K C)(n:Gp K C f)(l:fs.lookup f=some v)
 (q:tv U H fun y H2=>jB v y H2 fun z H3=>∃B fs',H3 a=some (.ins C B fs')/\fs'.length<1000/\R (upd H3 a (.ins C B (GP f z fs')))):ur K f tv U R (.ref a) H:=⟨a,C,dx,fs,v,rfl,h1,c,n,l,q⟩
def LB(a:Addr)(y:V)(H:Hp)(Q:VK):Prop:=∃o,DV H a y o/\Q (o.getD .non) H
def jn(ty:TE)(U:St)(Q:VK)(x:V)(H:Hp):Prop:=∃a,x=.ref a/\ue H a/\ty U H fun y H2=>LB a y H2 Q
theorem gQ(h:td U H fun x H1=>jn ty U Q x H1):jV td ty U H Q:=h
theorem LC{a:Addr}{kvs:List (List Ef×V)}(h1:H a=some (.dT kvs))(q:ty U H fun y H2=>LB a y H2 Q):jn ty U Q (.ref a) H:=⟨a,rfl,.inr ⟨kvs,.inl h1⟩,q⟩
theorem WE{a b:Addr}{kvs:List (List Ef×V)}{k:List Ef}(h1:H a=some (.dT kvs))(B:H b=some (.tup (k.map kV)))(q:Q ((GH kvs k).getD .non) H):LB a (.ref b) H Q:=⟨_,DV.t h1 B,q⟩
theorem zo{a:Addr}{kvs:List (Ef×V)}(h1:H a=some (.dK kvs))(q:ty U H fun y H2=>LB a y H2 Q):jn ty U Q (.ref a) H:=⟨a,rfl,.inl ⟨kvs,.inl h1⟩,q⟩
theorem jo{a:Addr}{m:PL}{i:Int}(h1:H a=some (.dK (Ez m)))(q:Q (((GG m i).map V.int).getD .non) H):LB a (.int i) H Q:=⟨_,DV.k (k:=Sum.inl i) h1,by rw[Ae];exact q⟩
theorem HK{a b:Addr}{kvs:List (List Ef×V)}{k:List Ef}{v:V}{R:Hp->Prop}(h1:H a=some (.dT kvs))(B:H b=some (.tup (k.map kV)))(hz:kvs.length<sizeLine)(h:∀H2,H2 a=some (.dT (Dh kvs k v))->Kp a H H2->R H2):qr v (.ref a) (.ref b) H R:=
 ⟨a,_,rfl,IE.t h1 B hz,h _ EW Kp.upd⟩
end
section
variable{X:Cx}{o e:Expr}{apos cpos pos p:Pos}{td ty to:TE}
theorem HL(F:X.A.units+1<cLine)(B:QE X o td)(J:QE X e ty)(m:M1 X o "get" apos e cpos:=by exact⟨rfl,rfl,rfl,rfl⟩):QE X (.Call (.Attribute o "get" apos) [e] [] cpos) (jV td ty):=⟨dE F B.h J.h m⟩
theorem WF:QE X (.Dict [] [] pos) jT:=⟨dD⟩
def gR(H:Hp)(Q:VK):Prop:=∀p,H p=none->Q (.ref p) (upd H p (.dT []))
theorem gU{U:St}{H:Hp}{Q:VK}(h:gR H Q):jT U H Q:=h
theorem WG{H:Hp}{Q:VK}(h:∀p H2,H p=none->H2 p=some (.dT [])->ET H H2->Q (.ref p) H2):gR H Q:=fun p B=>h p _ B EW (ET.new B)
theorem wC{pins:List (Addr×Obj)}{s:Shared}{U:St}{H:Hp}{Q:VK}{a r:Addr}{m:PL}(hc:X.calm=true)(I:Inv X pins U H s)(hd:H a=some (.dK (Ez m)))(hv:s.heap.IsItemsView r a)(hz:m.length<=1000)
  (q:∀(l:Addr) (vs:List V) (H':Hp),H l=none->H' l=some (.lst vs)->EZ H' vs m->ET H H'->Q (.ref l) H') :
  wpAny (model X.prog X.w) X.A (call (.type "list") [.ref r]) (EP X pins U Q) X.xe s:=by
 obtain⟨z,a6,kvs,a0,dd⟩:=Lo I.hok hd;obtain⟨ep,dd⟩:=dd.dictAt;obtain⟨a5,_⟩:=je a0;refine kdx_call (knd:=Gh X.prog X.w) (I.ok.hd hc) hv dd (by rw[sizeLine_eq];omega) fun h' tk a3 c B hk hS hl hG M=>?_;have O:B.Nodup:=Vc.mpr (hG.rise.imp fun a4 e=>Ut a4 e);have a1:B.length=m.length:=by omega
 have hT:Ba h' s.heap.objs.size (B.map Value.ref) m:=ul a0 hl hG s.heap.objs.size fun b hb=>Nat.ne_of_gt (hG.above b hb)
 have a2:∀(i:Nat) b p,B[i]? = some b->m[i]? = some p->Cs H B m s.heap.objs.size (B.map V.ref) s.heap.objs.size b=some (.tup [.int p.1,.int p.2]):=fun i b p L Z=>by
  have J:=hG.above b (Ux L);unfold Cs;rw[if_neg (Nat.not_lt.mpr (Nat.le_of_lt J)),if_neg (Nat.ne_of_gt J),XE O L Z];rfl
 have Y:Cs H B m s.heap.objs.size (B.map V.ref) s.heap.objs.size s.heap.objs.size=some (.lst (B.map V.ref)):=by
  unfold Cs;rw[if_neg (Vj _),if_pos rfl]
 have F:ET H (Cs H B m s.heap.objs.size (B.map V.ref) s.heap.objs.size):=fun b u e=>by
  unfold Cs;rw[if_pos (I.old e)];exact e
 refine⟨.ref s.heap.objs.size,_,I.many (t':=tk) (h':=h') hk (fun b hb=>by unfold Cs;rw[if_pos hb]) (fun b ob hb e=>?_),rfl,q _ (B.map V.ref) _ (I.hok.fresh (Ue _)) Y ?_ F⟩
 ·by_cases J:b=s.heap.objs.size
  ·subst J;rw[Y] at e;cases e;refine⟨by rw[Ug,sizeLine_eq];omega,a3.toList,c,?_,by rw[hS]⟩;rw[M]
   clear Y a2 F hT M hG O a1 hl
   induction B with
   |nil=>exact .nil
   |cons b bs ih=>exact .cons rfl ih
  ·unfold Cs at e;rw[if_neg (Nat.not_lt.mpr hb),if_neg J] at e
   cases hlk:(B.zip m).lookup b with
   |none=>rw[hlk] at e;cases e
   |some p=>
    rw[hlk] at e;cases e;obtain⟨i,L,Z⟩:=Ie hlk;have hi:i<m.length:=(Ui.mp Z).1;have g:=hT.get (i:=i) hi;have e3:(B.map Value.ref).getD i Value.none=.ref b:=by simp[L]
    have e4:m.getD i (0,0)=p:=by simp[Z]
    rw[e3,e4] at g;exact Kz g
 ·refine Fi (by rw[Ug];exact a1) fun i v p L Z=>?_;rw[UC] at L
  cases hi:B[i]? with
  |none=>rw[hi] at L;cases L
  |some b=>
   rw[hi] at L;cases L;exact⟨b,rfl,a2 i b p hi Z⟩
def ut(a:Addr)(m:PL)(H:Hp)(Q:VK):Prop:=m.length<=1000/\∀(l:Addr) (vs:List V) (H':Hp),H l=none->H' l=some (.lst vs)->EZ H' vs m->ET H H'->Q (.ref l) H'
def uu(to:TE):TE:=fun U H Q=>WB to U H fun a m H1=>ut a m H1 Q
theorem gW(O:X.calm=true)(J:Gl X "list")(hm:X.mg "list"=none)(Z:QE X o to)
  (F:attributeBase o "items" X.env (eval o X.env)=eval o X.env:=by rfl) (B:(apos.endLine==cpos.line)=true:=by rfl) :
  QE X (.Call (.Name "list" p) [.Call (.Attribute o "items" apos) [] [] cpos] [] pos) (uu to):=by
 refine⟨?_⟩;intro pins s U H Q I h;refine wpAny_Call_Name_kw (Ct I J hm kL ?_ (by decide) (by decide));refine PyProof.Rows.callWith_type1 ?_ rfl rfl;show wpAny _ _ (spliced ((false,eval (.Call (.Attribute o "items" apos) [] [] cpos) X.env)::backTo pos (starEach [] X.env))) _ _ s;refine Calls.spliced_cons (thn (XD Z.h I h F B) fun u s1 ⟨r,a,m,H1,M,hsz,Y,L,I1,q⟩=>?_);subst M;refine Calls.spliced_nil ?_;exact wC O I1 L Y q.1 q.2
def uv(x:V)(H:Hp)(Q:VK):Prop:=∃a m,x=.ref a/\H a=some (.dK (Ez m))/\ut a m H Q
theorem wD{U:St}{H:Hp}{Q:VK}(h:to U H fun x H1=>uv x H1 Q):uu to U H Q:=h
theorem gX{H:Hp}{Q:VK}{a:Addr}{m:PL}(h1:H a=some (.dK (Ez m)))(hz:m.length<=1000)(h:∀l H2,H l=none->Hr H2 l m->ET H H2->Q (.ref l) H2):uv (.ref a) H Q:=
 ⟨a,m,rfl,h1,hz,fun l vs H' n f B S=>h l H' n ⟨vs,f,B⟩ S⟩
end
theorem uw{K:W.Frag}{x qual:Str}{st:Stmt}{f:Addr}{Z:Value}{od M:Option Addr}{J:Array (Option Value)}{L kV F Y B O:Value}(l:K.lookup f=some ⟨Z,od,.func (W.fnOf x qual (DG st) (Gv st) (EU st) L kV F Y M B O),J⟩)
 (c:W.codeIn K B qual=true) (k:W.keepIn K (.ref f)=true):jm K x qual st f (W.fnOf x qual (DG st) (Gv st) (EU st) L kV F Y M B O):=⟨⟨Z,od,L,kV,F,Y,M,B,O,J,rfl,l,c⟩,k⟩
def ux(K:W.Frag)(fd:FuncData)(ps:List Str)(x:Str):Prop:=∀(s:Shared) (u v:Value),K.In s.heap->BindsTo s fd ⟨[u],[(x,v)]⟩ (ps.zip [u,v])
def tq(B:Heap)(H':Hp)(h0 h':Heap)(fs:List Addr):Prop:=∀b o,h'.get? b=some o->b∉fs->((∃u,H' b=some u)\/∃o0,h0.get? b=some o0)->B.get? b=some o
def zC(K:W.Frag)(C:Addr):Prop:=excIn K C [.type "ValueError",.type "Exception",.type "BaseException",.type "object"] "ValueError.__new__"=true
def Fl(X:Cx)(H1:Hp)(s0:Shared)(e:Addr)(C:Value)(H':Hp)(s3:Shared):Prop:=∃(a0:Value) (B:Heap),s3.os=s0.os/\AllBare s3.gens/\Un (IQ X.stack) [] H1 H' s0.heap s3.heap/\BA X.prog X.w H' s3.heap/\
 s0.heap.get? e=none/\H' e=none/\Heap.FlyingW B X.stack e C a0 s3.heap/\tq B H' s0.heap s3.heap (IQ X.stack)
abbrev TX:=St->Hp->VK->XK->Prop
def XP(X:Cx)(pins:List (Addr×Obj))(U:St)(E:XK)(ev:Value)(s':Shared):Prop:=∃H1 s1 e C H',Inv X pins U H1 s1/\ev=.ref e/\Fl X H1 s1 e C H' s'/\E C none H'
abbrev su:=DQ->XK->St->Hp->Prop
abbrev TH:=Value->DQ->St->Hp->Prop
end _L
namespace _L
open PySem PySem.Spec PyProof.Rows PySem.W PySem.Builtin PySem.Builtin.ObjectAttr PySem.Builtin.Getset_descriptor
structure zD(K:W.Frag)(C:Addr):Prop where
 ga:findIn K (.ref C) "__getattribute__"=some (some (.builtin "BaseException.__getattribute__"))
 gt:findIn K (.ref C) "__getattr__"=some none
 cl:findIn K (.ref C) "__class__"=some (some (.builtin "object.__class__"))
 ob:mroIn K C (.type "object")=some true
 be:mroIn K C (.type "BaseException")=some true
section
variable{X:Cx}
def pf:R2:=fun x y H Q=>∃(c:Nat) (z:Str),x=.str ⟨#[c]⟩/\y=.str z/\Q (.bl (decide (c∈z.cps.toList))) H
theorem ph:DB X (compareOp .In) pf:=by
 intro pins s U H x y v u Q I F B h;obtain⟨c,z,rfl,rfl,q⟩:=h;obtain⟨t,rfl⟩:=F;obtain⟨t',rfl⟩:=B;exact in_str (GY I q (StrLaws.found_one z c).symm)
theorem pi{H:Hp}{Q:VK}{c:Nat}{z:Str}(q:Q (.bl (decide (c∈z.cps.toList))) H):pf (.str ⟨#[c]⟩) (.str z) H Q:=⟨c,z,rfl,rfl,q⟩
noncomputable def pj(z:Str):It:=⟨fun i _=>i<z.cps.size,fun i H x H'=>H'=H/\∃c,z.cps.toList[i]? = some c/\x=.str ⟨#[c]⟩,fun i _=>z.cps.size<=i⟩
theorem jp{P:Program}{w:World}{K:W.Frag}{tg:Expr}(B:Addr)(z:Str)(t:Tok)(n:String)(hn:["enumerate","zip","dict_itemiterator","dict_reverseitemiterator","odict_iterator","itertools.zip_longest","itertools.pairwise"].contains n=false)
  (W:∀A:Around,A.handled=none->Walks P w A B [B] [B] z.cps.size (SignAt z) (fun i h=>h.IsStrIter B n z t i))
  (dn:∀(A:Around) (s:Shared) (i:Nat) (Q:Option Value->Shared->Prop) (E:Value->Shared->Prop),A.handled=none->s.heap.IsStrIter B n z t i->z.cps[i]? = none->(∀h',Heap.ExtBut B s.heap h'->Q none { s with heap:=h' })->wpAny (model P w) A (pyNext (.ref B)) Q E s)
  (sf:∀(A:Around) (i:Nat) (s:Shared) (Q:Value->Shared->Prop) (E:Value->Shared->Prop),s.heap.IsStrIter B n z t i->Q (.ref B) s->wpAny (model P w) A (pyIter (.ref B)) Q E s) :
  Kq P w K tg (pj z) [B] B (fun i h=>h.IsStrIter B n z t i) where
 mem:=by simp
 obj:=fun i h st b F=>by
  have e:b=B:=by simpa using F
  subst e;obtain⟨o,e,c,d⟩:=st;exact⟨o,e,fun v z=>by rw[d] at z;cases z⟩
 keep:=fun i h h' st k=>by
  obtain⟨o,e,c,d⟩:=st;exact⟨o,k B (by simp) _ e,c,d⟩
 item:=by
  intro X hP hw hK hc i pins s U H E I L st Z;subst hP hw hK;obtain⟨f0,f1,f2,M,O,Y⟩:=L B (by simp);refine(W X.A (I.ok.hd hc)).item i s _ _ Z st fun v h' tk hv J kk=>?_;obtain⟨c,t2,ec,rfl⟩:=hv;have I1:Inv X pins U H { s with heap:=h',toks:=tk }:=I.turned (fun b o F e=>kk b o (by simpa using F) e) f0 f1 M O Y;obtain⟨o,e,c',d⟩:=id J;exact⟨_,rfl,Lj (s:={ s with heap:=h',toks:=tk }) e c' d hn ⟨.str ⟨#[c]⟩,H,I1,⟨t2,rfl⟩,⟨rfl,c,by rw[Array.getElem?_toList];exact ec,rfl⟩,J,fun b F=>(L b F).1⟩⟩
 done:=by
  intro X hP hw hK hc i pins s U H E I L st Z;subst hP hw hK;obtain⟨f0,f1,f2,M,O,Y⟩:=L B (by simp);exact dn X.A s i _ _ (I.ok.hd hc) st (Array.getElem?_eq_none Z) fun h' eb=>⟨rfl,I.turned (t':=s.toks) (fun b o F e=>eb b o F e) f0 f1 M O Y⟩
 self:=fun A i s Q E st h=>sf A i s Q E st h
def jq(x:V)(H:Hp)(R:It->Hp->Prop):Prop:=∃z,x=.str z/\R (pj z) H
def pp(tl:TE):TI:=fun U H R=>tl U H fun x H1=>jq x H1 R
theorem pv{tg l:Expr}{tl:TE}(hl:QE X l tl):QI X tg l (pp tl):=by
 refine⟨?_⟩;intro pins s U H R I h;refine thn (hl.h pins s U H _ I h) fun v B ⟨x,H1,I1,Y,Z⟩=>?_;obtain⟨z,e,q⟩:=Z;subst e;obtain⟨t,rfl⟩:=Y
 have F:∀b,b∈[B.heap.objs.size]->BG X pins H1 b:=fun b hb=>by
  have e:b=B.heap.objs.size:=by simpa using hb
  subst e;exact I1.fpOk (Ue _) (I1.hok.fresh (Ue _))
 cases ha:z.cps.all (· < 128)
 ·exact wpAny_pyIter_wide ha ⟨B.heap.objs.size,[B.heap.objs.size],_,_,H1,rfl,I1.kept (t':=B.toks) fun b o e=>Uc _ e,
   jp _ z t "str_iterator" (by decide) (fun A J=>Walks.strWide J _ z t) (fun A s i Q E M st L O=>wpAny_pyNext_wide_end M st L O) (fun A i s Q E st h=>wpAny_pyIter_striter_wide st h),⟨_,Ul _ rfl,rfl,rfl⟩,F,q⟩
 ·exact wpAny_pyIter_ascii ha ⟨B.heap.objs.size,[B.heap.objs.size],_,_,H1,rfl,I1.kept (t':=B.toks) fun b o e=>Uc _ e,
   jp _ z t "str_ascii_iterator" (by decide) (fun A J=>Walks.strAscii J _ z t) (fun A s i Q E M st L O=>wpAny_pyNext_ascii_end M st L O) (fun A i s Q E st h=>wpAny_pyIter_striter_ascii st h),⟨_,Ul _ rfl,rfl,rfl⟩,F,q⟩
end
section
variable{K:W.Frag}{H:Hp}{Q:VK}{U:St}
theorem lN{tl:TE}{R:It->Hp->Prop}(h:tl U H fun x H1=>jq x H1 R):pp tl U H R:=h
theorem da{z:Str}{R:It->Hp->Prop}(h:R (pj z) H):jq (.str z) H R:=⟨z,rfl,h⟩
theorem gY{z:Str}{i:Int}{c:Nat}(hz:z.length<=sizeLine)(B:Ke z.cps.toList i=some c)(h:Q (.str ⟨#[c]⟩) H):oA (.str z) (.int i) H Q:=⟨z,i,c,rfl,rfl,hz,B,h⟩
variable{D:DQ}
end
section
variable{P:Program}{w:World}{H H':Hp}{h0 h' h'' Bs:Heap}{fs ex:List Addr}
noncomputable def ZAG(B:Heap)(c:Addr):Heap:=B.update c fun o=>{ o with data:=.freed }
end
noncomputable def fl(low tall:Int)(q:Int×Int):Int:=(q.1-low*q.2) / (tall*q.2)
theorem qu{low B r:Int}{q:Int×Int}(F:0<B)(J:0<q.2):r<=fl low B q↔(low+r*B)*q.2<=q.1:=by
 unfold fl;rw[Int.le_ediv_iff_mul_le (Int.mul_pos F J),Int.add_mul,Int.mul_assoc];omega
theorem sX{low B r:Int}{q:Int×Int}(F:0<B)(J:0<q.2):fl low B q<=r↔q.1<(low+(r+1)*B)*q.2:=by
 have:=qu (low:=low) (r:=r+1) F J;omega
theorem lO{low B:Int}{p q:Int×Int}(J:0<B)(L:0<p.2)(F:0<q.2)(h:q.1*p.2<=p.1*q.2):fl low B q<=fl low B p:=by
 rw[qu J L];have h1:=(qu (low:=low) (r:=fl low B q) J F).mp (Int.le_refl _);generalize low+fl low B q*B=c at *;have h2:c*q.2*p.2<=q.1*p.2:=UT h1 (by omega);have e:c*q.2*p.2=c*p.2*q.2:=by rw[Int.mul_assoc,Int.mul_comm q.2 p.2,<- Int.mul_assoc]
 have M:c*p.2*q.2<=p.1*q.2:=by omega
 exact Int.le_of_mul_le_mul_right M F
noncomputable def mx(i j:Int):Int:=if j>i then j else i
noncomputable def mn(i j:Int):Int:=if j<i then j else i
def Ci(fs:List Int)(rows:Int)(o:Option (Int×Int)):Prop:=
 (fs=[]/\o=none)\/∃m M,m∈fs/\(∀f∈fs,m<=f)/\M∈fs/\(∀f∈fs,f<=M)/\o=if max m 0<=min M (rows-1) then some (max m 0,min M (rows-1)) else none
theorem Ci.unique{fs:List Int}{B:Int}{o o':Option (Int×Int)}(h:Ci fs B o)(g:Ci fs B o'):o=o':=by
 rcases h with ⟨e,h⟩|⟨m,M,h1,h2,h3,h4,h5⟩
 ·rcases g with ⟨_,g⟩|⟨m,M,g1,_⟩
  ·rw[h,g]
  ·rw[e] at g1;cases g1
 ·rcases g with ⟨e,g⟩|⟨m',M',g1,g2,g3,g4,g5⟩
  ·rw[e] at h1;cases h1
  ·have F:m=m':=Int.le_antisymm (h2 _ g1) (g2 _ h1);have J:M=M':=Int.le_antisymm (g4 _ h3) (h4 _ g3);subst F J;rw[h5,g5]
noncomputable def CU(a b:Int×Int)(t:Int):Int×Int:=(a.2*(b.1-a.1)+(b.2-a.2)*(t-a.1),b.1-a.1)
def Gc(x z:Int)(ab:(Int×Int)×(Int×Int)):PL:=if ab.1.1<z/\x<ab.2.1 then[CU ab.1 ab.2 (mx x ab.1.1),CU ab.1 ab.2 (mn z ab.2.1)] else[]
def XI(cv:PL)(x z:Int):PL:=(cv.zip (cv.drop 1)).flatMap (Gc x z)
noncomputable def inCol(cv:PL)(b e:Int):PL:=cv.filter fun p=>decide (b<=p.1)&&decide (p.1<e)
def Dr(cv:PL)(x z:Int):PL:=(inCol cv x z).map (fun p=>(p.2,1))++XI cv x z
theorem LD{cv:PL}(h:DA cv){i:Nat}{a b:Int×Int}(h1:cv[i]? = some a)(h2:(cv.drop 1)[i]? = some b):a.1<b.1:=by
 rw[List.getElem?_drop] at h2;have hi:=(Ui.mp h1);have B:=(Ui.mp h2);have:=Vx.mp h i (1+i) hi.1 B.1 (by omega);rw[hi.2,B.2] at this;exact this
theorem zE{cv:PL}{i:Nat}{a b:Int×Int}(h1:cv[i]? = some a)(h2:(cv.drop 1)[i]? = some b):(cv.zip (cv.drop 1))[i]? = some (a,b):=by
 rw[List.getElem?_zip_eq_some];exact⟨h1,h2⟩
theorem lP{cv:PL}{x z:Int}(h:DA cv):∀q∈Dr cv x z,0<q.2:=by
 intro q B;rcases Uu.mp B with B|B
 ·obtain⟨p,_,rfl⟩:=Ur.mp B;show(0:Int)<1;decide
 ·unfold XI at B;obtain⟨F,J,B⟩:=List.mem_flatMap.mp B;obtain⟨i,hi,e⟩:=UQ J;have e':(cv.zip (cv.drop 1))[i]? = some F:=by rw[Ub hi,e]
  obtain⟨h1,h2⟩:=List.getElem?_zip_eq_some.mp e';have L:=LD h h1 h2;unfold Gc at B;split at B
  ·simp only[Ud,Us,or_false] at B;rcases B with rfl|rfl<;>(show 0<F.2.1-F.1.1;omega)
  ·cases B
noncomputable def XJ(lo hi:Int)(n:Nat):List Int:=((UM n).map fun(i:Nat)=>(0+(i:Int))).filter fun r=>decide (lo<=r)&&decide (r<=hi)
theorem wE{lo hi r:Int}{n:Nat}:r∈XJ lo hi n↔(0<=r/\r<n)/\lo<=r/\r<=hi:=by
 unfold XJ;rw[Vv,Ur];constructor
 ·rintro⟨⟨i,hi,rfl⟩,h⟩;have:=List.mem_range.mp hi;simp at h;omega
 ·rintro⟨⟨h1,h2⟩,B,F⟩;exact⟨⟨r.toNat,List.mem_range.mpr (by omega),by omega⟩,by simp[B,F]⟩
noncomputable def sv(m:Nat):List Nat:=(Nat.toDigits 10 m).map Char.toNat
def py(n:Int):List Nat:=if n<0 then 45::sv n.natAbs else sv n.natAbs
def lineL(p:Int×Int):List Nat:=py p.1++32::py p.2
def textL(cv:PL):List Nat:=cv.flatMap fun p=>lineL p ++ [10]
def InT(cv:PL):Prop:=∀p∈cv,(-(10 ^ 64)<p.1/\p.1<10 ^ 64)/\-(10 ^ 64)<p.2/\p.2<10 ^ 64
section
variable{X:Cx}
def iR:List V->Hp->VK->Prop:=fun xs H Q=>∃z,xs=[.str z]/\z.length<=sizeLine/\Q (.int z.length) H
theorem lQ:Gr X (.builtin "len") iR:=jJ
theorem lR{H:Hp}{Q:VK}{z:Str}(h:z.length<=sizeLine)(q:Q (.int z.length) H):iR [.str z] H Q:=⟨z,rfl,h,q⟩
end
def uy(cv:PL)(a b:Int×Int):Prop:=a∈cv/\b∈cv/\a.1<b.1/\∀c∈cv,¬(a.1<c.1/\c.1<b.1)
theorem CW{cv:PL}(h:DA cv){i j:Nat}(hi:i<cv.length)(F:j<cv.length)(B:i<j):cv[i].1<cv[j].1:=Vx.mp h i j hi F B
theorem zF{cv:PL}(h:DA cv){a b:Int×Int}(F:a∈cv)(J:b∈cv)(e:a.1=b.1):a=b:=by
 obtain⟨i,hi,rfl⟩:=UQ F;obtain⟨j,B,rfl⟩:=UQ J;rcases Nat.lt_trichotomy i j with hij|hij|hij
 ·have:=CW h hi B hij;omega
 ·subst hij;rfl
 ·have:=CW h B hi hij;omega
theorem uz{cv:PL}(h:DA cv){a b:Int×Int}:(a,b)∈cv.zip (cv.drop 1)↔uy cv a b:=by
 constructor
 ·intro a2;obtain⟨i,hi,e⟩:=UQ a2;have e':(cv.zip (cv.drop 1))[i]? = some (a,b):=by rw[Ub hi,e]
  obtain⟨h1,h2⟩:=List.getElem?_zip_eq_some.mp e';have O:=LD h h1 h2;rw[List.getElem?_drop] at h2;obtain⟨a1,J⟩:=Ui.mp h1;obtain⟨Z,F⟩:=Ui.mp h2;have J:cv[i]=a:=J;have F:cv[1+i]=b:=F;refine⟨Ux h1,Ux h2,O,?_⟩;rintro c hc ⟨g1,g2⟩;obtain⟨j,L,rfl⟩:=UQ hc;by_cases B:j<=i
  ·rcases Nat.lt_or_eq_of_le B with B|B
   ·have:=CW h L a1 B;rw[J] at this;omega
   ·subst B;rw[J] at g1;omega
  ·by_cases M:j=1+i
   ·subst M;rw[F] at g2;omega
   ·have:=CW h Z L (by omega);rw[F] at this;omega
 ·rintro⟨ha,hb,O,Y⟩;obtain⟨i,hi,J⟩:=UQ ha;obtain⟨j,L,F⟩:=UQ hb
  have B:i<j:=by
   rcases Nat.lt_trichotomy i j with B|B|B
   ·exact B
   ·subst B;rw[J] at F;subst F;omega
   ·have:=CW h L hi B;rw[J,F] at this;omega
  have a0:j=1+i:=by
   by_cases z:j=1+i
   ·exact z
   ·exfalso
    have hk:1+i<cv.length:=by omega
    refine Y cv[1+i] (Vg hk) ⟨?_,?_⟩
    ·have:=CW h hi hk (by omega);rw[J] at this;exact this
    ·have:=CW h hk L (by omega);rw[F] at this;exact this
  subst a0;refine Ux (i:=i) (zE ?_ ?_)
  ·rw[Ub hi,J]
  ·rw[List.getElem?_drop,Ub L,F]
set_option tactic.hygienic true in
theorem Bt{cv:PL}(h:DA cv){x z:Int}{q:Int×Int}:q∈Dr cv x z↔(∃p∈cv,x<=p.1/\p.1<z/\q=(p.2,1))\/∃a b,uy cv a b/\a.1<z/\x<b.1/\(q=CU a b (mx x a.1)\/q=CU a b (mn z b.1)):=by
 unfold Dr;rw[Uu];constructor
 ·rintro(B|B)
  ·obtain⟨p,J,rfl⟩:=Ur.mp B;obtain⟨h1,h2⟩:=Vv.mp J;simp at h2;exact .inl ⟨p,h1,h2.1,h2.2,rfl⟩
  ·unfold XI at B;obtain⟨⟨a,b⟩,F,B⟩:=List.mem_flatMap.mp B;unfold Gc at B;split at B
   ·rename_i hc
    simp only[Ud,Us,or_false] at B;exact .inr ⟨a,b,(uz h).mp F,hc.1,hc.2,B⟩
   ·cases B
 ·rintro(⟨p,J,h1,h2,rfl⟩|⟨a,b,F,h1,h2,B⟩)
  ·refine .inl (Ur.mpr ⟨p,Vv.mpr ⟨J,by simp[h1,h2]⟩,rfl⟩)
  ·refine .inr (List.mem_flatMap.mpr ⟨(a,b),(uz h).mpr F,?_⟩);unfold Gc;rw[if_pos ⟨h1,h2⟩];simp only[Ud,Us,or_false];exact B
theorem Ci.dom{fs gs:List Int}{B:Int}{o:Option (Int×Int)}(h:Ci fs B o)(d1:∀f∈fs,(∃g∈gs,g<=f)/\∃g∈gs,f<=g)(Y:∀g∈gs,(∃f∈fs,f<=g)/\∃f∈fs,g<=f):Ci gs B o:=by
 rcases h with ⟨rfl,rfl⟩|⟨m,M,h1,h2,h3,h4,h5⟩
 ·refine .inl ⟨?_,rfl⟩
  cases gs with
  |nil=>rfl
  |cons g gs=>
   obtain⟨f,O,_⟩:=(Y g UB).1;cases O
 ·have lo:∀g∈gs,m<=g:=fun g J=>by
   obtain⟨f,O,F⟩:=(Y g J).1;exact Int.le_trans (h2 f O) F
  have hi:∀g∈gs,g<=M:=fun g J=>by
   obtain⟨f,O,F⟩:=(Y g J).2;exact Int.le_trans F (h4 f O)
  obtain⟨g,J,Z⟩:=(d1 m h1).1;obtain⟨g',L,a0⟩:=(d1 M h3).2;have e1:g=m:=Int.le_antisymm Z (lo g J);have e2:g'=M:=Int.le_antisymm (hi g' L) a0;subst e1 e2;exact .inr ⟨g,g',J,lo,L,hi,h5⟩
theorem jr{low B h d:Int}(F:0<d):fl low B (h*d,d)=fl low B (h,1):=by
 unfold fl;show(h*d-low*d) / (B*d)=(h-low*1) / (B*1);rw[<- Int.sub_mul,Int.mul_ediv_mul_of_pos_left _ _ F,Int.mul_one,Int.mul_one]
theorem KC{low B:Int}{a b:Int×Int}(h:a.1<b.1):fl low B (CU a b a.1)=fl low B (a.2,1):=by
 have e:CU a b a.1=(a.2*(b.1-a.1),b.1-a.1):=by
  unfold CU;rw[Int.sub_self,Int.mul_zero,Int.add_zero]
 rw[e,jr (by omega)]
theorem zp{low B:Int}{a b:Int×Int}(h:a.1<b.1):fl low B (CU a b b.1)=fl low B (b.2,1):=by
 have e:CU a b b.1=(b.2*(b.1-a.1),b.1-a.1):=by
  unfold CU;rw[<- Int.add_mul];congr 2;omega
 rw[e,jr (by omega)]
theorem iS{low B h k:Int}(F:0<B)(J:h<=k):fl low B (h,1)<=fl low B (k,1):=lO F (show(0:Int)<1 by decide) (show(0:Int)<1 by decide) (by show h*1<=k*1;omega)
def Kept(cv kp:PL)(b y m:Int):Prop:=(∀p∈kp,p∈cv/\b<=p.1/\p.1<b+m*y)/\∀k:Int,0<=k->k<m->∀p∈cv,b+k*y<=p.1->p.1<b+k*y+y ->
 (∃f∈kp,b+k*y<=f.1/\f.1<=p.1)/\(∃f∈kp,p.1<=f.1/\f.1<b+k*y+y)/\(∃f∈kp,b+k*y<=f.1/\f.1<b+k*y+y/\f.2<=p.2)/\∃f∈kp,b+k*y<=f.1/\f.1<b+k*y+y/\p.2<=f.2
theorem col_of{b y m t:Int}(B:0<y)(h1:b<=t)(h2:t<b+m*y):∃j,0<=j/\j<m/\b+j*y<=t/\t<b+j*y+y:=by
 refine⟨(t-b) / y,Int.ediv_nonneg (by omega) (by omega),?_,?_,?_⟩
 ·exact Int.ediv_lt_of_lt_mul B (by omega)
 ·have:=Int.ediv_mul_le (t-b) (Int.ne_of_gt B);omega
 ·have:=Int.lt_ediv_add_one_mul_self (t-b) B;rw[Int.add_mul,Int.one_mul] at this;omega
theorem XM{b y j k t:Int}(F:0<y)(h1:b+j*y<=t)(h2:t<b+k*y):b+j*y+y<=b+k*y:=by
 have B:j<k:=Int.lt_of_mul_lt_mul_right (a:=y) (by omega) (by omega);have:(j+1)*y<=k*y:=UT (by omega) (by omega);rw[Int.add_mul,Int.one_mul] at this;omega
theorem wF{b y j k t:Int}(F:0<y)(h1:t<b+j*y+y)(h2:b+k*y<=t):b+k*y<=b+j*y:=by
 have B:k<j+1:=Int.lt_of_mul_lt_mul_right (a:=y) (by rw[Int.add_mul,Int.one_mul];omega) (by omega);have:k*y<=j*y:=UT (by omega) (by omega);omega
theorem Ed{cv:PL}{b e:Int}{p:Int×Int}:p∈inCol cv b e↔p∈cv/\b<=p.1/\p.1<e:=by
 unfold inCol;rw[Vv];simp
theorem js{cv kp:PL}{b y m:Int}(hy:0<y)(F:DA cv)(M:Kept cv kp b y m){p q:Int×Int}(L:uy (inCol cv b (b+m*y)) p q){k:Int}(h1:p.1<b+k*y)(h2:b+k*y<=q.1):uy (inCol kp b (b+m*y)) p q:=by
 obtain⟨hp,hq,a4,J⟩:=L;obtain⟨a2,a0,O⟩:=Ed.mp hp;obtain⟨Z,a3,a1⟩:=Ed.mp hq
 have pk:p∈kp:=by
  obtain⟨j,j1,j2,j3,j4⟩:=col_of hy a0 O;obtain⟨f,Y,f1,f2⟩:=(M.2 j j1 j2 p a2 j3 j4).2.1;have B:=M.1 f Y;have:=XM hy j3 h1;have hn:=J f (Ed.mpr B);have:f.1=p.1:=by omega
  rw[<- zF F B.1 a2 this];exact Y
 have qk:q∈kp:=by
  obtain⟨j,j1,j2,j3,j4⟩:=col_of hy a3 a1;obtain⟨f,Y,f1,f2⟩:=(M.2 j j1 j2 q Z j3 j4).1;have B:=M.1 f Y;have:=wF hy j4 h2;have hn:=J f (Ed.mpr B);have:f.1=q.1:=by omega
  rw[<- zF F B.1 Z this];exact Y
 refine⟨Ed.mpr ⟨pk,a0,O⟩,Ed.mpr ⟨qk,a3,a1⟩,a4,fun c hc=>J c ?_⟩;exact Ed.mpr (M.1 c (Ed.mp hc).1)
theorem jt{cv kp:PL}{b y m:Int}(hy:0<y)(a1:DA cv)(F:Kept cv kp b y m){p q:Int×Int}(B:uy (inCol kp b (b+m*y)) p q){k:Int}(h1:p.1<b+k*y)(h2:b+k*y<=q.1):uy (inCol cv b (b+m*y)) p q:=by
 obtain⟨hp,hq,L,J⟩:=B;obtain⟨Z,a5,a4⟩:=Ed.mp hp;obtain⟨Y,a7,a6⟩:=Ed.mp hq;refine⟨Ed.mpr (F.1 p Z),Ed.mpr (F.1 q Y),L,fun c hc ⟨c1,c2⟩=>?_⟩;obtain⟨M,a0,O⟩:=Ed.mp hc;obtain⟨j,j1,j2,j3,j4⟩:=col_of hy a0 O;obtain⟨⟨f,hf,f1,f2⟩,⟨g,hg,g1,g2⟩,_⟩:=F.2 j j1 j2 c M j3 j4;have a2:=J f (Ed.mpr ⟨hf,(F.1 f hf).2⟩);have a3:=J g (Ed.mpr ⟨hg,(F.1 g hg).2⟩);have:b+j*y<=p.1:=by omega
 have:=XM hy this h1;omega
theorem gZ{cv kp:PL}{b y m low B Z k:Int}{o:Option (Int×Int)}(hy:0<y)(ht:0<B)(F:DA cv)(a3:DA kp)(Y:Kept cv kp b y m)(k0:0<=k)(k1:k<m)
  (h:Ci ((Dr (inCol cv b (b+m*y)) (b+k*y) (b+k*y+y)).map (fl low B)) Z o):Ci ((Dr (inCol kp b (b+m*y)) (b+k*y) (b+k*y+y)).map (fl low B)) Z o:=by
 have ac:DA (inCol cv b (b+m*y)):=List.Pairwise.filter _ F;have ak:DA (inCol kp b (b+m*y)):=List.Pairwise.filter _ a3;have hz:b+k*y+y=b+(k+1)*y:=by rw[Int.add_mul,Int.one_mul];omega
 have O:∀p,p∈cv->b+k*y<=p.1->p.1<b+k*y+y->(∃g∈(Dr (inCol kp b (b+m*y)) (b+k*y) (b+k*y+y)).map (fl low B),g<=fl low B (p.2,1))/\∃g∈(Dr (inCol kp b (b+m*y)) (b+k*y) (b+k*y+y)).map (fl low B),fl low B (p.2,1)<=g:=by
  intro p hp h1 h2;obtain⟨_,_,⟨f,hf,f1,f2,f3⟩,⟨g,hg,g1,g2,g3⟩⟩:=Y.2 k k0 k1 p hp h1 h2;refine⟨⟨_,Vs ((Bt ak).mpr (.inl ⟨f,Ed.mpr ⟨hf,(Y.1 f hf).2⟩,f1,f2,rfl⟩)),iS ht f3⟩,⟨_,Vs ((Bt ak).mpr (.inl ⟨g,Ed.mpr ⟨hg,(Y.1 g hg).2⟩,g1,g2,rfl⟩)),iS ht g3⟩⟩
 have M:∀p,p∈kp->b+k*y<=p.1->p.1<b+k*y+y->fl low B (p.2,1)∈(Dr (inCol cv b (b+m*y)) (b+k*y) (b+k*y+y)).map (fl low B):=fun p hp h1 h2=>
  Vs ((Bt ac).mpr (.inl ⟨p,Ed.mpr (Y.1 p hp),h1,h2,rfl⟩))
 refine h.dom (fun f hf=>?_) (fun g hg=>?_)
 ·obtain⟨q,hq,rfl⟩:=Ur.mp hf
  have same:∀ {q'},q'∈Dr (inCol kp b (b+m*y)) (b+k*y) (b+k*y+y)->(∃g∈(Dr (inCol kp b (b+m*y)) (b+k*y) (b+k*y+y)).map (fl low B),g<=fl low B q')/\∃g∈(Dr (inCol kp b (b+m*y)) (b+k*y) (b+k*y+y)).map (fl low B),fl low B q'<=g:=
   fun a2=>⟨⟨_,Vs a2,Int.le_refl _⟩,⟨_,Vs a2,Int.le_refl _⟩⟩
  rcases(Bt ac).mp hq with ⟨p,hp,h1,h2,rfl⟩|⟨p,r,hadj,h1,h2,hqe⟩
  ·exact O p (Ed.mp hp).1 h1 h2
  ·have L:=hadj.2.2.1;rcases hqe with rfl|rfl
   ·unfold mx at *;by_cases J:p.1>b+k*y
    ·rw[if_pos J,KC L];exact O p (Ed.mp hadj.1).1 (by omega) h1
    ·rw[if_neg J];by_cases a0:p.1=b+k*y
     ·rw[show fl low B (CU p r (b+k*y))=fl low B (p.2,1) by rw[<- a0];exact KC L];exact O p (Ed.mp hadj.1).1 (by omega) h1
     ·refine same ((Bt ak).mpr (.inr ⟨p,r,js hy F Y hadj (k:=k) (by omega) (by omega),h1,h2,.inl ?_⟩));unfold mx;rw[if_neg J]
   ·unfold mn at *;by_cases J:r.1<b+k*y+y
    ·rw[if_pos J,zp L];exact O r (Ed.mp hadj.2.1).1 (by omega) J
    ·rw[if_neg J];refine same ((Bt ak).mpr (.inr ⟨p,r,js hy F Y hadj (k:=k+1) (by omega) (by omega),h1,h2,.inr ?_⟩));unfold mn;rw[if_neg J]
 ·obtain⟨q,hq,rfl⟩:=Ur.mp hg
  have a1:fl low B q∈(Dr (inCol cv b (b+m*y)) (b+k*y) (b+k*y+y)).map (fl low B):=by
   rcases(Bt ak).mp hq with ⟨p,hp,h1,h2,rfl⟩|⟨p,r,hadj,h1,h2,hqe⟩
   ·exact M p (Ed.mp hp).1 h1 h2
   ·have L:=hadj.2.2.1;rcases hqe with rfl|rfl
    ·unfold mx at *;by_cases J:p.1>b+k*y
     ·rw[if_pos J,KC L];exact M p (Ed.mp hadj.1).1 (by omega) h1
     ·rw[if_neg J];by_cases a0:p.1=b+k*y
      ·rw[show fl low B (CU p r (b+k*y))=fl low B (p.2,1) by rw[<- a0];exact KC L];exact M p (Ed.mp hadj.1).1 (by omega) h1
      ·refine Vs ((Bt ac).mpr (.inr ⟨p,r,jt hy F Y hadj (k:=k) (by omega) (by omega),h1,h2,.inl ?_⟩));unfold mx;rw[if_neg J]
    ·unfold mn at *;by_cases J:r.1<b+k*y+y
     ·rw[if_pos J,zp L];exact M r (Ed.mp hadj.2.1).1 (by omega) J
     ·rw[if_neg J];refine Vs ((Bt ac).mpr (.inr ⟨p,r,jt hy F Y hadj (k:=k+1) (by omega) (by omega),h1,h2,.inr ?_⟩));unfold mn;rw[if_neg J]
  exact⟨⟨_,a1,Int.le_refl _⟩,⟨_,a1,Int.le_refl _⟩⟩
def Is4(cv:PL)(o:Option (PL)):Prop:=
 (o=none/\cv=[])\/∃q0 q1 q2 q3:Int×Int,o=some [q0,q1,q2,q3]/\q0∈cv/\q1∈cv/\q2∈cv/\q3∈cv/\
  ∀p∈cv,q0.1<=p.1/\p.1<=q1.1/\(q2.2<p.2\/(q2.2=p.2/\q2.1<=p.1))/\(p.2<q3.2\/(p.2=q3.2/\q3.1<=p.1))
theorem tR{a b p c d:Int}(h:a<p\/a=p/\c<=d)(g:b<a):b<p:=by omega
theorem tS{a b p c d:Int}(h:p<a\/p=a/\c<=d)(g:a<b):p<b:=by omega
theorem tT{a b p c d e:Int}(g:a<=b)(h:b<p\/b=p/\e<=d)(k:c<d):a<p\/a=p/\c<=d:=by omega
theorem tU{a b p c d e:Int}(g:b<=a)(h:p<b\/p=b/\e<=d)(k:c<d):p<a\/p=a/\c<=d:=by omega
theorem Is4.join{L M:PL}{a0 a1 Z O b0 b1 b2 b3:Int×Int}(h:Is4 L (some [a0,a1,Z,O]))(g:Is4 M (some [b0,b1,b2,b3]))(B:∀p∈L,∀q∈M,p.1<q.1) :
  Is4 (L++M) (some [a0,b1,if Z.2<=b2.2 then Z else b2,if b3.2<=O.2 then O else b3]):=by
 rcases h with ⟨e,_⟩|⟨q0,q1,q2,q3,e,m0,m1,m2,m3,hb⟩
 ·cases e
 rcases g with ⟨e',_⟩|⟨r0,r1,r2,r3,e',n0,n1,n2,n3,gb⟩
 ·cases e'
 cases e;cases e';refine .inr ⟨_,_,_,_,rfl,UV _ m0,Uv _ n1,?_,?_,fun p F=>?_⟩
 ·split
  ·exact UV _ m2
  ·exact Uv _ n2
 ·split
  ·exact UV _ m3
  ·exact Uv _ n3
 ·rcases Uu.mp F with F|F
  ·have J:=hb p F;have Y:=B p F _ n1;have k3:=B p F _ n2;have k4:=B p F _ n3;refine⟨J.1,Int.le_of_lt Y,?_,?_⟩
   ·split
    ·exact J.2.2.1
    ·exact .inl (tR J.2.2.1 (Int.not_le.mp (by assumption)))
   ·split
    ·exact J.2.2.2
    ·exact .inl (tS J.2.2.2 (Int.not_le.mp (by assumption)))
  ·have J:=gb p F;have Y:=B _ m0 p F;have k3:=B _ m2 p F;have k4:=B _ m3 p F;refine⟨Int.le_of_lt Y,J.2.1,?_,?_⟩
   ·split
    ·exact tT (by assumption) J.2.2.1 k3
    ·exact J.2.2.1
   ·split
    ·exact tU (by assumption) J.2.2.2 k4
    ·exact J.2.2.2
theorem Is4.nil:Is4 [] none:=.inl ⟨rfl,rfl⟩
theorem Is4.of_none{cv:PL}(h:Is4 cv none):cv=[]:=by
 rcases h with ⟨_,e⟩|⟨q0,q1,q2,q3,e,_⟩
 ·exact e
 ·cases e
theorem Is4.minmax{cv:PL}{O M p2 Y:Int×Int}{F J:Nat}(L:DA cv)(e0:cv[0]? = some O)(e1:cv[cv.length-1]? = some M)(e2:cv[F]? = some p2)(e3:cv[J]? = some Y)
  (h2:∀j,j<cv.length->(cv.getD F (0,0)).2<=(cv.getD j (0,0)).2/\(j<F->(cv.getD F (0,0)).2<(cv.getD j (0,0)).2))
  (h3:∀j,j<cv.length->(cv.getD J (0,0)).2>=(cv.getD j (0,0)).2/\(j<J->(cv.getD J (0,0)).2>(cv.getD j (0,0)).2)):Is4 cv (some [O,M,p2,Y]):=by
 obtain⟨z0,y0⟩:=Ui.mp e0;obtain⟨z1,y1⟩:=Ui.mp e1;obtain⟨z2,y2⟩:=Ui.mp e2;obtain⟨z3,Z⟩:=Ui.mp e3;have d:∀ {j:Nat} (B:j<cv.length),cv.getD j (0,0)=cv[j]:=fun {j} B=>by simp[B]
 refine .inr ⟨O,M,p2,Y,rfl,Ux e0,Ux e1,Ux e2,Ux e3,fun p hp=>?_⟩;obtain⟨j,B,rfl⟩:=UQ hp;have k2:=h2 j B;have k3:=h3 j B;rw[d z2,d B,y2] at k2;rw[d z3,d B,Z] at k3;refine⟨?_,?_,?_,?_⟩
 ·by_cases h:j=0
  ·subst h;rw[y0];exact Int.le_refl _
  ·have:=CW L z0 B (by omega);rw[y0] at this;omega
 ·by_cases h:j=cv.length-1
  ·subst h;rw[y1];exact Int.le_refl _
  ·have:=CW L B z1 (by omega);rw[y1] at this;omega
 ·by_cases h:F<j
  ·have:=CW L z2 B h;rw[y2] at this;omega
  ·by_cases h':j=F
   ·subst h';rw[y2];omega
   ·have:=k2.2 (by omega);omega
 ·by_cases h:J<j
  ·have:=CW L z3 B h;rw[Z] at this;omega
  ·by_cases h':j=J
   ·subst h';rw[Z];omega
   ·have:=k3.2 (by omega);omega
theorem lS{b y t i:Int}(B:0<y):(b+i*y<=t/\t<b+i*y+y)↔(t-b) / y=i:=by
 have h1:=Int.emod_add_mul_ediv (t-b) y;have h2:=Int.emod_nonneg (t-b) (show y≠0 by omega);have L:=Int.emod_lt_of_pos (t-b) B;constructor
 ·rintro⟨F,J⟩;refine(Int.ediv_emod_unique B (r:=t-b-i*y) (q:=i)).mpr ⟨?_,by omega,by omega⟩ |>.1;rw[Int.mul_comm y i];omega
 ·intro e;rw[e,Int.mul_comm y i] at h1;constructor<;>omega
theorem wG{cv:PL}{j:Nat}{q:Int×Int}{x z:Int}(h:cv[j]? = some q):inCol (cv.take (j+1)) x z=inCol (cv.take j) x z++(if(decide (x<=q.1)&&decide (q.1<z))=true then[q] else[]):=by
 rw[UR,h,inCol,List.filter_append];congr 1;simp only[Option.toList,List.filter_cons,List.filter_nil]
def Ah(cv:PL)(b y:Int)(m:Nat)(fs:List (Option (PL))):Prop:=fs.length=m/\∀(k:Nat) o,fs[k]? = some o->Is4 (inCol cv (b+(k:Int)*y) (b+(k:Int)*y+y)) o
def Ch(e:Int):Int->PL->Int->Prop
 |x,[],y=>x=y
 |x,p::r,y=>(0<=p.1/\p.1<=40)/\p.2*2 ^ p.1.toNat=x/\x+2 ^ p.1.toNat<=e/\(p.1<40->x % (2*2 ^ p.1.toNat)=0->x+2*2 ^ p.1.toNat<=e->False)/\Ch e (x+2 ^ p.1.toNat) r y
theorem Bb(k:Nat):(0:Int)<2 ^ k:=Int.pow_pos (by decide)
theorem Ch.le{e:Int}:∀ {r:PL} {x y:Int},Ch e x r y->x<=y
 | [],_,_,h=>by cases h;exact Int.le_refl _
 |p::r,x,y,h=>by
  have:=Ch.le h.2.2.2.2;have:=Bb p.1.toNat
  omega
theorem Ch.snoc{e:Int}{p:Int×Int}:∀ {r:PL} {x y:Int},Ch e x r y->(0<=p.1/\p.1<=40)->p.2*2 ^ p.1.toNat=y->y+2 ^ p.1.toNat<=e->(p.1<40->y % (2*2 ^ p.1.toNat)=0->y+2*2 ^ p.1.toNat<=e->False)->Ch e x (r ++ [p]) (y+2 ^ p.1.toNat)
 | [],_,_,h,h1,h2,h3,h4=>by cases h;exact⟨h1,h2,h3,h4,rfl⟩
 |_::_,_,_,h,h1,h2,h3,h4=>⟨h.1,h.2.1,h.2.2.1,h.2.2.2.1,Ch.snoc h.2.2.2.2 h1 h2 h3 h4⟩
theorem KD{a b:Nat}(h:a<=b):(2:Int) ^ a<=2 ^ b:=by
 obtain⟨c,rfl⟩:=Nat.exists_eq_add_of_le h;rw[Int.pow_add];have h1:=Bb a;have h2:=Bb c;have B:(2:Int) ^ a*1<=2 ^ a*2 ^ c:=Int.mul_le_mul_of_nonneg_left (by omega) (by omega);omega
theorem IG{a b:Nat}(h:a<=b):(2:Int) ^ a ∣ 2 ^ b:=by
 obtain⟨c,rfl⟩:=Nat.exists_eq_add_of_le h;rw[Int.pow_add];exact Int.dvd_mul_right _ _
theorem KF(k:Nat):(2:Int)*2 ^ k=2 ^ (k+1):=by rw[Int.pow_succ];omega
def SL(e:Int)(n:Nat)(x:Int):Prop:=((2:Int) ^ n ∣ x/\n<=40/\-(2 ^ 40)+(n:Int)<=x)\/∃m:Nat,(2:Int) ^ m ∣ x/\e-x<2 ^ m/\n+m<=80
theorem SL.len{e x:Int}{n:Nat}(h:SL e n x):n<=80:=by
 rcases h with h|⟨m,h⟩<;>omega
theorem gc{a:Nat}{x:Int}(h:(2:Int) ^ a ∣ x)(h1:-(2 ^ a)<x)(h2:x<2 ^ a):x=0:=by
 obtain⟨c,rfl⟩:=h;have J:=Bb a
 have F:c=0:=by
  by_cases h0:c <= -1
  ·have:(2:Int) ^ a*c<=2 ^ a*(-1):=Int.mul_le_mul_of_nonneg_left h0 (by omega);omega
  ·by_cases B:1<=c
   ·have:(2:Int) ^ a*1<=2 ^ a*c:=Int.mul_le_mul_of_nonneg_left B (by omega);omega
   ·omega
 rw[F,Int.mul_zero]
theorem ju{e x:Int}{L:Nat}(O:e<=2 ^ 40)(M:-(2 ^ 40)<=x)(h1:(2:Int) ^ L ∣ x)(h2:x+2 ^ L<=e):L<=40:=by
 have J:L<=40\/L=41\/42<=L:=by omega
 rcases J with h|rfl|h
 ·exact h
 ·exfalso
  obtain⟨c,J⟩:=h1;have B:(2:Int) ^ 41=2199023255552:=by decide
  have F:(2:Int) ^ 40=1099511627776:=by decide
  rw[B] at h2 J;rw[F] at O M;omega
 ·exfalso
  have Y:=KD h;have B:(2:Int) ^ 42=4398046511104:=by decide
  have F:(2:Int) ^ 40=1099511627776:=by decide
  rw[B] at Y;rw[F] at O M;omega
theorem SL.step{e x:Int}{n L:Nat}(Y:e<=2 ^ 40)(hx:-(2 ^ 40)<=x)(h:SL e n x)(h1:(2:Int) ^ L ∣ x)(h2:x+2 ^ L<=e)(h3:(2:Int) ^ (L+1) ∣ x->x+2 ^ (L+1)<=e->False):SL e (n+1) (x+2 ^ L):=by
 have hL:=ju Y hx h1 h2;have hp:=Bb L;have es:(2:Int) ^ (L+1)=2*2 ^ L:=(KF L).symm;rcases h with ⟨hd,hn,hb⟩|⟨m,hd,hm,hnm⟩
 ·by_cases F:(2:Int) ^ (L+1) ∣ x
  ·-- limited by the end
   have h4:¬x+2 ^ (L+1)<=e:=fun z=>h3 F z;by_cases J:L=40
   ·subst J;have M:(2:Int) ^ 40=1099511627776:=by decide
    have e3:(2:Int) ^ (40+1)=2199023255552:=by decide
    have Z:x=0:=gc F (by rw[e3];rw[M] at hx;omega) (by rw[e3];rw[M] at h2 Y;omega);subst Z;right;refine⟨0,Int.one_dvd _,?_,by omega⟩;rw[M] at Y h2 ⊢;show e-(0+1099511627776)<1;omega
   ·right;exact⟨L,Int.dvd_add h1 (Int.dvd_refl _),by omega,by omega⟩
  ·-- limited by where it begins
   have a2:n<=L:=by
    by_cases B:n<=L
    ·exact B
    ·exact absurd (Int.dvd_trans (IG (by omega)) hd) F
   have a0:(2:Int) ^ (L+1) ∣ x+2 ^ L:=by
    obtain⟨c,O⟩:=h1
    have a1:c % 2=1:=by
     by_cases h0:c % 2=0
     ·exfalso
      apply F;refine⟨c / 2,?_⟩;have:c=2*(c / 2):=by omega
      rw[O,es];rw[Int.mul_comm 2 ((2:Int) ^ L),Int.mul_assoc,<- this]
     ·omega
    refine⟨(c+1) / 2,?_⟩;have:c+1=2*((c+1) / 2):=by omega
    have h5:x+2 ^ L=2 ^ L*(c+1):=by rw[O,Int.mul_add,Int.mul_one]
    rw[h5,es,Int.mul_comm 2 ((2:Int) ^ L),Int.mul_assoc,<- this]
   left;refine⟨Int.dvd_trans (IG (by omega)) a0,?_,by omega⟩;by_cases J:L=40
   ·subst J;have M:(2:Int) ^ 40=1099511627776:=by decide
    obtain⟨c,O⟩:=h1;rw[M] at O Y h2 hx hb
    have:c≠0:=by
     rintro rfl;apply F;rw[O];exact⟨0,by omega⟩
    omega
   ·omega
 ·have B:L<m:=by
   by_cases B:L<m
   ·exact B
   ·have:=KD (show m<=L by omega);omega
  have F:(2:Int) ^ (L+1) ∣ x:=Int.dvd_trans (IG (by omega)) hd;have h4:¬x+2 ^ (L+1)<=e:=fun z=>h3 F z;right;exact⟨L,Int.dvd_add h1 (Int.dvd_refl _),by omega,by omega⟩
theorem SL.start{e b:Int}(B:-(2 ^ 40)<=b):SL e 0 b:=.inl ⟨Int.one_dvd _,by omega,by simpa using B⟩
theorem Is4.congr{a b:PL}{o:Option (PL)}(h:Is4 a o)(e:∀p,p∈a↔p∈b):Is4 b o:=by
 rcases h with ⟨h1,h2⟩|⟨q0,q1,q2,q3,h1,m0,m1,m2,m3,hb⟩
 ·refine .inl ⟨h1,?_⟩
  cases b with
  |nil=>rfl
  |cons p ps=>
   have:=(e p).mpr UB;rw[h2] at this;cases this
 ·exact .inr ⟨q0,q1,q2,q3,h1,(e _).mp m0,(e _).mp m1,(e _).mp m2,(e _).mp m3,fun p B=>hb p ((e p).mpr B)⟩
theorem pz{a b c d:Int}(h:a<b\/a=b/\c<=d)(g:b<a\/b=a/\d<=c):c=d:=by omega
theorem Is4.uniqueD{cv:PL}{o o':Option (PL)}(B:∀p∈cv,∀q∈cv,p.1=q.1->p=q)(h:Is4 cv o)(g:Is4 cv o'):o=o':=by
 rcases h with ⟨e,hc⟩|⟨q0,q1,q2,q3,e,m0,m1,m2,m3,hb⟩
 ·rcases g with ⟨e',_⟩|⟨r0,r1,r2,r3,e',n0,_⟩
  ·rw[e,e']
  ·rw[hc] at n0;cases n0
 ·rcases g with ⟨e',hc⟩|⟨r0,r1,r2,r3,e',n0,n1,n2,n3,gb⟩
  ·rw[hc] at m0;cases m0
  ·have a0:=hb r0 n0;have a1:=hb r1 n1;have Z:=hb r2 n2;have J:=hb r3 n3;have M:=gb q0 m0;have b1:=gb q1 m1;have b2:=gb q2 m2;have b3:=gb q3 m3;have Y:q0=r0:=B _ m0 _ n0 (Int.le_antisymm a0.1 M.1);have F:q1=r1:=B _ m1 _ n1 (Int.le_antisymm b1.2.1 a1.2.1);have O:q2=r2:=B _ m2 _ n2 (pz Z.2.2.1 b2.2.2.1);have L:q3=r3:=B _ m3 _ n3 (pz J.2.2.2 b3.2.2.2);rw[e,e',Y,F,O,L]
def HM(sm:PL)(l:Nat)(s:Int):PL:=inCol sm (s*2 ^ l) (s*2 ^ l+2 ^ l)
theorem Cj{sm:PL}{l:Nat}{s:Int}{p:Int×Int}:p∈HM sm l s↔p∈sm/\p.1 / 2 ^ l=s:=by
 unfold HM;rw[Ed];have:=lS (b:=0) (t:=p.1) (i:=s) (Bb l);rw[Int.sub_zero,Int.zero_add] at this;rw[this]
theorem jv(x:Int)(l:Nat):x / 2 ^ (l+1)=x / 2 ^ l / 2:=by
 rw[Int.pow_succ,<- Int.ediv_ediv_of_nonneg (Int.le_of_lt (Bb l))]
theorem db{sm:PL}{l:Nat}{s:Int}{p:Int×Int}:p∈HM sm l (2*s)++HM sm l (2*s+1)↔p∈HM sm (l+1) s:=by
 rw[Uu,Cj,Cj,Cj,jv];constructor
 ·rintro(⟨h1,h2⟩|⟨h1,h2⟩)
  ·exact⟨h1,by omega⟩
  ·exact⟨h1,by omega⟩
 ·rintro⟨h1,h2⟩;have:p.1 / 2 ^ l=2*s\/p.1 / 2 ^ l=2*s+1:=by omega
  rcases this with h|h
  ·exact .inl ⟨h1,h⟩
  ·exact .inr ⟨h1,h⟩
theorem rA{sm:PL}{l:Nat}{a b:Int}(J:a<b):∀p∈HM sm l a,∀q∈HM sm l b,p.1<q.1:=by
 intro p B q F;have h1:=(Cj.mp B).2;have h2:=(Cj.mp F).2;by_cases h:p.1<q.1
 ·exact h
 ·have:=Int.ediv_le_ediv (Bb l) (show q.1<=p.1 by omega);omega
theorem XN{sm:PL}{b x e:Int}(h1:b<=x)(h2:x<=e)(p:Int×Int):p∈inCol sm b x++inCol sm x e↔p∈inCol sm b e:=by
 rw[Uu,Ed,Ed,Ed];constructor
 ·rintro(⟨B,F,J⟩|⟨B,F,J⟩)
  ·exact⟨B,F,by omega⟩
  ·exact⟨B,by omega,J⟩
 ·rintro⟨B,F,J⟩;by_cases h:p.1<x
  ·exact .inl ⟨B,F,h⟩
  ·exact .inr ⟨B,by omega,J⟩
theorem jw{sm:PL}{b x e:Int}:∀p∈inCol sm b x,∀q∈inCol sm x e,p.1<q.1:=by
 intro p B q F;have h1:=(Ed.mp B).2;have h2:=(Ed.mp F).2;omega
theorem Ds{m:PL}(B:(m.map (·.1)).Nodup){t h:Int}{q:Int×Int}:q∈Gx m t h↔(q.1≠t/\q∈m)\/q=(t,h):=by
 obtain⟨a,b⟩:=q;rw[<- Ga (Bq B),Sx,<- Ga B];by_cases e:a=t
 ·subst e;simp only[if_true,Option.some.injEq,ne_eq,not_true_eq_false,false_and,false_or,Prod.mk.injEq,true_and];exact eq_comm
 ·simp[e]
noncomputable def HN(l:Nat)(s:Int):List Ef:=[Sum.inl (l:Int),Sum.inl s]
theorem lT{l B:Nat}{s s':Int}(h:HN l s=HN B s'):l=B/\s=s':=by
 unfold HN at h;simp only[List.cons.injEq,Sum.inl.injEq,and_true] at h;exact⟨by omega,h.2⟩
def Dn(H:Hp)(kvs:List (List Ef×V))(sm:PL)(G:Nat->Int->Prop):Prop:=∀(l:Nat) (s:Int),l<=40->G l s->∃o,GR H ((GH kvs (HN l s)).getD .non) o/\Is4 (HM sm l s) o
theorem Dn.same{H H':Hp}{kvs:List (List Ef×V)}{sm:PL}{G:Nat->Int->Prop}(h:Dn H kvs sm G)(s:ET H H'):Dn H' kvs sm G:=fun l s' B g=>by
 obtain⟨o,h1,h2⟩:=h l s' B g;exact⟨o,h1.same s,h2⟩
theorem Db.kpX{H H':Hp}{a d:Addr}{cv:PL}{ob:HO}(h:Db H a cv)(k:Kp d H H')(F:H d=some ob)(B:∀xs,ob≠.tup xs):Db H' a cv:=by
 obtain⟨us,g,p⟩:=h
 have ne:∀ {b:Addr} {xs:List V},H b=some (.tup xs)->H' b=some (.tup xs):=fun {b xs} e=>k _ _ e fun z=>by
  subst z;rw[F] at e;exact B _ (Option.some.inj e)
 exact⟨us,ne g,Paired.mapP p fun _ _ ⟨a,e,z⟩=>⟨a,e,ne z⟩⟩
theorem GR.kpX{H H':Hp}{d:Addr}{v:V}{o:Option (PL)}{ob:HO}(h:GR H v o)(k:Kp d H H')(F:H d=some ob)(B:∀xs,ob≠.tup xs):GR H' v o:=by
 cases h with
 |non=>exact .non
 |pr e hl=>exact .pr (e.kpX k F B) hl
theorem Dn.kpX{H H':Hp}{kvs:List (List Ef×V)}{sm:PL}{G:Nat->Int->Prop}{d:Addr}{ob:HO}(h:Dn H kvs sm G)(k:Kp d H H')(F:H d=some ob)(B:∀xs,ob≠.tup xs):Dn H' kvs sm G:=fun l s' J g=>by
 obtain⟨o,h1,h2⟩:=h l s' J g;exact⟨o,h1.kpX k F B,h2⟩
theorem Dn.other{H:Hp}{kvs:List (List Ef×V)}{sm B:PL}{t:Int}(h:Dn H kvs sm fun _ _=>True)(e:∀q:Int×Int,q.1≠t->(q∈sm↔q∈B)):Dn H kvs B fun l s=>s≠t / 2 ^ l:=fun l s L g=>by
 obtain⟨o,h1,h2⟩:=h l s L trivial;refine⟨o,h1,h2.congr fun p=>?_⟩;rw[Cj,Cj];constructor
 ·rintro⟨J,F⟩;exact⟨(e p fun z=>g (by rw[<- F,z])).mp J,F⟩
 ·rintro⟨J,F⟩;exact⟨(e p fun z=>g (by rw[<- F,z])).mpr J,F⟩
theorem Dn.put{H':Hp}{kvs:List (List Ef×V)}{sm:PL}{G:Nat->Int->Prop}{t:Int}{i:Nat}{v:V}{o:Option (PL)}(h:Dn H' kvs sm G)(B:GR H' v o)(F:Is4 (HM sm i (t / 2 ^ i)) o) :
  Dn H' (Dh kvs (HN i (t / 2 ^ i)) v) sm fun l s=>G l s\/(l=i/\s=t / 2 ^ l):=fun l s J g=>by
 by_cases e:HN l s=HN i (t / 2 ^ i)
 ·obtain⟨rfl,rfl⟩:=lT e;refine⟨o,?_,F⟩;rw[Aw,if_pos rfl];exact B
 ·rcases g with g|⟨rfl,rfl⟩
  ·obtain⟨o',h1,h2⟩:=h l s J g;refine⟨o',?_,h2⟩;rw[Aw,if_neg e];exact h1
  ·exact absurd rfl e
theorem Dn.mono{H:Hp}{kvs:List (List Ef×V)}{sm:PL}{G G':Nat->Int->Prop}(h:Dn H kvs sm G)(g:∀l s,l<=40->G' l s->G l s):Dn H kvs sm G':=fun l s B F=>h l s B (g l s B F)
theorem Dn.tups{H H':Hp}{kvs:List (List Ef×V)}{sm:PL}{G:Nat->Int->Prop}(h:Dn H kvs sm G)(t:∀b xs,H b=some (.tup xs)->H' b=some (.tup xs)):Dn H' kvs sm G:=fun l s B g=>by
 obtain⟨o,h1,h2⟩:=h l s B g;refine⟨o,?_,h2⟩;generalize (GH kvs (HN l s)).getD .non=v at h1
 cases h1 with
 |non=>exact .non
 |pr e B=>
  obtain⟨us,g,p⟩:=e;exact .pr ⟨us,t _ _ g,Paired.mapP p fun _ _ ⟨a,e,z⟩=>⟨a,e,t _ _ z⟩⟩ B
noncomputable def Dw(m:PL)(t:Int):PL:=m.filter fun p=>decide (p.1≠t)
theorem lU(m:PL)(t:Int):BD (Ez m) (.inl t)=Ez (Dw m t):=by
 unfold BD Ez Dw;rw[List.filter_map];congr 1;apply List.filter_congr;intro p _;simp[Ib,Function.comp]
theorem Bi{m:PL}{t:Int}{q:Int×Int}:q∈Dw m t↔q.1≠t/\q∈m:=by
 unfold Dw;rw[Vv,decide_eq_true_iff,and_comm]
theorem IH{m:PL}{t:Int}(n:(m.map (·.1)).Nodup):((Dw m t).map (·.1)).Nodup:=n.sublist ((List.filter_sublist).map _)
theorem ge(m:PL)(t:Int):(Dw m t).length<=m.length:=UL _ _
def Dx(m m':PL):Prop:=∀q:Int×Int,q∈m↔q∈m'
theorem Dx.get{m m':PL}(h:Dx m m')(n:(m.map (·.1)).Nodup)(n':(m'.map (·.1)).Nodup)(t:Int):GG m t=GG m' t:=by
 cases hg:GG m' t with
 |some v=>rw[Ga n,h];exact(Ga n').mp hg
 |none=>
  cases hm:GG m t with
  |none=>rfl
  |some v=>
   rw[Ga n,h,<- Ga n',hg] at hm;cases hm
theorem Dx.put{m m':PL}(h:Dx m m')(n:(m.map (·.1)).Nodup)(n':(m'.map (·.1)).Nodup)(t v:Int):Dx (Gx m t v) (Gx m' t v):=fun q=>by rw[Ds n,Ds n',h q]
theorem Dx.drop{m m':PL}(h:Dx m m')(t:Int):Dx (Dw m t) (Dw m' t):=fun q=>by rw[Bi,Bi,h q]
theorem Dx.trans{a b c:PL}(h:Dx a b)(g:Dx b c):Dx a c:=fun q=>(h q).trans (g q)
theorem gf{m:PL}{t v:Int}(n:(m.map (·.1)).Nodup)(B:GG m t=some v):Dx (Gx (Dw m t) t v) m:=fun q=>by
 rw[Ds (IH n),Bi];obtain⟨x,y⟩:=q;constructor
 ·rintro(⟨_,_,h⟩|h)
  ·exact h
  ·rw[h];exact(Ga n).mp B
 ·intro h;by_cases e:x=t
  ·subst e;have:=(Ga n).mpr h;rw[B] at this;cases this;exact .inr rfl
  ·exact .inl ⟨e,e,h⟩
theorem gg{m:PL}{t v:Int}(n:(m.map (·.1)).Nodup)(B:GG m t=none):Dx (Dw (Gx m t v) t) m:=fun q=>by
 rw[Bi,Ds n];constructor
 ·rintro⟨h,(h' | h')⟩
  ·exact h'.2
  ·exact absurd (by rw[h']) h
 ·intro h
  have:q.1≠t:=fun e=>by
   rw[FM] at B;exact B (Ur.mpr ⟨q,h,e⟩)
  exact⟨this,.inl ⟨this,h⟩⟩
theorem de{m:PL}{t u v:Int}(n:(m.map (·.1)).Nodup)(B:GG m t=some u):Dx (Gx (Gx m t v) t u) m:=fun q=>by
 rw[Ds (Bq n),Ds n];obtain⟨x,y⟩:=q;constructor
 ·rintro(⟨h,(h' | h')⟩|h)
  ·exact h'.2
  ·exact absurd (by rw[h']) h
  ·rw[h];exact(Ga n).mp B
 ·intro h;by_cases e:x=t
  ·subst e;have:=(Ga n).mpr h;rw[B] at this;cases this;exact .inr rfl
  ·exact .inl ⟨e,.inl ⟨e,h⟩⟩
section
variable{X:Cx}{o e:Expr}{apos cpos pos p:Pos}{td ty to:TE}
theorem jx(B:QE X o td)(F:QE X e ty)(m:M1 X o "pop" apos e cpos:=by exact⟨rfl,rfl,rfl,rfl⟩):QE X (.Call (.Attribute o "pop" apos) [e] [] cpos) (jW td ty):=⟨dF B.h F.h m⟩
def df:R2:=fun y x H Q=>∃a o,x=.ref a/\DV H a y o/\Q (.bl o.isSome) H
def KG:R2:=fun y x H Q=>∃a o,x=.ref a/\DV H a y o/\Q (.bl (!o.isSome)) H
theorem Lr(L:X.A.units+1<cLine):DB X (compareOp .In) df:=by
 intro pins s U H x y v u Q I F B h;obtain⟨a,J,rfl,g,q⟩:=h;obtain rfl:u=Value.ref a:=B;exact tN L I g F fun M I3=>⟨.bl J.isSome,H,I3,rfl,q⟩
theorem KH(L:X.A.units+1<cLine):DB X (compareOp .NotIn) KG:=by
 intro pins s U H x y v u Q I F B h;obtain⟨a,J,rfl,g,q⟩:=h;obtain rfl:u=Value.ref a:=B;exact ko L I g F fun M I3=>⟨.bl (!J.isSome),H,I3,rfl,q⟩
def gh:List V->Hp->VK->Prop:=fun xs H Q=>∃a kvs,xs=[.ref a]/\H a=some (.dK kvs)/\∀p,H p=none->Q (.ref p) (upd H p (.dK kvs))
theorem XO:Gr X (.type "dict") gh:=by
 intro pins s U H xs us Q I r h;obtain⟨a,kvs,rfl,F,q⟩:=h
 cases r with
 |cons r1 r2=>
 cases r2;cases r1;exact dG I (.inl F) fun p s' B I'=>⟨.ref p,_,I',rfl,q p B⟩
end
section
variable{K:W.Frag}{U:St}{H:Hp}{Q:VK}{td ty:TE}{a b:Addr}{m m':PL}{i v:Int}
def jy(a:Addr)(y:V)(H:Hp)(Q:VK):Prop:=∃kvs k v,H a=some (.dK kvs)/\y=kV k/\GH kvs k=some v/\Q v (upd H a (.dK (BD kvs k)))
def gi(ty:TE)(U:St)(Q:VK)(x:V)(H:Hp):Prop:=∃a,x=.ref a/\ue H a/\ty U H fun y H2=>jy a y H2 Q
theorem dh(h:td U H fun x H1=>gi ty U Q x H1):jW td ty U H Q:=h
theorem jz{kvs:List (Ef×V)}(h1:H a=some (.dK kvs))(q:ty U H fun y H2=>jy a y H2 Q):gi ty U Q (.ref a) H:=⟨a,rfl,.inl ⟨kvs,.inl h1⟩,q⟩
theorem xA(h1:H a=some (.dK (Ez m)))(l:GG m i=some v)(q:∀H2,H2 a=some (.dK (Ez (Dw m i)))->Kp a H H2->Q (.int v) H2):jy a (.int i) H Q:=
 ⟨Ez m,.inl i,.int v,h1,rfl,by rw[Ae,l];rfl,by rw[lU];exact q _ EW Kp.upd⟩
theorem lV(h1:H a=some (.dK (Ez m)))(q:Q (.bl (GG m i).isSome) H):df (.int i) (.ref a) H Q:=⟨a,_,rfl,DV.k (k:=Sum.inl i) h1,by rw[Ae,Option.isSome_map];exact q⟩
theorem wH(h1:H a=some (.dK (Ez m)))(q:Q (.bl (!(GG m i).isSome)) H):KG (.int i) (.ref a) H Q:=⟨a,_,rfl,DV.k (k:=Sum.inl i) h1,by rw[Ae,Option.isSome_map];exact q⟩
theorem xB(h1:H a=some (.dK (Ez m)))(q:∀p H2,H p=none->H2 p=some (.dK (Ez m))->ET H H2->Q (.ref p) H2):gh [.ref a] H Q:=⟨a,_,rfl,h1,fun p B=>q p _ B EW (ET.new B)⟩
theorem gj{l:Addr}{xs:List V}{y:V}(h:H l=some (.lst (xs ++ [y])))(q:∀H2,H2 l=some (.lst xs)->Kp l H H2->Q y H2):oJ (.ref l) [] H Q:=
 ⟨l,xs ++ [y],y,rfl,rfl,h,by simp,by rw[List.dropLast_concat];exact q _ EW Kp.upd⟩
end
def gk(K:W.Frag):R2:=fun x y H Q=>∃p q xs,x=.ref p/\y=.ref q/\Eh K H p xs/\Eh K H q []/\Q (.bl (!xs.isEmpty)) H
section
variable{X:Cx}
theorem HQ(K:W.Frag)(hK:X.K=K)(hu:X.A.units+1<cLine):DB X (compareOp .NotEq) (gk K):=by
 subst hK;intro pins s U H x y v u Q I Y O h;obtain⟨p,q,xs,rfl,rfl,h1,h2,k⟩:=h;obtain rfl:v=Value.ref p:=Y;obtain rfl:u=Value.ref q:=O;obtain⟨Z,L,pl,hz⟩:=I.list h1;obtain⟨M,J,F,a0⟩:=I.list h2;cases J;have B:=L.length
 cases xs with
 |nil=>
  cases L;exact SeqAt.RcNeAt.lists (e:=fun _=>true) pl.isList F.isList rfl (by omega) (fun j h1 _=>absurd h1 (by simp)) X.prog X.w _ _ ⟨.bl false,H,I,rfl,k⟩
 |cons x xs=>
  refine SeqAt.RcNeAt.lists_lengths pl.isList F.isList ?_ (by omega) X.prog X.w _ _ ⟨.bl true,H,I,rfl,k⟩;simp only[Vd] at B;simp only[Uw,List.length_nil,bne_iff_ne,ne_eq];omega
end
section
variable{K:W.Frag}{H:Hp}{Q:VK}{p q:Addr}{xs:List V}
theorem HR(h1:Eh K H p xs)(h2:Eh K H q [])(k:Q (.bl (!xs.isEmpty)) H):gk K (.ref p) (.ref q) H Q:=⟨p,q,xs,rfl,rfl,h1,h2,k⟩
end
theorem ints_dats{K:W.Frag}{H:Hp}:∀ns:List Int,BY K H (ns.map V.int) (ns.map PyData.int)
 | []=>.nil
 |n::ns=>.cons (.int n) (ints_dats ns)
theorem xC:∀l m:List Int,PyData.eqvAll (l.map PyData.int) (m.map PyData.int)=decide (l=m)
 | [],[]=>rfl
 | [],q::m=>by simp[PyData.eqvAll]
 |p::l,[]=>by simp[PyData.eqvAll]
 |p::l,q::m=>by
  show(PyData.eqv (PyData.int p) (PyData.int q)&&PyData.eqvAll (l.map PyData.int) (m.map PyData.int))=_;rw[xC l m,show PyData.eqv (PyData.int p) (PyData.int q)=(p==q) from rfl];by_cases h1:p=q<;>by_cases h2:l=m<;>simp[h1,h2]
theorem ints_depth:∀l:List Int,PyData.depthAll (l.map PyData.int)<=50
 | []=>by decide
 |p::l=>by
  have B:=ints_depth l;show PyData.depthAll (PyData.int p::l.map PyData.int)<=50;simp only[PyData.depthAll,PyData.depth];omega
theorem uA(l:List Int):(PyData.tuple (l.map PyData.int)).depth<=60:=by
 have:=ints_depth l;simp only[PyData.depth];omega
theorem ints_lay:∀l:List Int,(PyData.tuple (l.map PyData.int)).canLay0=true:=by
 have h:∀l:List Int,PyData.canLayAll0 (l.map PyData.int)=true:=fun l=>by
  induction l with
  |nil=>rfl
  |cons p l ih=>exact ih
 exact h
section
variable{K:W.Frag}{H:Hp}{Q:VK}{a b:Addr}{l m:List Int}
theorem lW(h1:H a=some (.tup (l.map V.int)))(h2:H b=some (.tup (m.map V.int)))(h:Q (.bl (decide (l=m))) H):vi K (.ref a) (.ref b) H Q:=by
 refine rd_eqD (.tup (GF.of h1) (ints_dats l)) (.tup (GF.of h2) (ints_dats m)) (ints_lay l) (ints_lay m) (uA l) ?_;rw[show PyData.eqv (.tuple (l.map PyData.int)) (.tuple (m.map PyData.int))=decide (l=m) from xC l m];exact h
end
end _L
namespace _L
theorem Dx.len{m m':PL}(h:Dx m m')(n:(m.map (·.1)).Nodup)(n':(m'.map (·.1)).Nodup):m.length=m'.length:=
 ((List.perm_ext_iff_of_nodup (AH n) (AH n')).mpr h).length_eq
end _L
namespace _L
open PySem PySem.Spec PyProof.Rows PySem.W
def GD(l:List Addr)(H H':Hp):Prop:=∀b o,H b=some o->b∉l->H' b=some o
theorem GD.trans{l:List Addr}{H H1 H2:Hp}(h:GD l H H1)(g:GD l H1 H2):GD l H H2:=fun b o e n=>g b o (h b o e n) n
theorem GD.mono{l B:List Addr}{H H':Hp}(h:GD l H H')(s:∀b∈l,b∈B):GD B H H':=fun b o e n=>h b o e fun z=>n (s b z)
theorem GD.same{l:List Addr}{H H':Hp}(h:ET H H'):GD l H H':=fun b o e _=>h b o e
theorem GD.kp{l:List Addr}{H H':Hp}{q:Addr}(h:Kp q H H')(m:q∈l):GD l H H':=fun b o e n=>h b o e fun z=>n (z ▸ m)
theorem Bc{H0 H:Hp}{b:Addr}(s:ET H0 H)(e:H b=none):H0 b=none:=by
 cases e2:H0 b with
 |none=>rfl
 |some o=>rw[s _ _ e2] at e;cases e
theorem Db.frL{H H':Hp}{u:Addr}{cv:PL}{l:List Addr}(h:Db H u cv)(f:GD l H H')(nt:∀b∈l,∀xs,H b≠some (.tup xs)):Db H' u cv:=by
 obtain⟨us,h1,h2⟩:=h;have B:∀b xs,H b=some (.tup xs)->H' b=some (.tup xs):=fun b xs e=>f _ _ e fun z=>nt b z xs e;exact⟨us,B _ _ h1,Paired.mapP h2 fun _ _ ⟨a,e,z⟩=>⟨a,e,B _ _ z⟩⟩
theorem Db.tups{H H':Hp}{u:Addr}{cv:PL}(h:Db H u cv)(t:∀b xs,H b=some (.tup xs)->H' b=some (.tup xs)):Db H' u cv:=by
 obtain⟨us,h1,h2⟩:=h;exact⟨us,t _ _ h1,Paired.mapP h2 fun _ _ ⟨a,e,z⟩=>⟨a,e,t _ _ z⟩⟩
end _L
namespace _L
theorem gl{c:TT}{t u:TS}{D:DQ}{U:St}{H:Hp}(h:Ir c t u D U H):Ir c t u D U H:=h
theorem Ih{t:TS}{D:DQ}{U:St}{H:Hp}(P:St->Hp->Prop)(h1:∀U' H',P U' H'->D.nx U' H')(h2:∀D':DQ,D'.rt=D.rt->(∀U' H',P U' H'->D'.nx U' H')->t D' U H):t D U H:=h2 D rfl h1
end _L
namespace _L
open PySem PySem.Spec PyProof.Rows PySem.W
theorem WH(o:Option (PL)):(DW o).canLay0=true:=by
 cases o with
 |none=>rfl
 |some qs=>exact Ho qs
theorem xD(o:Option (PL)):(DW o).depth<=55:=by
 cases o with
 |none=>show(PyData.none).depth<=55;simp only[PyData.depth];decide
 |some qs=>
  have:=HJ qs;show(PyData.tuple (qs.map DN)).depth<=55;simp only[PyData.depth];omega
theorem xE(o o':Option (PL)):PyData.eqv (DW o) (DW o')=decide (o=o'):=by
 cases o with
 |none=>
  cases o' with
  |none=>rfl
  |some qs=>rfl
 |some qs=>
  cases o' with
  |none=>rfl
  |some rs=>
   show PyData.eqvAll (qs.map DN) (rs.map DN)=_;rw[Iy];simp only[Option.some.injEq]
theorem LF:∀l m:List (Option (PL)),PyData.eqvAll (l.map DW) (m.map DW)=decide (l=m)
 | [],[]=>rfl
 | [],q::m=>by simp[PyData.eqvAll]
 |p::l,[]=>by simp[PyData.eqvAll]
 |p::l,q::m=>by
  show(PyData.eqv (DW p) (DW q)&&PyData.eqvAll (l.map DW) (m.map DW))=_;rw[xE,LF l m];by_cases h1:p=q<;>by_cases h2:l=m<;>simp[h1,h2]
theorem FO:∀l:List (Option (PL)),PyData.canLayAll0 (l.map DW)=true
 | []=>rfl
 |p::l=>by
  show((DW p).canLay0&&PyData.canLayAll0 (l.map DW))=true;rw[WH,FO l];rfl
theorem SM:∀l:List (Option (PL)),PyData.depthAll (l.map DW)<=57
 | []=>by decide
 |p::l=>by
  have B:=SM l;have h0:=xD p;show PyData.depthAll (DW p::l.map DW)<=57;simp only[PyData.depthAll];omega
theorem LG(l:List (Option (PL))):(PyData.tuple (l.map DW)).depth<=60:=by
 have:=SM l;simp only[PyData.depth];omega
theorem GR.dat{K:W.Frag}{H:Hp}{v:V}{o:Option (PL)}(h:GR H v o):Bz K H v (DW o):=by
 cases h with
 |non=>exact .non
 |pr h hl=>
  obtain⟨us,g,p⟩:=h;exact .tup (GF.of g) p.dats
section
variable{K:W.Frag}{H:Hp}{Q:VK}{x y:V}{o o':Option (PL)}{a b:Addr}{us ws:List V}{fs gs:List (Option (PL))}
theorem zq(h:GR H x o)(g:GR H y o')(q:Q (.bl (!decide (o=o'))) H):Xv K x y H Q:=
 rd_neD h.dat g.dat (WH _) (WH _) (Uz (xD _) (by decide)) (by rw[xE];exact q)
theorem wI(B:H a=some (.tup us))(h:GT H us fs)(F:H b=some (.tup ws))(g:GT H ws gs)(q:Q (.bl (!decide (fs=gs))) H):Xv K (.ref a) (.ref b) H Q:=
 rd_neD (.tup (GF.of B) h.dats) (.tup (GF.of F) g.dats) (FO fs) (FO gs) (LG fs) (by rw[show PyData.eqv (.tuple (fs.map DW)) (.tuple (gs.map DW))=decide (fs=gs) from LF fs gs];exact q)
theorem wJ(B:H a=some (.tup us))(h:GT H us fs)(F:H b=some (.tup ws))(g:GT H ws gs)(q:Q (.bl (decide (fs=gs))) H):vi K (.ref a) (.ref b) H Q:=
 rd_eqD (.tup (GF.of B) h.dats) (.tup (GF.of F) g.dats) (FO fs) (FO gs) (LG fs) (by rw[show PyData.eqv (.tuple (fs.map DW)) (.tuple (gs.map DW))=decide (fs=gs) from LF fs gs];exact q)
end
theorem GR.tups{H H':Hp}{v:V}{o:Option (PL)}(h:GR H v o)(t:∀b xs,H b=some (.tup xs)->H' b=some (.tup xs)):GR H' v o:=by
 cases h with
 |non=>exact .non
 |pr e hn=>exact .pr (e.tups t) hn
theorem GT.tups{H H':Hp}{vs:List V}{B:List (Option (PL))}(h:GT H vs B)(t:∀b xs,H b=some (.tup xs)->H' b=some (.tup xs)):GT H' vs B:=h.mapP fun _ _ d=>d.tups t
theorem gm{m m':PL}(h:Dx m m')(b e:Int):∀p,p∈inCol m b e↔p∈inCol m' b e:=fun p=>by rw[Ed,Ed,h p]
theorem gn{m:PL}(n:(m.map (·.1)).Nodup):∀p∈m,∀q∈m,p.1=q.1->p=q:=fun p B q F e=>by
 obtain⟨x,y⟩:=p;obtain⟨z,w⟩:=q;have e:x=z:=e;subst e;have h1:=(Ga n).mpr B;have h2:=(Ga n).mpr F;rw[h1] at h2;cases h2;rfl
theorem di{m m':PL}{b e:Int}{o o':Option (PL)}(J:Dx m m')(n:(m.map (·.1)).Nodup)(h:Is4 (inCol m b e) o)(g:Is4 (inCol m' b e) o'):o=o':=
 Is4.uniqueD (fun p B q F=>gn n p (Ed.mp B).1 q (Ed.mp F).1) h (g.congr fun p=>(gm J b e p).symm)
theorem lX{c:TT}{t u:TS}{D:DQ}{U:St}{H:Hp}(P:St->Hp->Prop)(h1:∀U' H',P U' H'->u D U' H')(h2:∀B:TS,(∀U' H',P U' H'->B D U' H')->Ir c t B D U H):Ir c t u D U H:=h2 u h1
def gp(d:Addr)(o:Obj)(kvs:List (Ef×V)):It:=⟨fun i H=>H d=some (.frz o (.dK kvs))/\i<kvs.length,fun i H x H'=>H'=H/\∃p,kvs[i]? = some p/\x=kV p.1,fun i H=>H d=some (.frz o (.dK kvs))/\kvs.length<=i⟩
theorem gr{P:Program}{w:World}{k:Ef}{u:Value}(h:(Gh P w).is k u=true):El (kV k) u:=by
 rcases Gu h with ⟨i,t,rfl,rfl⟩|⟨x,t,rfl,rfl⟩
 ·exact⟨t,rfl⟩
 ·exact⟨t,rfl⟩
theorem sY{kvs:List (Ef×V)}{vs:List (Ef×Value)}(h:KV kvs vs):∀ {i:Nat} {p:Ef×V},kvs[i]? = some p->∃q,vs[i]? = some q/\q.1=p.1:=by
 unfold KV at h
 induction h with
 |nil=>intro i p e;simp at e
 | @cons a b as bs h t ih=>
  intro i p e
  cases i with
  |zero=>
   simp at e;subst e;exact⟨b,rfl,h.1.symm⟩
  |succ i=>
   obtain⟨q,h1,h2⟩:=ih (i:=i) (p:=p) (by simpa using e);exact⟨q,by simpa using h1,h2⟩
theorem gu{P:Program}{w:World}{K:W.Frag}{tg:Expr}(d L:Addr)(o:Obj)(kvs:List (Ef×V))(es:Array DictEntry)(ep:Nat)(ho:o.data=.dict es ep):Kq P w K tg (gp d o kvs) [L] L (fun i h=>h.IsKeyIter L d i kvs.length ep) where
 mem:=by simp
 obj:=fun i h st b O=>by
  have e:b=L:=by simpa using O
  subst e;obtain⟨o,e,c,d⟩:=st;exact⟨o,e,fun v z=>by rw[d] at z;cases z⟩
 keep:=fun i h h' st k=>st.at fun o e=>k L (by simp) o e
 item:=by
  intro X hP hw hK hc i pins s U H E I hf st hg;subst hP hw hK;obtain⟨hd,hi⟩:=hg;obtain⟨f0,f1,f2,f3,f4,f5⟩:=hf L (by simp);obtain⟨M,z,a1,vs,F,dd⟩:=(show Gj X.prog X.w H s.heap d (.frz o (.dK kvs)) from I.hok d _ hd);obtain⟨a3,dd⟩:=dd.dictAt;obtain⟨o2,a4,Y,g2,g3,g4⟩:=id dd;rw[M] at Y;cases Y;rw[ho] at g3;cases g3;have B:kvs.length=vs.length:=F.length;obtain⟨q,hq,eq⟩:=sY F (Ub hi);rw[B] at st;refine wpAny_pyNext_dict_item (knd:=Gh X.prog X.w) (k:=q.1) (v:=q.2) st dd hq fun a0 h' Z J a2=>?_;have I1:Inv X pins U H { s with heap:=h' }:=I.turned (t':=s.toks) (fun b o O e=>(a2.2 b O).trans e) f0 f1 f3 f4 f5;obtain⟨o3,e3,c3,d3⟩:=id J;refine⟨a0,rfl,Lj (s:={ s with heap:=h' }) e3 c3 d3 (by decide) ⟨kV kvs[i].1,H,I1,?_,⟨rfl,_,Ub hi,rfl⟩,?_,fun b O=>(hf b O).1⟩⟩
  ·rw[<- eq];exact gr Z
  ·rw[B];exact J
 done:=by
  intro X hP hw hK hc i pins s U H E I hf st hg;subst hP hw hK;obtain⟨hd,hi⟩:=hg;obtain⟨f0,f1,f2,f3,f4,f5⟩:=hf L (by simp);obtain⟨M,z,a1,vs,F,dd⟩:=(show Gj X.prog X.w H s.heap d (.frz o (.dK kvs)) from I.hok d _ hd);obtain⟨a3,dd⟩:=dd.dictAt;obtain⟨o2,a4,Y,g2,g3,g4⟩:=id dd;rw[M] at Y;cases Y;rw[ho] at g3;cases g3;have B:kvs.length=vs.length:=F.length;rw[B] at st;exact wpAny_pyNext_dict_end (knd:=Gh X.prog X.w) (I.ok.hd hc) st dd (List.getElem?_eq_none (by omega)) fun h' eb=>⟨rfl,I.turned (t':=s.toks) (fun b o O e=>eb b o O e) f0 f1 f3 f4 f5⟩
 self:=fun _ _ _ _ _ st h=>wpAny_pyIter_keyiter st h
def Fj(X:Cx)(d:Addr):Prop:=∀o u,X.H₀ d≠some (.frz o u)
def XQ(X:Cx)(R:It->Hp->Prop)(v:V)(H:Hp):Prop:=∃d kvs,v=.ref d/\H d=some (.dK kvs)/\∀o,Fj X d->R (gp d o kvs) (upd H d (.frz o (.dK kvs)))
def iT(X:Cx)(te:TE):TI:=fun U H R=>te U H fun v H1=>XQ X R v H1
section
variable{X:Cx}{tg e:Expr}{te t:TE}
theorem vA(he:QE X e te):QI X tg e (iT X te):=by
 refine⟨?_⟩;intro pins s U H R I h;refine thn (he.h pins s U H _ I h) fun u B ⟨x,H1,I1,rx,d,kvs,ex,Y,q⟩=>?_;subst ex;obtain rfl:u=Value.ref d:=rx;obtain⟨z,J,vs,O,dd⟩:=Lo I1.hok Y;obtain⟨ep,L⟩:=dd.dictAt;obtain⟨o,es,ho,hx,F,hk,a0,hn⟩:=id L
 have Z:Fj X d:=fun o u e=>by
  have:=I1.base.frzs d o u e;rw[Y] at this;cases this
 have M:kvs.length=vs.length:=O.length
 -- frozen
 have I2:Inv X pins U (upd H1 d (.frz o (.dK kvs))) B:=by
  have:=Ia (h':=B.heap) (t':=B.toks) (ob:=.frz o (.dK kvs)) I1 (by rw[Y];exact True.intro) (Heap.SameBut.refl _ _) ⟨o,ho⟩ ⟨ho,Wy z J O dd⟩;exact this
 refine wpAny_pyIter_dict (knd:=Gh X.prog X.w) J L ?_;refine⟨B.heap.objs.size,[B.heap.objs.size],_,_,_,rfl,I2.kept (t':=B.toks) fun b o e=>Uc _ e,gu d _ o kvs es ep F,?_,fun b hb=>?_,q o Z⟩
 ·rw[M];exact⟨_,Ul _ rfl,rfl,rfl⟩
 ·have e:b=B.heap.objs.size:=by simpa using hb
  subst e;exact I2.fpOk (Ue _) (I2.hok.fresh (Ue _))
theorem Inv.thaw{pins:List (Addr×Obj)}{U:St}{H:Hp}{s:Shared}{d:Addr}{o:Obj}{u:HO}(I:Inv X pins U H s)(J:H d=some (.frz o u))(Z:Fj X d)(hu:WZ (some u)):Inv X pins U (upd H d u) s:=by
 have B:∀b ob,H b=some ob->(∀o u,ob≠.frz o u)->b≠d:=fun b ob e n z=>by rw[z,J] at e;cases e;exact n _ _ rfl
 have F:∀b,H b=none->b≠d:=fun b e z=>by rw[z,J] at e;cases e
 obtain⟨ho,L⟩:=(show Gj X.prog X.w H s.heap d (.frz o u) from I.hok d _ J);have base:=I.base;refine⟨I.ok,I.os,I.bare,⟨base.keep,base.slot,fun b ob e n O=>?_,base.there,fun b xs e=>?_,fun b ob v e=>?_,fun b ps e=>?_⟩,I.loc,I.cell,?_,fun x c e=>?_,fun p Y=>?_,fun b ob e=>?_,I.len⟩
 ·have:=base.free b ob e n O;rw[Ep (F b this)];exact this
 ·have:=base.tups b xs e;rw[Ep (B b _ this fun _ _ z=>by cases z)];exact this
 ·have h1:=base.frzs b ob v e;have:b≠d:=fun z=>by subst z;exact Z _ _ e
  rw[Ep this];exact h1
 ·obtain⟨more,h1⟩:=base.tbls b ps e;exact⟨more,by rw[Ep (B b _ h1 fun _ _ z=>by cases z)];exact h1⟩
 ·rw[Ep (F _ I.free)];exact I.free
 ·rw[Ep (F _ (I.freeC x c e))];exact I.freeC x c e
 ·obtain⟨h1,h2,h3⟩:=I.pin p Y;exact⟨h1,by rw[Ep (F _ h2)];exact h2,h3⟩
 ·by_cases M:b=d
  ·subst M;rw[EW] at e;cases e;exact L.stay (fun c v _ r=>r) (fun c r=>by rw[Ep (B c _ r fun _ _ z=>by cases z)];exact r) fun c xs r=>by rw[Ep (B c _ r fun _ _ z=>by cases z)];exact r
  ·rw[Ep M] at e;exact(I.hok b _ e).stay (fun c v _ r=>r) (fun c r=>by rw[Ep (B c _ r fun _ _ z=>by cases z)];exact r) fun c xs r=>by rw[Ep (B c _ r fun _ _ z=>by cases z)];exact r
def wK(X:Cx)(v:V)(H:Hp)(Q:VK):Prop:=∃d o u,Fj X d/\H d=some (.frz o u)/\WZ (some u)/\Q v (upd H d u)
def iU(X:Cx)(t:TE):TE:=fun U H Q=>t U H fun v H'=>wK X v H' Q
theorem lY(h:QE X e t):QE X e (iU X t):=by
 refine⟨?_⟩;intro pins s U H Q I J;refine thn (h.h pins s U H _ I J) fun u M ⟨x,H1,I1,B,d,o,v,F,L,hm,q⟩=>?_;exact⟨x,_,I1.thaw L F hm,B,q⟩
end
section
variable{X:Cx}{U:St}{H:Hp}{Q:VK}{R:It->Hp->Prop}{te t:TE}{d:Addr}{m:PL}
theorem xF(h:te U H fun v H1=>XQ X R v H1):iT X te U H R:=h
theorem rB(h1:H d=some (.dK (Ez m)))(h:∀o H2,Fj X d->H2 d=some (.frz o (.dK (Ez m)))->Kp d H H2->R (gp d o (Ez m)) H2):XQ X R (.ref d) H:=⟨d,_,rfl,h1,fun o B=>h o _ B EW Kp.upd⟩
theorem WI(h:t U H fun v H'=>wK X v H' Q):iU X t U H Q:=h
theorem lZ{v:V}{o:Obj}(B:Fj X d)(F:H d=some (.frz o (.dK (Ez m))))(q:∀H2,H2 d=some (.dK (Ez m))->Kp d H H2->Q v H2):wK X v H Q:=⟨d,o,_,B,F,True.intro,q _ EW Kp.upd⟩
theorem dj{o:Obj}{t v:Int}(h1:H d=some (.frz o (.dK (Ez m))))(h2:GG m t=some v)(h:Q (.int v) H):XA (.ref d) (.int t) H Q:=
 ⟨d,_,rfl,.inl ⟨Ez m,.inl t,.inr ⟨o,h1⟩,rfl,by rw[Ae,h2];rfl⟩,h⟩
theorem sZ{i:Nat}(hi:i<m.length):(Ez m)[i]? = some (Ib m[i]):=by
 unfold Ez;rw[UC,Ub hi];rfl
end
section
variable{K:Type}[DecidableEq K]
noncomputable def Fk(xs:List (K×Addr×Value))(k:K):List (K×Addr×Value):=xs.filter fun x=>decide (x.1≠k)
theorem zr{α β:Type}(f:α->β):∀(l:List α) (j:Nat),(l.map f).eraseIdx j=(l.eraseIdx j).map f
 | [],_=>rfl
 |_::_,0=>rfl
 |x::l,j+1=>congrArg (f x :: ·) (zr f l j)
theorem wL{k:K}:∀ {xs:List (K×Addr×Value)},k∉xs.map (·.1)->Fk xs k=xs:=fun {xs} h=>by
 unfold Fk;rw[List.filter_eq_self];intro x B;simp only[decide_eq_true_eq];exact fun e=>h (Ur.mpr ⟨x,B,e⟩)
theorem SN{k:K}{p:Addr×Value}:∀ {xs:List (K×Addr×Value)} {j:Nat},(xs.map (·.1)).Nodup->xs[j]? = some (k,p)->xs.eraseIdx j=Fk xs k
 | [],j,_,h=>by simp at h
 |x::xs,0,n,h=>by
  simp at h;subst h;rw[UK,Vu] at n;rw[List.eraseIdx_cons_zero];unfold Fk;rw[List.filter_cons_of_neg (by simp)];exact(wL n.1).symm
 |x::xs,j+1,n,h=>by
  rw[UK,Vu] at n;have h':xs[j]? = some (k,p):=by simpa using h
  have B:x.1≠k:=fun e=>n.1 (by rw[e];exact Ur.mpr ⟨(k,p),Ux h',rfl⟩);rw[List.eraseIdx_cons_succ];unfold Fk;rw[List.filter_cons_of_pos (by simpa using B)];congr 1;exact SN n.2 h'
variable{prog:Program}{w:World}{knd:HeapKind prog w K}{A:Around}{E:Value->Shared->Prop}{s:Shared}{d a:Addr}{k:K}{xs:List (K×Addr×Value)}
theorem dk{Q:Option DictEntry->Shared->Prop}(hu:knd.room A)(B:knd.is s.heap k a)(hm:s.heap.DictOfH knd d xs)(hsz:xs.length<=sizeLine)
  (J:atKey xs k=none->Q none { s with toks:=s.toks+knd.draws k })
  (F:∀e p,atKey xs k=some p->e.val=p.2->∀h',h'.DictOfH knd d (Fk xs k)->Heap.SameBut d s.heap h'->Q (some e) { s with heap:=h',toks:=s.toks+knd.draws k }) :
  wpAny (model prog w) A (Builtin.Dict.takeOut d (.ref a)) Q E s:=by
 obtain⟨o,es,ep,O,hc,L,Y,M,Z⟩:=hm;unfold Builtin.Dict.takeOut
 try with_reducible refine UO ?_
 refine Ua (knd.pyHash hu B (Ua (wpAny_dictFind_heap (s:={ s with toks:=s.toks+knd.draws k }) hu B O L Y M Z ?_ ?_)))
 ·intro a0;exact Uj (J (atKey_none_of_get a0))
 ·intro j p hj;refine Ua (wpAny_dictEntries (s:={ s with toks:=s.toks+knd.draws k }) O L ?_);rw[entry_at Y j,hj]
  refine Ua (wpAny_updateDictKeys (hz:=by have e:=size_of_entries Y;omega) (s:={ s with toks:=s.toks+knd.draws k }) O L (Uj (F _ p (atKey_of_get Z hj) rfl _ ⟨_,_,ep+1,Heap.get?_update_self _ O (Obj.isFreed_of_dict (Obj.data_mapDictKeys L _)),
   hc.mapDictKeys _,Obj.data_mapDictKeys L _,?_,?_,?_⟩ (Heap.SameBut.update ..))))
  ·rw[<- SN Z hj,<- zr,<- Y];obtain⟨l⟩:=es;simp
  ·intro x hx;exact knd.keeps (M x (Vv.mp hx).1) O L (Heap.SameBut.update ..)
  ·exact Z.sublist ((List.filter_sublist).map _)
theorem uB(knd:HeapKind prog w K)(d a:Addr)(M:(d==sysModules)=false)(B:Value) :
  MeetsIn prog w (Builtin.«dict.pop» ⟨[.ref d,.ref a,B],[]⟩) (fun A R s=>knd.room A.in1/\∃k xs,knd.is s.heap k a/\s.heap.DictOfH knd d xs/\xs.length<=sizeLine/\
   (∀p,atKey xs k=some p->∀h',h'.DictOfH knd d (Fk xs k)->Heap.SameBut d s.heap h'->∀t,R (.ok (.ret p.2)) { s with heap:=h',toks:=t })/\
   (atKey xs k=none->∀t,R (.ok (.ret B)) { s with toks:=t })):=
 .of_wp fun A R s ⟨hu,k,xs,J,hm,hsz,h1,h2⟩=>by
  have a3:=M;unfold Builtin.«dict.pop»;refine Ua ?_;unfold Builtin.Dict.keyAndDefault;refine Ua (wpAny_notOrdered_dict hm.typeIs ?_);show wpAny _ _ (pure (d,Value.ref a,some B)) _ _ s;refine Uj ?_;obtain⟨o,es,ep,ho,hc,a1,he,a2,hn⟩:=id hm;have a0:(keyPart (Value.ref a)).isSome=false:=rfl;simp only[a0,UW,if_false];refine Ua (wpAny_dictEntries ho a1 (Ua (Uj ?_)));by_cases F:es.isEmpty=true
  ·rw[if_pos F]
   have hx:xs=[]:=by
    have:=size_of_entries he;have h0:es.size=0:=by simpa[Array.isEmpty] using F
    exact Vf.mp (by omega)
   subst hx;refine Ua (wpAny_rule (Ua (Uj ?_)));simp only[Option.isNone_none,if_true];refine Ua (wpAny_missedRemoval_other M ?_);exact Ua (wpAny_rule (Uj ⟨B,rfl,h2 rfl _⟩))
  ·rw[if_neg F];refine Ua (dk hu J hm hsz (fun O=>?_) fun e p hp Y h' L Z=>?_)
   ·simp only[Option.isNone_none,if_true];refine Ua (wpAny_missedRemoval_other M ?_);exact Ua (wpAny_rule (Uj ⟨B,rfl,h2 O _⟩))
   ·simp only[Option.isNone_some,UW,if_false];exact Ua (wpAny_letGo (Uj ⟨e.val,rfl,by rw[Y];exact h1 p hp h' L Z _⟩))
end
theorem KT.dropT{H:Hp}{kvs:List (List Ef×V)}{xs:List (List Ef×Addr×Value)}(r:KT H kvs xs)(k:List Ef):KT H (BD kvs k) (Fk xs k):=by
 unfold BD Fk
 induction r with
 |nil=>exact .nil
 | @cons p q ps qs h t ih=>
  by_cases e:p.1=k
  ·rw[List.filter_cons_of_neg (by simpa using e),List.filter_cons_of_neg (by simpa using h.1.symm.trans e)];exact ih
  ·rw[List.filter_cons_of_pos (by simpa using e),List.filter_cons_of_pos (by simpa using fun z=>e (h.1.trans z))];exact .cons h ih
section
variable{X:Cx}{pins:List (Addr×Obj)}{U:St}{H:Hp}{s:Shared}{a b:Addr}{kvs:List (List Ef×V)}{k:List Ef}{A:Around}{E:Value->Shared->Prop}
theorem rC{z:V}{r:Value}{Q:Value->Shared->Prop}(hu:A.units+1<cLine)(I:Inv X pins U H s)(e:H a=some (.dT kvs))(eb:H b=some (.tup (k.map kV)))(rz:El z r)
  (h1:∀v,GH kvs k=some v->∀Z s',Inv X pins U (upd H a (.dT (BD kvs k))) s'->El v Z->Q Z s') (h2:GH kvs k=none->∀s',Inv X pins U H s'->Q r s') :
  wpAny (model X.prog X.w) A (call (.builtin "dict.pop") [.ref a,.ref b,r]) Q E s:=by
 obtain⟨z,M,xs,J,dd⟩:=iD I.hok e;have hz:xs.length<=sizeLine:=by rw[<- Paired.length J];exact z
 refine call_meetsIn PySem.F.slot_dict_pop dd.typeIs PySem.F.entry_dict_pop (PySem.F.args_dict_pop_3 _ _ _) (uB (tupleKind (Gh X.prog X.w)) a b M r) ⟨tupleKind_room_in1 hu,k,xs,HI I.hok eb,dd,hz,fun p hp h' L hs t=>?_,fun hn t=>?_⟩
 ·have B:=J.val k;rw[hp] at B
  cases hk:GH kvs k with
  |none=>rw[hk] at B;exact B.elim
  |some v=>
   rw[hk] at B;refine h1 v hk _ _ ?_ B;obtain⟨q,es,ep,Y,g2,g3,g4,_,g5⟩:=L;refine Ia I (by rw[e];exact True.intro) hs ⟨q,Y⟩ ⟨Uz (UL _ _) z,M,_,(J.dropT k).keeps fun c ys O=>?_,q,es,ep,Y,g2,g3,g4,g5⟩;rw[Ep (fg O e (fun z=>nomatch z))];exact O
 ·have B:=J.val k;rw[hn] at B
  cases hk:GH kvs k with
  |some v=>rw[hk] at B;exact B.elim
  |none=>exact h2 hk _ (I.tok _)
end
def xG(a:Addr)(y z:V)(H:Hp)(Q:VK):Prop:=∃kvs k b,H a=some (.dT kvs)/\y=.ref b/\H b=some (.tup (k.map kV))/\
 (∀v,GH kvs k=some v->Q v (upd H a (.dT (BD kvs k))))/\(GH kvs k=none->Q z H)
def zG(ty tx:TE)(U:St)(Q:VK)(x:V)(H:Hp):Prop:=∃a,x=.ref a/\ue H a/\ty U H fun y H2=>tx U H2 fun z H3=>xG a y z H3 Q
def xH(td ty tx:TE):TE:=fun U H Q=>td U H fun x H1=>zG ty tx U Q x H1
theorem dq{X:Cx}{o e f:Expr}{apos cpos:Pos}{td ty tx:TE}(hu:X.A.units+1<cLine)(ho:PE X o td)(he:PE X e ty)(hf:PE X f tx)(m:M2 X o "pop" apos e f cpos):PE X (.Call (.Attribute o "pop" apos) [e,f] [] cpos) (xH td ty tx):=by
 intro pins s U H Q I h;refine wpAny_Call_method m.base m.few m.line PySem.F.plainAttrs_dict PySem.F.slot_dict_pop PySem.F.type_dict_pop (thn (ho pins s U H _ I h) fun u O ⟨x,H1,I1,rx,a,ex,d,q1⟩=>?_);subst ex;obtain rfl:u=Value.ref a:=rx;obtain⟨t1,t2,_⟩:=jU I1 d;refine⟨t1,t2,?_⟩;rw[m.trees]
 refine Calls.callWith_builtin rfl (Calls.evalArgs_plain (Calls.spliced_cons (thn (he pins O U H1 _ I1 q1) fun Z s2 ⟨y,H2,I2,L,Y⟩=>
  Calls.spliced_cons (thn (hf pins s2 U H2 _ I2 Y) fun fv s3 ⟨z,H3,I3,J,kvs,k,b,ea,ey,M,q3,q4⟩=>Calls.spliced_nil ?_))))
 subst ey;obtain rfl:Z=Value.ref b:=L;exact rC hu I3 ea M J (fun v l w' s4 I4 B=>⟨v,_,I4,B,q3 v l⟩) fun l s4 I4=>⟨z,H3,I4,J,q4 l⟩
section
variable{X:Cx}{o e f:Expr}{apos cpos pos p:Pos}{td ty tx:TE}
theorem dr(J:X.A.units+1<cLine)(B:QE X o td)(L:QE X e ty)(F:QE X f tx)(m:M2 X o "pop" apos e f cpos:=by exact⟨rfl,rfl,rfl,rfl⟩):QE X (.Call (.Attribute o "pop" apos) [e,f] [] cpos) (xH td ty tx):=⟨dq J B.h L.h F.h m⟩
variable{U:St}{H:Hp}{Q:VK}{a b:Addr}{kvs:List (List Ef×V)}{k:List Ef}{z:V}
theorem gv(h:td U H fun x H1=>zG ty tx U Q x H1):xH td ty tx U H Q:=h
theorem gw(h1:H a=some (.dT kvs))(q:ty U H fun y H2=>tx U H2 fun z H3=>xG a y z H3 Q):zG ty tx U Q (.ref a) H:=⟨a,rfl,.inr ⟨kvs,.inl h1⟩,q⟩
theorem wM(h:GH kvs k=none):BD kvs k=kvs:=by
 unfold BD;rw[List.filter_eq_self];intro x B;simp only[decide_eq_true_eq];intro e;unfold GH at h;rw[Option.map_eq_none_iff,List.find?_eq_none] at h;exact h x B (by simpa using e)
theorem du(h1:H a=some (.dT kvs))(B:H b=some (.tup (k.map kV)))(q:∀v H2,H2 a=some (.dT (BD kvs k))->Kp a H H2->Q v H2):xG a (.ref b) z H Q:=
 ⟨kvs,k,b,h1,rfl,B,fun v _=>q v _ EW Kp.upd,fun l=>q z H (by rw[wM l];exact h1) fun _ _ e _=>e⟩
theorem zH(h1:H a=some (.dT kvs))(B:H b=some (.tup (k.map kV)))(q:Q (.bl (GH kvs k).isSome) H):df (.ref b) (.ref a) H Q:=⟨a,_,rfl,DV.t h1 B,q⟩
theorem wN(h1:H a=some (.dT kvs))(B:H b=some (.tup (k.map kV)))(q:Q (.bl (!(GH kvs k).isSome)) H):KG (.ref b) (.ref a) H Q:=⟨a,_,rfl,DV.t h1 B,q⟩
end
theorem rD{X:Cx}(K:W.Frag)(h:X.K=K):DB X (compareOp .In) (oE K false):=h ▸ yg
structure zI(K:Frag)(x:Str)(C:Addr):Prop where
 a:nsIn K mainGlobals x=some (some (.ref C))
 ex:excIn K C [.type "ValueError",.type "Exception",.type "BaseException",.type "object"] "ValueError.__new__"=true
 ga:findIn K (.ref C) "__getattribute__"=some (some (.builtin "BaseException.__getattribute__"))
 gt:findIn K (.ref C) "__getattr__"=some none
 cl:findIn K (.ref C) "__class__"=some (some (.builtin "object.__class__"))
 ob:mroIn K C (.type "object")=some true
 be:mroIn K C (.type "BaseException")=some true
structure wO(K:Frag)(x:Str)(C:Addr):Prop where
 a:nsIn K mainGlobals x=some (some (.ref C))
 pg:plainGet K C Str.empty=true
 hd:hasDictIn K C=true
 po:plainOver K C=true
 sa:findIn K (.ref C) "__setattr__"=some (some (.builtin "object.__setattr__"))
 mi:makesIn K C=true
 kc:keepIn K (.ref C)=true
section
variable{K:Frag}{x qual:Str}{st:Stmt}{f:Addr}{fd:FuncData}
theorem tV{us:List Value}(h:us.length=1):us=[us.getD 0 .none]:=by
 rcases us with _|⟨_,_|_⟩<;>first|rfl|(simp at h;done)|(exfalso;simp at h)
theorem tW{us:List Value}(h:us.length=2):us=[us.getD 0 .none,us.getD 1 .none]:=by
 rcases us with _|⟨_,_|⟨_,_|_⟩⟩<;>first|rfl|(simp at h;done)|(exfalso;simp at h)
theorem tX{us:List Value}(h:us.length=3):us=[us.getD 0 .none,us.getD 1 .none,us.getD 2 .none]:=by
 rcases us with _|⟨_,_|⟨_,_|⟨_,_|_⟩⟩⟩<;>first|rfl|(simp at h;done)|(exfalso;simp at h)
theorem tY{us:List Value}(h:us.length=4):us=[us.getD 0 .none,us.getD 1 .none,us.getD 2 .none,us.getD 3 .none]:=by
 rcases us with _|⟨_,_|⟨_,_|⟨_,_|⟨_,_|_⟩⟩⟩⟩<;>first|rfl|(simp at h;done)|(exfalso;simp at h)
theorem tZ{us:List Value}(h:us.length=5):us=[us.getD 0 .none,us.getD 1 .none,us.getD 2 .none,us.getD 3 .none,us.getD 4 .none]:=by
 rcases us with _|⟨_,_|⟨_,_|⟨_,_|⟨_,_|⟨_,_|_⟩⟩⟩⟩⟩<;>first|rfl|(simp at h;done)|(exfalso;simp at h)
theorem Ev.b1{p:Str}(F:Ev K x qual st f fd)(h:∀(kV B M:Value) (O:Option Addr) (J L u:Value),bindArgs (fnOf x qual (DG st) (Gv st) (EU st) .none kV B M O J L) ⟨[u],[]⟩=pure ([p].zip [u])):EX K fd [p] []:=F.binds fun _ _ _ _ _ _ us Y=>by rw[tV Y];exact h _ _ _ _ _ _ _
theorem Ev.b2{p q:Str}(F:Ev K x qual st f fd)(h:∀(kV B M:Value) (O:Option Addr) (J L u v:Value),bindArgs (fnOf x qual (DG st) (Gv st) (EU st) .none kV B M O J L) ⟨[u,v],[]⟩=pure ([p,q].zip [u,v])):EX K fd [p,q] []:=F.binds fun _ _ _ _ _ _ us Y=>by rw[tW Y];exact h _ _ _ _ _ _ _ _
theorem Ev.b3{p q r:Str}(F:Ev K x qual st f fd)(h:∀(kV B M:Value) (O:Option Addr) (J L u v y:Value),bindArgs (fnOf x qual (DG st) (Gv st) (EU st) .none kV B M O J L) ⟨[u,v,y],[]⟩=pure ([p,q,r].zip [u,v,y])):EX K fd [p,q,r] []:=F.binds fun _ _ _ _ _ _ us Y=>by rw[tX Y];exact h _ _ _ _ _ _ _ _ _
theorem Ev.b4{p q r t:Str}(F:Ev K x qual st f fd)(h:∀(kV B M:Value) (O:Option Addr) (J L u v y z:Value),bindArgs (fnOf x qual (DG st) (Gv st) (EU st) .none kV B M O J L) ⟨[u,v,y,z],[]⟩=pure ([p,q,r,t].zip [u,v,y,z])):EX K fd [p,q,r,t] []:=F.binds fun _ _ _ _ _ _ us Y=>by rw[tY Y];exact h _ _ _ _ _ _ _ _ _ _
theorem Ev.b5{p q r t t':Str}(F:Ev K x qual st f fd)(h:∀(kV B O:Value) (Y:Option Addr) (J M u v y z L:Value),bindArgs (fnOf x qual (DG st) (Gv st) (EU st) .none kV B O Y J M) ⟨[u,v,y,z,L],[]⟩=pure ([p,q,r,t,t'].zip [u,v,y,z,L])):EX K fd [p,q,r,t,t'] []:=F.binds fun _ _ _ _ _ _ us Z=>by rw[tZ Z];exact h _ _ _ _ _ _ _ _ _ _ _
end
theorem Paired.get{α β:Type}{F:α->β->Prop}{l₁:List α}{l₂:List β}(h:Paired F l₁ l₂){i:Nat}{x:α}(e:l₁[i]? = some x):∃y,l₂[i]? = some y/\F x y:=by
 induction h generalizing i with
 |nil=>simp at e
 |cons h t ih=>
  cases i with
  |zero=>simp at e;subst e;exact⟨_,rfl,h⟩
  |succ i=>
   obtain⟨o,h1,h2⟩:=ih (by simpa using e);exact⟨o,by simpa using h1,h2⟩
theorem Paired.snocP{α β:Type}{F:α->β->Prop}{l₁:List α}{l₂:List β}(g:Paired F l₁ l₂){x:α}{y:β}(h:F x y):Paired F (l₁ ++ [x]) (l₂ ++ [y]):=by
 induction g with
 |nil=>exact .cons h .nil
 |cons g _ ih=>exact .cons g ih
def Cy(a b:Str):Prop:=¬b.cps.toList<a.cps.toList
theorem xI{a b:Str}(h1:Cy a b)(h2:Cy b a):a=b:=by
 have:a.cps.toList=b.cps.toList:=List.le_antisymm (List.not_lt.mp h1) (List.not_lt.mp h2);cases a;cases b;congr;exact Array.toList_inj.mp this
theorem zt{a b c:Str}(h1:Cy a b)(h2:Cy b c):Cy a c:=List.not_lt.mpr (List.le_trans (List.not_lt.mp h1) (List.not_lt.mp h2))
theorem zu:∀(l:List Str) (p:Str),risingS p l=true->(p::l).Pairwise Cy
 | [],p,_=>List.pairwise_singleton _ _
 |x::r,p,h=>by
  simp only[risingS,UN,Bool.not_eq_true',ltCps_eq,decide_eq_false_iff_not] at h;have F:=zu r x h.2;rw[List.pairwise_cons];refine⟨fun y B=>?_,F⟩;rcases Ud.mp B with rfl|B
  ·exact h.1
  ·exact zt h.1 ((List.pairwise_cons.mp F).1 y B)
theorem wP{l:List Str}(h:sortedS l=true):l.Pairwise Cy:=by
 cases l with
 |nil=>exact .nil
 |cons p l=>exact zu l p h
theorem xJ{l m:List Str}(B:l.Perm m)(h1:l.Pairwise Cy)(h2:m.Pairwise Cy):l=m:=List.Perm.eq_of_pairwise (le:=Cy) (fun _ _ _ _ h g=>xI h g) h1 h2 B
section
variable{prog:Program}{w:World}{A:Around}{E:Value->Shared->Prop}{s:Shared}{κ:Type}[DecidableEq κ]{knd:KeyKind prog w κ}
theorem xK{d:Addr}{kvs:List (κ × Value)}{ep:Nat}{Q:Value->Shared->Prop}(hh:A.handled=none)(hd:(d==sysModules)=false)(hm:s.heap.DictAt knd d kvs ep)(Z:kvs.length<64)
  (hI:∀B:Array Value,ItemsOf (fun i v=>∃k x,kvs[i]? = some (k,x)/\knd.is k v=true) B kvs.length->∃ss,StrsAre B.toList ss/\∀(s':Shared) (l:Addr) (out:Array Value) (ss':List Str) (e:Nat),s.heap.objs.size<=l->(∀b o,s.heap.get? b=some o->s'.heap.get? b=some o)->s'.gens=s.gens->s'.drawn=s.drawn->s'.os=s.os ->
   s'.heap.get? l=some (seqObj "list" out e)->StrsAre out.toList ss'->ss'.Perm ss->sortedS ss'=true->Q (.ref l) s') :
  wpAny (model prog w) A (call (.builtin "sorted") [.ref d]) Q E s:=by
 refine Calls.call_function_entry kind_sorted plain_sorted entry_sorted (args_sorted1 _) ?_;unfold Builtin.«sorted»;refine Ua (m:=checkCount "sorted" 1 1 _) (Uj ?_);refine Ua (Kw (knd:=knd) hh hd hm (by rw[sizeLine_eq];omega) fun M B hk e1 e2 e3 Y F=>?_);obtain⟨ss,L,hQ⟩:=hI B F;refine Ua (wpAny_newList (hsz:=by rw[UI,F.1,sizeLine_eq];omega) ?_);have J:(M.heap.push (seqObj "list" B.toList.toArray 0)).get? M.heap.objs.size=some (seqObj "list" B.toList.toArray 0):=Ul _ rfl;show wpAny _ _ _ _ _ { M with heap:=M.heap.push (seqObj "list" B.toList.toArray 0) };refine Ua (UO (wpAny_call_entry slot_list_sort ⟨_,J,rfl⟩ entry_list_sort (list_sort_treeK strKind_oneLt J L.keysOf (fun v₁ v₂ BF e=>keyKind_strs (by rw[<- e];exact L)) (by rw[UI,F.1];exact Z) fun a0 hp hs=>⟨_,rfl,?_⟩) (args_list_sort _)));obtain⟨ss',a1,a2,a3⟩:=sorted_out_str L hp hs;refine Uj ⟨_,rfl,?_⟩;obtain⟨e,he⟩:=sortedHeap_at (out:=(arrOf a0).map (·.2)) J;have O:s.heap.objs.size<=M.heap.objs.size:=Nat.le_of_lt Y;refine hQ _ _ _ ss' e O (fun b o eb=>?_) e1 e2 e3 he a1 a2 a3;have hb:=Uo (hk _ _ eb);exact(sortedHeap_old (Ut hb) (by rw[UZ];exact Vo hb)).trans (Uc _ (hk _ _ eb))
end
theorem zw:∀(vs:List (Ef×Value)) (ns:List Str) (l:List Value),vs.map (·.1)=ns.map Sum.inr->l.length=vs.length->(∀(j:Nat) (v:Value),l[j]? = some v->∃k x,vs[j]? = some (k,x)/\Hk k v=true)->StrsAre l ns
 | [],[],[],_,_,_=>.nil
 | [],[],_::_,_,h,_=>by simp at h
 | [],_::_,_,h,_,_=>by simp at h
 |_::_,[],_,h,_,_=>by simp at h
 |_::_,_::_,[],_,h,_=>by simp at h
 |(k,x)::vs,n::ns,v::l,h1,h2,h3=>by
  simp only[UK,List.cons.injEq] at h1;obtain⟨rfl,h1⟩:=h1;obtain⟨F,x',e,B⟩:=h3 0 v rfl;simp only[List.getElem?_cons_zero,Option.some.injEq,Prod.mk.injEq] at e;obtain⟨rfl,rfl⟩:=e;rcases Gu B with ⟨i,t,e1,e2⟩|⟨y,t,e1,e2⟩
  ·cases e1
  ·cases e1;cases e2;refine .cons _ _ (zw vs ns l h1 (by simpa using h2) fun j v e=>?_);have:=h3 (j+1) v (by simpa using e);simpa using this
theorem LH:∀ {vs:List Value} {ss:List Str},StrsAre vs ss->Em (ss.map V.str) vs
 |_,_,.nil=>.nil
 |_,_,.cons _ t h=>.cons ⟨t,rfl⟩ (LH h)
def zx:List V->Hp->VK->Prop:=fun xs H Q=>∃(p:Addr) (kvs:List (Ef×V)) (ss:List Str),xs=[.ref p]/\Rd H p (.dK kvs)/\kvs.map (·.1)=ss.map Sum.inr/\kvs.length<64/\∀(l:Addr) (ss':List Str),H l=none->ss'.Perm ss->ss'.Pairwise Cy->Q (.ref l) (upd H l (.lst (ss'.map V.str)))
theorem SO{X:Cx}(hc:X.calm=true):Gr X (.builtin "sorted") zx:=by
 intro pins s U H xs us Q I r h;obtain⟨p,kvs,ss,rfl,M,L,O,q⟩:=h;obtain⟨u,rfl,ru⟩:=r.one;cases ru;obtain⟨z,M,vs,J,dd⟩:=Ac I.hok M;obtain⟨ep,dd⟩:=dd.dictAt;have F:vs.length=kvs.length:=J.length.symm;refine xK (I.ok.hd hc) M dd (by rw[F];exact O) fun Y B=>⟨ss,?_,fun s' l out ss' e hl hk Z e2 e3 he a1 a2 a3=>?_⟩
 ·exact zw vs ss Y.toList (by rw[KV.keysEq J];exact L) (by rw[UI];exact B.1) fun j v e=>B.2 j v (by simpa using e)
 ·obtain⟨h',g',d',tk,a0⟩:=s';simp only at Z e2 e3;subst Z e2 e3;refine⟨.ref l,upd H l (.lst (ss'.map V.str)),I.laid (t':=tk) hk hl ?_,rfl,q l ss' (I.hok.fresh hl) a2 (wP a3)⟩;refine⟨?_,out.toList,e,LH a1,he⟩;have l1:=a2.length_eq;have l2:=congrArg List.length L;simp only[Ug] at l2 ⊢;rw[sizeLine_eq];omega
section
variable{α:Type}
noncomputable def Ex(m:List (Str × α))(k:Str):Option α:=(m.find? fun p=>decide (p.1=k)).map (·.2)
noncomputable def Gd(m:List (Str × α))(k:Str)(v:α):List (Str × α):=if(m.any fun p=>decide (p.1=k))=true then m.map fun p=>if p.1=k then(p.1,v) else p else m ++ [(k,v)]
noncomputable def DL(m:List (Str×V)):List (Ef×V):=m.map fun p=>(.inr p.1,p.2)
theorem gx{a b:Str}:((Sum.inr a:Ef)=Sum.inr b)↔a=b:=⟨fun h=>Sum.inr.inj h,fun h=>h ▸ rfl⟩
theorem Ls(k:Str):∀m:List (Str×V),GH (DL m) (.inr k)=Ex m k
 | []=>rfl
 |p::m=>by
  have B:=Ls k m;by_cases e:p.1=k
  ·have:GH (DL (p::m)) (.inr k)=some p.2:=DR (p:=(Sum.inr p.1,p.2)) (by simp[e]);rw[this];simp[Ex,UG,e]
  ·have:GH (DL (p::m)) (.inr k)=GH (DL m) (.inr k):=DK (p:=(Sum.inr p.1,p.2)) (by simp[e]);rw[this,B];simp[Ex,UG,e]
theorem la(m:List (Str×V))(k:Str)(v:V):Dh (DL m) (.inr k) v=DL (Gd m k v):=by
 have B:((DL m).any fun F=>decide (F.1=Sum.inr k))=m.any fun p=>decide (p.1=k):=by
  unfold DL;rw[List.any_map];congr 1;funext p;simp only[Function.comp,gx]
 unfold Dh Gd;rw[B];by_cases c:(m.any fun p=>decide (p.1=k))=true
 ·rw[if_pos c,if_pos c];unfold DL;rw[UH,UH];refine UU fun p _=>?_;simp only[Function.comp,gx];split<;>simp
 ·rw[if_neg c,if_neg c];simp[DL]
theorem CY{k:Str}:∀ {m:List (Str × α)},Ex m k=none↔k∉m.map (·.1)
 | []=>by simp[Ex]
 |p::m=>by
  have B:=CY (k:=k) (m:=m);by_cases e:p.1=k
  ·simp[Ex,UG,e]
  ·have e':¬k=p.1:=fun z=>e z.symm;have:Ex (p::m) k=Ex m k:=by simp[Ex,UG,e]
   rw[this,B];simp[e']
theorem KI{m:List (Str × α)}{k:Str}{v:α}(e:Ex m k=none):Gd m k v=m ++ [(k,v)]:=by
 unfold Gd;rw[if_neg];intro z;obtain⟨q,F,B⟩:=UY.mp z;rw[decide_eq_true_iff] at B;rw[CY] at e;exact e (Ur.mpr ⟨q,F,B⟩)
theorem HS{β:Type}(f:α->β)(m:List (Str × α))(k:Str):Ex (m.map fun p=>(p.1,f p.2)) k=(Ex m k).map f:=by
 induction m with
 |nil=>rfl
 |cons p m ih=>
  by_cases e:p.1=k
  ·simp[Ex,UG,e]
  ·have h1:Ex (p::m) k=Ex m k:=by simp[Ex,UG,e]
   have h2:Ex ((p::m).map fun p=>(p.1,f p.2)) k=Ex (m.map fun p=>(p.1,f p.2)) k:=by simp[Ex,UG,e]
   rw[h1,h2,ih]
theorem Bu{k:Str}{v:α}:∀ {m:List (Str × α)},Ex m k=some v->(k,v)∈m
 | [],h=>by simp[Ex] at h
 |p::m,h=>by
  by_cases e:p.1=k
  ·have:Ex (p::m) k=some p.2:=by simp[Ex,UG,e]
   rw[this] at h;cases h;rw[<- e];exact UB
  ·have:Ex (p::m) k=Ex m k:=by simp[Ex,UG,e]
   rw[this] at h;exact Uf _ (Bu h)
theorem Gi{k:Str}{v:α}:∀ {m:List (Str × α)},(m.map (·.1)).Nodup->(k,v)∈m->Ex m k=some v
 | [],_,h=>by cases h
 |p::m,n,h=>by
  simp only[UK,Vu] at n;by_cases e:p.1=k
  ·have:Ex (p::m) k=some p.2:=by simp[Ex,UG,e]
   rw[this];rcases Ud.mp h with h|h
   ·rw[<- h]
   ·exact absurd (Ur.mpr ⟨_,h,rfl⟩) (by rw[<- e] at *;exact n.1)
  ·have:Ex (p::m) k=Ex m k:=by simp[Ex,UG,e]
   rw[this];rcases Ud.mp h with h|h
   ·exact absurd (by rw[<- h]) e
   ·exact Gi n.2 h
end
section
variable{X:Cx}{U:St}{H:Hp}{Q:VK}{R:Hp->Prop}{RI:It->Hp->Prop}{p d:Addr}{m:List (Str×V)}{k:Str}{v:V}{te:TE}
theorem Di(h1:H p=some (.dK (DL m)))(h2:Ex m k=some v)(h:Q v H):XA (.ref p) (.str k) H Q:=
 ⟨p,v,rfl,by
  have:=DV.k (k:=Sum.inr k) h1;rw[Ls,h2] at this
  exact this,h⟩
theorem gy{o:Obj}(h1:H d=some (.frz o (.dK (DL m))))(h2:Ex m k=some v)(h:Q v H):XA (.ref d) (.str k) H Q:=
 ⟨d,_,rfl,.inl ⟨DL m,.inr k,.inr ⟨o,h1⟩,rfl,by rw[Ls,h2]⟩,h⟩
theorem HU(h1:H p=some (.dK (DL m)))(hz:m.length<sizeLine)(h:∀H2,H2 p=some (.dK (DL (Gd m k v)))->Kp p H H2->R H2):qr v (.ref p) (.str k) H R:=
 ⟨p,_,rfl,IE.k (k:=Sum.inr k) h1 (by simpa[DL] using hz),by
  rw[la]
  exact h _ EW Kp.upd⟩
theorem KJ(h:∀p H2,H p=none->H2 p=some (.dK (DL []))->ET H H2->Q (.ref p) H2):qt H Q:=ug h
theorem wQ(h1:H p=some (.dK (DL m)))(q:Q (.bl (!(Ex m k).isSome)) H):KG (.str k) (.ref p) H Q:=⟨p,_,rfl,DV.k (k:=Sum.inr k) h1,by rw[Ls];exact q⟩
theorem XR(h1:H p=some (.dK (DL m)))(hz:m.length<64)(h:∀l H2 (B:List Str),H l=none->H2 l=some (.lst (B.map V.str))->B.Perm (m.map (·.1))->B.Pairwise Cy->ET H H2->Q (.ref l) H2):zx [.ref p] H Q:=
 ⟨p,_,m.map (·.1),rfl,.inl h1,by simp[DL],by simpa[DL] using hz,fun l B F J L=>h l _ B F EW J L (ET.new F)⟩
theorem lb(h1:H d=some (.dK (DL m)))(h:∀o H2,Fj X d->H2 d=some (.frz o (.dK (DL m)))->Kp d H H2->RI (gp d o (DL m)) H2):XQ X RI (.ref d) H:=⟨d,_,rfl,h1,fun o B=>h o _ B EW Kp.upd⟩
end
section
variable{X:Cx}{U:St}{H:Hp}{D:DQ}{d:Addr}{o:Obj}{kvs:List (Ef×V)}
theorem lc{g:TG}{tb:TS}(Pv:Nat->St->Hp->Prop)(h0:Pv 0 U H)(F:∀i U H,i<=kvs.length->Pv i U H->H d=some (.frz o (.dK kvs)))
  (J:∀i p U H,kvs[i]? = some p->Pv i U H->g (kV p.1) U H fun U2 H2=>tb { D with nx:=Pv (i+1),ct:=Pv (i+1),bk:=D.nx } U2 H2) (M:∀U H,Pv kvs.length U H->D.nx U H) :
  rFor (gp d o kvs) g tb D U H:=by
 refine⟨fun i m U H=>m=kvs.length-i/\i<=kvs.length/\Pv i U H,⟨_,rfl,UX _,h0⟩,?_⟩;rintro i m U H ⟨rfl,hi,p⟩;by_cases B:i<kvs.length
 ·refine .inr ⟨⟨F i U H hi p,B⟩,Pv (i+1),fun U' H' O=>⟨kvs.length-(i+1),by omega,rfl,B,O⟩,?_⟩;rintro x H' ⟨rfl,q,L,rfl⟩;exact J i q U H' L p
 ·have e:i=kvs.length:=by omega
  subst e;exact .inl ⟨⟨F _ U H hi p,Ue _⟩,M U H p⟩
def xL(X:Cx)(D:DQ)(U:St)(H:Hp):Prop:=∃d o u,Fj X d/\H d=some (.frz o u)/\WZ (some u)/\D.nx U (upd H d u)
def iV(X:Cx)(t:TS):TS:=fun D U H=>t { D with nx:=fun U' H'=>xL X D U' H' } U H
theorem lf{st:Stmt}{t:TS}(h:QS X st t):QS X st (iV X t):=by
 refine⟨?_⟩;intro pins s U H D I J;refine thn (h.h pins s U H _ I J) fun fl M B=>?_
 cases fl with
 |next=>
  obtain⟨U',H',I1,d,o,u,F,L,hm,q⟩:=B;exact⟨U',_,I1.thaw L F hm,q⟩
 |ret u=>exact B
 |brk=>exact B
 |cont=>exact B
theorem dw{t:TS}(h:t { D with nx:=fun U' H'=>xL X D U' H' } U H):iV X t D U H:=h
theorem gz{u:HO}(B:Fj X d)(F:H d=some (.frz o u))(hm:WZ (some u))(q:∀H2,H2 d=some u->Kp d H H2->D.nx U H2):xL X D U H:=⟨d,o,u,B,F,hm,q _ EW Kp.upd⟩
end
end _L
namespace _M
open PySem _L
theorem Es{N P:List Str}{sc:Scope}(a:sc.kind=.function:=by rfl)(b:sc.isCoroutine=false:=by rfl)(c:sc.isGenerator=false:=by rfl)(d:N.Nodup:=by decide +kernel)(e:N.take P.length=P:=by rfl)(f:∀x∈P,sc.names.lookup x=some .local\/sc.names.lookup x=some .cell:=by decide +kernel)(g:∀y∈sc.names,y.2≠.free:=by decide +kernel):Eo N P sc:=⟨a,b,c,d,e,f,g⟩
theorem Gb{X:Cx}{x:Str}{e:Expr}{te:TE}{pos pos':Pos}{i:Nat}(B:X.N.Nodup)(L:QE X e te)(hi:X.N[i]? = some x:=by rfl)(F:Hl X.env.scope x:=by first|exact Or.inl rfl|exact Or.inr rfl)(J:Cg e=false:=by rfl)(M:X.fn x=true\/X.env.scope.names.lookup x=some .local:=by first|exact .inl rfl|exact .inr rfl|assumption):QS X (.Assign [.Name x pos'] e pos) (IC te (AD i)):=kl B hi F L J M
theorem GN{X:Cx}{x:Str}{pos:Pos}{i:Nat}(B:X.N.Nodup)(hi:X.N[i]? = some x:=by rfl)(J:Hl X.env.scope x:=by first|exact Or.inl rfl|exact Or.inr rfl)(F:X.fn x=true\/X.env.scope.names.lookup x=some .local:=by first|exact .inl rfl|exact .inr rfl|assumption):QG X (.Name x pos) (AD i):=Ge B hi J F
theorem GE{X:Cx}{e:Expr}{es:List Expr}{t:TA}{pos p:Pos}{x:Str}{k:Nat}{f:Addr}{fd:FuncData}{ps:List Str}{sp:Sp}(F:Ec X.prog X.w X.K X.mg X.base Ew k f fd ps sp)(O:Room k X.A)(hm:X.mg x=some (.ref f))(Y:W.keepIn X.K (.ref f)=true)(Z:EX X.K fd ps [])(L:QA X (e::es) t)(M:Gl X x:=by rfl)(B:DM (e::es)=true:=by rfl)(J:(x==("__debug__":Str))=false:=by decide):QE X (.Call (.Name x p) (e::es) [] pos) (Wk sp [] E0 t):=cx F O M hm Y Z .nil GK L B J
theorem _root_._L.Room.m{j k:Nat}{A:Around}(r:Room k A)(h:j<=k:=by decide):Room j A:=r.mono h
local macro_rules | `(tactic| walk_at "l")=>`(tactic| (intro vs H Q E h;(repeat (obtain⟨_,h⟩:=h));all_goals (subst_vars;rfl)))
local macro_rules | `(tactic| walk_at "w")=>`(tactic| repeat walk_at "rd")
local macro_rules | `(tactic| walk_at "s")=>`(tactic| simp only[_L.start,Vd,List.length_nil,UK,List.map_nil,Nat.reduceAdd,Nat.reduceSub,List.replicate_succ,List.replicate_zero,List.cons_append,List.nil_append])
local macro_rules | `(tactic| walk_at "o")=>`(tactic| first|exact Or.inl rfl|exact Or.inr rfl)
noncomputable def top(i:Nat):Stmt:=PySem.Challenge.pw_fourpoints_k91_whole_deeds_by_the_script.main.body.getD i (.Pass ⟨0,0,0,0⟩)
abbrev vB:Stmt:=top 0
abbrev XS:Stmt:=top 10
abbrev Fm:Stmt:=top 12
abbrev LI:Stmt:=top 13
abbrev II:Stmt:=top 15
abbrev KL:Stmt:=top 16
abbrev HV:Stmt:=top 17
abbrev zJ:Stmt:=top 18
abbrev LJ:Stmt:=top 19
abbrev KM:Stmt:=top 20
abbrev Ii:Stmt:=top 21
abbrev SR:Stmt:=top 23
abbrev zy:Stmt:=top 24
abbrev WJ:Stmt:=top 25
abbrev LK:Stmt:=top 26
abbrev Hv:Stmt:=top 28
abbrev zz:Stmt:=top 29
abbrev FV:Stmt:=top 30
abbrev Fn:Stmt:=top 31
abbrev WK:Stmt:=top 32
abbrev WL:Stmt:=top 33
abbrev FW:Stmt:=top 34
abbrev IJ:Stmt:=top 35
abbrev LL:Stmt:=top 36
abbrev qA:Stmt:=top 37
abbrev SU:Stmt:=top 41
abbrev Hw:Stmt:=top 42
abbrev LM:Stmt:=top 43
abbrev Ay:Stmt:=top 44
abbrev IK:Stmt:=top 45
abbrev LN:Stmt:=top 46
abbrev Gz:Stmt:=GI (top 47) 0
abbrev XT:Stmt:=GI (top 47) 1
abbrev SV:Stmt:=GI (top 47) 2
abbrev HW:Stmt:=GI (top 47) 3
abbrev IL:Stmt:=GI (top 47) 4
abbrev HX:Stmt:=GI (top 47) 5
abbrev SW:Stmt:=GI (top 47) 6
abbrev DF:Stmt:=GI (top 49) 0
abbrev SX:Stmt:=GI (top 49) 1
abbrev LO:Stmt:=GI (top 49) 2
abbrev Ij:Stmt:=GI (top 49) 3
abbrev Ai:Stmt:=GI (top 49) 4
abbrev KN:Stmt:=GI (top 49) 5
abbrev Kf:Stmt:=GI (top 49) 6
abbrev HY:Stmt:=GI (top 49) 7
abbrev Kg:Stmt:=GI (top 49) 8
abbrev LP:Stmt:=GI (top 49) 9
abbrev Kh:Stmt:=GI (top 49) 10
abbrev LQ:Stmt:=GI (top 49) 11
abbrev Ki:Stmt:=GI (top 49) 12
abbrev Aj:Stmt:=GI (top 49) 13
abbrev LR:Stmt:=top 53
abbrev HZ:Stmt:=GI (top 54) 0
abbrev Kj:Stmt:=GI (top 54) 1
abbrev Kk:Stmt:=GI (top 54) 2
abbrev CI:Stmt:=GI (top 54) 3
abbrev LS:Stmt:=GI (top 54) 4
abbrev KO:Stmt:=top 56
abbrev Hx:Stmt:=GI (top 57) 0
abbrev Ak:Stmt:=GI (top 57) 1
abbrev FX:Stmt:=GI (top 57) 2
abbrev qB:Stmt:=GI (top 57) 3
abbrev SY:Stmt:=GI (top 57) 4
abbrev Kl:Stmt:=GI (top 57) 5
abbrev Ik:Stmt:=GI (top 57) 6
abbrev Il:Stmt:=GI (top 57) 7
abbrev xM:Stmt:=top 59
abbrev qC:Stmt:=top 60
abbrev WM:Stmt:=top 61
abbrev xN:Stmt:=top 62
abbrev KP:Stmt:=top 63
abbrev Lu:Stmt:=top 64
abbrev Ha:Stmt:=top 65
abbrev Az:Stmt:=top 66
abbrev LU:Stmt:=top 67
abbrev Hy:Stmt:=top 68
abbrev IM:Stmt:=top 69
abbrev WN:Stmt:=top 70
abbrev WO:Stmt:=top 71
abbrev WP:Stmt:=top 72
abbrev FE:Stmt:=top 73
abbrev KQ:Stmt:=top 74
abbrev LV:Stmt:=top 75
abbrev WQ:Stmt:=top 76
abbrev qD:Stmt:=top 77
abbrev AI:Stmt:=top 78
set_option genInjectivity false in
set_option genSizeOf false in
set_option genSizeOfSpec false in
structure Ad where
 OB:Addr
 OA:FuncData
 Jq:Addr
 Jz:FuncData
 Js:Addr
 Ji:FuncData
 Qx:Addr
 Qs:FuncData
 JX:Addr
 JE:FuncData
 Jy:Addr
 Jp:FuncData
 Yk:Addr
 Ym:FuncData
 Tn:Addr
 Tr:FuncData
 QX:Addr
 QN:FuncData
 Jd:Addr
 Jn:FuncData
 Z8:Addr
 YE:FuncData
 JZ:Addr
 JF:FuncData
 RH:Addr
 RF:FuncData
 Ra:Addr
 TD:FuncData
 Qe:Addr
 Qg:FuncData
 Qd:Addr
 Qa:FuncData
 Qt:Addr
 Qp:FuncData
 Ya:Addr
 YO:FuncData
 Jk:Addr
 Je:FuncData
 RY:Addr
 Ri:FuncData
 Ro:Addr
 Rv:FuncData
 YL:Addr
 YY:FuncData
 JN:Addr
 JS:FuncData
 Qb:Addr
 Qm:FuncData
 Qz:Addr
 QP:FuncData
 JL:Addr
 JP:FuncData
 Zv:Addr
 Zu:FuncData
 Yx:Addr
 Yv:FuncData
 YB:Addr
 YA:FuncData
 JC:Addr
 JV:FuncData
 Qi:Addr
 Qh:FuncData
 Z0:Addr
 ZQ:FuncData
 Jv:Addr
 J5:FuncData
 JM:Addr
 JY:FuncData
 Yw:Addr
 Yz:FuncData
 JB:Addr
 JJ:FuncData
 Y1:Addr
 Ys:FuncData
 JU:Addr
 JA:FuncData
 Zl:Addr
 ZN:FuncData
 JO:Addr
 JI:FuncData
 Yq:Addr
 Yj:FuncData
 Jb:Addr
 Ja:FuncData
 ZW:Addr
 ZU:FuncData
 Jg:Addr
 Ju:FuncData
 YK:Addr
 YQ:FuncData
 Y3:Addr
 Y2:FuncData
 YT:Addr
 YN:FuncData
 Yr:Addr
 Yt:FuncData
 YZ:Addr
 YJ:FuncData
 Yy:Addr
 Y0:FuncData
 YV:Addr
 Yc:FuncData
 Yu:Addr
 Yo:FuncData
 RL:Addr
 RD:FuncData
 Zn:Addr
 Zm:FuncData
 Yd:Addr
 YI:FuncData
 YS:Addr
 Yf:FuncData
 Zz:Addr
 Z3:FuncData
 RG:Addr
 Qr:FuncData
 Jr:Addr
 Jh:FuncData
 Z5:Addr
 Zw:FuncData
 Yn:Addr
 Yl:FuncData
 Yb:Addr
 YX:FuncData
 Qj:Addr
 RB:FuncData
 JD:Addr
 Y9:FuncData
 YM:Addr
 YU:FuncData
 YC:Addr
 YD:FuncData
 Z9:Addr
 Z7:FuncData
 TB:Addr
 TF:FuncData
 Qy:Addr
 RK:FuncData
 Rp:Addr
 Rb:FuncData
 Ry:Addr
 RX:FuncData
 Jt:Addr
 J6:FuncData
 Tk:Addr
 Tt:FuncData
 Rs:Addr
 RZ:FuncData
 Rt:Addr
 Rh:FuncData
 RE:Addr
 Qn:FuncData
 RJ:Addr
 QK:FuncData
 JQ:Addr
 JT:FuncData
 Rg:Addr
 RU:FuncData
 Rz:Addr
 Rx:FuncData
 Rn:Addr
 RV:FuncData
 JH:Addr
 JK:FuncData
 Rq:Addr
 Re:FuncData
 Qq:Addr
 Ql:FuncData
 Rk:Addr
 Rc:FuncData
 Qv:Addr
 QZ:FuncData
 OM:Addr
 OI:FuncData
 ZB:Addr
 ZA:Addr
 ZG:Addr
 ZC:Addr
 Zg:Addr
 Zs:Addr
 ZT:Addr
 Zd:Addr
 Zr:Addr
 Z6:Addr
 NY:Tok
 Nn:Tok
 Od:Tok
 Tu:Tok
structure Txt(K:W.Frag)(mg:Str->Option Value)(a:Ad):Prop where
 EJ:Ev K "_wall" "_wall" vB a.OB a.OA
 EK:EX K a.OA ["k"] []
 EI:mg "_wall"=some (.ref a.OB)
 Zt:Ev K "is_whole" "is_whole" XS a.Jq a.Jz
 Yi:EX K a.Jz ["thing"] []
 Yh:mg "is_whole"=some (.ref a.Jq)
 Jj:Ev K "curve_of" "curve_of" Fm a.Js a.Ji
 Tb:EX K a.Ji ["samples"] []
 TQ:mg "curve_of"=some (.ref a.Js)
 QM:Ev K "part_of" "part_of" LI a.Qx a.Qs
 MH:EX K a.Qs ["curve","begin","end"] []
 Tz:mg "part_of"=some (.ref a.Qx)
 RR:Ev K "column_of" "column_of" II a.JX a.JE
 Nw:EX K a.JE ["window","t"] []
 Nq:mg "column_of"=some (.ref a.JX)
 Jw:Ev K "times_of" "times_of" KL a.Jy a.Jp
 TM:EX K a.Jp ["window","k"] []
 TR:mg "times_of"=some (.ref a.Jy)
 Za:Ev K "columns_of" "columns_of" HV a.Yk a.Ym
 Z4:EX K a.Ym ["window"] []
 Zx:mg "columns_of"=some (.ref a.Yk)
 Nz:Ev K "moved" "moved" zJ a.Tn a.Tr
 Pg:EX K a.Tr ["window","c"] []
 Pa:mg "moved"=some (.ref a.Tn)
 Tw:Ev K "widened" "widened" LJ a.QX a.QN
 Os:EX K a.QN ["window"] []
 OR:mg "widened"=some (.ref a.QX)
 Ta:Ev K "narrowed" "narrowed" KM a.Jd a.Jn
 OK:EX K a.Jn ["window"] []
 OF:mg "narrowed"=some (.ref a.Jd)
 Jc:Ev K "with_columns" "with_columns" Ii a.Z8 a.YE
 Tp:EX K a.YE ["window","n"] []
 Tl:mg "with_columns"=some (.ref a.Z8)
 Zj:Ev K "height_of" "height_of" SR a.JZ a.JF
 ZX:EX K a.JF ["sample"] []
 ZY:mg "height_of"=some (.ref a.JZ)
 MN:Ev K "four_of" "four_of" zy a.RH a.RF
 OZ:EX K a.RF ["curve"] []
 Oa:mg "four_of"=some (.ref a.RH)
 Jf:Ev K "joined" "joined" WJ a.Ra a.TD
 Rf:EX K a.TD ["one","other"] []
 Rm:mg "joined"=some (.ref a.Ra)
 MD:Ev K "kept_of" "kept_of" LK a.Qe a.Qg
 Oi:EX K a.Qg ["fours"] []
 OX:mg "kept_of"=some (.ref a.Qe)
 MA:Ev K "dots_of" "dots_of" Hv a.Qd a.Qa
 Oj:EX K a.Qa ["curve","window","heights"] []
 Of:mg "dots_of"=some (.ref a.Qd)
 Tx:Ev K "dots_by" "dots_by" zz a.Qt a.Qp
 OS:EX K a.Qp ["fours","window","heights"] []
 OY:mg "dots_by"=some (.ref a.Qt)
 J9:Ev K "column_dots" "column_dots" FV a.Ya a.YO
 MP:EX K a.YO ["samples","times","heights"] []
 Mb:mg "column_dots"=some (.ref a.Ya)
 TY:Ev K "rows_met" "rows_met" Fn a.Jk a.Je
 OG:EX K a.Je ["samples","times","heights"] []
 OO:mg "rows_met"=some (.ref a.Jk)
 Rl:Ev K "row_at" "row_at" WK a.RY a.Ri
 NO:EX K a.Ri ["one","other","t","heights"] []
 Mw:mg "row_at"=some (.ref a.RY)
 Ru:Ev K "row_of" "row_of" WL a.Ro a.Rv
 Ms:EX K a.Rv ["height","parts","heights"] []
 NA:mg "row_of"=some (.ref a.Ro)
 QC:Ev K "layers_text" "layers_text" FW a.YL a.YY
 MW:EX K a.YY ["layers","many","rows"] []
 MY:mg "layers_text"=some (.ref a.YL)
 RO:Ev K "line_text" "line_text" IJ a.JN a.JS
 NX:EX K a.JS ["layers","many","row"] []
 No:mg "line_text"=some (.ref a.JN)
 MI:Ev K "sign_at" "sign_at" LL a.Qb a.Qm
 OQ:EX K a.Qm ["layers","k","row"] []
 Oe:mg "sign_at"=some (.ref a.Qb)
 MC:Ev K "has_dot" "has_dot" qA a.Qz a.QP
 Oo:EX K a.QP ["pair","row"] []
 OV:mg "has_dot"=some (.ref a.Qz)
 YG:Ev K "is_border" "is_border" SU a.JL a.JP
 JG:EX K a.JP ["thing"] []
 JR:mg "is_border"=some (.ref a.JL)
 Zy:Ev K "check_borders" "check_borders" Hw a.Zv a.Zu
 Y8:EX K a.Zu ["begin","end"] []
 Y7:mg "check_borders"=some (.ref a.Zv)
 Yp:Ev K "check_time" "check_time" LM a.Yx a.Yv
 QV:EX K a.Yv ["t"] []
 Qw:mg "check_time"=some (.ref a.Yx)
 ZR:Ev K "check_window" "check_window" Ay a.YB a.YA
 Zh:EX K a.YA ["window"] []
 Ze:mg "check_window"=some (.ref a.YB)
 RQ:Ev K "stretches" "stretches" IK a.JC a.JV
 NV:EX K a.JV ["begin","end"] []
 Nj:mg "stretches"=some (.ref a.JC)
 MJ:Ev K "longest" "longest" LN a.Qi a.Qh
 Om:EX K a.Qh ["first","end"] []
 OT:mg "longest"=some (.ref a.Qi)
 TJ:jm K "__init__" "Tree.__init__" Gz a.Z0 a.ZQ
 TV:EX K a.ZQ ["self","curve"] []
 PM:EX K a.ZQ ["self","curve"] [Value.none]
 PD:ux K a.ZQ ["self","curve"] "curve"
 ON:Ev K "put" "Tree.put" XT a.Jv a.J5
 TZ:EX K a.J5 ["self","t","h"] []
 TL:DC K a.ZB "put" a.Jv
 Nc:Ev K "take" "Tree.take" SV a.JM a.JY
 Nv:EX K a.JY ["self","t"] []
 NZ:DC K a.ZB "take" a.JM
 NJ:Ev K "renew" "Tree.renew" HW a.Yw a.Yz
 RA:EX K a.Yz ["self","t","four"] []
 QY:DC K a.ZB "renew" a.Yw
 Nf:Ev K "four" "Tree.four" IL a.JB a.JJ
 RP:EX K a.JJ ["self","begin","end"] []
 RS:DC K a.ZB "four" a.JB
 NU:Ev K "fours" "Tree.fours" HX a.Y1 a.Ys
 Mz:EX K a.Ys ["self","window"] []
 NP:DC K a.ZB "fours" a.Y1
 Nr:Ev K "told" "Tree.told" SW a.JU a.JA
 Nb:EX K a.JA ["self"] []
 Na:DC K a.ZB "told" a.JU
 Rr:jm K "__init__" "Store.__init__" DF a.Zl a.ZN
 PB:EX K a.ZN ["self","curve"] []
 RM:EX K a.ZN ["self","curve"] [Value.none]
 Ot:ux K a.ZN ["self","curve"] "curve"
 Ng:Ev K "put" "Store.put" SX a.JO a.JI
 Nl:EX K a.JI ["self","t","h"] []
 NW:DC K a.ZA "put" a.JO
 NR:Ev K "take" "Store.take" LO a.Yq a.Yj
 ND:EX K a.Yj ["self","t"] []
 NT:DC K a.ZA "take" a.Yq
 Pe:Ev K "height" "Store.height" Ij a.Jb a.Ja
 PY:EX K a.Ja ["self","t"] []
 Pc:DC K a.ZA "height" a.Jb
 Jx:Ev K "check_sample" "Store.check_sample" Ai a.ZW a.ZU
 Jl:EX K a.ZU ["self","t"] []
 Jo:DC K a.ZA "check_sample" a.ZW
 OH:Ev K "do" "Store.do" KN a.Jg a.Ju
 Tc:EX K a.Ju ["self","t","h"] []
 TK:DC K a.ZA "do" a.Jg
 Md:Ev K "bring" "Store.bring" Kf a.YK a.YQ
 QJ:EX K a.YQ ["self","t","h"] []
 J8:DC K a.ZA "bring" a.YK
 Mn:Ev K "undo" "Store.undo" HY a.Y3 a.Y2
 Ml:EX K a.Y2 ["self"] []
 NI:DC K a.ZA "undo" a.Y3
 MQ:Ev K "times" "Store.times" Kg a.YT a.YN
 Mh:EX K a.YN ["self"] []
 MT:DC K a.ZA "times" a.YT
 NF:Ev K "four" "Store.four" LP a.Yr a.Yt
 Mq:EX K a.Yt ["self","begin","end"] []
 NB:DC K a.ZA "four" a.Yr
 MX:Ev K "fours" "Store.fours" Kh a.YZ a.YJ
 Ye:EX K a.YJ ["self","window"] []
 YR:DC K a.ZA "fours" a.YZ
 NL:Ev K "told" "Store.told" LQ a.Yy a.Y0
 NS:EX K a.Y0 ["self"] []
 NC:DC K a.ZA "told" a.Yy
 MV:Ev K "watch" "Store.watch" Ki a.YV a.Yc
 MS:EX K a.Yc ["self","window"] []
 Mc:DC K a.ZA "watch" a.YV
 NQ:Ev K "news" "Store.news" Aj a.Yu a.Yo
 Mv:EX K a.Yo ["self","number"] []
 NN:DC K a.ZA "news" a.Yu
 MK:Ev K "is_name" "is_name" LR a.RL a.RD
 Ob:EX K a.RD ["thing"] []
 OW:mg "is_name"=some (.ref a.RL)
 RW:Ev K "__init__" "Board.__init__" HZ a.Zn a.Zm
 Rj:EX K a.Zm ["self"] []
 Mf:Ev K "store" "Board.store" Kj a.Yd a.YI
 YW:EX K a.YI ["self","name"] []
 Yg:DC K a.ZG "store" a.Yd
 MO:Ev K "names" "Board.names" Kk a.YS a.Yf
 Mg:EX K a.Yf ["self"] []
 MU:DC K a.ZG "names" a.YS
 Te:Ev K "picture" "Board.picture" CI a.Zz a.Z3
 Tf:EX K a.Z3 ["self","window","heights"] []
 TU:DC K a.ZG "picture" a.Zz
 Pq:Ev K "kept" "Board.kept" LS a.RG a.Qr
 Po:EX K a.Qr ["self","window"] []
 Pn:DC K a.ZG "kept" a.RG
 Td:Ev K "known_in" "known_in" KO a.Jr a.Jh
 OE:EX K a.Jh ["known","window"] []
 OD:mg "known_in"=some (.ref a.Jr)
 TN:Ev K "__init__" "View.__init__" Hx a.Z5 a.Zw
 Ti:EX K a.Zw ["self","store","window"] []
 Mp:Ev K "fours" "View.fours" Ak a.Yn a.Yl
 Qu:EX K a.Yl ["self"] []
 QL:DC K a.ZC "fours" a.Yn
 MZ:Ev K "forget" "View.forget" FX a.Yb a.YX
 QD:EX K a.YX ["self"] []
 J7:DC K a.ZC "forget" a.Yb
 Og:Ev K "on" "View.on" qB a.Qj a.RB
 Ol:EX K a.RB ["self","c"] []
 Oh:DC K a.ZC "on" a.Qj
 Nk:Ev K "wide" "View.wide" SY a.JD a.Y9
 Np:EX K a.Y9 ["self"] []
 Nu:DC K a.ZC "wide" a.JD
 Ma:Ev K "narrow" "View.narrow" Kl a.YM a.YU
 Me:EX K a.YU ["self"] []
 MR:DC K a.ZC "narrow" a.YM
 Tq:Ev K "columns" "View.columns" Ik a.YC a.YD
 To:EX K a.YD ["self","n"] []
 Tv:DC K a.ZC "columns" a.YC
 Ts:Ev K "step_to" "View.step_to" Il a.Z9 a.Z7
 Zc:EX K a.Z7 ["self","window"] []
 Zi:DC K a.ZC "step_to" a.Z9
 NK:Ev K "_law_cell" "_law_cell" xM a.TB a.TF
 Oz:EX K a.TF ["_law_script","_law_k"] []
 Oy:mg "_law_cell"=some (.ref a.TB)
 ME:Ev K "_law_purse" "_law_purse" qC a.Qy a.RK
 OU:EX K a.RK ["_law_cell_here","_law_k"] []
 Oc:mg "_law_purse"=some (.ref a.Qy)
 ZK:Ev K "_law_draw" "_law_draw" WM a.Rp a.Rb
 ZO:EX K a.Rb ["_law_purse_here","_law_many"] []
 ZP:mg "_law_draw"=some (.ref a.Rp)
 TC:Ev K "_law_less" "_law_less" xN a.Ry a.RX
 Mx:EX K a.RX ["_law_one","_law_other"] []
 Mo:mg "_law_less"=some (.ref a.Ry)
 Jm:Ev K "_law_height" "_law_height" KP a.Jt a.J6
 Tg:EX K a.J6 ["_law_one","_law_other","_law_time_here"] []
 Th:mg "_law_height"=some (.ref a.Jt)
 Ny:Ev K "_law_met" "_law_met" Lu a.Tk a.Tt
 Pi:EX K a.Tt ["_law_samples","_law_x","_law_z"] []
 Pb:mg "_law_met"=some (.ref a.Tk)
 Mu:Ev K "_law_rows" "_law_rows" Ha a.Rs a.RZ
 PX:EX K a.RZ ["_law_met_here","_law_heights"] []
 PC:mg "_law_rows"=some (.ref a.Rs)
 NG:Ev K "_law_dots" "_law_dots" Az a.Rt a.Rh
 PQ:EX K a.Rh ["_law_curve","_law_window","_law_heights"] []
 PF:mg "_law_dots"=some (.ref a.Rt)
 Qf:Ev K "_law_first" "_law_first" LU a.RE a.Qn
 MG:EX K a.Qn ["_law_samples","_law_sign_here"] []
 MF:mg "_law_first"=some (.ref a.RE)
 Y6:Ev K "_law_fours" "_law_fours" Hy a.RJ a.QK
 QR:EX K a.QK ["_law_held","_law_window"] []
 Qc:mg "_law_fours"=some (.ref a.RJ)
 RT:Ev K "_law_stepped" "_law_stepped" IM a.JQ a.JT
 Nd:EX K a.JT ["_law_view","_law_purse_here"] []
 Ni:mg "_law_stepped"=some (.ref a.JQ)
 NM:Ev K "_law_time" "_law_time" WN a.Rg a.RU
 Ou:EX K a.RU ["_law_purse_here","_law_held"] []
 PP:mg "_law_time"=some (.ref a.Rg)
 Mr:Ev K "_law_done" "_law_done" WO a.Rz a.Rx
 Ow:EX K a.Rx ["_law_store","_law_purse_here","_law_held","_law_before"] []
 Ov:mg "_law_done"=some (.ref a.Rz)
 Mt:Ev K "_law_sign" "_law_sign" WP a.Rn a.RV
 PN:EX K a.RV ["_law_rows_here","_law_row","_law_k"] []
 Ox:mg "_law_sign"=some (.ref a.Rn)
 RN:Ev K "_law_picture" "_law_picture" FE a.JH a.JK
 Nh:EX K a.JK ["_law_curves","_law_window","_law_heights"] []
 Nt:mg "_law_picture"=some (.ref a.JH)
 Mj:Ev K "_law_news" "_law_news" KQ a.Rq a.Re
 PJ:EX K a.Re ["_law_store","_law_held","_law_heard"] []
 PU:mg "_law_news"=some (.ref a.Rq)
 ML:Ev K "_law_begun" "_law_begun" LV a.Qq a.Ql
 Op:EX K a.Ql ["_law_board","_law_names"] []
 Oq:mg "_law_begun"=some (.ref a.Qq)
 NE:Ev K "_law_goes" "_law_goes" WQ a.Rk a.Rc
 PH:EX K a.Rc ["_law_board","_law_curves","_law_side","_law_name","_law_purse_here"] []
 PK:mg "_law_goes"=some (.ref a.Rk)
 Qk:Ev K "_law_drawn" "_law_drawn" qD a.Qv a.QZ
 MM:EX K a.QZ ["_law_board","_law_curves","_law_window","_law_heights"] []
 MB:mg "_law_drawn"=some (.ref a.Qv)
 Px:Ev K "law" "law" AI a.OM a.OI
 EM:EX K a.OI ["_law_script"] []
 EL:mg "law"=some (.ref a.OM)
 ZF:CM K a.ZB
 Pl:mg "Tree"=some (.ref a.ZB)
 PZ:Mk K a.ZB a.Z0
 ZS:Gp K a.ZB "looks"
 ZM:Gp K a.ZB "samples"
 ZL:Gp K a.ZB "kept_fours"
 ZE:CM K a.ZA
 Pf:mg "Store"=some (.ref a.ZA)
 PR:Mk K a.ZA a.Zl
 QU:Gp K a.ZA "tree"
 QH:Gp K a.ZA "deeds"
 RC:Gp K a.ZA "done"
 Z2:Gp K a.ZA "watches"
 Zq:CM K a.ZG
 Ph:mg "Board"=some (.ref a.ZG)
 PV:Mk K a.ZG a.Zn
 YF:Gp K a.ZG "stores"
 ZD:CM K a.ZC
 Pp:mg "View"=some (.ref a.ZC)
 Pd:Mk K a.ZC a.Z5
 Zk:Gp K a.ZC "source"
 ZH:Gp K a.ZC "window"
 Z1:Gp K a.ZC "asked"
 ZZ:Gp K a.ZC "known"
 YH:Gp K a.ZC "seen"
 Pt:zC K a.Zg
 Py:zD K a.Zg
 Pu:mg "NoColumn"=some (.ref a.Zg)
 EA:zC K a.Zs
 EB:zD K a.Zs
 EE:mg "NotHalf"=some (.ref a.Zs)
 Pj:zC K a.ZT
 Pm:zD K a.ZT
 Pk:mg "OutOfTimes"=some (.ref a.ZT)
 Pr:zC K a.Zd
 Ps:zD K a.Zd
 Pw:mg "NoSample"=some (.ref a.Zd)
 ED:zC K a.Zr
 EC:zD K a.Zr
 Pz:mg "NoWatch"=some (.ref a.Zr)
 EF:zC K a.Z6
 EH:zD K a.Z6
 EG:mg "NoName"=some (.ref a.Z6)
 Nx:mg "TOP_LEVEL"=some (.int 40 a.NY)
 JW:mg "TIMES_END"=some (.int 1099511627776 a.Nn)
 On:mg "LETTERS"=some (.str "abcdefghijklmnopqrstuvwxyz" a.Od)
 Tj:mg "LONGEST_NAME"=some (.int 8 a.Tu)
 Qo:mg "ValueError"=none
 OC:mg "abs"=none
 OJ:mg "all"=none
 Mm:mg "bool"=none
 TW:mg "dict"=none
 OP:mg "int"=none
 Zb:mg "isinstance"=none
 Zf:mg "len"=none
 NH:mg "list"=none
 Y4:mg "max"=none
 Y5:mg "min"=none
 ZJ:mg "range"=none
 ZV:mg "sorted"=none
 OL:mg "str"=none
 ZI:mg "tuple"=none
 Mi:mg "zip"=none
local macro_rules | `(tactic| walk_at "sd")=>`(tactic| first
 |(show(0:Int)<_;omega)
 |decide
 |exact oK (by omega) (by omega)
 |exact tH (by omega) (by omega)
 |exact Hm.of (k:=250) (by omega) (by omega) (by decide)
 |exact Or.inr ⟨by omega,by omega⟩
 |exact Or.inl ⟨by omega,by omega⟩
 | exact jN (by omega) (by omega) (by decide))
local macro_rules|`(tactic|walk_at $s)=>do
 let i x:=Lean.mkIdent (String.toName x)
 match s.getString.splitOn " " with
 |""::q=>
  let t<-q.toArray.mapM fun x=>match x.splitOn "," with
   |[a,b,c]=>`(tactic|with_reducible refine GS (by assumption) ($(i ("Txt."++a)) ‹_›) ($(i ("Txt."++b)) ‹_›) $(i c) ?_)
   |[a,""]=>`(tactic|((with_reducible refine' $(i a) ?e ?_);(case e=>rfl)))
   |[a,b]=>`(tactic|((with_reducible refine' $(i a) ?s ?_);(case s=>first|assumption|exact $(i (b++".of")) (by assumption))))
   |[a,b,_,_]=>`(tactic|((with_reducible refine' $(i a) ?s ?e ?_);(case s=>first|assumption|exact $(i (b++".of")) (by assumption));(case e=>rfl)))
   |_=>`(tactic|with_reducible refine $(i x) ?_)
  `(tactic|first $[|$t:tactic]*)
 |_=>Lean.Macro.throwUnsupported
local macro_rules|`(tactic|walk_at "rd")=>`(tactic|first|walk_at " oX lN da dh dI lG lM dX wB dY dZ gQ gU wD xy xz jg lC pW lD dJ dL pV, oY kN kO oZ cn kP cp kQ og kR tJ oh sO oi kS kT sP oj, tK sQ sR sS"|((with_reducible refine FU (C:=cB) ?c ?_);(case c=>exact jN (by decide) (by decide) (by decide));(simp only[Int.reduceToNat,Int.reducePow]))|((with_reducible refine FU ?c ?_);(case c=>walk_at "sd"))|walk_at " tL om oo sT kU kW ow ox oy cr kh Sq pA pB pC tM sU yn kd pE ka kY,Eh kZ,GF oz kX ke sV kg cw pI,GF pJ,Eh CP,Eh,, FK,GF,, kb,GF,,")
local macro_rules | `(tactic| walk_at "ri")=>`(tactic| ((fail_if_success with_reducible refine gl ?_);walk_at "rd"))
theorem hJ(K:W.Frag):W.kitOne K (.type "int") (.type "int")=some true:=by kernel_rfl
theorem wR(K:W.Frag):W.kitOne K (.type "int") (.type "bool")=some false:=by kernel_rfl
def DP(H:Hp)(p:Addr):Prop:=∃x n c:Int,H p=some (.lst [.int x,.int n,.int c])/\0<=x/\0<=c/\c<4294967296
theorem DP.same{H H':Hp}{p:Addr}(h:DP H p)(s:ET H H'):DP H' p:=by
 obtain⟨x,n,c,h,r⟩:=h;exact⟨x,n,c,s _ _ h,r⟩
theorem DP.neN{H:Hp}{p l:Addr}(h:DP H p)(B:H l=none):l≠p:=by
 obtain⟨x,n,c,h,r⟩:=h;exact(GJ h B).symm
theorem DP.ne_dk{H:Hp}{p l:Addr}{kvs:List (Ef×V)}(h:DP H p)(B:H l=some (.dK kvs)):l≠p:=by
 obtain⟨x,n,c,h,r⟩:=h;intro e;subst e;rw[h] at B;cases B
theorem DP.kp{H H':Hp}{p l:Addr}(h:DP H p)(k:Kp l H H')(n:p≠l):DP H' p:=by
 obtain⟨x,m,c,h,r⟩:=h;exact⟨x,m,c,k _ _ h n,r⟩
theorem DP.free{H H1:Hp}{p l:Addr}(h:Kp p H H1)(F:DP H1 p)(B:H1 l=none):H l=none:=by
 cases e:H l with
 |none=>rfl
 |some o=>
  have:=h l o e (F.neN B);rw[B] at this;cases this
def rE(K:W.Frag):Sp:=fun vs H Q _=>∃(s:Addr) (ns:List Int) (k:Int),vs=[.ref s,.int k]/\Eh K H s (ns.map V.int)/\0<=k/\Q (.int (ns.getD k.toNat 0)) H
def lg:Sp:=fun vs H Q _=>∃c k:Int,vs=[.int c,.int k]/\0<=k/\k<=100/\∀(p:Addr) (H':Hp),H p=none->DP H' p->ET H H'->Q (.ref p) H'
def rF:Sp:=fun vs H Q _=>∃(p:Addr) (n:Int),vs=[.ref p,.int n]/\DP H p/\0<n/\n<2 ^ 250/\∀(d:Int) (H':Hp),0<=d->d<n->DP H' p->Kp p H H'->Q (.int d) H'
variable{P:Program}{w:World}{K:W.Frag}{mg:Str->Option Value}{base:Heap}{a:Ad}
section
theorem hZ(T:Txt K mg a):Ec P w K mg base Ew 1 a.TB a.TF ["_law_script","_law_k"] (rE K):=by
 refine T.NK.ok (N:=["_law_script","_law_k"]) Es fun _ _ _ s H vs Q E L h=>?_
 ·obtain⟨p,F,k,rfl,J,M,q⟩:=h;refine⟨_,QB.h (ES (Ea (Bo (Ee (Bm) (qv 1) (Ey (Cw K rfl) rfl T.Zf CO (EN (qv 0) EO)) (Ej _)) (Ei (DH K rfl) (qv 0) (qv 1)) ER))),?_⟩;walk_at "s";walk_at "w";rw[Ug];refine GL (fun h=>?_) (fun h=>?_)
  ·walk_at "w";obtain⟨n,rfl⟩:∃n:Nat,k=(n:Int):=⟨k.toNat,by omega⟩;have B:n<F.length:=by omega
   refine CP (v:=.int (F.getD n 0)) J (DS ?_) q;rw[UC,Ub B];simp[List.getD,B]
  ·walk_at "w"
   have e:F.getD k.toNat 0=0:=by
    rw[List.getD,List.getElem?_eq_none (by omega)];rfl
   rw[e] at q;exact q
theorem wS(T:Txt K mg a):Ec P w K mg base Ew 1 a.Qy a.RK ["_law_cell_here","_law_k"] lg:=by
 refine T.ME.ok (N:=["_law_cell_here","_law_k"]) Es fun _ _ _ s H vs Q E M h=>?_
 ·obtain⟨c,n,rfl,L,J,k⟩:=h;refine⟨_,QB.h (EQ (GO (Ee (fo) (qv 0) (Eb yU ER ER) (Ej _)) (ES (Ea (Dd (EN (qv 0) (EN ER (EN (Eb Go (Eb GM ER (qv 1)) ER) EO)))))) GC) (ES (Ea (Dd (EN ER (EN ER (EN (Eb Cu (Eb Go (Eb Go (Eb Go (Eb GM (Eb Cu (Ey oV rfl T.OC oO (EN (qv 0) EO)) (Eb yU ER ER)) ER) (Eb GM (Eb GM ER (qv 1)) (qv 1))) (Eb GM ER (qv 1))) ER) ER) EO))))))),?_⟩;walk_at "s";walk_at "w";refine GL (fun h=>?_) (fun h=>?_)
  ·walk_at "w";refine Eg (by show 3<=sizeLine;decide) fun p H2 B F S2=>?_;exact k p H2 B ⟨_,_,_,F,by omega,by omega,by omega⟩ S2
  ·walk_at "w";refine Eg (by show 3<=sizeLine;decide) fun p H2 B F S2=>?_;refine k p H2 B ⟨_,_,_,F,by omega,Int.emod_nonneg _ (by decide),?_⟩ S2;exact Int.lt_of_lt_of_le (Int.emod_lt_of_pos _ (by decide)) (by decide)
theorem qE:Eo ["_law_purse_here","_law_many","_law_digit"] ["_law_purse_here","_law_many"] (EU WM):=Es
theorem Do(T:Txt K mg a):Ec P w K mg base Ew 1 a.Rp a.Rb ["_law_purse_here","_law_many"] rF:=by
 refine T.ZK.ok qE fun a1 A F s H vs Q E hr h=>?_
 ·obtain⟨p,n,rfl,⟨x,m,y,hp,Y,hy,M⟩,L,J,k⟩:=h;have a0:∀i:Int,Hm i n:=fun i=>Hm.of (k:=250) L J (by decide);refine⟨_,QB.h (EQ (GO (Ee (fm) (Ei (DH K rfl) (qv 0) ER) ER (Ej _)) (EQ (Gb (i:=2) qE.nd (Eb Cu (Ei (DH K rfl) (qv 0) ER) (qv 1))) (EQ (DE (Eb CN (Ei (DH K rfl) (qv 0) ER) (qv 1)) (Kv (qv 0) ER HD)) (ES (Ea (qv 2))))) GC) (EQ (DE (Eb Go (Ei (DH K rfl) (qv 0) ER) ER) (Kv (qv 0) ER HD)) (EQ (DE (Eb Cu (Eb Go (Eb GM (Ei (DH K rfl) (qv 0) ER) ER) (Eb GM ER (Ei (DH K rfl) (qv 0) ER))) ER) (Kv (qv 0) ER HD)) (ES (Ea (Eb Cu (Eb CN (Eb Cu (Eb GM (Ei (DH K rfl) (qv 0) ER) (Ei (DH K rfl) (qv 0) ER)) ER) ER) (qv 1))))))),?_⟩;walk_at "s";walk_at "w";refine GL (fun h=>?_) (fun h=>?_)
  ·walk_at "w";refine Xr hp (by rfl) ?_;walk_at "w";exact k _ _ (Int.emod_nonneg _ (by omega)) (Int.emod_lt_of_pos _ L) ⟨_,_,_,EW,Int.ediv_nonneg Y (by omega),hy,M⟩ Kp.upd
  ·walk_at "w";refine uc hp (by rfl) fun H2 O K2=>?_;have O:H2 p=some (.lst [V.int x,V.int (m+1),V.int y]):=O;walk_at "w";refine uc O (by rfl) fun H3 B K3=>?_;generalize hz:(y*39373+8191*(m+1)) % 2147483587=z at B;have h0:0<=z:=by rw[<- hz];exact Int.emod_nonneg _ (by decide)
   have h1:z<2147483587:=by rw[<- hz];exact Int.emod_lt_of_pos _ (by decide)
   have B:H3 p=some (.lst [V.int x,V.int (m+1),V.int z]):=B;walk_at "w";refine k _ _ (Int.emod_nonneg _ (by omega)) (Int.emod_lt_of_pos _ L) ⟨_,_,_,B,Y,h0,by omega⟩ ?_;exact fun q o e Z=>K3 q o (K2 q o e Z) Z
def uC(K:W.Frag)(b:Bool)(l:Addr)(us:List V)(prs:PL):Sp:=fun vs H Q _=>vs=[.ref l]/\SQ b H l us/\EZ H us prs/\prs.length<64/\
 ∀(t:Addr) (cv:PL) (H':Hp),Db H' t cv->Xw (BZ prs) cv->cv.length<=prs.length->ET H H'->Q (.ref t) H'
def aA(K:W.Frag):Sp:=fun vs H Q E=>∃b l us prs,uC K b l us prs vs H Q E
theorem qF(l:PL)(p:Int×Int):BZ (l ++ [p])=Gx (BZ l) p.1 p.2:=by
 unfold BZ;rw[List.foldl_append];rfl
theorem FF:Eo ["samples","heights","t","h"] ["samples"] (EU Fm):=Es
theorem SZ(T:Txt K mg a):Ec P w K mg base Ew 1 a.Js a.Ji ["samples"] (aA K):=by
 refine T.Jj.ok FF fun a4 A a1 s H vs Q E hr h=>?_
 ·obtain⟨b,l,us,prs,rfl,hL,hP,L,k⟩:=h;have hu:=Dc hr;have hm:=jZ prs;refine⟨_,QB.h (EQ (Gb (i:=1) FF.nd AS) (EQ (DU PassesOwn.never rfl (pZ K rfl (qv 0)) (Gm (n:=2) K rfl rfl (EY (GN (i:=2) FF.nd) (EY (GN (i:=3) FF.nd) GW))) (ES (Dz hu (qv 3) (qv 1) (qv 2)))) (ES (Ea (Gy (Dq K rfl) rfl T.ZI Dp (EN (Dg (N:=["samples","heights","t","h"]) (sc:=EU Fm) (own:=["t"]) (caps:=["heights"]) (ks:=[1]) rfl rfl rfl ⟨rfl,by decide +kernel,by decide +kernel,by decide +kernel,by decide +kernel,rfl,by decide +kernel⟩ (DX K rfl (Ey (Wz rfl) rfl T.ZV AW (EN (qv 1) EO))) (fun _ _ _ _ _=>Ge (i:=0) (show List.Nodup (α:=Str) ["t","heights"] from by decide +kernel) rfl (by walk_at "o") (.inr rfl)) (fun _ _ _ _ _=>Df) (fun _ _ _ _ _=>GB (EN (qv 0) (EN (DI hu (qv 1) (qv 0)) EO)))) EO)))))),?_⟩;walk_at "s";walk_at "w";refine Sw fun d H0 n0 f0 S0=>?_;walk_at "w";refine lE (b:=b) (xs:=us) (fun i U H'=>(∃v2 v3,U=[some (.ref l),some (.ref d),v2,v3])/\ET H H'/\H' d=some (.dK (Ez (BZ (prs.take i))))) (hL.same S0) ?_ (fun i U H' _ h=>hL.same h.2.1) ?_ ?_
  ·exact⟨⟨_,_,rfl⟩,S0,f0⟩
  ·rintro i x U H1 hx ⟨⟨v2,v3,rfl⟩,S1,M⟩;obtain⟨c,p,rfl,Z,hc⟩:=(hP.same S1).at hx
   have e3:prs.take (i+1)=prs.take i ++ [p]:=by
    rw[UR,Z];rfl
   walk_at "w";refine Sv M ?_ fun H2 f2 K2=>?_
   ·exact Uq (jZ _) (Uq (by rw[US];exact Nat.min_le_right _ _) (Uh L (by decide)))
   walk_at "w";refine⟨⟨_,_,rfl⟩,S1.kpN n0 K2,?_⟩;rw[e3,qF];exact f2
  ·rintro U H1 ⟨⟨v2,v3,rfl⟩,S1,M⟩;rw[hP.length,UP] at M;walk_at "w";refine XB M (by omega) fun l2 H2 B n2 f2 Z hs S2=>?_;have Y:B.length=(BZ prs).length:=by have:=Z.length_eq;simpa using this
   walk_at "w";intro l3 n3;have S23:ET H2 (upd H2 l3 (.lst [])):=ET.new n3;refine Gw B.length (fun i U' H'=>(∃o,U'=[o,some (.ref d)])/\ET H2 H'/\∃vs,H' l3=some (.lst vs)/\EZ H' vs ((BK (BZ prs) B).take i)) ?_ ?_ ?_
   ·exact⟨⟨none,rfl⟩,S23,[],EW,.nil⟩
   ·rintro U H' ⟨_,s,vs,f3,F⟩;refine⟨⟨_,Eh.of (s _ _ f2),by simp⟩,?_⟩;walk_at "w";refine BJ (Eh.of f3) fun t H4 n4 f4 S4=>?_;have a2:(BK (BZ prs) B).take B.length=BK (BZ prs) B:=Vp (by simp[BK]);rw[a2] at F;exact k t _ H4 ⟨vs,f4,F.same S4⟩ (Ix (Fh prs) Z hs) (by unfold BK;rw[Ug,Y];exact hm) (((S1.trans S2).trans s).trans S4)
   ·rintro i U H' hi ⟨⟨o,rfl⟩,s,vs,f3,F⟩;have a3:i<(B.map V.int).length:=by simpa using hi
    refine⟨⟨_,_,Eh.of (s _ _ f2),Ub a3⟩,?_⟩;rintro u H'' ⟨rfl,J⟩;have J:=J _ (Eh.of (s _ _ f2))
    have eu:u=.int B[i]:=by
     rw[UC,Ub hi] at J;simpa using J.symm
    subst eu;walk_at "w";refine DD ?_;walk_at "w";have a0:B[i]∈(BZ prs).map (·.1):=Z.mem_iff.mp (Vg hi)
    obtain⟨x,hx⟩:∃x,GG (BZ prs) B[i]=some x:=by
     cases hg:GG (BZ prs) B[i] with
     |none=>exact absurd a0 (FM.mp hg)
     |some x=>exact⟨x,rfl⟩
    refine dM (s _ _ (S2 _ _ M)) hx ?_;walk_at "w";refine Eg (by show 2<=sizeLine;decide) fun t H4 n4 f4 S4=>?_;have O:=S4 _ _ f3;refine⟨vs,O,?_,⟨_,rfl⟩,?_,?_⟩
    ·have e:=F.length;rw[e,US];exact Uq (Nat.min_le_left _ _) (Uh hi (by rw[Y];exact Nat.le_of_lt (Uq hm (Uh L (by decide)))))
    ·exact(s.trans S4).kpN (l:=l3) n3 Kp.upd
    ·refine⟨_,EW,?_⟩
     have e3:(BK (BZ prs) B).take (i+1)=(BK (BZ prs) B).take i ++ [(B[i],x)]:=by
      rw[UR];congr 1;simp[BK,Ub hi,hx]
     rw[e3];exact EZ.kpL Kp.upd O ((F.same S4).snoc f4)
def xO:Sp:=fun vs H Q _=>∃(c:Addr) (x y:Int),vs=[.ref c]/\H c=some (.tup [.int x,.int y])/\Q (.int y) H
theorem Be(T:Txt K mg a):Ec P w K mg base Ew 1 a.JZ a.JF ["sample"] xO:=by
 refine T.Zj.ok (N:=["sample"]) Es fun _ _ _ s H vs Q E F h=>?_
 ·obtain⟨c,x,y,rfl,B,q⟩:=h;refine⟨_,QB.h (ES (Ea (Ei (Ek K rfl) (qv 0) ER))),?_⟩;walk_at "s";walk_at "w";exact q
def wT(K:W.Frag)(v1 v2:V)(o1 o2:Option (PL))(c1 c2:PL):Sp:=fun vs H Q _=>vs=[v1,v2]/\GR H v1 o1/\Is4 c1 o1/\GR H v2 o2/\Is4 c2 o2/\(∀p∈c1,∀q∈c2,p.1<q.1)/\
 ∀(v:V) (o:Option (PL)) (H':Hp),GR H' v o->Is4 (c1++c2) o->ET H H'->Q v H'
def dz(K:W.Frag):Sp:=fun vs H Q E=>∃v1 v2 o1 o2 c1 c2,wT K v1 v2 o1 o2 c1 c2 vs H Q E
theorem qG{H:Hp}{v:V}{c:PL}{B:PL}(h:GR H v (some B))(g:Is4 c (some B)):∃(l:Addr) (q0 q1 q2 q3:Int×Int) (M L J F:Addr),v=.ref l/\B=[q0,q1,q2,q3]/\H l=some (.tup [.ref M,.ref L,.ref J,.ref F])/\
  H M=some (.tup [.int q0.1,.int q0.2])/\H L=some (.tup [.int q1.1,.int q1.2])/\H J=some (.tup [.int q2.1,.int q2.2])/\H F=some (.tup [.int q3.1,.int q3.2]):=by
 cases h with
 | @pr l B h hl=>
  obtain⟨us,f,hP⟩:=h;rcases g with ⟨e,_⟩|⟨q0,q1,q2,q3,e,_⟩
  ·cases e
  ·cases e
   cases hP with
   |cons h0 t=>cases t with
    |cons h1 t=>cases t with
     |cons h2 t=>cases t with
      |cons h3 t=>
       cases t;obtain⟨M,rfl,e0⟩:=h0;obtain⟨L,rfl,O⟩:=h1;obtain⟨J,rfl,Z⟩:=h2;obtain⟨F,rfl,Y⟩:=h3;exact⟨l,q0,q1,q2,q3,M,L,J,F,rfl,rfl,f,e0,O,Z,Y⟩
theorem LW:Eo ["one","other","lowest","highest"] ["one","other"] (EU WJ):=Es
theorem LX(T:Txt K mg a):Ec P w K mg base Ew 2 a.Ra a.TD ["one","other"] (dz K):=by
 refine T.Jf.ok LW fun a7 A a4 s H vs Q E hr h=>?_
 ·obtain⟨v1,v2,o1,o2,c1,c2,rfl,h1,O,h2,Z,a5,k⟩:=h;refine⟨_,QB.h (EQ (GO (Ee (IV) (qv 0) Gk (Ej _)) (ES (Ea (qv 1))) GC) (EQ (GO (Ee (IV) (qv 1) Gk (Ej _)) (ES (Ea (qv 0))) GC) (EQ (Gb (i:=2) LW.nd (Bo (Ee (BU) (GE (Be T) hr T.ZY T.Zj.kp T.ZX (EN (Ei (Ek K rfl) (qv 0) ER) EO)) (GE (Be T) hr T.ZY T.Zj.kp T.ZX (EN (Ei (Ek K rfl) (qv 1) ER) EO)) (Ej _)) (Ei (Ek K rfl) (qv 0) ER) (Ei (Ek K rfl) (qv 1) ER))) (EQ (Gb (i:=3) LW.nd (Bo (Ee (fo) (GE (Be T) hr T.ZY T.Zj.kp T.ZX (EN (Ei (Ek K rfl) (qv 0) ER) EO)) (GE (Be T) hr T.ZY T.Zj.kp T.ZX (EN (Ei (Ek K rfl) (qv 1) ER) EO)) (Ej _)) (Ei (Ek K rfl) (qv 0) ER) (Ei (Ek K rfl) (qv 1) ER))) (ES (Ea (GB (EN (Ei (Ek K rfl) (qv 0) ER) (EN (Ei (Ek K rfl) (qv 1) ER) (EN (qv 2) (EN (qv 3) EO))))))))))),?_⟩;walk_at "s";walk_at "w"
  cases o1 with
  |none=>
   cases h1;refine GL (fun _=>?_) (fun h=>absurd rfl h);walk_at "w";refine k v2 o2 H h2 ?_ (ET.refl H);rw[O.of_none,List.nil_append];exact Z
  |some qs1=>
   obtain⟨l1,q0,q1,q2,q3,a0,a1,a2,a3,rfl,rfl,f1,e0,e1,e2,e3⟩:=qG h1 O;refine GL (fun h=>by cases h) (fun _=>?_);walk_at "w"
   cases o2 with
   |none=>
    cases h2;refine GL (fun _=>?_) (fun h=>absurd rfl h);walk_at "w";refine k (.ref l1) _ H h1 ?_ (ET.refl H);rw[Z.of_none,UF];exact O
   |some qs2=>
    obtain⟨l2,r0,r1,r2,r3,b0,b1,b2,b3,rfl,rfl,f2,d0,d1,d2,Y⟩:=qG h2 Z;refine GL (fun h=>by cases h) (fun _=>?_);walk_at "w";refine⟨a2,_,_,rfl,e2,?_⟩;walk_at "w";refine⟨b2,_,_,rfl,d2,?_⟩;walk_at "w";have J:=O.join Z a5
    have B:∀(x y:Addr) (p2 p3:Int×Int),H x=some (.tup [.int p2.1,.int p2.2])->H y=some (.tup [.int p3.1,.int p3.2])->Is4 (c1++c2) (some [q0,r1,p2,p3])->∀l H',H l=none->H' l=some (.tup [.ref a0,.ref b1,.ref x,.ref y])->ET H H'->Q (.ref l) H':=fun x y p2 p3 hx hy J l H' n' F S'=>
     k (.ref l) _ H' (.pr ⟨_,F,.cons ⟨a0,rfl,S' _ _ e0⟩ (.cons ⟨b1,rfl,S' _ _ d1⟩ (.cons ⟨x,rfl,S' _ _ hx⟩ (.cons ⟨y,rfl,S' _ _ hy⟩ .nil)))⟩ rfl) J S'
    have a6:∀(x:Addr) (p2:Int×Int),True:=fun _ _=>trivial;refine GL (fun M=>?_) (fun M=>?_)
    ·walk_at "w";refine⟨a3,_,_,rfl,e3,?_⟩;walk_at "w";refine⟨b3,_,_,rfl,Y,?_⟩;walk_at "w";refine GL (fun L=>?_) (fun L=>?_)
     ·walk_at "w";rw[if_pos M,if_pos L] at J;exact Eg (by show 4<=sizeLine;decide) fun l H' n' F S'=>B _ _ _ _ e2 e3 J l H' n' F S'
     ·walk_at "w";rw[if_pos M,if_neg L] at J;exact Eg (by show 4<=sizeLine;decide) fun l H' n' F S'=>B _ _ _ _ e2 Y J l H' n' F S'
    ·walk_at "w";refine⟨a3,_,_,rfl,e3,?_⟩;walk_at "w";refine⟨b3,_,_,rfl,Y,?_⟩;walk_at "w";refine GL (fun L=>?_) (fun L=>?_)
     ·walk_at "w";rw[if_neg M,if_pos L] at J;exact Eg (by show 4<=sizeLine;decide) fun l H' n' F S'=>B _ _ _ _ d2 e3 J l H' n' F S'
     ·walk_at "w";rw[if_neg M,if_neg L] at J;exact Eg (by show 4<=sizeLine;decide) fun l H' n' F S'=>B _ _ _ _ d2 Y J l H' n' F S'
theorem vC{xs:List V}{v:V}(h:xs[xs.length-1]? = some v):Ke xs (-1)=some v:=by
 have B:=(Ui.mp h).1;unfold Ke Kd;rw[if_neg (by decide),if_pos (by omega)];have:((-1:Int)+(xs.length:Int)).toNat=xs.length-1:=by omega
 rw[this];exact h
def eA(K:W.Frag):Sp:=fun vs H Q _=>∃(l:Addr) (cv:PL),vs=[.ref l]/\Db H l cv/\DA cv/\
 ∀(v:V) (o:Option (PL)) (H':Hp),GR H' v o->Is4 cv o->ET H H'->Q v H'
theorem wU(T:Txt K mg a):Ec P w K mg base Ew 3 a.RH a.RF ["curve"] (eA K):=by
 refine T.MN.ok (N:=["curve"]) Es fun _ _ _ s H vs Q E hr h=>?_
 ·obtain⟨l,cv,rfl,⟨us,gL,J⟩,Y,k⟩:=h;have a6:us.length=cv.length:=J.length;refine⟨_,QB.h (EQ (GO (Ee (Dk) (Ey (Cw K rfl) rfl T.Zf CO (EN (qv 0) EO)) ER (Ej _)) (ES (Ea Gk)) GC) (ES (Ea (GB (EN (Ei (Ek K rfl) (qv 0) ER) (EN (Ei (Ek K rfl) (qv 0) (AG Bw ER)) (EN (vx K rfl rfl (Be T) hr rfl T.Y5 rfl T.ZY T.ZX (EN (qv 0) EO)) (EN (vz K rfl rfl (Be T) hr rfl T.Y4 rfl T.ZY T.ZX (EN (qv 0) EO)) EO)))))))),?_⟩;walk_at "s";walk_at "w";refine GL (fun h=>?_) (fun h=>?_)
  ·walk_at "w";have:cv=[]:=Vf.mp (by have h:=V.int.inj h;omega);exact k _ none H .non (.inl ⟨rfl,this⟩) (ET.refl H)
  ·have B:0<us.length:=by
    rcases Nat.eq_zero_or_pos us.length with z|z
    ·exact absurd (by rw[z];rfl) h
    ·exact z
   have L:us≠[]:=Vt.mp B;obtain⟨c0,q0,a7,b6,a4⟩:=J.at (Ub B);obtain⟨c1,q1,a2,O,a3⟩:=J.at (Ub (show us.length-1<us.length by omega));have a8:us[0]? = some (.ref c0):=by rw[Ub B,a7]
   have a1:us[us.length-1]? = some (.ref c1):=by rw[Ub (show us.length-1<us.length by omega),a2]
   have F:∀i v,us[i]? = some v->∀Q:VK,Q (.int (cv.getD i (0,0)).2) H->xO [v] H Q E0:=fun i v hv Q q=>by
    obtain⟨c,p,rfl,hp,hc⟩:=J.at hv;have e:cv.getD i (0,0)=p:=by simp[hp]
    rw[e] at q;exact⟨c,p.1,p.2,rfl,hc,q⟩
   walk_at "w";refine FK (GF.of gL) (DS (j:=0) a8) ?_;walk_at "w";refine FK (GF.of gL) (vC a1) ?_;walk_at "w";refine vy (fun i=>(cv.getD i (0,0)).2) (GF.of gL) L F fun i2 v2 b7 Z=>?_;walk_at "w";refine wA (fun i=>(cv.getD i (0,0)).2) (GF.of gL) L F fun i3 v3 b0 M=>?_;obtain⟨c2,q2,rfl,b9,a0⟩:=J.at b7;obtain⟨c3,q3,rfl,a9,a5⟩:=J.at b0;walk_at "w";refine Eg (by show 4<=sizeLine;decide) fun c4 H4 n4 f4 S4=>?_;have b8:EZ H4 [.ref c0,.ref c1,.ref c2,.ref c3] [q0,q1,q2,q3]:=.cons ⟨c0,rfl,S4 _ _ a4⟩ (.cons ⟨c1,rfl,S4 _ _ a3⟩ (.cons ⟨c2,rfl,S4 _ _ a0⟩ (.cons ⟨c3,rfl,S4 _ _ a5⟩ .nil)));rw[a6] at O Z M;exact k _ (some [q0,q1,q2,q3]) H4 (.pr ⟨_,f4,b8⟩ rfl) (Is4.minmax Y b6 O b9 a9 Z M) S4
def InT(x:Int):Prop:=-1099511627776<=x/\x<=1099511627776
def lh:Sp:=fun vs H Q _=>∃i:Int,vs=[.int i]/\Q (.bl true) H
theorem FG(T:Txt K mg a):Ec P w K mg base Ew 1 a.Jq a.Jz ["thing"] lh:=by
 refine T.Zt.ok (N:=["thing"]) Es fun _ _ _ s H vs Q E B h=>?_
 ·obtain⟨i,rfl,q⟩:=h;refine⟨_,QB.h (ES (Ea (Ku (Ey (jQ K rfl) rfl T.Zb FT (EN (qv 0) (EN (Xs (v:=.ty "int") rfl T.OP oM rfl) EO))) (Ww (pM (Ey (jQ K rfl) rfl T.Zb FT (EN (qv 0) (EN (Xs (v:=.ty "bool") rfl T.Mm kK rfl) EO)))))))),?_⟩;walk_at "s";walk_at "w";refine FL (.int i) (hJ _) (Sq (DD ?_));walk_at "w";refine FL (.int i) (wR _) ?_;walk_at "w";exact q
def eB:Sp:=fun vs H Q _=>∃i:Int,vs=[.int i]/\((InT i/\Q (.bl true) H)\/(¬InT i/\Q (.bl false) H))
theorem Hb(T:Txt K mg a):Ec P w K mg base Ew 2 a.JL a.JP ["thing"] eB:=by
 refine T.YG.ok (N:=["thing"]) Es fun _ _ _ s H vs Q E B h=>?_
 ·obtain⟨i,rfl,h⟩:=h;refine⟨_,QB.h (ES (Ea (Ku (GE (FG T) B T.Yh T.Zt.kp T.Yi (EN (qv 0) EO)) (Ww (Sr BU BU (AG Bw (Fy (v:=.int 1099511627776) rfl T.JW ⟨_,rfl⟩)) (qv 0) (Fy (v:=.int 1099511627776) rfl T.JW ⟨_,rfl⟩)))))),?_⟩;walk_at "s";walk_at "w";refine⟨i,rfl,?_⟩;walk_at "w";refine DD ?_;walk_at "w";unfold InT at h;refine GL (fun h1=>?_) (fun h1=>?_)
  ·walk_at "w";rcases h with ⟨hi,q⟩|⟨hi,q⟩
   ·rw[decide_eq_true hi.2];exact q
   ·rw[decide_eq_false fun z=>hi ⟨by omega,z⟩];exact q
  ·rcases h with ⟨hi,q⟩|⟨hi,q⟩
   ·exact absurd hi.1 (by omega)
   ·walk_at "w";exact q
def li:Sp:=fun vs H Q _=>∃b e:Int,vs=[.int b,.int e]/\InT b/\InT e/\Q .non H
theorem Hc(T:Txt K mg a):Ec P w K mg base Ew 3 a.Zv a.Zu ["begin","end"] li:=by
 refine T.Zy.ok (N:=["begin","end"]) Es fun _ _ _ s H vs Q E B h=>?_
 ·obtain⟨b,e,rfl,J,F,q⟩:=h;refine⟨_,QB.h (ES (GO (QW.pt (Iu (By (BW (GE (Hb T) B T.JR T.YG.kp T.JG (EN (qv 0) EO)))) (IZ (By (BW (GE (Hb T) B T.JR T.YG.kp T.JG (EN (qv 1) EO))))))) (ES AR) GC)),?_⟩;walk_at "s";walk_at "w";refine⟨b,rfl,.inl ⟨J,?_⟩⟩;walk_at "w";refine GV ?_;walk_at "w";refine⟨e,rfl,.inl ⟨F,?_⟩⟩;walk_at "w";refine GV ?_;walk_at "w";exact q
def aB:Sp:=fun vs H Q _=>∃x e:Int,vs=[.int x,.int e]/\InT x/\InT e/\x<e/\
 ∀(t:Addr) (L:Nat) (H':Hp),H' t=some (.tup [.int L,.int (2 ^ L)])->(2:Int) ^ L ∣ x->x+2 ^ L<=e->((2:Int) ^ (L+1) ∣ x->x+2 ^ (L+1)<=e->False)->ET H H'->Q (.ref t) H'
theorem Al:Eo ["first","end","level","size"] ["first","end"] (EU LN):=Es
theorem wV(T:Txt K mg a):Ec P w K mg base Ew 1 a.Qi a.Qh ["first","end"] aB:=by
 refine T.MJ.ok Al fun a2 A F s H vs Q E hr h=>?_
 ·obtain⟨x,e,rfl,O,Y,a0,k⟩:=h;unfold InT at O Y;refine⟨_,QB.h (EQ (Gb (i:=2) Al.nd ER) (EQ (Gb (i:=3) Al.nd ER) (EQ (jP PassesOwn.never (QW.pt (CS (Ee (Dk) (Eb Cu (qv 0) (Eb GM ER (qv 3))) ER (Ej _)) (BX (Ee (BU) (Eb Go (qv 0) (Eb GM ER (qv 3))) (qv 1) (Ej _))))) (EQ (ja (i:=2) Al.nd rfl (by walk_at "o") uO ER) (ES (ja (i:=3) Al.nd rfl (by walk_at "o") ip ER)))) (ES (Ea (GB (EN (qv 2) (EN (qv 3) EO)))))))),?_⟩;walk_at "s";walk_at "w";refine jb (fun U H'=>H'=H/\∃L:Nat,∃z:Int,z=2 ^ L/\U=[some (.int x),some (.int e),some (.int L),some (.int z)]/\z ∣ x/\x+z<=e) (fun U H'=>match U with | [_,_,some (.int l),some (.int z)]=>(2199023255552-z).toNat|_=>0) ?_ ?_
  ·exact⟨rfl,0,1,rfl,rfl,Int.one_dvd _,by omega⟩
  ·rintro U H' ⟨rfl,L,z,hz,rfl,M,B⟩;have hp:0<z:=by rw[hz];exact Bb L
   have a1:z<=2199023255552:=by omega
   walk_at "w";rw[BQ];refine GL (fun h1=>?_) (fun h1=>?_)
   ·walk_at "w";refine GL (fun h2=>?_) (fun h2=>?_)
    ·refine uj ?_;walk_at "w";refine⟨⟨rfl,L+1,z*2,?_,?_,?_,by omega⟩,?_⟩
     ·rw[hz,Int.pow_succ]
     ·show[some (V.int x),some (V.int e),some (V.int ((L:Int)+1)),some (V.int (z*2))]=_;rfl
     ·rw[Int.mul_comm];exact Int.dvd_of_emod_eq_zero h1
     ·show(2199023255552-z*2).toNat<(2199023255552-z).toNat
      omega
    ·walk_at "w";refine Eg (by show 2<=sizeLine;decide) fun t H2 n2 J S2=>?_;subst hz;refine k t L H2 J M B (fun _ Z=>h2 ?_) S2;rw[KF];exact Z
   ·refine GV ?_;walk_at "w";refine Eg (by show 2<=sizeLine;decide) fun t H2 n2 J S2=>?_;subst hz;refine k t L H2 J M B (fun h3 _=>h1 ?_) S2;rw[KF];exact Int.emod_eq_zero_of_dvd h3
noncomputable def LY(b e:Int):Int:=if e>b then e else b
def uD:Sp:=fun vs H Q _=>∃b e:Int,vs=[.int b,.int e]/\InT b/\InT e/\
 ∀(t:Addr) (prs:PL) (H':Hp),Db H' t prs->Ch e b prs (LY b e)->prs.length<=80->ET H H'->Q (.ref t) H'
theorem Bf:Eo ["begin","end","found","first","level","size"] ["begin","end"] (EU IK):=Es
set_option tactic.hygienic true in
theorem xP(T:Txt K mg a):Ec P w K mg base Ew 4 a.JC a.JV ["begin","end"] uD:=by
 refine T.RQ.ok Bf fun a6 A a2 s H vs Q E hr h=>?_
 ·obtain⟨b,e,rfl,hb,he,k⟩:=h;refine⟨_,QB.h (EQ (Et (GE (Hc T) hr T.Y7 T.Zy.kp T.Y8 (EN (qv 0) (EN (qv 1) EO)))) (EQ (Gb (i:=2) Bf.nd (Dd EO)) (EQ (Gb (i:=3) Bf.nd (qv 0)) (EQ (jP PassesOwn.never (Ee (Bm) (qv 3) (qv 1) (Ej _)) (EQ (DE (GE (wV T) hr.m T.OT T.MJ.kp T.Om (EN (qv 3) (EN (qv 1) EO))) (Gm (n:=2) K rfl rfl (EY (GN (i:=4) Bf.nd) (EY (GN (i:=5) Bf.nd) GW)))) (EQ (Et (Bp PySem.F.plainAttrs_list PySem.F.slot_list_append PySem.F.type_list_append DT (qv 2) (EN (GB (EN (qv 4) (EN (Eb CN (qv 3) (qv 5)) EO))) EO))) (ES (ja (i:=3) Bf.nd rfl (by walk_at "o") uO (qv 5)))))) (ES (Ea (Gy (Dq K rfl) rfl T.ZI Dp (EN (qv 2) EO)))))))),?_⟩;walk_at "s";walk_at "w";refine⟨b,e,rfl,hb,he,?_⟩;unfold InT at hb he;walk_at "w";refine Eg (by show 0<=sizeLine;decide) fun l H1 n1 f1 S1=>?_;walk_at "w";have B:(2:Int) ^ 40=1099511627776:=by decide
  refine jb (fun U H'=>ET H H'/\∃(x:Int) (prs:PL),(∃v4 v5,U=[some (.int b),some (.int e),some (.ref l),some (.int x),v4,v5])/\Hr H' l prs/\Ch e b prs x/\SL e prs.length x/\x<=LY b e/\b<=x) (fun U H'=>match U with | [_,_,_,some (.int x),_,_]=>(e-x).toNat|_=>0) ?_ ?_
  ·exact⟨S1,b,[],⟨_,_,rfl⟩,⟨[],f1,.nil⟩,rfl,SL.start (by rw[B];omega),by unfold LY;split<;>omega,Int.le_refl _⟩
  ·rintro U H' ⟨S',x,prs,⟨v4,v5,rfl⟩,⟨vs,f',hP⟩,Z,J,O,a5⟩;walk_at "w";refine GL (fun a0=>?_) (fun a0=>?_)
   ·refine uj ?_;walk_at "w";refine⟨x,e,rfl,⟨by omega,by omega⟩,he,a0,fun t L H2 f2 hd Y M S2=>?_⟩;have hL:L<=40:=ju (by rw[B];omega) (by rw[B];omega) hd Y;have hp:=Bb L;have a1:=KD hL;rw[B] at a1;have a3:=SL.step (by rw[B];omega) (by rw[B];omega) J hd Y M;generalize hz:(2:Int) ^ L=z at *;walk_at "w";refine⟨HH (S2 _ _ f'),?_⟩;walk_at "w";refine Eg (by show 2<=sizeLine;decide) fun t3 H3 n3 f3 S3=>?_;have fl:=S3 _ _ (S2 _ _ f');walk_at "w";refine Da fl ?_ fun H4 f4 K4=>?_
    ·rw[hP.length];exact Uq J.len (by decide)
    walk_at "w";have a4:x / z*z=x:=Int.ediv_mul_cancel hd;refine⟨⟨((S'.trans S2).trans S3).kpN n1 K4,x+z,prs ++ [((L:Int),x / z)],⟨_,_,rfl⟩,⟨_,f4,?_⟩,?_,?_,?_,by omega⟩,?_⟩
    ·exact EZ.kpL K4 fl ((hP.same (S2.trans S3)).snoc f3)
    ·have:=Ch.snoc (p:=((L:Int),x / z)) Z ⟨by simp,by simp;omega⟩ (by rw[show((L:Int),x / z).1.toNat=L from Int.toNat_natCast L,hz];exact a4) (by rw[show((L:Int),x / z).1.toNat=L from Int.toNat_natCast L,hz];exact Y) (by
      rw[show((L:Int),x / z).1.toNat=L from Int.toNat_natCast L,hz];intro _ h5 h6;have ez:(2:Int) ^ (L+1)=2*z:=by rw[<- KF,hz]
      refine M ?_ ?_
      ·rw[ez];exact Int.dvd_of_emod_eq_zero h5
      ·rw[ez];exact h6)
     rw[show((L:Int),x / z).1.toNat=L from Int.toNat_natCast L,hz] at this;exact this
    ·rw[UD];exact a3
    ·unfold LY;split<;>omega
    ·show(e-(x+z)).toNat<(e-x).toNat
     omega
   ·walk_at "w";refine BJ (Eh.of f') fun t H2 n2 f2 S2=>?_
    have ex:x=LY b e:=by
     unfold LY at O ⊢;split<;>rename_i hh
     ·rw[if_pos hh] at O;omega
     ·rw[if_neg hh] at O;omega
    rw[ex] at Z;exact k t prs H2 ⟨vs,f2,hP.same S2⟩ Z J.len (S'.trans S2)
def aC(K:W.Frag)(p:Addr)(b y m k:Int):Sp:=fun vs H Q _=>vs=[.ref p,.int k]/\H p=some (.tup [.int b,.int y,.int m])/\0<=k/\k<m/\m<=1000/\
 ∀(u:Addr) (H':Hp),H u=none->H' u=some (.tup [.int (b+k*y),.int (b+k*y+y)])->ET H H'->Q (.ref u) H'
def lj(K:W.Frag):Sp:=fun vs H Q E=>∃p b y m k,aC K p b y m k vs H Q E
theorem Cz:Eo ["window","k","begin","wide","many","first"] ["window","k"] (EU KL):=Es
theorem Sa(T:Txt K mg a):Ec P w K mg base Ew 2 a.Jy a.Jp ["window","k"] (lj K):=by
 refine T.Jw.ok Cz fun J A B s H vs Q E L h=>?_
 ·obtain⟨p,b,y,m,n,rfl,O,h0,h1,h2,k⟩:=h;refine⟨_,QB.h (EQ (DE (qv 0) (Gm (n:=3) K rfl rfl (EY (GN (i:=2) Cz.nd) (EY (GN (i:=3) Cz.nd) (EY (GN (i:=4) Cz.nd) GW))))) (EQ (GO (QW.pt (Iu (By (BW (GE (FG T) L T.Yh T.Zt.kp T.Yi (EN (qv 1) EO)))) (IZ (By (AQ BU Bm ER (qv 1) (qv 4)))))) (ES AR) GC) (EQ (Gb (i:=5) Cz.nd (Eb Go (qv 2) (Eb GM (qv 1) (qv 3)))) (ES (Ea (GB (EN (qv 5) (EN (Eb Go (qv 5) (qv 3)) EO)))))))),?_⟩;walk_at "s";walk_at "w";refine⟨n,rfl,?_⟩;walk_at "w";refine GV ?_;walk_at "w";refine GL (fun _=>?_) (fun h=>absurd h0 h);walk_at "w";rw[decide_eq_true h1];refine GV ?_;walk_at "w";exact Eg (by show 2<=sizeLine;decide) fun u H2 M F S2=>k u H2 M F S2
noncomputable def FH(b y:Int)(n:Nat):PL:=(UM n).map fun(i:Nat)=>(b+(i:Int)*y,b+(i:Int)*y+y)
theorem CZ(b y:Int)(n:Nat):(FH b y n).length=n:=by rw[FH,Ug,Ve]
theorem XU(b y:Int)(n:Nat):FH b y (n+1)=FH b y n ++ [(b+(n:Int)*y,b+(n:Int)*y+y)]:=by rw[FH,Vk,Uy];rfl
theorem Hd{b y:Int}{n i:Nat}{p:Int×Int}(h:(FH b y n)[i]? = some p):p=(b+(i:Int)*y,b+(i:Int)*y+y):=by
 rw[FH,UC] at h;obtain⟨j,B,rfl⟩:=Vn.mp h;rw[List.getElem?_range (by have:=(Ui.mp B).1;rwa [Ve] at this)] at B;rw[<- Option.some.inj B]
def uE(K:W.Frag)(p:Addr)(b y m:Int):Sp:=fun vs H Q _=>vs=[.ref p]/\H p=some (.tup [.int b,.int y,.int m])/\1<=m/\m<=1000/\
 ∀(l:Addr) (us:List V) (H':Hp),H l=none->H' l=some (.lst us)->EZ H' us (FH b y m.toNat)->ET H H'->Q (.ref l) H'
def aD(K:W.Frag):Sp:=fun vs H Q E=>∃p b y m,uE K p b y m vs H Q E
theorem AJ(T:Txt K mg a):Ec P w K mg base Ew 3 a.Yk a.Ym ["window"] (aD K):=by
 refine T.Za.ok (N:=["window"]) Es fun _ _ _ s H vs Q E Y h=>?_
 ·obtain⟨p,b,y,m,rfl,M,h1,h2,k⟩:=h;refine⟨_,QB.h (ES (Ea (Dg (N:=["window"]) (sc:=EU HV) (own:=["k"]) (caps:=["window"]) (ks:=[0]) rfl rfl rfl ⟨rfl,by decide +kernel,by decide +kernel,by decide +kernel,by decide +kernel,rfl,by decide +kernel⟩ (Dm rfl T.ZJ (EN (Ei (Ek K rfl) (qv 0) ER) EO)) (fun _ _ _ _ _=>Ge (i:=0) (show List.Nodup (α:=Str) ["k","window"] from by decide +kernel) rfl (by walk_at "o") (.inr rfl)) (fun _ _ _ _ _=>Df) (fun _ _ _ _ _=>GE (Sa T) Y T.TR T.Jw.kp T.TM (EN (qv 1) (EN (qv 0) EO)))))),?_⟩;walk_at "s";walk_at "w";refine CQ (by omega) (by omega) ?_;intro l J;refine Gw m.toNat (fun i U' H'=>(∃o,U'=[o,some (.ref p)])/\ET H H'/\∃vs,H' l=some (.lst vs)/\EZ H' vs (FH b y i)) ?_ ?_ ?_
  ·exact⟨⟨none,rfl⟩,ET.new J,[],EW,.nil⟩
  ·rintro U H2 ⟨_,S2,vs,B,F⟩;refine⟨Ue _,?_⟩;walk_at "w";exact k l vs H2 J B F S2
  ·rintro i U H2 hi ⟨⟨o,rfl⟩,S2,vs,B,F⟩;refine⟨hi,?_⟩;rintro x H'' ⟨rfl,rfl⟩;walk_at "w";refine DD ?_;walk_at "w";refine⟨p,b,y,m,_,rfl,S2 _ _ M,by omega,by omega,by omega,fun u H3 Z L S3=>?_⟩;have O:(0+(i:Int))=(i:Int):=by omega
   rw[O] at L;refine⟨vs,S3 _ _ B,?_,⟨_,rfl⟩,(S2.trans S3).kpN J Kp.upd,vs ++ [.ref u],EW,?_⟩
   ·rw[F.length,CZ];exact Uh hi (Uz (show m.toNat<=1000 by omega) (by decide))
   ·rw[XU];exact EZ.kpL Kp.upd (S3 _ _ B) ((F.same S3).snoc (p:=(b+(i:Int)*y,b+(i:Int)*y+y)) L)
end
noncomputable def Ca(n:Int)(d1 d2:Addr):List (Str×V):=[("looks",V.int n),("samples",V.ref d1),("kept_fours",V.ref d2)]
theorem tu:(("samples":Str)=="looks")=false:=by decide +kernel
theorem tw:(("kept_fours":Str)=="looks")=false:=by decide +kernel
theorem tz:(("kept_fours":Str)=="samples")=false:=by decide +kernel
theorem FP{n:Int}{B F:Addr}:(Ca n B F).lookup ("looks":Str)=some (.int n):=by
 unfold Ca;rw[Uk,beq_self_eq_true]
theorem AA{n:Int}{B F:Addr}:(Ca n B F).lookup ("samples":Str)=some (.ref B):=by
 unfold Ca;rw[Uk,tu,Uk,beq_self_eq_true]
theorem KR{n:Int}{F B:Addr}:(Ca n F B).lookup ("kept_fours":Str)=some (.ref B):=by
 unfold Ca;rw[Uk,tw,Uk,tz,Uk,beq_self_eq_true]
theorem Am{n:Int}{B F:Addr}{m:Str}(h1:(m==("looks":Str))=false:=by decide +kernel)(h2:(m==("samples":Str))=false:=by decide +kernel)(J:(m==("kept_fours":Str))=false:=by decide +kernel):(Ca n B F).lookup m=none:=by
 unfold Ca;rw[Uk,h1,Uk,h2,Uk,J];rfl
theorem ll{n n':Int}{B F:Addr}:GP "looks" (.int n') (Ca n B F)=Ca n' B F:=by
 show(if("looks":Str)="looks" then[(("looks":Str),V.int n')]++_ else _)=_;rw[if_pos rfl];rfl
theorem lm{B F:Addr}:GP "kept_fours" (.ref F) (GP "samples" (.ref B) (GP "looks" (.int 0) []))=Ca 0 B F:=by
 have J:¬("looks":Str)="samples":=by decide +kernel
 have L:¬("looks":Str)="kept_fours":=by decide +kernel
 have M:¬("samples":Str)="kept_fours":=by decide +kernel
 show GP "kept_fours" (.ref F) (GP "samples" (.ref B) [(("looks":Str),V.int 0)])=_;rw[show GP "samples" (.ref B) [(("looks":Str),V.int 0)]=(if("looks":Str)="samples" then[(("looks":Str),V.ref B)] else(("looks":Str),V.int 0)::GP "samples" (.ref B) []) from rfl,if_neg J];show(if("looks":Str)="kept_fours" then _ else(("looks":Str),V.int 0)::(if("samples":Str)="kept_fours" then _ else(("samples":Str),V.ref B)::GP "kept_fours" (.ref F) []))=_;rw[if_neg L,if_neg M];rfl
def GZ(C:Addr)(H:Hp)(p:Addr)(n:Int)(d1 d2:Addr)(sm:PL)(c:Nat):Prop:=
 ∃dx kvs,H p=some (.ins C dx (Ca n d1 d2))/\H d1=some (.dK (Ez sm))/\H d2=some (.dT kvs)/\(sm.map (·.1)).Nodup/\Dn H kvs sm (fun _ _=>True)/\kvs.length<=41*c
theorem GZ.same{C:Addr}{H H':Hp}{p B F:Addr}{n:Int}{sm:PL}{c:Nat}(h:GZ C H p n B F sm c)(s:ET H H'):GZ C H' p n B F sm c:=by
 obtain⟨dx,kvs,h1,h2,O,L,J,M⟩:=h;exact⟨dx,kvs,s _ _ h1,s _ _ h2,s _ _ O,L,J.same s,M⟩
def XV(p d1 d2:Addr)(H H':Hp):Prop:=∀b o,H b=some o->b≠p->b≠d1->b≠d2->H' b=some o
section
local macro_rules|`(tactic|walk_at "rd")=>`(tactic|walk_at " ZF,ZS,FP ZF,ZM,AA ZF,ZL,KR")
def Tm(t:Int):Prop:=-1099511627776<=t/\t<1099511627776
def eC:Sp:=fun vs H Q _=>∃t:Int,vs=[.int t]/\Tm t/\Q .non H
theorem Km(T:Txt K mg a):Ec P w K mg base Ew 3 a.Yx a.Yv ["t"] eC:=by
 refine T.Yp.ok (N:=["t"]) Es fun _ _ _ s H vs Q E F h=>?_
 ·obtain⟨t,rfl,B,q⟩:=h;unfold Tm at B;refine⟨_,QB.h (ES (GO (QW.pt (Iu (By (BW (GE (Hb T) F T.JR T.YG.kp T.JG (EN (qv 0) EO)))) (IZ (Ee (Dk) (qv 0) (Fy (v:=.int 1099511627776) rfl T.JW ⟨_,rfl⟩) (Ej _))))) (ES AR) GC)),?_⟩;walk_at "s";walk_at "w";refine⟨t,rfl,.inl ⟨⟨by omega,by omega⟩,?_⟩⟩;walk_at "w";refine GV ?_;walk_at "w";rw[BQ];refine GL (fun h=>?_) (fun h=>?_)
  ·exfalso
   omega
  ·walk_at "w";exact q
def aE(C:Addr)(p d1 d2 dx:Addr)(n t:Int)(v:V)(o:Option (PL))(sm:PL)(kvs:List (List Ef×V))(c:Nat):Sp:=fun vs H Q _=>vs=[.ref p,.int t,v]/\H p=some (.ins C dx (Ca n d1 d2))/\H d1=some (.dK (Ez sm))/\H d2=some (.dT kvs)/\(sm.map (·.1)).Nodup/\
 Dn H kvs sm (fun l s=>s≠t / 2 ^ l)/\kvs.length<=41*c/\c<=1000/\GR H v o/\Is4 (HM sm 0 t) o/\∀H',GZ C H' p n d1 d2 sm (c+1)->Kp d2 H H'->Q .non H'
def ln(C:Addr):Sp:=fun vs H Q E=>∃p d1 d2 dx n t v o sm kvs c,aE C p d1 d2 dx n t v o sm kvs c vs H Q E
theorem CA:Eo ["self","t","four","s","level","halves"] ["self","t","four"] (EU HW):=Es
theorem Kn(T:Txt K mg a):Ec P w K mg base Ew 3 a.Yw a.Yz ["self","t","four"] (ln a.ZB):=by
 refine T.NJ.ok CA fun c9 A a4 s H vs Q E hr h=>?_
 ·obtain⟨p,d1,d2,dx,n,t,v,o,sm,kvs,c,rfl,hp,h1,h2,a7,a9,c3,hc,hv,ho,k⟩:=h;have hu:=Dc hr;have a2:p≠d2:=fun z=>by subst z;rw[hp] at h2;cases h2
  have b9:d1≠d2:=fun z=>by subst z;rw[h1] at h2;cases h2
  refine⟨_,QB.h (EQ (Dz hu (qv 2) (Eu K rfl (qv 0)) (GB (EN ER (EN (qv 1) EO)))) (EQ (Gb (i:=3) CA.nd (qv 1)) (ES (DU PassesOwn.never rfl (Dm rfl T.ZJ (EN (Fy (v:=.int 40) rfl T.Nx ⟨_,rfl⟩) EO)) (GN (i:=4) CA.nd) (EQ (Gb (i:=3) CA.nd (Eb CN (qv 3) ER)) (EQ (Gb (i:=5) CA.nd (GB (EN (HL hu (Eu K rfl (qv 0)) (GB (EN (qv 4) (EN (Eb GM ER (qv 3)) EO)))) (EN (HL hu (Eu K rfl (qv 0)) (GB (EN (qv 4) (EN (Eb Go (Eb GM ER (qv 3)) ER) EO)))) EO)))) (ES (Dz hu (GE (LX T) hr T.Rm T.Jf.kp T.Rf (EN (Ei (Ek K rfl) (qv 5) ER) (EN (Ei (Ek K rfl) (qv 5) ER) EO))) (Eu K rfl (qv 0)) (GB (EN (Eb Go (qv 4) ER) (EN (qv 3) EO))))))))))),?_⟩;walk_at "s";walk_at "w";refine Eg (by show 2<=sizeLine;decide) fun b3 H3 n3 f3 S3=>?_;walk_at "w";refine HK (k:=HN 0 t) (S3 _ _ h2) f3 (Uq (show kvs.length<=41000 by omega) (by decide)) fun H4 f4 K4=>?_;have K04:Kp d2 H H4:=(Kp.same S3).trans K4;have nt:∀(l:List (List Ef×V)) (xs:List V),HO.dT l≠.tup xs:=fun l xs z=>by cases z
  have e0:t / 2 ^ 0=t:=by simp
  have a3:Dn H4 (Dh kvs (HN 0 t) v) sm (fun l s=>s≠t / 2 ^ l\/l<=0):=by
   have h:=((a9.same S3).put (i:=0) (t:=t) (hv.same S3) (by rw[e0];exact ho)).kpX K4 (S3 _ _ h2) (nt _);rw[e0] at h;refine h.mono fun l s hl g=>?_;rcases g with g|g
   ·exact .inl g
   ·have:l=0:=by omega
    subst this;by_cases e:s=t / 2 ^ 0
    ·exact .inr ⟨rfl,e⟩
    ·exact .inl e
  have a8:(Dh kvs (HN 0 t) v).length<=41*c+1:=Uz (CF _ _ _) (by omega);walk_at "w";refine CQ (by decide) (by decide) (IW (fun i U H'=>(∃v4 v5,U=[some (.ref p),some (.int t),some v,some (.int (t / 2 ^ i)),v4,v5])/\Kp d2 H H'/\∃B,H' d2=some (.dT B)/\Dn H' B sm (fun l s=>s≠t / 2 ^ l\/l<=i)/\B.length<=41*c+1+i) ?_ ?_ ?_)
  ·exact⟨⟨none,none,by rw[e0];rfl⟩,K04,_,f4,a3,a8⟩
  ·rintro i U H5 hi ⟨⟨v4,v5,rfl⟩,K5,F,O,J,Z⟩;have c4:i<40:=hi;have a1:=K5 _ _ hp a2;have ez:(0+(i:Int))=(i:Int):=by omega
   rw[ez];walk_at "w";generalize hs:t / 2 ^ i / 2=s;have M:t / 2 ^ (i+1)=s:=by rw[jv,hs]
   refine LC O ?_;walk_at "w";refine Eg (by show 2<=sizeLine;decide) fun b6 H6 n6 f6 S6=>?_;refine WE (k:=HN i (2*s)) (S6 _ _ O) f6 ?_;have c7:=S6 _ _ a1;have a0:=S6 _ _ O;walk_at "w";refine LC a0 ?_;walk_at "w";refine Eg (by show 2<=sizeLine;decide) fun b7 H7 n7 f7 S7=>?_;refine WE (k:=HN i (2*s+1)) (S7 _ _ a0) f7 ?_;have S57:=S6.trans S7;walk_at "w";refine Eg (by show 2<=sizeLine;decide) fun b8 H8 n8 f8 S8=>?_;have S58:=S57.trans S8;have Y:=J.same S58;obtain⟨oa,a6,c2⟩:=Y i (2*s) (by omega) (.inr (Ue _));obtain⟨ob,b0,c1⟩:=Y i (2*s+1) (by omega) (.inr (Ue _));walk_at "w";refine⟨_,_,oa,ob,_,_,rfl,a6,c2,b0,c1,rA (by omega),fun v9 o9 H9 h9 g9 S9=>?_⟩;have g9:Is4 (HM sm (i+1) s) o9:=g9.congr fun q=>db;have S59:=S58.trans S9;have c8:=S59 _ _ a1;walk_at "w";refine Eg (by show 2<=sizeLine;decide) fun c5 H10 c6 a5 S10=>?_;have S510:=S59.trans S10;have L:=S510 _ _ O;refine HK (k:=HN (i+1) s) L ?_ (Uq (show F.length<=42000 by omega) (by decide)) fun H11 c0 K11=>?_
   ·rw[a5];show some (HO.tup [V.int ((i:Int)+1),V.int s])=some (HO.tup [V.int ((i+1:Nat):Int),V.int s]);rw[show((i+1:Nat):Int)=(i:Int)+1 by omega]
   walk_at "w";refine⟨⟨some (.int i),some (.ref b8),by rw[M];rfl⟩,(K5.then S510).trans K11,_,c0,?_,Uz (CF _ _ _) (by omega)⟩;have h:=((J.same S510).put (i:=i+1) (t:=t) (h9.same S10) (by rw[M];exact g9)).kpX K11 L (nt _);rw[M] at h;refine h.mono fun l s' hl g=>?_;rcases g with g|g
   ·exact .inl (.inl g)
   ·by_cases e:l=i+1
    ·by_cases e2:s'=t / 2 ^ l
     ·exact .inr ⟨e,e2⟩
     ·exact .inl (.inl e2)
    ·exact .inl (.inr (by omega))
  ·rintro U H5 ⟨⟨v4,v5,rfl⟩,K5,F,O,J,Z⟩;walk_at "w";refine k H5 ⟨dx,F,K5 _ _ hp a2,K5 _ _ h1 b9,O,a7,J.mono fun l s hl _=>.inr hl,?_⟩ K5;have:F.length<=41*c+1+40:=Z;omega
def eD(C:Addr)(p d1 d2:Addr)(n t h:Int)(sm:PL)(c:Nat):Sp:=fun vs H Q _=>vs=[.ref p,.int t,.int h]/\GZ C H p n d1 d2 sm c/\Tm t/\c<=1000/\sm.length<=1000/\
 ∀H',GZ C H' p n d1 d2 (Gx sm t h) (c+1)->XV p d1 d2 H H'->Q .non H'
def rG(C:Addr):Sp:=fun vs H Q E=>∃p d1 d2 n t h sm c,eD C p d1 d2 n t h sm c vs H Q E
theorem Sb(T:Txt K mg a):Ec P w K mg base Ew 4 a.Jv a.J5 ["self","t","h"] (rG a.ZB):=by
 refine T.ON.ok (N:=["self","t","h"]) Es fun _ _ _ s H vs Q E L h=>?_
 ·obtain⟨p,Z,d2,n,t,x,sm,c,rfl,⟨dx,kvs,hp,h1,h2,B,O,F⟩,ht,hc,M,k⟩:=h;have hu:=Dc L;have a2:p≠Z:=fun z=>by subst z;rw[hp] at h1;cases h1
  have a0:d2≠Z:=fun z=>by subst z;rw[h1] at h2;cases h2
  refine⟨_,QB.h (EQ (Et (GE (Km T) L T.Qw T.Yp.kp T.QV (EN (qv 1) EO))) (EQ (Dz hu (qv 2) (Eu K rfl (qv 0)) (qv 1)) (ES (Et (GQ (qv 0) T.ZF T.QY (Kn T) L T.RA .nil GK (EN (qv 1) (EN (GE (wU T) L T.Oa T.MN.kp T.OZ (EN (GB (EN (GB (EN (qv 1) (EN (qv 2) EO))) EO)) EO)) EO))))))),?_⟩;walk_at "s";walk_at "w";refine⟨t,rfl,ht,?_⟩;walk_at "w";refine Sv h1 (Uq M (by decide)) fun H3 f3 K3=>?_;have J:=K3 _ _ hp a2;have a1:=K3 _ _ h2 a0
  have a3:Dn H3 kvs (Gx sm t x) (fun l s=>s≠t / 2 ^ l):=(Dn.other O fun q hq=>by
   rw[Ds B];constructor
   ·exact fun z=>.inl ⟨hq,z⟩
   ·rintro(z|z)
    ·exact z.2
    ·exact absurd (by rw[z]) hq).kpX K3 h1 (fun xs z=>by cases z)
  walk_at "w";refine En J Am ?_;walk_at "w";refine Eg (by show 2<=sizeLine;decide) fun b4 H4 n4 f4 S4=>?_;walk_at "w";refine Eg (by show 1<=sizeLine;decide) fun b5 H5 n5 f5 S5=>?_;walk_at "w";refine⟨b5,[(t,x)],rfl,⟨_,f5,.cons ⟨b4,rfl,S5 _ _ f4⟩ .nil⟩,List.pairwise_singleton _ _,fun v6 o6 H6 h6 g6 S6=>?_⟩;have S36:=S4.trans (S5.trans S6);walk_at "w";refine⟨p,Z,d2,dx,n,t,v6,o6,Gx sm t x,kvs,c,rfl,S36 _ _ J,S36 _ _ f3,S36 _ _ a1,Bq B,a3.same S36,F,hc,h6,g6.congr fun q=>?_,fun H7 Y K7=>?_⟩
  ·rw[Um,Cj,Ds B];simp only[Int.pow_zero,Int.ediv_one];constructor
   ·rintro rfl;exact⟨.inr rfl,rfl⟩
   ·rintro⟨h1|h1,h2⟩
    ·exact absurd h2 h1.1
    ·exact h1
  ·walk_at "w";exact k H7 Y fun b o e e1 e2 e3=>K7 _ _ (S36 _ _ (K3 _ _ e e2)) e3
def aF(C:Addr)(p dx:Addr)(x:V)(cv:PL):Sp:=fun vs H Q _=>vs=[.ref p,x]/\H p=some (.ins C dx [])/\((x=.non/\cv=[])\/∃t,x=.ref t/\Db H t cv)/\(cv.map (·.1)).Nodup/\(∀q∈cv,Tm q.1)/\cv.length<=100/\
 ∀(d1 d2:Addr) (sm:PL) (H':Hp),H d1=none->H d2=none->GZ C H' p 0 d1 d2 sm cv.length->(∀q,q∈sm↔q∈cv)->sm.length<=cv.length->Kp p H H'->Q .non H'
def lp(C:Addr):Sp:=fun vs H Q E=>∃p dx x cv,aF C p dx x cv vs H Q E
theorem AT:Eo ["self","curve","t","h"] ["self","curve"] (EU Gz):=Es
theorem WR(T:Txt K mg a):Ec P w K mg base Ew 5 a.Z0 a.ZQ ["self","curve"] (lp a.ZB):=by
 refine T.TJ.ok AT fun c8 A a4 s H vs Q E hr h=>?_
 ·obtain⟨p,dx,x,cv,rfl,hp,hx,a7,a8,c1,k⟩:=h;refine⟨_,QB.h (EQ (Dt K rfl (qv 0) ER) (EQ (Dt K rfl (qv 0) AS) (EQ (Dt K rfl (qv 0) WF) (ES (GO (Ee (Ln) (qv 1) Gk (Ej _)) (ES (DU PassesOwn.never rfl (HG K rfl (qv 1)) (Gm (n:=2) K rfl rfl (EY (GN (i:=2) AT.nd) (EY (GN (i:=3) AT.nd) GW))) (ES (Et (GQ (qv 0) T.ZF T.TL (Sb T) hr T.TZ .nil GK (EN (qv 2) (EN (qv 3) EO))))))) GC))))),?_⟩;walk_at "s";walk_at "w";refine DY hp T.ZF T.ZS (by show 0<1000;decide) fun H1 f1 K1=>?_;walk_at "w";refine Sw fun L H2 n2 f2 S2=>?_;have b9:=S2 _ _ f1;have a0:L≠p:=fun z=>by rw[z,f1] at n2;cases n2
  walk_at "w";refine DY b9 T.ZF T.ZM (by show 1<1000;decide) fun H3 f3 K3=>?_;have b7:=K3 _ _ f2 a0;walk_at "w";refine WG fun J H4 n4 f4 S4=>?_;have a9:=S4 _ _ f3;have a2:J≠p:=fun z=>by rw[z,f3] at n4;cases n4
  walk_at "w";refine DY a9 T.ZF T.ZL (by show 2<1000;decide) fun H5 f5 K5=>?_;have f5:H5 p=some (.ins a.ZB dx (Ca 0 L J)):=by rw[f5,lm]
  have K05:Kp p H H5:=(((K1.then S2).trans K3).then S4).trans K5;have a5:=K5 _ _ (S4 _ _ b7) a0;have c0:=K5 _ _ f4 a2
  have Y:H L=none:=by
   cases e:H L with
   |none=>rfl
   |some o=>
    have:=K1 _ _ e a0;rw[n2] at this;cases this
  have Z:H J=none:=by
   cases e:H J with
   |none=>rfl
   |some o=>
    have:=((K1.then S2).trans K3) _ _ e a2;rw[n4] at this;cases this
  have a3:GZ a.ZB H5 p 0 L J [] 0:=⟨dx,[],f5,a5,c0,List.nodup_nil,fun l s hl _=>⟨none,.non,.inl ⟨rfl,rfl⟩⟩,Ue _⟩;walk_at "w";rcases hx with ⟨rfl,rfl⟩|⟨t,rfl,hT⟩
  ·refine AF (fun h=>absurd rfl h) (fun _=>?_);walk_at "w";exact k L J [] H5 Y Z a3 (fun q=>Iff.rfl) (Ue _) K05
  ·refine AF (fun _=>?_) (fun h=>by cases h);obtain⟨us,g,hP⟩:=hT;have O:∀ {b:Addr} {xs:List V},H b=some (.tup xs)->b≠p:=fun e z=>by rw[z,hp] at e;cases e
   have g5:=K05 _ _ g (O g);walk_at "w";refine IX (xs:=us) (fun i U H'=>(∃v2 v3,U=[some (.ref p),some (.ref t),v2,v3])/\Kp p H H'/\∃sm,GZ a.ZB H' p 0 L J sm i/\(∀q,q∈sm↔q∈cv.take i)/\sm.length<=i) ?_ ?_ ?_ ?_
   ·exact⟨⟨_,_,rfl⟩,K05,[],a3,fun q=>by rw[List.take_zero],Ue _⟩
   ·rintro i U H6 _ ⟨_,K6,_⟩;exact GF.of (K6 _ _ g (O g))
   ·rintro i x U H6 hx ⟨⟨v2,v3,rfl⟩,K6,sm,F,B,M⟩;obtain⟨cc,q,rfl,hq,hc⟩:=hP.at hx;have c6:=K6 _ _ hc (O hc);obtain⟨c7,c4,b0,c3,c5,a1,c2,b6⟩:=id F;have hi:i<cv.length:=(Ui.mp hq).1;walk_at "w";refine En b0 Am ?_;walk_at "w";refine⟨p,L,J,0,q.1,q.2,sm,i,rfl,F,a8 q (Ux hq),by omega,by omega,fun H7 b8 Fr7=>?_⟩;walk_at "w";refine⟨⟨_,_,rfl⟩,fun b o e nb=>Fr7 _ _ (K6 _ _ e nb) nb (fun z=>by rw[z,Y] at e;cases e) (fun z=>by rw[z,Z] at e;cases e),Gx sm q.1 q.2,b8,fun r=>?_,Uz (Sy _ _ _) (by omega)⟩;rw[Ds a1,UR,hq,Uu,B]
    have a6:∀r∈cv.take i,r.1≠q.1:=fun r hr e=>by
     obtain⟨j,hj,rfl⟩:=UQ hr;rw[US] at hj;rw[List.getElem_take] at e;obtain⟨z2,y2⟩:=Ui.mp hq
     have:(cv.map (·.1))[j]'(by rw[Ug];omega)=(cv.map (·.1))[i]'(by rw[Ug];omega):=by
      rw[List.getElem_map,List.getElem_map,y2];exact e
     have:=(List.getElem_inj a7).mp this;omega
    constructor
    ·rintro(h|h)
     ·exact .inl h.2
     ·exact .inr (by rw[h];exact UB)
    ·rintro(h|h)
     ·exact .inl ⟨a6 r h,h⟩
     ·exact .inr (by simpa using h)
   ·rintro U H6 ⟨⟨v2,v3,rfl⟩,K6,sm,F,B,M⟩;rw[hP.length] at F B M;rw[UP] at B;walk_at "w";exact k L J sm H6 Y Z F B M K6
end
theorem GZ.kpX{C:Addr}{H H':Hp}{p J L l:Addr}{n:Int}{sm:PL}{c:Nat}{xs:List V}(h:GZ C H p n J L sm c)(k:Kp l H H')(B:H l=some (.lst xs)):GZ C H' p n J L sm c:=by
 obtain⟨dx,kvs,h1,h2,F,O,M,Y⟩:=h;exact⟨dx,kvs,k _ _ h1 (fun z=>by rw[z,B] at h1;cases h1),k _ _ h2 (fun z=>by rw[z,B] at h2;cases h2),k _ _ F (fun z=>by rw[z,B] at F;cases F),O,M.kpX k B (fun _ z=>by cases z),Y⟩
theorem aG{p F J:Addr}{H H':Hp}(h:Kp p H H'):XV p F J H H':=fun b o e B _ _=>h b o e B
theorem GZ.keepT{C:Addr}{H H':Hp}{p B F:Addr}{n:Int}{sm:PL}{c:Nat}(g:GZ C H p n B F sm c)(f:XV p B F H H'){b:Addr}{xs:List V}(e:H b=some (.tup xs)):H' b=some (.tup xs):=by
 obtain⟨Y,L,J,M,O,_⟩:=g;exact f _ _ e (fun z=>by rw[z,J] at e;cases e) (fun z=>by rw[z,M] at e;cases e) (fun z=>by rw[z,O] at e;cases e)
theorem GZ.keepL{C:Addr}{H H':Hp}{p B F:Addr}{n:Int}{sm:PL}{c:Nat}(g:GZ C H p n B F sm c)(f:XV p B F H H'){b:Addr}{xs:List V}(e:H b=some (.lst xs)):H' b=some (.lst xs):=by
 obtain⟨Y,L,J,M,O,_⟩:=g;exact f _ _ e (fun z=>by rw[z,J] at e;cases e) (fun z=>by rw[z,M] at e;cases e) (fun z=>by rw[z,O] at e;cases e)
theorem GZ.keepP{C:Addr}{H H':Hp}{p B F:Addr}{n:Int}{sm:PL}{c:Nat}(g:GZ C H p n B F sm c)(f:XV p B F H H'){b:Addr}{cv:PL}(e:Db H b cv):Db H' b cv:=by
 obtain⟨us,h1,h2⟩:=e;exact⟨us,g.keepT f h1,Paired.mapP h2 fun _ _ ⟨a,e,z⟩=>⟨a,e,g.keepT f z⟩⟩
theorem GZ.nd{C:Addr}{H:Hp}{p B J:Addr}{n:Int}{sm:PL}{c:Nat}(g:GZ C H p n B J sm c):(sm.map (·.1)).Nodup:=by
 obtain⟨M,L,O,Y,Z,F,_⟩:=g;exact F
section
local macro_rules|`(tactic|walk_at "rd")=>`(tactic|walk_at " ZF,ZS,FP ZF,ZM,AA ZF,ZL,KR")
def aH(C:Addr)(p d1 d2:Addr)(n b e:Int)(sm:PL)(c:Nat):Sp:=fun vs H Q _=>vs=[.ref p,.int b,.int e]/\GZ C H p n d1 d2 sm c/\InT b/\InT e/\
 ∀(v:V) (o:Option (PL)) (prs:PL) (H':Hp),GR H' v o->Is4 (inCol sm b e) o->Ch e b prs (LY b e)->GZ C H' p (n+prs.length) d1 d2 sm c->Kp p H H'->Q v H'
def lq(C:Addr):Sp:=fun vs H Q E=>∃p d1 d2 n b e sm c,aH C p d1 d2 n b e sm c vs H Q E
theorem Ch.cut{e:Int}:∀ {prs:PL} {x y:Int},Ch e x prs y->∀ {i:Nat} {q:Int×Int},prs[i]? = some q->∃z,Ch e x (prs.take i) z/\(0<=q.1/\q.1<=40)/\q.2*2 ^ q.1.toNat=z/\Ch e x (prs.take (i+1)) (z+2 ^ q.1.toNat)
 | [],_,_,_,i,q,h=>by simp at h
 |p::r,x,y,hc,0,q,h=>by
  have:p=q:=by simpa using h
  subst this;obtain⟨h1,h2,F,B,J⟩:=hc;exact⟨x,rfl,h1,h2,h1,h2,F,B,rfl⟩
 |p::r,x,y,hc,i+1,q,h=>by
  obtain⟨h1,h2,F,B,J⟩:=hc;obtain⟨z,M,O,Y,L⟩:=Ch.cut J (i:=i) (q:=q) (by simpa using h);exact⟨z,⟨h1,h2,F,B,M⟩,O,Y,h1,h2,F,B,L⟩
theorem Ch.fun{e:Int}:∀ {prs:PL} {x y z:Int},Ch e x prs y->Ch e x prs z->y=z
 | [],_,_,_,h,g=>h.symm.trans g
 |p::r,x,y,z,h,g=>Ch.fun h.2.2.2.2 g.2.2.2.2
theorem Cb:Eo ["self","begin","end","four","parts","stretch"] ["self","begin","end"] (EU IL):=Es
theorem LZ(T:Txt K mg a):Ec P w K mg base Ew 5 a.JB a.JJ ["self","begin","end"] (lq a.ZB):=by
 refine T.Nf.ok Cb fun b9 A a3 s H vs Q E hr h=>?_
 ·obtain⟨p,d1,Y,n,b,e,sm,c,rfl,a4,hb,he,k⟩:=h;have hu:=Dc hr;obtain⟨dx,kvs,hp,h1,h2,a6,Z,a0⟩:=id a4;refine⟨_,QB.h (EQ (Gb (i:=3) Cb.nd Gk) (EQ (Gb (i:=4) Cb.nd (GE (xP T) hr T.Nj T.RQ.kp T.NV (EN (qv 1) (EN (qv 2) EO)))) (EQ (DU PassesOwn.never rfl (HG K rfl (qv 4)) (GN (i:=5) Cb.nd) (ES (Gb (i:=3) Cb.nd (GE (LX T) hr.m T.Rm T.Jf.kp T.Rf (EN (qv 3) (EN (HL hu (Eu K rfl (qv 0)) (qv 5)) EO)))))) (EQ (zn K rfl (qv 0) (Ey (Cw K rfl) rfl T.Zf CO (EN (qv 4) EO))) (ES (Ea (qv 3))))))),?_⟩;walk_at "s";walk_at "w";refine⟨b,e,rfl,hb,he,fun t prs H1 a9 F b6 S1=>?_⟩;obtain⟨us,g1,J⟩:=a9;have b8:=S1 _ _ hp;walk_at "w";refine IX (xs:=us) (fun i U H'=>(∃v v5,U=[some (.ref p),some (.int b),some (.int e),some v,some (.ref t),v5]/\∃o z,GR H' v o/\Ch e b (prs.take i) z/\Is4 (inCol sm b z) o)/\ET H1 H') ?_ ?_ ?_ ?_
  ·refine⟨⟨_,_,rfl,none,b,.non,rfl,.inl ⟨rfl,?_⟩⟩,ET.refl _⟩
   cases e0:inCol sm b b with
   |nil=>rfl
   |cons q qs=>
    have:=(Ed.mp (show q∈inCol sm b b by rw[e0];exact UB)).2;omega
  ·rintro i U H' _ ⟨_,S'⟩;exact GF.of (S' _ _ g1)
  ·rintro i x U H2 hx ⟨⟨v,v5,rfl,o,z,hv,hz,ho⟩,S2⟩;obtain⟨cc,q,rfl,hq,hc⟩:=(J.same S2).at hx;obtain⟨z',a7,b7,a2,O⟩:=Ch.cut F hq;obtain rfl:=Ch.fun hz a7;have S02:=S1.trans S2;obtain⟨l,hl⟩:∃l:Nat,q.1=(l:Int):=⟨q.1.toNat,by omega⟩;have a8:q.1.toNat=l:=by omega
   rw[a8] at a2 O;have B:=S02 _ _ hp;have M:=S02 _ _ h2;obtain⟨o2,a5,a1⟩:=(Z.same S02) l q.2 (by omega) trivial;have e4:HM sm l q.2=inCol sm z (z+2 ^ l):=by unfold HM;rw[a2]
   rw[e4] at a1;walk_at "w";refine LC M ?_;walk_at "w";refine WE (k:=HN l q.2) M (by rw[hc,hl];rfl) ?_;refine⟨v,_,o,o2,_,_,rfl,hv,ho,a5,a1,jw,fun v3 o3 H3 h3 g3 S3=>?_⟩;walk_at "w";refine⟨⟨_,_,rfl,o3,z+2 ^ l,h3,O,g3.congr fun r=>XN hz.le (by have:=Bb l;omega) r⟩,S2.trans S3⟩
  ·rintro U H2 ⟨⟨v,v5,rfl,o,z,hv,hz,ho⟩,S2⟩;rw[J.length,UP] at hz;obtain rfl:=Ch.fun hz F;have S02:=S1.trans S2;have B:=S02 _ _ hp;have g2:=S2 _ _ g1;have b0:us.length=prs.length:=J.length;walk_at "w";refine XH B T.ZF T.ZS FP ?_;walk_at "w";refine⟨n,_,rfl,rfl,dx,_,B,by show 3<1000;decide,?_⟩;rw[ll];have f3:(upd H2 p (.ins a.ZB dx (Ca (n+(us.length:Int)) d1 Y))) p=some (.ins a.ZB dx (Ca (n+(us.length:Int)) d1 Y)):=EW;have K3:Kp p H2 (upd H2 p (.ins a.ZB dx (Ca (n+(us.length:Int)) d1 Y))):=Kp.upd;generalize upd H2 p (.ins a.ZB dx (Ca (n+(us.length:Int)) d1 Y))=H3 at f3 K3;have L:∀(xs:List V),HO.ins a.ZB dx (Ca n d1 Y)≠.tup xs:=fun xs z=>by cases z
   walk_at "w";refine k v o prs H3 (hv.kpX K3 B L) (ho.congr fun r=>?_) F ⟨dx,kvs,by rw[<- b0];exact f3,K3 _ _ (S02 _ _ h1) (fun z=>by rw[z,hp] at h1;cases h1),K3 _ _ (S02 _ _ h2) (fun z=>by rw[z,hp] at h2;cases h2),a6,(Z.same S02).kpX K3 B L,a0⟩ ((Kp.same S02).trans K3);rw[Ed,Ed];unfold LY;split
   ·exact Iff.rfl
   ·constructor
    ·rintro⟨_,g1,g2⟩;omega
    ·rintro⟨_,g1,g2⟩;omega
end
section
local macro_rules|`(tactic|walk_at "rd")=>`(tactic|walk_at " ZF,ZS,FP ZF,ZM,AA ZF,ZL,KR")
def wW(p:Addr)(b y m:Int):Sp:=fun vs H Q _=>vs=[.ref p]/\H p=some (.tup [.int b,.int y,.int m])/\0<=m/\m<=1000/\InT b/\InT (b+m*y)/\Q .non H
def eE:Sp:=fun vs H Q E=>∃p b y m,wW p b y m vs H Q E
theorem CJ:Eo ["window","begin","wide","many"] ["window"] (EU Ay):=Es
theorem CK(T:Txt K mg a):Ec P w K mg base Ew 4 a.YB a.YA ["window"] eE:=by
 refine T.ZR.ok CJ fun L A B s H vs Q E M h=>?_
 ·obtain⟨p,b,y,m,rfl,O,h0,h1,J,F,q⟩:=h;refine⟨_,QB.h (EQ (DE (qv 0) (Gm (n:=3) K rfl rfl (EY (GN (i:=1) CJ.nd) (EY (GN (i:=2) CJ.nd) (EY (GN (i:=3) CJ.nd) GW))))) (ES (Et (GE (Hc T) M T.Y7 T.Zy.kp T.Y8 (EN (qv 1) (EN (Eb Go (qv 1) (Eb GM (qv 3) (qv 2))) EO)))))),?_⟩;walk_at "s";walk_at "w";refine⟨b,b+m*y,rfl,J,F,?_⟩;walk_at "w";exact q
def BH(H:Hp)(q:Addr)(b y m:Int):Prop:=H q=some (.tup [.int b,.int y,.int m])/\0<y/\1<=m/\m<=100/\InT b/\InT (b+m*y)
theorem BH.col{H:Hp}{q:Addr}{b y m:Int}(h:BH H q b y m){k:Int}(h0:0<=k)(h1:k<m):InT (b+k*y)/\InT (b+k*y+y):=by
 obtain⟨_,F,_,_,M,J⟩:=h;have L:0<=k*y:=Int.mul_nonneg h0 (by omega);have B:(k+1)*y<=m*y:=UT (by omega) (by omega);rw[Int.add_mul,Int.one_mul] at B;unfold InT at *;constructor<;>constructor<;>omega
def wX(C:Addr)(p q d1 d2:Addr)(n b y m:Int)(sm:PL)(c:Nat):Sp:=fun vs H Q _=>vs=[.ref p,.ref q]/\GZ C H p n d1 d2 sm c/\BH H q b y m/\
 ∀(u:Addr) (us:List V) (fs:List (Option (PL))) (n':Int) (H':Hp),H' u=some (.tup us)->GT H' us fs->Ah sm b y m.toNat fs->GZ C H' p n' d1 d2 sm c->Kp p H H'->Q (.ref u) H'
def eF(C:Addr):Sp:=fun vs H Q E=>∃p q d1 d2 n b y m sm c,wX C p q d1 d2 n b y m sm c vs H Q E
theorem qd(T:Txt K mg a):Ec P w K mg base Ew 6 a.Y1 a.Ys ["self","window"] (eF a.ZB):=by
 refine T.NU.ok (N:=["self","window"]) Es fun _ _ _ s H vs Q E hr h=>?_
 ·obtain⟨p,q,d1,d2,n,b,y,m,sm,c,rfl,a5,hW,k⟩:=h;obtain⟨hq,hy,a7,b8,hb,he⟩:=id hW;refine⟨_,QB.h (EQ (Et (GE (CK T) hr.m T.Ze T.ZR.kp T.Zh (EN (qv 1) EO))) (ES (Ea (Gy (Dq K rfl) rfl T.ZI Dp (EN (Dg (N:=["self","window"]) (sc:=EU HX) (own:=["first","behind"]) (caps:=["self"]) (ks:=[0]) rfl rfl rfl ⟨rfl,by decide +kernel,by decide +kernel,by decide +kernel,by decide +kernel,rfl,by decide +kernel⟩ (DX K rfl (GE (AJ T) hr.m T.Zx T.Za.kp T.Z4 (EN (qv 1) EO))) (fun _ _ _ _ _=>Gm (n:=2) K rfl rfl (EY (Ge (i:=0) (show List.Nodup (α:=Str) ["first","behind","self"] from by decide +kernel) rfl (by walk_at "o") (.inr rfl)) (EY (Ge (i:=1) (show List.Nodup (α:=Str) ["first","behind","self"] from by decide +kernel) rfl (by walk_at "o") (.inr rfl)) GW))) (fun _ _ _ _ _=>Df) (fun _ _ _ _ _=>GQ (qv 2) T.ZF T.RS (LZ T) hr T.RP .nil GK (EN (qv 0) (EN (qv 1) EO)))) EO))))),?_⟩;walk_at "s";walk_at "w";refine⟨q,b,y,m,rfl,hq,by omega,by omega,hb,he,?_⟩;walk_at "w";refine⟨q,b,y,m,rfl,hq,a7,by omega,fun l0 a6 H1 n1 f1 O S1=>?_⟩;have L:=a5.same S1
  have b6:∀ {b:Addr} {xs:List V},H1 b=some (.tup xs)->b≠p:=fun e z=>by
   obtain⟨dy,a2,g1,_⟩:=L;rw[z,g1] at e;cases e
  have a1:l0≠p:=fun z=>by
   obtain⟨dy,a2,g1,_⟩:=L;rw[z,g1] at f1;cases f1
  walk_at "w";intro l n2
  have b0:l≠p:=fun z=>by
   obtain⟨dy,a2,g1,_⟩:=L;rw[z,g1] at n2;cases n2
  refine Gw m.toNat (fun i U' H'=>(∃o1 o2,U'=[o1,o2,some (.ref p)])/\Kp p H1 H'/\(∃n',GZ a.ZB H' p n' d1 d2 sm c)/\∃vs fs,H' l=some (.lst vs)/\GT H' vs fs/\fs.length=i/\∀(k:Nat) o,fs[k]? = some o->Is4 (inCol sm (b+(k:Int)*y) (b+(k:Int)*y+y)) o) ?_ ?_ ?_
  ·exact⟨⟨none,none,rfl⟩,Kp.same (ET.new n2),⟨n,L.same (ET.new n2)⟩,[],[],EW,.nil,rfl,fun k o h=>by simp at h⟩
  ·rintro U' H2 ⟨_,K2,⟨n',J⟩,vs,fs,f2,F,B,Z⟩;refine⟨⟨_,Eh.of (K2 _ _ f1 a1),by rw[O.length,CZ];exact Ue _⟩,?_⟩;walk_at "w";refine BJ (Eh.of f2) fun u H3 n3 f3 S3=>?_;exact k u vs fs n' H3 f3 (F.same S3) ⟨B,Z⟩ (J.same S3) (((Kp.same S1).trans K2).then S3)
  ·rintro i U' H2 hi ⟨⟨o1,o2,rfl⟩,K2,⟨n',J⟩,vs,fs,f2,F,B,Z⟩;have a9:i<a6.length:=by rw[O.length,CZ];exact hi
   have a0:=K2 _ _ f1 a1;refine⟨⟨_,_,Eh.of a0,Ub a9⟩,?_⟩;rintro x H'' ⟨rfl,hx⟩;have hx:=hx _ (Eh.of a0);obtain⟨u,pr,rfl,M,f3⟩:=O.at hx;have M:=Hd M;subst M;have b7:=K2 _ _ f3 (b6 f3);obtain⟨w1,w2⟩:=hW.col (k:=(i:Int)) (by omega) (by omega);obtain⟨dx,kvs,a3,_⟩:=id J;walk_at "w";refine DD ?_;walk_at "w";refine En a3 Am ?_;walk_at "w";refine⟨p,d1,d2,n',_,_,sm,c,rfl,J,w1,w2,fun v o3 prs H3 h3 g3 _ a4 K3=>?_⟩;have Y:=K3 _ _ f2 b0;have a8:GT H3 vs fs:=F.mapP fun _ _ d=>d.kpX K3 a3 (fun _ z=>by cases z);refine⟨vs,Y,?_,⟨_,_,rfl⟩,?_,⟨_,a4.kpX Kp.upd Y⟩,vs ++ [v],fs ++ [o3],EW,(a8.snoc h3).mapP fun _ _ d=>d.kpL Kp.upd Y,by simp[B],?_⟩
   ·rw[F.len,B];exact Uh (show i<100 by omega) (by decide)
   ·intro b' o' e nb;rw[Ep (fun z=>by rw[z,n2] at e;cases e)];exact(K2.trans K3) b' o' e nb
   ·intro k' o' h';rw[List.getElem?_append] at h';split at h'
    ·exact Z k' o' h'
    ·have:k'=i:=by
      have:=(Ui.mp h').1;simp at this;omega
     subst this;rw[B,Nat.sub_self] at h';have:o3=o':=by simpa using h'
     subst this;exact g3
end
theorem eG{m:PL}(J:(m.map (·.1)).Nodup):∀q,q∈BZ m↔q∈m:=by
 have B:∀i:Nat,i<=m.length->∀q,q∈BZ (m.take i)↔q∈m.take i:=by
  intro i
  induction i with
  |zero=>intro _ q;rw[List.take_zero];exact Iff.rfl
  |succ i ih=>
   intro hi q;have L:m[i]? = some m[i]:=Ub (by omega);have e:m.take (i+1)=m.take i ++ [m[i]]:=by rw[UR,L];rfl
   rw[e,qF,Ds (Fh _),ih (by omega),Uu,Um]
   have F:∀r∈m.take i,r.1≠m[i].1:=fun r O z=>by
    obtain⟨j,M,rfl⟩:=UQ O;rw[US] at M;rw[List.getElem_take] at z
    have:(m.map (·.1))[j]'(by rw[Ug];omega)=(m.map (·.1))[i]'(by rw[Ug];omega):=by
     rw[List.getElem_map,List.getElem_map];exact z
    have:=(List.getElem_inj J).mp this;omega
   constructor
   ·rintro(h|h)
    ·exact .inl h.2
    ·exact .inr h
   ·rintro(h|h)
    ·exact .inl ⟨F q h,h⟩
    ·exact .inr h
 intro q;have:=B m.length (Ue _) q
 rwa [UP] at this
section
local macro_rules|`(tactic|walk_at "rd")=>`(tactic|walk_at " ZF,ZS,FP ZF,ZM,AA ZF,ZL,KR")
def aI(C:Addr)(p d1 d2:Addr)(n:Int)(sm:PL)(c:Nat):Sp:=fun vs H Q _=>vs=[.ref p]/\GZ C H p n d1 d2 sm c/\sm.length<64/\
 ∀(t:Addr) (cv:PL) (H':Hp),Db H' t cv->DA cv->(∀q,q∈cv↔q∈sm)->ET H H'->Q (.ref t) H'
def lr(C:Addr):Sp:=fun vs H Q E=>∃p d1 d2 n sm c,aI C p d1 d2 n sm c vs H Q E
theorem xQ(T:Txt K mg a):Ec P w K mg base Ew 2 a.JU a.JA ["self"] (lr a.ZB):=by
 refine T.Nr.ok (N:=["self"]) Es fun _ _ _ s H vs Q E hr h=>?_
 ·obtain⟨p,d1,d2,n,sm,c,rfl,B,hl,k⟩:=h;obtain⟨dx,kvs,hp,h1,h2,J,a0,Y⟩:=id B;refine⟨_,QB.h (ES (Ea (GE (SZ T) hr T.TQ T.Jj.kp T.Tb (EN (gW rfl rfl T.NH (Eu K rfl (qv 0))) EO)))),?_⟩;walk_at "s";walk_at "w";refine gX h1 (by omega) fun l H1 n1 L S1=>?_;obtain⟨vs,Z,M⟩:=L;walk_at "w";refine⟨true,l,vs,sm,rfl,Z,M,hl,fun t cv H2 F O _ S2=>?_⟩;refine k t cv H2 F O.1 (fun q=>?_) (S1.trans S2);obtain⟨x,y⟩:=q;rw[O.2,Ga (Fh _),eG J]
end
noncomputable def Hz(tr dd dn wt:Addr):List (Str×V):=[("tree",V.ref tr),("deeds",V.ref dd),("done",V.ref dn),("watches",V.ref wt)]
section
variable{tr dd dn wt:Addr}
theorem sg1:(("deeds":Str)=="tree")=false:=by decide +kernel
theorem sg2:(("done":Str)=="tree")=false:=by decide +kernel
theorem sg3:(("done":Str)=="deeds")=false:=by decide +kernel
theorem sg4:(("watches":Str)=="tree")=false:=by decide +kernel
theorem sg5:(("watches":Str)=="deeds")=false:=by decide +kernel
theorem sg6:(("watches":Str)=="done")=false:=by decide +kernel
theorem eI:(Hz tr dd dn wt).lookup ("tree":Str)=some (.ref tr):=by
 unfold Hz;rw[Uk,beq_self_eq_true]
theorem aJ:(Hz tr dd dn wt).lookup ("deeds":Str)=some (.ref dd):=by
 unfold Hz;rw[Uk,sg1,Uk,beq_self_eq_true]
theorem eJ:(Hz tr dd dn wt).lookup ("done":Str)=some (.ref dn):=by
 unfold Hz;rw[Uk,sg2,Uk,sg3,Uk,beq_self_eq_true]
theorem Sc:(Hz tr dd dn wt).lookup ("watches":Str)=some (.ref wt):=by
 unfold Hz;rw[Uk,sg4,Uk,sg5,Uk,sg6,Uk,beq_self_eq_true]
theorem Du{m:Str}(h1:(m==("tree":Str))=false:=by decide +kernel)(h2:(m==("deeds":Str))=false:=by decide +kernel)(F:(m==("done":Str))=false:=by decide +kernel)(B:(m==("watches":Str))=false:=by decide +kernel):(Hz tr dd dn wt).lookup m=none:=by
 unfold Hz;rw[Uk,h1,Uk,h2,Uk,F,Uk,B];rfl
theorem lu:GP "watches" (.ref wt) (GP "done" (.ref dn) (GP "deeds" (.ref dd) (GP "tree" (.ref tr) [])))=Hz tr dd dn wt:=by
 have B:¬("tree":Str)="deeds":=by decide +kernel
 have F:¬("tree":Str)="done":=by decide +kernel
 have L:¬("deeds":Str)="done":=by decide +kernel
 have O:¬("tree":Str)="watches":=by decide +kernel
 have M:¬("deeds":Str)="watches":=by decide +kernel
 have J:¬("done":Str)="watches":=by decide +kernel
 show GP "watches" (.ref wt) (GP "done" (.ref dn) (GP "deeds" (.ref dd) [(("tree":Str),V.ref tr)]))=_;rw[show GP "deeds" (.ref dd) [(("tree":Str),V.ref tr)]=(if("tree":Str)="deeds" then _ else(("tree":Str),V.ref tr)::GP "deeds" (.ref dd) []) from rfl,if_neg B];rw[show GP "done" (.ref dn) ((("tree":Str),V.ref tr)::GP "deeds" (.ref dd) [])=(if("tree":Str)="done" then _ else(("tree":Str),V.ref tr)::(if("deeds":Str)="done" then _ else(("deeds":Str),V.ref dd)::GP "done" (.ref dn) [])) from rfl,if_neg F,if_neg L];show(if("tree":Str)="watches" then _ else(("tree":Str),V.ref tr)::(if("deeds":Str)="watches" then _ else(("deeds":Str),V.ref dd)::(if("done":Str)="watches" then _ else(("done":Str),V.ref dn)::GP "watches" (.ref wt) [])))=_;rw[if_neg O,if_neg M,if_neg J];rfl
theorem rH{n:Int}{B F:Addr}:Hz tr dd dn wt≠Ca n B F:=fun h=>by
 have:=congrArg List.length h;simp[Hz,Ca] at this
end
structure SA where
 p:Addr
 tr:Addr
 d1:Addr
 d2:Addr
 dd:Addr
 dn:Addr
 wt:Addr
noncomputable def SA.ls(S:SA):List Addr:=[S.dd,S.dn,S.wt]
noncomputable def SA.own(S:SA):List Addr:=[S.tr,S.d1,S.d2,S.dd,S.dn,S.wt]
noncomputable def He:Option Int->V
 |none=>.non
 |some i=>.int i
theorem xR(o:Option Int):(o.map V.int).getD .non=He o:=by cases o<;>rfl
def Dj(H:Hp)(vs:List V)(ds:List (Int×Option Int)):Prop:=Paired (fun v (q:Int×Option Int)=>∃b,v=.ref b/\H b=some (.tup [.int q.1,He q.2])) vs ds
theorem Dj.tups{H H':Hp}{vs:List V}{ds:List (Int×Option Int)}(h:Dj H vs ds)(t:∀b xs,H b=some (.tup xs)->H' b=some (.tup xs)):Dj H' vs ds:=Paired.mapP h fun _ _ ⟨b,e,z⟩=>⟨b,e,t _ _ z⟩
theorem Dj.snoc{H:Hp}:∀ {vs:List V} {ds:List (Int×Option Int)},Dj H vs ds->∀ {b:Addr} {q:Int×Option Int},H b=some (.tup [.int q.1,He q.2])->Dj H (vs ++ [.ref b]) (ds ++ [q])
 |_,_,.nil,_,_,e=>.cons ⟨_,rfl,e⟩ .nil
 |_,_,.cons h t,_,_,e=>.cons h (Dj.snoc t e)
theorem Dj.unsnoc{H:Hp}{q:Int×Option Int}:∀ {ds:List (Int×Option Int)} {vs:List V},Dj H vs (ds ++ [q])->∃us b,vs=us ++ [.ref b]/\Dj H us ds/\H b=some (.tup [.int q.1,He q.2])
 | [],_,h=>by
  cases h with
  |cons h t=>
   cases t;obtain⟨b,rfl,e⟩:=h;exact⟨[],b,rfl,.nil,e⟩
 |d::ds,_,h=>by
  cases h with
  |cons h t=>
   obtain⟨us,b,B,F,J⟩:=Dj.unsnoc t;subst B;exact⟨_::us,b,rfl,.cons h F,J⟩
theorem Dj.len{H:Hp}{vs:List V}{ds:List (Int×Option Int)}(h:Dj H vs ds):vs.length=ds.length:=Paired.length h
def EV(a:Ad)(H:Hp)(S:SA)(n:Int)(sm:PL)(c:Nat)(ds:List (Int×Option Int))(ts:List Int)(ws:List V):Prop:=
 ∃dx vs,H S.p=some (.ins a.ZA dx (Hz S.tr S.dd S.dn S.wt))/\GZ a.ZB H S.tr n S.d1 S.d2 sm c/\H S.dd=some (.lst vs)/\Dj H vs ds/\H S.dn=some (.lst (ts.map V.int))/\H S.wt=some (.lst ws)/\S.dd≠S.dn/\S.dd≠S.wt/\S.dn≠S.wt
def BE(S:SA)(H H':Hp):Prop:=∀b o,H b=some o->b∉S.own->H' b=some o
theorem BE.trans{S:SA}{H H1 H2:Hp}(h:BE S H H1)(g:BE S H1 H2):BE S H H2:=fun b o e n=>g b o (h b o e n) n
theorem BE.same{S:SA}{H H':Hp}(h:ET H H'):BE S H H':=fun b o e _=>h b o e
theorem BE.kp{S:SA}{H H':Hp}{q:Addr}(h:Kp q H H')(m:q∈S.own):BE S H H':=fun b o e n=>h b o e fun z=>n (z ▸ m)
theorem BE.fr3{S:SA}{H H':Hp}(h:XV S.tr S.d1 S.d2 H H'):BE S H H':=fun b o e n=>h b o e (fun z=>n (by simp[SA.own,z])) (fun z=>n (by simp[SA.own,z])) (fun z=>n (by simp[SA.own,z]))
section
variable{a:Ad}{H H':Hp}{S:SA}{n:Int}{sm:PL}{c:Nat}{ds:List (Int×Option Int)}{ts:List Int}{ws:List V}
theorem EV.tree(h:EV a H S n sm c ds ts ws):GZ a.ZB H S.tr n S.d1 S.d2 sm c:=let ⟨_,_,_,h,_⟩:=h;h
theorem EV.nd(h:EV a H S n sm c ds ts ws):(sm.map (·.1)).Nodup:=h.tree.nd
theorem EV.same(h:EV a H S n sm c ds ts ws)(s:ET H H'):EV a H' S n sm c ds ts ws:=by
 obtain⟨dx,vs,h1,h2,J,L,F,M,B⟩:=h;exact⟨dx,vs,s _ _ h1,h2.same s,s _ _ J,L.tups fun b xs e=>s _ _ e,s _ _ F,s _ _ M,B⟩
theorem EV.nown(h:EV a H S n sm c ds ts ws){b:Addr}{o:HO}(e:H b=some o)(h1:∀C dx fs,o≠.ins C dx fs)(h2:(∃m,o=.dK m)->b≠S.d1)(Z:∀m,o≠.dT m)(B:(∃m,o=.lst m)->b∉S.ls):b∉S.own:=by
 obtain⟨dx,vs,g1,⟨dy,kvs,Y,J,F,_⟩,O,g4,M,L,_⟩:=h;intro z;simp only[SA.own,Ud,Us,or_false] at z;rcases z with z|z|z|z|z|z
 ·rw[z,Y] at e;exact h1 _ _ _ (Option.some.inj e).symm
 ·exact h2 ⟨_,(by rw[z,J] at e;exact(Option.some.inj e).symm)⟩ z
 ·rw[z,F] at e;exact Z _ (Option.some.inj e).symm
 ·exact B ⟨_,(by rw[z,O] at e;exact(Option.some.inj e).symm)⟩ (by simp[SA.ls,z])
 ·exact B ⟨_,(by rw[z,M] at e;exact(Option.some.inj e).symm)⟩ (by simp[SA.ls,z])
 ·exact B ⟨_,(by rw[z,L] at e;exact(Option.some.inj e).symm)⟩ (by simp[SA.ls,z])
theorem EV.keepT(h:EV a H S n sm c ds ts ws)(f:BE S H H'){b:Addr}{xs:List V}(e:H b=some (.tup xs)):H' b=some (.tup xs):=
 f _ _ e (h.nown e (fun _ _ _ z=>by cases z) (fun⟨_,z⟩=>by cases z) (fun _ z=>by cases z) (fun⟨_,z⟩=>by cases z))
theorem EV.keepL(h:EV a H S n sm c ds ts ws)(f:BE S H H'){b:Addr}{xs:List V}(e:H b=some (.lst xs))(B:b∉S.ls):H' b=some (.lst xs):=
 f _ _ e (h.nown e (fun _ _ _ z=>by cases z) (fun⟨_,z⟩=>by cases z) (fun _ z=>by cases z) fun _=>B)
theorem EV.keepD(h:EV a H S n sm c ds ts ws)(f:BE S H H'){b:Addr}{m:List (Ef×V)}(e:H b=some (.dK m))(B:b≠S.d1):H' b=some (.dK m):=
 f _ _ e (h.nown e (fun _ _ _ z=>by cases z) (fun _=>B) (fun _ z=>by cases z) (fun⟨_,z⟩=>by cases z))
theorem EV.kpL(h:EV a H S n sm c ds ts ws){q:Addr}{xs:List V}(k:Kp q H H')(F:H q=some (.lst xs))(B:q∉S.ls):EV a H' S n sm c ds ts ws:=by
 obtain⟨dx,vs,h1,h2,M,O,L,Y,J⟩:=h;simp only[SA.ls,Ud,Us,or_false,not_or] at B;exact⟨dx,vs,k _ _ h1 (fun z=>by rw[z,F] at h1;cases h1),h2.kpX k F,k _ _ M (Ne.symm B.1),O.tups (fun b xs e=>k _ _ e (fun z=>by rw[z,F] at e;cases e)),k _ _ L (Ne.symm B.2.1),k _ _ Y (Ne.symm B.2.2),J⟩
theorem EV.kpD(h:EV a H S n sm c ds ts ws){q:Addr}{m:List (Ef×V)}(k:Kp q H H')(B:H q=some (.dK m))(nq:q≠S.d1):EV a H' S n sm c ds ts ws:=by
 obtain⟨dx,vs,h1,⟨dy,kvs,M,t2,J,t4,t5,t6⟩,O,Z,F,L,Y⟩:=h;refine⟨dx,vs,k _ _ h1 (fun z=>by rw[z,B] at h1;cases h1),⟨dy,kvs,k _ _ M (fun z=>by rw[z,B] at M;cases M),k _ _ t2 (Ne.symm nq),k _ _ J (fun z=>by rw[z,B] at J;cases J),t4,t5.kpX k B (fun _ z=>by cases z),t6⟩,k _ _ O (fun z=>by rw[z,B] at O;cases O),Z.tups (fun b xs e=>k _ _ e (fun z=>by rw[z,B] at e;cases e)),k _ _ F (fun z=>by rw[z,B] at F;cases F),k _ _ L (fun z=>by rw[z,B] at L;cases L),Y⟩
theorem EV.fresh(h:EV a H S n sm c ds ts ws){q:Addr}(B:H q=none):q∉S.ls/\q≠S.d1:=by
 obtain⟨dx,vs,h1,⟨dy,kvs,t1,L,Y,t4,t5,t6⟩,M,Z,F,J,O⟩:=h;refine⟨fun z=>?_,fun z=>by rw[z,L] at B;cases B⟩;simp only[SA.ls,Ud,Us,or_false] at z;rcases z with z|z|z
 ·rw[z,M] at B;cases B
 ·rw[z,F] at B;cases B
 ·rw[z,J] at B;cases B
theorem EV.fr3(h:EV a H S n sm c ds ts ws){n':Int}{B:PL}{J:Nat}(f:XV S.tr S.d1 S.d2 H H')(t:GZ a.ZB H' S.tr n' S.d1 S.d2 B J):EV a H' S n' B J ds ts ws:=by
 obtain⟨dx,vs,h1,h2,F,Y,M,Z,L⟩:=h;refine⟨dx,vs,?_,t,h2.keepL f F,Y.tups (fun b xs e=>h2.keepT f e),h2.keepL f M,h2.keepL f Z,L⟩;obtain⟨dy,kvs,t1,t2,O,_⟩:=h2;exact f _ _ h1 (fun z=>by rw[z,t1] at h1;injection h1 with h1;injection h1 with _ _ F;exact rH F.symm) (fun z=>by rw[z,t2] at h1;cases h1) (fun z=>by rw[z,O] at h1;cases h1)
theorem EV.kpDone(h:EV a H S n sm c ds ts ws){B:List Int}(k:Kp S.dn H H')(f:H' S.dn=some (.lst (B.map V.int))):EV a H' S n sm c ds B ws:=by
 obtain⟨dx,vs,h1,h2,Z,M,F,O,L,Y,J⟩:=h;exact⟨dx,vs,k _ _ h1 (fun z=>by rw[z,F] at h1;cases h1),h2.kpX k F,k _ _ Z L,M.tups (fun b xs e=>k _ _ e (fun z=>by rw[z,F] at e;cases e)),f,k _ _ O (Ne.symm J),L,Y,J⟩
theorem EV.kpDeeds(h:EV a H S n sm c ds ts ws){F:List (Int×Option Int)}{B:List V}(k:Kp S.dd H H')(f:H' S.dd=some (.lst B))(g:Dj H' B F):EV a H' S n sm c F ts ws:=by
 obtain⟨dx,vs,h1,h2,L,h4,Y,Z,J,M,O⟩:=h;exact⟨dx,B,k _ _ h1 (fun z=>by rw[z,L] at h1;cases h1),h2.kpX k L,f,g,k _ _ Y (Ne.symm J),k _ _ Z (Ne.symm M),J,M,O⟩
end
def DJ(m:PL)(t:Int):Option Int->PL
 |none=>Dw m t
 |some h=>Gx m t h
theorem wY(m:PL)(t:Int)(o:Option Int):(DJ m t o).length<=m.length+1:=by
 cases o with
 |none=>exact Nat.le_succ_of_le (ge m t)
 |some h=>exact Sy m t h
section
local macro_rules|`(tactic|walk_at "rd")=>`(tactic|walk_at " ZF,ZM,AA ZE,QU,eI ZE,QH,aJ ZE,RC,eJ ZE,Z2,Sc")
def aK(C:Addr)(p d1 d2:Addr)(n t v:Int)(sm:PL)(c:Nat):Sp:=fun vs H Q _=>vs=[.ref p,.int t]/\GZ C H p n d1 d2 sm c/\GG sm t=some v/\c<=1000/\
 ∀H',GZ C H' p n d1 d2 (Dw sm t) (c+1)->XV p d1 d2 H H'->Q .non H'
def lv(C:Addr):Sp:=fun vs H Q E=>∃p d1 d2 n t v sm c,aK C p d1 d2 n t v sm c vs H Q E
theorem xS(T:Txt K mg a):Ec P w K mg base Ew 4 a.JM a.JY ["self","t"] (lv a.ZB):=by
 refine T.Nc.ok (N:=["self","t"]) Es fun _ _ _ s H vs Q E hr h=>?_
 ·obtain⟨p,O,d2,n,t,v,sm,c,rfl,⟨dx,kvs,hp,h1,h2,Y,L,F⟩,hg,hc,k⟩:=h;have a1:p≠O:=fun z=>by subst z;rw[hp] at h1;cases h1
  have Z:d2≠O:=fun z=>by subst z;rw[h1] at h2;cases h2
  refine⟨_,QB.h (EQ (Et (jx (Eu K rfl (qv 0)) (qv 1))) (ES (Et (GQ (qv 0) T.ZF T.QY (Kn T) hr T.RA .nil GK (EN (qv 1) (EN Gk EO)))))),?_⟩;walk_at "s";walk_at "w";refine jz h1 ?_;walk_at "w";refine xA h1 hg fun H3 f3 K3=>?_;have J:=K3 _ _ hp a1;have a0:=K3 _ _ h2 Z
  have a2:Dn H3 kvs (Dw sm t) (fun l s=>s≠t / 2 ^ l):=(Dn.other L fun q B=>by
   rw[Bi]
   exact⟨fun z=>⟨B,z⟩,fun z=>z.2⟩).kpX K3 h1 (fun xs z=>by cases z)
  walk_at "w";refine En J Am ?_;walk_at "w";refine⟨p,O,d2,dx,n,t,.non,none,Dw sm t,kvs,c,rfl,J,f3,a0,IH Y,a2,F,hc,.non,.inl ⟨rfl,?_⟩,fun H7 M K7=>?_⟩
  ·cases e:HM (Dw sm t) 0 t with
   |nil=>rfl
   |cons q qs=>
    have B:q∈HM (Dw sm t) 0 t:=by rw[e];exact UB
    rw[Cj,Bi] at B;simp only[Int.pow_zero,Int.ediv_one] at B;exact absurd B.2 B.1.1
  ·walk_at "w";exact k H7 M fun b o e e1 e2 e3=>K7 _ _ (K3 _ _ e e2) e3
def aL(a:Ad)(p dx:Addr)(x:V)(cv:PL):Sp:=fun vs H Q _=>vs=[.ref p,x]/\H p=some (.ins a.ZA dx [])/\((x=.non/\cv=[])\/∃t,x=.ref t/\Db H t cv)/\(cv.map (·.1)).Nodup/\(∀q∈cv,Tm q.1)/\cv.length<=100/\
 ∀(S:SA) (sm:PL) (H':Hp),S.p=p->(∀b∈S.own,H b=none)->EV a H' S 0 sm cv.length [] [] []->(∀q,q∈sm↔q∈cv)->sm.length<=cv.length->Kp p H H'->Q .non H'
def lw(a:Ad):Sp:=fun vs H Q E=>∃p dx x cv,aL a p dx x cv vs H Q E
theorem Ly(T:Txt K mg a):Ec P w K mg base Ew 7 a.Zl a.ZN ["self","curve"] (lw a):=by
 refine T.Rr.ok (N:=["self","curve"]) Es fun _ _ _ s H vs Q E hr h=>?_
 ·obtain⟨p,dx,x,cv,rfl,hp,hx,a1,a4,Y,k⟩:=h;refine⟨_,QB.h (EQ (Dt K rfl (qv 0) (uq T.PZ (WR T) hr rfl T.Pl T.TV .nil GK (EN (qv 1) EO))) (EQ (Dt K rfl (qv 0) (Dd EO)) (EQ (Dt K rfl (qv 0) (Dd EO)) (ES (Dt K rfl (qv 0) (Dd EO)))))),?_⟩;walk_at "s";walk_at "w";refine Lq fun tr dt H1 Z f1 S1=>?_;refine⟨tr,dt,x,cv,rfl,f1,?_,a1,a4,Y,fun d1 d2 sm H2 m1 m2 a9 hm hl K2=>⟨rfl,?_⟩⟩
  ·rcases hx with h|⟨t,h1,h2⟩
   ·exact .inl h
   ·exact .inr ⟨t,h1,h2.same S1⟩
  have S02:ET H H2:=fun b o e=>K2 _ _ (S1 _ _ e) (GJ e Z);have J:=S02 _ _ hp;have nt:tr≠p:=fun z=>by rw[z,hp] at Z;cases Z
  have free:∀ {b:Addr},H1 b=none->H b=none:=fun {b} e=>by
   cases e2:H b with
   |none=>rfl
   |some o=>rw[S1 _ _ e2] at e;cases e
  have b0:∀ {b:Addr},H2 b=none->H b=none:=fun {b} e=>by
   cases e2:H b with
   |none=>rfl
   |some o=>rw[S02 _ _ e2] at e;cases e
  walk_at "w";refine DY J T.ZE T.QU (by show 0<1000;decide) fun H3 f3 K3=>?_;walk_at "w";refine Eg (by show 0<=sizeLine;decide) fun dd H4 n4 f4 S4=>?_;have B:dd≠p:=fun z=>by rw[z,f3] at n4;cases n4
  walk_at "w";refine DY (S4 _ _ f3) T.ZE T.QH (by show 1<1000;decide) fun H5 f5 K5=>?_;walk_at "w";refine Eg (by show 0<=sizeLine;decide) fun dn H6 M f6 S6=>?_;have F:dn≠p:=fun z=>by rw[z,f5] at M;cases M
  walk_at "w";refine DY (S6 _ _ f5) T.ZE T.RC (by show 2<1000;decide) fun H7 f7 K7=>?_;walk_at "w";refine Eg (by show 0<=sizeLine;decide) fun wt H8 L f8 S8=>?_;have O:wt≠p:=fun z=>by rw[z,f7] at L;cases L
  walk_at "w";refine DY (S8 _ _ f7) T.ZE T.Z2 (by show 3<1000;decide) fun H9 f9 K9=>?_;rw[lu] at f9;have K29:Kp p H2 H9:=(((((K3.then S4).trans K5).then S6).trans K7).then S8).trans K9;have K24:Kp p H2 H5:=(K3.then S4).trans K5;have K26:Kp p H2 H7:=(K24.then S6).trans K7;have g4:H9 dd=some (.lst []):=K9 _ _ (S8 _ _ (K7 _ _ (S6 _ _ (K5 _ _ f4 B)) B)) B;have g6:H9 dn=some (.lst []):=K9 _ _ (S8 _ _ (K7 _ _ f6 F)) F;have g8:H9 wt=some (.lst []):=K9 _ _ f8 O;have a7:dd≠dn:=fun z=>by rw[<- z,K5 _ _ f4 B] at M;cases M
  have a2:dd≠wt:=fun z=>by rw[<- z,K7 _ _ (S6 _ _ (K5 _ _ f4 B)) B] at L;cases L
  have b6:dn≠wt:=fun z=>by rw[<- z,K7 _ _ f6 F] at L;cases L
  have a3:GZ a.ZB H9 tr 0 d1 d2 sm cv.length:=by
   obtain⟨dy,kvs,t1,t2,t3,t4,t5,t6⟩:=a9;have a8:∀ {b:Addr} {xs:List V},H2 b=some (.tup xs)->H9 b=some (.tup xs):=fun e=>K29 _ _ e (fun z=>by rw[z,J] at e;cases e);exact⟨dy,kvs,K29 _ _ t1 nt,K29 _ _ t2 (fun z=>by rw[z,J] at t2;cases t2),K29 _ _ t3 (fun z=>by rw[z,J] at t3;cases t3),t4,t5.tups (fun b xs e=>a8 e),t6⟩
  have a5:H dd=none:=by
   cases e:H dd with
   |none=>rfl
   |some o=>rw[K3 _ _ (S02 _ _ e) B] at n4;cases n4
  have a6:H dn=none:=by
   cases e:H dn with
   |none=>rfl
   |some o=>rw[K24 _ _ (S02 _ _ e) F] at M;cases M
  have a0:H wt=none:=by
   cases e:H wt with
   |none=>rfl
   |some o=>rw[K26 _ _ (S02 _ _ e) O] at L;cases L
  walk_at "w";refine k ⟨p,tr,d1,d2,dd,dn,wt⟩ sm H9 rfl (fun b hb=>?_) ⟨dx,[],f9,a3,g4,.nil,g6,g8,a7,a2,b6⟩ hm hl ((Kp.same S02).trans K29);simp only[SA.own,Ud,Us,or_false] at hb;rcases hb with rfl|rfl|rfl|rfl|rfl|rfl
  ·exact Z
  ·exact free m1
  ·exact free m2
  ·exact a5
  ·exact a6
  ·exact a0
def wZ(a:Ad)(S:SA)(n t:Int)(o:Option Int)(sm:PL)(c:Nat)(ds:List (Int×Option Int))(ts:List Int)(ws:List V):Sp:=fun vs H Q _=>vs=[.ref S.p,.int t,He o]/\EV a H S n sm c ds ts ws/\
 Tm t/\(o=none->(GG sm t).isSome=true)/\c<=900/\sm.length<=900/\ts.length<=900/\
 ∀H',EV a H' S n (DJ sm t o) (c+1) ds (ts ++ [t]) ws->BE S H H'->Q .non H'
def eK(a:Ad):Sp:=fun vs H Q E=>∃S n t o sm c ds ts ws,wZ a S n t o sm c ds ts ws vs H Q E
theorem Im(T:Txt K mg a):Ec P w K mg base Ew 5 a.YK a.YQ ["self","t","h"] (eK a):=by
 refine T.Md.ok (N:=["self","t","h"]) Es fun _ _ _ s H vs Q E hr h=>?_
 ·obtain⟨S,n,t,o,sm,c,ds,ts,ws,rfl,hS,ht,ho,hc,a7,O,k⟩:=h;refine⟨_,QB.h (EQ (GO (Ee (IV) (qv 2) Gk (Ej _)) (ES (Et (GQ (Eu K rfl (qv 0)) T.ZF T.NZ (xS T) hr T.Nv .nil GK (EN (qv 1) EO)))) (ES (Et (GQ (Eu K rfl (qv 0)) T.ZF T.TL (Sb T) hr T.TZ .nil GK (EN (qv 1) (EN (qv 2) EO)))))) (ES (Et (Bp PySem.F.plainAttrs_list PySem.F.slot_list_append PySem.F.type_list_append DT (Eu K rfl (qv 0)) (EN (qv 1) EO))))),?_⟩;walk_at "s";have M:∀H1,GZ a.ZB H1 S.tr n S.d1 S.d2 (DJ sm t o) (c+1)->XV S.tr S.d1 S.d2 H H1->EV a H1 S n (DJ sm t o) (c+1) ds ts ws:=fun H1 Z F=>hS.fr3 F Z;obtain⟨dx,vs,hp,Z,_⟩:=id hS;obtain⟨dy,kvs,hq,_⟩:=id Z;walk_at "w"
  cases o with
  |none=>
   obtain⟨v,hv⟩:=Va.mp (ho rfl);refine GL (fun _=>?_) (fun h=>absurd rfl h);walk_at "w";refine En hq Am ?_;walk_at "w";refine⟨S.tr,S.d1,S.d2,n,t,v,sm,c,rfl,Z,hv,by omega,fun H1 L F1=>?_⟩;have B:=M H1 L F1;obtain⟨a4,a3,a5,Y,a6,a1,J,a0,a2⟩:=id B;walk_at "w";refine⟨HH J,?_⟩;walk_at "w";refine Da J (by rw[Ug];exact Uq O (by decide)) fun H2 f2 K2=>?_;walk_at "w";exact k H2 (B.kpDone K2 (by rw[Uy];exact f2)) ((BE.fr3 F1).trans (.kp K2 (by simp[SA.own])))
  |some h=>
   refine GL (fun h=>by simp[He] at h) (fun _=>?_);walk_at "w";refine En hq Am ?_;walk_at "w";refine⟨S.tr,S.d1,S.d2,n,t,h,sm,c,rfl,Z,ht,by omega,by omega,fun H1 L F1=>?_⟩;have B:=M H1 L F1;obtain⟨a4,a3,a5,Y,a6,a1,J,a0,a2⟩:=id B;walk_at "w";refine⟨HH J,?_⟩;walk_at "w";refine Da J (by rw[Ug];exact Uq O (by decide)) fun H2 f2 K2=>?_;walk_at "w";exact k H2 (B.kpDone K2 (by rw[Uy];exact f2)) ((BE.fr3 F1).trans (.kp K2 (by simp[SA.own])))
def lx(a:Ad)(S:SA)(n t:Int)(o:Option Int)(sm:PL)(c:Nat)(ds:List (Int×Option Int))(ts:List Int)(ws:List V):Sp:=fun vs H Q _=>vs=[.ref S.p,.int t,He o]/\EV a H S n sm c ds ts ws/\
 Tm t/\(o=none->(GG sm t).isSome=true)/\c<=900/\sm.length<=900/\ts.length<=900/\ds.length<=900/\
 ∀H',EV a H' S n (DJ sm t o) (c+1) (ds ++ [(t,GG sm t)]) (ts ++ [t]) ws->BE S H H'->Q (He (GG sm t)) H'
def se(a:Ad):Sp:=fun vs H Q E=>∃S n t o sm c ds ts ws,lx a S n t o sm c ds ts ws vs H Q E
theorem Sd:Eo ["self","t","h","before"] ["self","t","h"] (EU KN):=Es
theorem Se(T:Txt K mg a):Ec P w K mg base Ew 6 a.Jg a.Ju ["self","t","h"] (se a):=by
 refine T.OH.ok Sd fun a4 A M s H vs Q E hr h=>?_
 ·obtain⟨S,n,t,o,sm,c,ds,ts,ws,rfl,hS,ht,ho,hc,O,Y,Z,k⟩:=h;have hu:=Dc hr;refine⟨_,QB.h (EQ (Gb (i:=3) Sd.nd (HL hu (Eu K rfl (Eu K rfl (qv 0))) (qv 1))) (EQ (Et (GQ (qv 0) T.ZE T.J8 (Im T) hr T.QJ .nil GK (EN (qv 1) (EN (qv 2) EO)))) (EQ (Et (Bp PySem.F.plainAttrs_list PySem.F.slot_list_append PySem.F.type_list_append DT (Eu K rfl (qv 0)) (EN (GB (EN (qv 1) (EN (qv 3) EO))) EO))) (ES (Ea (qv 3)))))),?_⟩;walk_at "s";obtain⟨dx,vs,hp,hT,_⟩:=id hS;obtain⟨dy,kvs,hq,B,_⟩:=id hT;walk_at "w";refine zo B ?_;walk_at "w";refine jo B ?_;rw[xR];walk_at "w";refine En hp Du ?_;walk_at "w";refine⟨S,n,t,o,sm,c,ds,ts,ws,rfl,hS,ht,ho,hc,O,Y,fun H1 J F1=>?_⟩;obtain⟨a2,a1,a3,a0,B,L,_⟩:=id J;walk_at "w";refine⟨HH B,?_⟩;walk_at "w";refine Eg (by show 2<=sizeLine;decide) fun b H2 n2 f2 S2=>?_;walk_at "w";refine Da (S2 _ _ B) (by rw[L.len];exact Uq Z (by decide)) fun H3 f3 K3=>?_;have nt:∀ {b:Addr} {xs:List V},H2 b=some (.tup xs)->H3 b=some (.tup xs):=fun e=>K3 _ _ e (fun z=>by rw[z,S2 _ _ B] at e;cases e);walk_at "w";exact k H3 ((J.same S2).kpDeeds K3 f3 (((L.tups fun b xs e=>S2 _ _ e).tups fun b xs e=>nt e).snoc (q:=(t,GG sm t)) (nt f2))) ((F1.trans (.same S2)).trans (.kp K3 (by simp[SA.own])))
def eL(a:Ad)(S:SA)(n t h:Int)(sm:PL)(c:Nat)(ds:List (Int×Option Int))(ts:List Int)(ws:List V):Sp:=fun vs H Q _=>vs=[.ref S.p,.int t,.int h]/\EV a H S n sm c ds ts ws/\
 Tm t/\c<=900/\sm.length<=900/\ts.length<=900/\ds.length<=900/\
 ∀H',EV a H' S n (Gx sm t h) (c+1) (ds ++ [(t,GG sm t)]) (ts ++ [t]) ws->BE S H H'->Q (He (GG sm t)) H'
def rJ(a:Ad):Sp:=fun vs H Q E=>∃S n t h sm c ds ts ws,eL a S n t h sm c ds ts ws vs H Q E
theorem xT(T:Txt K mg a):Ec P w K mg base Ew 7 a.JO a.JI ["self","t","h"] (rJ a):=by
 refine T.Ng.ok (N:=["self","t","h"]) Es fun _ _ _ s H vs Q E Y h=>?_
 ·obtain⟨S,n,t,h,sm,c,ds,ts,ws,rfl,O,M,hc,F,B,J,k⟩:=h;refine⟨_,QB.h (EQ (Et (GE (Km T) Y.m T.Qw T.Yp.kp T.QV (EN (qv 1) EO))) (ES (Ea (GQ (qv 0) T.ZE T.TK (Se T) Y T.Tc .nil GK (EN (qv 1) (EN (qv 2) EO)))))),?_⟩;walk_at "s";obtain⟨dx,vs,Z,hT,_⟩:=id O;walk_at "w";refine⟨t,rfl,M,?_⟩;walk_at "w";refine En Z Du ?_;walk_at "w";exact⟨S,n,t,some h,sm,c,ds,ts,ws,rfl,O,M,(fun z=>by cases z),hc,F,B,J,fun H1 L F1=>k H1 L F1⟩
def wa(a:Ad)(S:SA)(n t v:Int)(sm:PL)(c:Nat)(ds:List (Int×Option Int))(ts:List Int)(ws:List V):Sp:=fun vs H Q _=>vs=[.ref S.p,.int t]/\EV a H S n sm c ds ts ws/\GG sm t=some v/\Q .non H
def eM(a:Ad):Sp:=fun vs H Q E=>∃S n t v sm c ds ts ws,wa a S n t v sm c ds ts ws vs H Q E
theorem Io(T:Txt K mg a):Ec P w K mg base Ew 2 a.ZW a.ZU ["self","t"] (eM a):=by
 refine T.Jx.ok (N:=["self","t"]) Es fun _ _ _ s H vs Q E F h=>?_
 ·obtain⟨S,n,t,v,sm,c,ds,ts,ws,rfl,O,L,q⟩:=h;have M:=Dc F;refine⟨_,QB.h (ES (GO (QW.pt (Iu (By (BW (GE (FG T) F T.Yh T.Zt.kp T.Yi (EN (qv 1) EO)))) (IZ (Ee (KH M) (qv 1) (Eu K rfl (Eu K rfl (qv 0))) (by with_unfolding_all rfl))))) (ES AR) GC)),?_⟩;walk_at "s";obtain⟨dx,vs,Y,J,_⟩:=id O;obtain⟨dy,kvs,Z,B,_⟩:=id J;walk_at "w";refine⟨t,rfl,?_⟩;walk_at "w";refine GV ?_;walk_at "w";refine wH B ?_;rw[L];walk_at "w";refine GV ?_;walk_at "w";exact q
def aM(a:Ad)(S:SA)(n t v:Int)(sm:PL)(c:Nat)(ds:List (Int×Option Int))(ts:List Int)(ws:List V):Sp:=fun vs H Q _=>vs=[.ref S.p,.int t]/\EV a H S n sm c ds ts ws/\
 Tm t/\GG sm t=some v/\c<=900/\sm.length<=900/\ts.length<=900/\ds.length<=900/\
 ∀H',EV a H' S n (Dw sm t) (c+1) (ds ++ [(t,some v)]) (ts ++ [t]) ws->BE S H H'->Q (.int v) H'
def ly(a:Ad):Sp:=fun vs H Q E=>∃S n t v sm c ds ts ws,aM a S n t v sm c ds ts ws vs H Q E
theorem qe(T:Txt K mg a):Ec P w K mg base Ew 7 a.Yq a.Yj ["self","t"] (ly a):=by
 refine T.NR.ok (N:=["self","t"]) Es fun _ _ _ s H vs Q E Z h=>?_
 ·obtain⟨S,n,t,v,sm,c,ds,ts,ws,rfl,O,ht,L,hc,J,F,M,k⟩:=h;refine⟨_,QB.h (EQ (Et (GQ (qv 0) T.ZE T.Jo (Io T) Z.m T.Jl .nil GK (EN (qv 1) EO))) (ES (Ea (GQ (qv 0) T.ZE T.TK (Se T) Z T.Tc .nil GK (EN (qv 1) (EN Gk EO)))))),?_⟩;walk_at "s";obtain⟨dx,vs,Y,hT,_⟩:=id O;walk_at "w";refine En Y Du ?_;walk_at "w";refine⟨S,n,t,v,sm,c,ds,ts,ws,rfl,O,L,?_⟩;walk_at "w";refine En Y Du ?_;walk_at "w";refine⟨S,n,t,none,sm,c,ds,ts,ws,rfl,O,ht,(fun _=>by rw[L];rfl),hc,J,F,M,fun H1 B F1=>?_⟩;rw[L] at B ⊢;exact k H1 B F1
def aN(a:Ad)(S:SA)(n:Int)(sm:PL)(c:Nat)(ds:List (Int×Option Int))(ts:List Int)(ws:List V):Sp:=fun vs H Q _=>vs=[.ref S.p]/\EV a H S n sm c ds ts ws/\
  ((ds=[]/\Q (.bl false) H)\/∃ds' t o,ds=ds' ++ [(t,o)]/\Tm t/\(o=none->(GG sm t).isSome=true)/\c<=900/\sm.length<=900/\ts.length<=900/\
    ∀H',EV a H' S n (DJ sm t o) (c+1) ds' (ts ++ [t]) ws->BE S H H'->Q (.bl true) H')
def lz(a:Ad):Sp:=fun vs H Q E=>∃S n sm c ds ts ws,aN a S n sm c ds ts ws vs H Q E
theorem FY:Eo ["self","t","before"] ["self"] (EU HY):=Es
theorem qf(T:Txt K mg a):Ec P w K mg base Ew 6 a.Y3 a.Y2 ["self"] (lz a):=by
 refine T.Mn.ok FY fun a4 A M s H vs Q E hr h=>?_
 ·obtain⟨S,n,sm,c,ds,ts,ws,rfl,hS,k⟩:=h;refine⟨_,QB.h (EQ (GO (Ee (Dk) (Ey (Cw K rfl) rfl T.Zf CO (EN (Eu K rfl (qv 0)) EO)) ER (Ej _)) (ES (Ea Fg)) GC) (EQ (DE (gF PySem.F.plainAttrs_list PySem.F.slot_list_pop PySem.F.type_list_pop yi (Eu K rfl (qv 0))) (Gm (n:=2) K rfl rfl (EY (GN (i:=1) FY.nd) (EY (GN (i:=2) FY.nd) GW)))) (EQ (Et (GQ (qv 0) T.ZE T.J8 (Im T) hr T.QJ .nil GK (EN (qv 1) (EN (qv 2) EO)))) (ES (Ea Fg))))),?_⟩;walk_at "s";obtain⟨dx,vs,hp,hT,L,hD,_⟩:=id hS;have J:=hD.len;walk_at "w";rw[BQ];rcases k with ⟨rfl,q⟩|⟨ds',t,o,rfl,ht,ho,hc,hsl,htl,k⟩
  ·refine GL (fun _=>?_) (fun h=>absurd (by rw[J];rfl) h);walk_at "w";exact q
  ·refine GL (fun h=>?_) (fun _=>?_)
   ·rw[J,UD] at h;simp at h;omega
   obtain⟨us,b,rfl,Y,O⟩:=hD.unsnoc;walk_at "w";refine⟨HH L,?_⟩;refine gj L fun H1 f1 K1=>?_;have a1:=K1 _ _ O (fun z=>by rw[z,L] at O;cases O);have nt:∀ {b:Addr} {xs:List V},H b=some (.tup xs)->H1 b=some (.tup xs):=fun e=>K1 _ _ e (fun z=>by rw[z,L] at e;cases e);have B:=hS.kpDeeds K1 f1 (Y.tups fun b xs e=>nt e);obtain⟨a3,a2,Z,_⟩:=id B;walk_at "w";refine En Z Du ?_;walk_at "w";refine⟨S,n,t,o,sm,c,ds',ts,ws,rfl,B,ht,ho,hc,hsl,htl,fun H2 a0 F2=>?_⟩;walk_at "w";exact k H2 a0 ((BE.kp K1 (by simp[SA.own])).trans F2)
def aO(a:Ad)(S:SA)(n b e:Int)(sm:PL)(c:Nat)(ds:List (Int×Option Int))(ts:List Int)(ws:List V):Sp:=fun vs H Q _=>vs=[.ref S.p,.int b,.int e]/\EV a H S n sm c ds ts ws/\InT b/\InT e/\
 ∀(v:V) (o:Option (PL)) (n':Int) (H':Hp),GR H' v o->Is4 (inCol sm b e) o->EV a H' S n' sm c ds ts ws->Kp S.tr H H'->Q v H'
def mB(a:Ad):Sp:=fun vs H Q E=>∃S n b e sm c ds ts ws,aO a S n b e sm c ds ts ws vs H Q E
theorem qg(T:Txt K mg a):Ec P w K mg base Ew 6 a.Yr a.Yt ["self","begin","end"] (mB a):=by
 refine T.NF.ok (N:=["self","begin","end"]) Es fun _ _ _ s H vs Q E O h=>?_
 ·obtain⟨S,n,b,e,sm,c,ds,ts,ws,rfl,F,hb,M,k⟩:=h;refine⟨_,QB.h (ES (Ea (GQ (Eu K rfl (qv 0)) T.ZF T.RS (LZ T) O T.RP .nil GK (EN (qv 1) (EN (qv 2) EO))))),?_⟩;walk_at "s";obtain⟨dx,vs,hp,J,_⟩:=id F;obtain⟨dy,kvs,Y,Z,_⟩:=id J;walk_at "w";refine En Y Am ?_;walk_at "w";exact⟨S.tr,S.d1,S.d2,n,b,e,sm,c,rfl,J,hb,M,fun v o prs H1 h1 L _ B K1=>k v o _ H1 h1 L (F.fr3 (aG K1) B) K1⟩
def wb(a:Ad)(S:SA)(q:Addr)(n b y m:Int)(sm:PL)(c:Nat)(ds:List (Int×Option Int))(ts:List Int)(ws:List V):Sp:=fun vs H Q _=>vs=[.ref S.p,.ref q]/\EV a H S n sm c ds ts ws/\BH H q b y m/\
 ∀(u:Addr) (us:List V) (fs:List (Option (PL))) (n':Int) (H':Hp),H' u=some (.tup us)->GT H' us fs->Ah sm b y m.toNat fs->EV a H' S n' sm c ds ts ws->Kp S.tr H H'->Q (.ref u) H'
def eN(a:Ad):Sp:=fun vs H Q E=>∃S q n b y m sm c ds ts ws,wb a S q n b y m sm c ds ts ws vs H Q E
theorem FA(T:Txt K mg a):Ec P w K mg base Ew 7 a.YZ a.YJ ["self","window"] (eN a):=by
 refine T.MX.ok (N:=["self","window"]) Es fun _ _ _ s H vs Q E hr h=>?_
 ·obtain⟨S,q,n,b,y,m,sm,c,ds,ts,ws,rfl,F,M,k⟩:=h;refine⟨_,QB.h (ES (Ea (GQ (Eu K rfl (qv 0)) T.ZF T.NP (qd T) hr T.Mz .nil GK (EN (qv 1) EO)))),?_⟩;walk_at "s";obtain⟨dx,vs,hp,J,_⟩:=id F;obtain⟨dy,kvs,O,Y,_⟩:=id J;walk_at "w";refine En O Am ?_;walk_at "w";exact⟨S.tr,q,S.d1,S.d2,n,b,y,m,sm,c,rfl,J,M,fun u us fs n' H1 h1 L Z B K1=>k u us fs n' H1 h1 L Z (F.fr3 (aG K1) B) K1⟩
def wc(a:Ad)(S:SA)(n:Int)(sm:PL)(c:Nat)(ds:List (Int×Option Int))(ts:List Int)(ws:List V):Sp:=fun vs H Q _=>vs=[.ref S.p]/\EV a H S n sm c ds ts ws/\
 ∀u H',H' u=some (.tup (ts.map V.int))->ET H H'->Q (.ref u) H'
def eO(a:Ad):Sp:=fun vs H Q E=>∃S n sm c ds ts ws,wc a S n sm c ds ts ws vs H Q E
theorem zK(T:Txt K mg a):Ec P w K mg base Ew 1 a.YT a.YN ["self"] (eO a):=by
 refine T.MQ.ok (N:=["self"]) Es fun _ _ _ s H vs Q E hr h=>?_
 ·obtain⟨S,n,sm,c,ds,ts,ws,rfl,J,k⟩:=h;refine⟨_,QB.h (ES (Ea (Gy (Dq K rfl) rfl T.ZI Dp (EN (Eu K rfl (qv 0)) EO)))),?_⟩;walk_at "s";obtain⟨dx,vs,Y,M,Z,O,F,_⟩:=id J;walk_at "w";exact BJ (Eh.of F) fun u H3 L B S3=>k u H3 B S3
def aP(a:Ad)(S:SA)(n:Int)(sm:PL)(c:Nat)(ds:List (Int×Option Int))(ts:List Int)(ws:List V):Sp:=fun vs H Q _=>vs=[.ref S.p]/\EV a H S n sm c ds ts ws/\sm.length<64/\
 ∀(t:Addr) (cv:PL) (H':Hp),Db H' t cv->DA cv->(∀q,q∈cv↔q∈sm)->ET H H'->Q (.ref t) H'
def mC(a:Ad):Sp:=fun vs H Q E=>∃S n sm c ds ts ws,aP a S n sm c ds ts ws vs H Q E
theorem qh(T:Txt K mg a):Ec P w K mg base Ew 3 a.Yy a.Y0 ["self"] (mC a):=by
 refine T.NL.ok (N:=["self"]) Es fun _ _ _ s H vs Q E O h=>?_
 ·obtain⟨S,n,sm,c,ds,ts,ws,rfl,L,F,k⟩:=h;refine⟨_,QB.h (ES (Ea (BB (Eu K rfl (qv 0)) T.ZF T.Na (xQ T) O T.Nb .nil GK))),?_⟩;walk_at "s";obtain⟨dx,vs,Y,B,_⟩:=id L;obtain⟨Z,kvs,J,M,_⟩:=id B;walk_at "w";refine En J Am ?_;walk_at "w";exact⟨S.tr,S.d1,S.d2,n,sm,c,rfl,B,F,k⟩
end
structure iW where
 w:Addr
 b:Int
 y:Int
 m:Int
 fs:List (Option (PL))
def sh(H:Hp)(r:iW):Prop:=BH H r.w r.b r.y r.m/\r.fs.length=r.m.toNat
def CG(H:Hp)(v:V)(r:iW):Prop:=∃c u us,v=.ref c/\H c=some (.tup [.ref r.w,.ref u])/\H u=some (.tup us)/\GT H us r.fs/\sh H r
theorem BH.tups{H H':Hp}{q:Addr}{b y m:Int}(h:BH H q b y m)(t:∀b xs,H b=some (.tup xs)->H' b=some (.tup xs)):BH H' q b y m:=⟨t _ _ h.1,h.2⟩
theorem CG.tups{H H':Hp}{v:V}{r:iW}(h:CG H v r)(t:∀b xs,H b=some (.tup xs)->H' b=some (.tup xs)):CG H' v r:=by
 obtain⟨c,u,us,h1,h2,L,F,B,J⟩:=h;exact⟨c,u,us,h1,t _ _ h2,t _ _ L,F.tups t,B.tups t,J⟩
noncomputable def IA(fs gs:List (Option (PL)))(n:Nat):List Int:=((UM n).filter fun k=>decide (gs[k]? ≠ fs[k]?)).map fun k:Nat=>(k:Int)
theorem XW(fs gs:List (Option (PL)))(n:Nat):IA fs gs (n+1)=IA fs gs n++(if gs[n]? ≠ fs[n]? then[(n:Int)] else[]):=by
 unfold IA;rw[Vk,List.filter_append,Uy];congr 1;by_cases h:gs[n]? = fs[n]?<;>simp[h]
theorem qH(fs gs:List (Option (PL)))(n:Nat):(IA fs gs n).length<=n:=by
 unfold IA;rw[Ug];exact Uz (UL _ _) (by rw[Ve];exact Ue _)
theorem mD{n i:Nat}(h:i<n):Kd n (i:Int)=some i:=by
 unfold Kd
 first
  |(rw[if_neg (by omega),if_pos (by omega)];simp;done)
  |(simp;omega)
section
variable{a:Ad}{H H':Hp}{S:SA}{n:Int}{sm:PL}{c:Nat}{ds:List (Int×Option Int)}{ts:List Int}{ws:List V}
theorem EV.kpWat(h:EV a H S n sm c ds ts ws){B:List V}(k:Kp S.wt H H')(f:H' S.wt=some (.lst B)):EV a H' S n sm c ds ts B:=by
 obtain⟨dx,vs,h1,h2,Z,Y,O,F,M,L,J⟩:=h;exact⟨dx,vs,k _ _ h1 (fun z=>by rw[z,F] at h1;cases h1),h2.kpX k F,k _ _ Z L,Y.tups (fun b xs e=>k _ _ e (fun z=>by rw[z,F] at e;cases e)),k _ _ O J,f,M,L,J⟩
end
section
local macro_rules|`(tactic|walk_at "rd")=>`(tactic|walk_at " ZE,Z2,Sc")
def wd(a:Ad)(S:SA)(q:Addr)(n b y m:Int)(sm:PL)(c:Nat)(ds:List (Int×Option Int))(ts:List Int)(ws:List V):Sp:=fun vs H Q _=>vs=[.ref S.p,.ref q]/\EV a H S n sm c ds ts ws/\BH H q b y m/\ws.length<=900/\
 ∀(v:V) (fs:List (Option (PL))) (n':Int) (H':Hp),CG H' v ⟨q,b,y,m,fs⟩->Ah sm b y m.toNat fs->EV a H' S n' sm c ds ts (ws ++ [v])->BE S H H'->Q (.int ws.length) H'
def eP(a:Ad):Sp:=fun vs H Q E=>∃S q n b y m sm c ds ts ws,wd a S q n b y m sm c ds ts ws vs H Q E
theorem zL(T:Txt K mg a):Ec P w K mg base Ew 8 a.YV a.Yc ["self","window"] (eP a):=by
 refine T.MV.ok (N:=["self","window"]) Es fun _ _ _ s H vs Q E hr h=>?_
 ·obtain⟨S,q,n,b,y,m,sm,c,ds,ts,ws,rfl,hS,hW,a1,k⟩:=h;refine⟨_,QB.h (EQ (Et (Bp PySem.F.plainAttrs_list PySem.F.slot_list_append PySem.F.type_list_append DT (Eu K rfl (qv 0)) (EN (GB (EN (qv 1) (EN (GQ (qv 0) T.ZE T.YR (FA T) hr T.Ye .nil GK (EN (qv 1) EO)) EO))) EO))) (ES (Ea (Eb BM (Ey (Cw K rfl) rfl T.Zf CO (EN (Eu K rfl (qv 0)) EO)) ER)))),?_⟩;walk_at "s";obtain⟨dx,vs,hp,hT,hd,hD,hn,hw,_⟩:=id hS;walk_at "w";refine⟨HH hw,?_⟩;walk_at "w";refine En hp Du ?_;walk_at "w";refine⟨S,q,n,b,y,m,sm,c,ds,ts,ws,rfl,hS,hW,fun u us fs n' H1 f1 a0 h4 Z K1=>?_⟩;have F1:BE S H H1:=.kp K1 (by simp[SA.own]);have Y:=hW.tups (H':=H1) (fun b xs e=>hS.keepT F1 e);walk_at "w";refine Eg (by show 2<=sizeLine;decide) fun O H2 n2 f2 S2=>?_;have L:=Z.same S2;obtain⟨c0,a7,b0,a6,a3,a4,b8,J,_⟩:=id L;walk_at "w";refine Da J (Uq a1 (by decide)) fun H3 f3 K3=>?_;have B:∀b xs,H2 b=some (.tup xs)->H3 b=some (.tup xs):=fun b xs e=>K3 _ _ e (fun z=>by rw[z,J] at e;cases e);have M:=L.kpWat K3 f3;obtain⟨a5,b7,a9,a2,b9,a8,c1,b6,_⟩:=id M;walk_at "w";have e:(((ws ++ [V.ref O]).length:Nat):Int)-1=(ws.length:Int):=by rw[UD];simp
  rw[e];exact k (.ref O) fs n' H3 ⟨O,u,us,rfl,B _ _ f2,B _ _ (S2 _ _ f1),(a0.same S2).tups B,(Y.tups (fun b xs e=>S2 _ _ e)).tups B,h4.1⟩ h4 M ((F1.trans (.same S2)).trans (.kp K3 (by simp[SA.own])))
def aQ(a:Ad)(S:SA)(i:Nat)(r:iW)(v:V)(n:Int)(sm:PL)(c:Nat)(ds:List (Int×Option Int))(ts:List Int)(ws:List V):Sp:=fun vs H Q _=>vs=[.ref S.p,.int i]/\EV a H S n sm c ds ts ws/\ws[i]? = some v/\CG H v r/\
 ∀(t:Addr) (v':V) (fs:List (Option (PL))) (n':Int) (H':Hp),H' t=some (.tup ((IA r.fs fs r.m.toNat).map V.int))->CG H' v' ⟨r.w,r.b,r.y,r.m,fs⟩->Ah sm r.b r.y r.m.toNat fs->EV a H' S n' sm c ds ts (ws.set i v')->BE S H H'->Q (.ref t) H'
def mE(a:Ad):Sp:=fun vs H Q E=>∃S i r v n sm c ds ts ws,aQ a S i r v n sm c ds ts ws vs H Q E
theorem AK:Eo ["self","number","window","before","now"] ["self","number"] (EU Aj):=Es
theorem qi(T:Txt K mg a):Ec P w K mg base Ew 8 a.Yu a.Yo ["self","number"] (mE a):=by
 refine T.NQ.ok AK fun e5 A a8 s H vs Q E hr h=>?_
 ·obtain⟨S,i,r,v,n,sm,c,ds,ts,ws,rfl,hS,hv,c6,k⟩:=h;have a5:=hr.units;obtain⟨c0,u0,b6,rfl,d4,c3,a4,hW,c7⟩:=id c6;obtain⟨c9,e3,d8,d9,_⟩:=id hW;have hi:i<ws.length:=(Ui.mp hv).1;refine⟨_,QB.h (EQ (GO (QW.pt (Iu (By (BW (GE (FG T) hr.m T.Yh T.Zt.kp T.Yi (EN (qv 1) EO)))) (IZ (By (AQ BU Bm ER (qv 1) (Ey (Cw K rfl) rfl T.Zf CO (EN (Eu K rfl (qv 0)) EO))))))) (ES AR) GC) (EQ (DE (Ei (DH K rfl) (Eu K rfl (qv 0)) (qv 1)) (Gm (n:=2) K rfl rfl (EY (GN (i:=2) AK.nd) (EY (GN (i:=3) AK.nd) GW)))) (EQ (Gb (i:=4) AK.nd (GQ (qv 0) T.ZE T.YR (FA T) hr T.Ye .nil GK (EN (qv 2) EO))) (EQ (DE (GB (EN (qv 2) (EN (qv 4) EO))) (Kv (Eu K rfl (qv 0)) (qv 1) HD)) (ES (Ea (Gy (Dq K rfl) rfl T.ZI Dp (EN (Dg (N:=["self","number","window","before","now"]) (sc:=EU Aj) (own:=["k"]) (caps:=["now","before"]) (ks:=[4,3]) rfl rfl rfl ⟨rfl,by decide +kernel,by decide +kernel,by decide +kernel,by decide +kernel,rfl,by decide +kernel⟩ (Dm rfl T.ZJ (EN (Ei (Ek K rfl) (qv 2) ER) EO)) (fun _ _ _ _ _=>Ge (i:=0) (show List.Nodup (α:=Str) ["k","now","before"] from by decide +kernel) rfl (by walk_at "o") (.inr rfl)) (fun _ _ _ _ _=>CT (Ee (Wx K rfl a5) (Ei (Ek K rfl) (qv 1) (qv 0)) (Ei (Ek K rfl) (qv 2) (qv 0)) (Ej _))) (fun _ _ _ _ _=>qv 0)) EO)))))))),?_⟩;walk_at "s";obtain⟨dx,vs,hp,hT,hd,hD,hn,hw,_⟩:=id hS;walk_at "w";refine⟨(i:Int),rfl,?_⟩;walk_at "w";refine GV ?_;walk_at "w";refine GL (fun _=>?_) (fun h=>absurd h (by omega));walk_at "w";refine AF (fun h=>absurd (show(i:Int)<(ws.length:Int) by omega) h) (fun _=>?_);walk_at "w";refine CP (Eh.of hw) (DS hv) ?_;walk_at "w";refine En hp Du ?_;walk_at "w";refine⟨S,r.w,n,r.b,r.y,r.m,sm,c,ds,ts,ws,rfl,hS,hW,fun u us fs n' H1 f1 J h4 a3 K1=>?_⟩;have F1:BE S H H1:=.kp K1 (by simp[SA.own]);have b9:∀b xs,H b=some (.tup xs)->H1 b=some (.tup xs):=fun b xs e=>hS.keepT F1 e;obtain⟨d6,e4,c8,e1,d7,d3,d5,a7,_⟩:=id a3;walk_at "w";refine Eg (by show 2<=sizeLine;decide) fun L H2 n2 f2 S2=>?_;have e2:=S2 _ _ c8;have Y:=S2 _ _ a7;walk_at "w";refine Xr Y (mD hi) ?_;have f3:(upd H2 S.wt (.lst (ws.set i (.ref L)))) S.wt=some (.lst (ws.set i (.ref L))):=EW;have K3:Kp S.wt H2 (upd H2 S.wt (.lst (ws.set i (.ref L)))):=Kp.upd;generalize upd H2 S.wt (.lst (ws.set i (.ref L)))=H3 at f3 K3;have a2:∀b xs,H2 b=some (.tup xs)->H3 b=some (.tup xs):=fun b xs e=>K3 _ _ e (fun z=>by rw[z,Y] at e;cases e);have d1:=(a3.same S2).kpWat K3 f3;have B:∀b xs,H1 b=some (.tup xs)->H3 b=some (.tup xs):=fun b xs e=>a2 _ _ (S2 _ _ e);have F:∀b xs,H b=some (.tup xs)->H3 b=some (.tup xs):=fun b xs e=>B _ _ (b9 _ _ e);have d2:=F _ _ c9;have F3:BE S H H3:=(F1.trans (.same S2)).trans (.kp K3 (by simp[SA.own]));have a0:CG H3 (.ref L) ⟨r.w,r.b,r.y,r.m,fs⟩:=⟨L,u,us,rfl,a2 _ _ f2,B _ _ f1,J.tups B,hW.tups F,h4.1⟩;have c1:=B _ _ f1;have a6:=J.tups B;have M:=F _ _ c3;have a1:=a4.tups F;walk_at "w";refine CQ (by omega) (by omega) ?_;intro l n4;refine Gw r.m.toNat (fun j U' H'=>(∃o,U'=[o,some (.ref u),some (.ref u0)])/\ET H3 H'/\H' l=some (.lst ((IA r.fs fs j).map V.int))) ?_ ?_ ?_
  ·exact⟨⟨none,rfl⟩,ET.new n4,EW⟩
  ·rintro U' H4 ⟨_,S4,f4⟩;refine⟨Ue _,?_⟩;walk_at "w";refine BJ (Eh.of f4) fun t H5 n5 f5 S5=>?_;have S35:=S4.trans S5;exact k t (.ref L) fs n' H5 f5 (a0.tups fun b xs e=>S35 _ _ e) h4 (d1.same S35) (F3.trans (.same S35))
  ·rintro j U' H4 hj ⟨⟨o,rfl⟩,S4,f4⟩;refine⟨hj,?_⟩;rintro x H'' ⟨rfl,rfl⟩;have O:j<us.length:=by rw[J.len,h4.1];exact hj
   have Z:j<b6.length:=by rw[a4.len,c7];exact hj
   obtain⟨o1,c4,b8⟩:=(a6.same S4).at (Ub O);obtain⟨o0,a9,b7⟩:=(a1.same S4).at (Ub Z);have e0:(0+(j:Int))=(j:Int):=by omega
   rw[e0];walk_at "w";refine FK (GF.of (S4 _ _ c1)) (DS (Ub O)) ?_;walk_at "w";refine FK (GF.of (S4 _ _ M)) (DS (Ub Z)) ?_;refine zq b8 b7 ?_;have es:=XW r.fs fs j;rw[c4,a9] at es;walk_at "w";refine AF (fun b0=>?_) (fun c5=>?_)
   ·walk_at "w";refine⟨_,f4,?_,⟨_,rfl⟩,S4.kpN n4 Kp.upd,?_⟩
    ·rw[Ug];exact Uq (qH _ _ _) (Uh (show j<1000 by omega) (by decide))
    ·rw[EW,es,if_pos (fun z=>b0 (Option.some.inj z)),Uy];rfl
   ·refine⟨⟨_,rfl⟩,S4,?_⟩;rw[es,if_neg (fun z=>z (by rw[c5])),UF];exact f4
end
theorem GD.ofS{S:SA}{l:List Addr}{H H':Hp}(h:BE S H H')(m:∀b∈S.own,b∈l):GD l H H':=fun b o e n=>h b o e fun z=>n (m b z)
section
variable{a:Ad}{H H':Hp}{S:SA}{n:Int}{sm:PL}{c:Nat}{ds:List (Int×Option Int)}{ts:List Int}{ws:List V}
theorem EV.live(h:EV a H S n sm c ds ts ws):∀b∈S.p::S.own,∃o,H b=some o:=by
 obtain⟨dx,vs,h1,⟨dy,kvs,O,M,J,_⟩,Y,h4,F,L,Z⟩:=h;intro b B;simp only[SA.own,Ud,Us,or_false] at B;rcases B with rfl|rfl|rfl|rfl|rfl|rfl|rfl
 ·exact⟨_,h1⟩
 ·exact⟨_,O⟩
 ·exact⟨_,M⟩
 ·exact⟨_,J⟩
 ·exact⟨_,Y⟩
 ·exact⟨_,F⟩
 ·exact⟨_,L⟩
theorem EV.noTup(h:EV a H S n sm c ds ts ws):∀b∈S.own,∀xs,H b≠some (.tup xs):=by
 obtain⟨dx,vs,h1,⟨dy,kvs,O,M,J,_⟩,Y,h4,F,L,Z⟩:=h;intro b B xs e;simp only[SA.own,Ud,Us,or_false] at B;rcases B with rfl|rfl|rfl|rfl|rfl|rfl
 ·rw[O] at e;cases e
 ·rw[M] at e;cases e
 ·rw[J] at e;cases e
 ·rw[Y] at e;cases e
 ·rw[F] at e;cases e
 ·rw[L] at e;cases e
theorem EV.frL(h:EV a H S n sm c ds ts ws){l:List Addr}(f:GD l H H')(d:∀b∈l,b∉S.p::S.own)(nt:∀b∈l,∀xs,H b≠some (.tup xs)):EV a H' S n sm c ds ts ws:=by
 obtain⟨dx,vs,h1,⟨dy,kvs,t1,Z,M,t4,t5,L⟩,h3,O,J,Y,F⟩:=h;have k:∀b o,H b=some o->b∈S.p::S.own->H' b=some o:=fun b o e m=>f _ _ e fun z=>d b z m;have B:∀b xs,H b=some (.tup xs)->H' b=some (.tup xs):=fun b xs e=>f _ _ e fun z=>nt b z xs e;exact⟨dx,vs,k _ _ h1 (by simp),⟨dy,kvs,k _ _ t1 (by simp[SA.own]),k _ _ Z (by simp[SA.own]),k _ _ M (by simp[SA.own]),t4,t5.tups B,L⟩,k _ _ h3 (by simp[SA.own]),O.tups B,k _ _ J (by simp[SA.own]),k _ _ Y (by simp[SA.own]),F⟩
theorem EV.apart(h:EV a H S n sm c ds ts ws){l:List Addr}(m:∀b∈l,H b=none):∀b∈l,b∉S.p::S.own:=fun b B z=>by
 obtain⟨o,e⟩:=h.live b z;rw[m b B] at e;cases e
theorem SA.ls_own{S:SA}{b:Addr}(h:b∈S.ls):b∈S.own:=by
 simp only[SA.ls,SA.own,Ud,Us,or_false] at *;rcases h with h|h|h<;>simp[h]
end
section
noncomputable def xU(b y m t:Int):V:=if 0<=(t-b) / y/\(t-b) / y<m then .int ((t-b) / y) else .non
def aR(p:Addr)(b y m t:Int):Sp:=fun vs H Q _=>vs=[.ref p,.int t]/\H p=some (.tup [.int b,.int y,.int m])/\0<y/\y<2 ^ 250/\Q (xU b y m t) H
def mF:Sp:=fun vs H Q E=>∃p b y m t,aR p b y m t vs H Q E
theorem Cc:Eo ["window","t","begin","wide","many","k"] ["window","t"] (EU II):=Es
theorem xV(T:Txt K mg a):Ec P w K mg base Ew 1 a.JX a.JE ["window","t"] mF:=by
 refine T.RR.ok Cc fun J A B s H vs Q E O h=>?_
 ·obtain⟨p,b,y,m,t,rfl,L,M,F,q⟩:=h;refine⟨_,QB.h (EQ (DE (qv 0) (Gm (n:=3) K rfl rfl (EY (GN (i:=2) Cc.nd) (EY (GN (i:=3) Cc.nd) (EY (GN (i:=4) Cc.nd) GW))))) (EQ (Gb (i:=5) Cc.nd (Eb CN (Eb BM (qv 1) (qv 2)) (qv 3))) (ES (Ea (Bo (AQ BU Bm ER (qv 5) (qv 4)) (qv 5) Gk))))),?_⟩;walk_at "s";walk_at "w";refine GL (fun h1=>?_) (fun h1=>?_)
  ·walk_at "w";refine GL (fun h2=>?_) (fun h2=>?_)
   ·walk_at "w";unfold xU at q;rw[if_pos ⟨h1,h2⟩] at q;exact q
   ·walk_at "w";unfold xU at q;rw[if_neg (fun z=>h2 z.2)] at q;exact q
  ·walk_at "w";refine GV ?_;walk_at "w";unfold xU at q;rw[if_neg (fun z=>h1 z.1)] at q;exact q
end
noncomputable abbrev win(b y m:Int):List V:=[.int b,.int y,.int m]
def aS(K:W.Frag)(t:Addr)(b y m c:Int):Sp:=fun vs H Q _=>vs=[.ref t,.int c]/\GF K H t (win b y m)/\IntMulOk c y/\∀(u:Addr) (H':Hp),H u=none->H' u=some (.tup (win (b+c*y) y m))->ET H H'->Q (.ref u) H'
def mG(K:W.Frag):Sp:=fun vs H Q E=>∃t b y m c,aS K t b y m c vs H Q E
def uF(K:W.Frag)(t:Addr)(b y m:Int):Sp:=fun vs H Q _=>vs=[.ref t]/\GF K H t (win b y m)/\∀(u:Addr) (H':Hp),H u=none->H' u=some (.tup (win b (y*2) m))->ET H H'->Q (.ref u) H'
def aT(K:W.Frag):Sp:=fun vs H Q E=>∃t b y m,uF K t b y m vs H Q E
def xW(K:W.Frag)(t:Addr)(b y m:Int):Sp:=fun vs H Q _=>vs=[.ref t]/\GF K H t (win b y m)/\y % 2=0/\∀(u:Addr) (H':Hp),H u=none->H' u=some (.tup (win b (y / 2) m))->ET H H'->Q (.ref u) H'
def we(K:W.Frag):Sp:=fun vs H Q E=>∃t b y m,xW K t b y m vs H Q E
def aU(K:W.Frag)(t:Addr)(b y m n:Int):Sp:=fun vs H Q _=>vs=[.ref t,.int n]/\GF K H t (win b y m)/\∀(u:Addr) (H':Hp),H u=none->H' u=some (.tup (win b y n))->ET H H'->Q (.ref u) H'
def mH(K:W.Frag):Sp:=fun vs H Q E=>∃t b y m n,aU K t b y m n vs H Q E
section
theorem KS:Eo ["window","c","begin","wide","many"] ["window","c"] (EU zJ):=Es
theorem eQ(T:Txt K mg a):Ec P w K mg base Ew 1 a.Tn a.Tr ["window","c"] (mG K):=by
 refine T.Nz.ok KS fun J A B s H vs Q E O h=>?_
 ·obtain⟨t,b,y,m,c,rfl,M,hm,k⟩:=h;refine⟨_,QB.h (EQ (DE (qv 0) (Gm (n:=3) K rfl rfl (EY (GN (i:=2) KS.nd) (EY (GN (i:=3) KS.nd) (EY (GN (i:=4) KS.nd) GW))))) (ES (Ea (GB (EN (Eb Go (qv 2) (Eb GM (qv 1) (qv 3))) (EN (qv 3) (EN (qv 4) EO))))))),?_⟩;walk_at "s";walk_at "w";refine FU hm ?_;walk_at "w";exact Eg (by show 3<=sizeLine;decide) fun u H2 L F S2=>k u H2 L F S2
theorem Fo:Eo ["window","begin","wide","many"] ["window"] (EU LJ):=Es
theorem wf(T:Txt K mg a):Ec P w K mg base Ew 1 a.QX a.QN ["window"] (aT K):=by
 refine T.Tw.ok Fo fun J A B s H vs Q E O h=>?_
 ·obtain⟨t,b,y,m,rfl,M,k⟩:=h;refine⟨_,QB.h (EQ (DE (qv 0) (Gm (n:=3) K rfl rfl (EY (GN (i:=1) Fo.nd) (EY (GN (i:=2) Fo.nd) (EY (GN (i:=3) Fo.nd) GW))))) (ES (Ea (GB (EN (qv 1) (EN (Eb GM (qv 2) ER) (EN (qv 3) EO))))))),?_⟩;walk_at "s";walk_at "w";exact Eg (by show 3<=sizeLine;decide) fun u H2 L F S2=>k u H2 L F S2
theorem FI:Eo ["window","begin","wide","many"] ["window"] (EU KM):=Es
theorem uG(T:Txt K mg a):Ec P w K mg base Ew 1 a.Jd a.Jn ["window"] (we K):=by
 refine T.Ta.ok FI fun J A B s H vs Q E Y h=>?_
 ·obtain⟨t,b,y,m,rfl,M,O,k⟩:=h;refine⟨_,QB.h (EQ (DE (qv 0) (Gm (n:=3) K rfl rfl (EY (GN (i:=1) FI.nd) (EY (GN (i:=2) FI.nd) (EY (GN (i:=3) FI.nd) GW))))) (EQ (GO (Ee (Dk) (Eb Cu (qv 2) ER) ER (Ej _)) (ES AR) GC) (ES (Ea (GB (EN (qv 1) (EN (Eb CN (qv 2) ER) (EN (qv 3) EO)))))))),?_⟩;walk_at "s";walk_at "w";rw[BQ];refine GL (fun h=>absurd h (by omega)) (fun _=>?_);walk_at "w";exact Eg (by show 3<=sizeLine;decide) fun u H2 L F S2=>k u H2 L F S2
theorem XX(T:Txt K mg a):Ec P w K mg base Ew 1 a.Z8 a.YE ["window","n"] (mH K):=by
 refine T.Jc.ok (N:=["window","n"]) Es fun _ _ _ s H vs Q E L h=>?_
 ·obtain⟨t,b,y,m,n,rfl,J,k⟩:=h;refine⟨_,QB.h (ES (Ea (GB (EN (Ei (Ek K rfl) (qv 0) ER) (EN (Ei (Ek K rfl) (qv 0) ER) (EN (qv 1) EO)))))),?_⟩;walk_at "s";walk_at "w";exact Eg (by show 3<=sizeLine;decide) fun u H2 F B S2=>k u H2 F B S2
end
noncomputable def kx(x z:Int):List Ef:=[Sum.inl x,Sum.inl z]
theorem XY{x z x' B:Int}(h:kx x z=kx x' B):x=x'/\z=B:=by
 unfold kx at h;injection h with h1 h2;injection h2 with h2 _;exact⟨Sum.inl.inj h1,Sum.inl.inj h2⟩
theorem La{κ:Type}[DecidableEq κ](k j:κ):∀kvs:List (κ × V),GH (BD kvs k) j=if j=k then none else GH kvs j
 | []=>by split<;>rfl
 |p::r=>by
  have F:=La k j r;unfold BD at F ⊢;by_cases e:p.1=k
  ·rw[List.filter_cons_of_neg (by simpa using e),F];split
   ·rfl
   ·rw[DK (fun z=>‹¬j=k› (z.symm.trans e))]
  ·rw[List.filter_cons_of_pos (by simpa using e)];by_cases B:p.1=j
   ·rw[DR B,DR B,if_neg (fun z=>e (B.trans z))]
   ·rw[DK B,DK B,F]
def Hf(H:Hp)(sm:PL)(x z:Int)(v:V):Prop:=∃o,GR H v o/\Is4 (inCol sm x z) o
theorem Hf.tups{H H':Hp}{sm:PL}{x z:Int}{v:V}(h:Hf H sm x z v)(t:∀b xs,H b=some (.tup xs)->H' b=some (.tup xs)):Hf H' sm x z v:=
 let ⟨o,h1,h2⟩:=h;⟨o,h1.tups t,h2⟩
def Sf(b y m x z:Int):Prop:=∃k:Int,0<=k/\k<m/\x=b+k*y/\z=b+k*y+y
def has(kvs:List (List Ef×V))(x z:Int):Bool:=(GH kvs (kx x z)).isSome
theorem Hg{kvs:List (List Ef×V)}{x z:Int}{v:V}(h:GH kvs (kx x z)=some v):has kvs x z=true:=by unfold has;rw[h];rfl
theorem Hh{kvs:List (List Ef×V)}{x z:Int}(h:GH kvs (kx x z)=none):has kvs x z=false:=by unfold has;rw[h];rfl
theorem vD{kvs:List (List Ef×V)}{x z x' B:Int}{v:V}:has (Dh kvs (kx x z) v) x' B=(decide (x'=x/\B=z)||has kvs x' B):=by
 unfold has;rw[Aw];by_cases e:kx x' B=kx x z
 ·rw[if_pos e,decide_eq_true (XY e)];rfl
 ·rw[if_neg e,decide_eq_false (fun h=>e (by rw[h.1,h.2]))];rfl
def xX(kvs:List (List Ef×V))(x z:Int):Prop:=has kvs x z=true\/(has kvs x ((x+z) / 2)=true/\has kvs ((x+z) / 2) z=true)
def uH(d q:Addr)(b y m:Int)(kvs:List (List Ef×V))(sm:PL):Sp:=fun vs H Q _=>vs=[.ref d,.ref q]/\H d=some (.dT kvs)/\BH H q b y m/\
 (∀x z v,GH kvs (kx x z)=some v->Hf H sm x z v)/\
 ∀(d':Addr) (kvs':List (List Ef×V)) (H':Hp),H d'=none->H' d'=some (.dT kvs')->kvs'.length<=m.toNat->(∀x z v,GH kvs' (kx x z)=some v->Sf b y m x z/\Hf H' sm x z v) ->
  (∀x z,Sf b y m x z->(has kvs' x z=true↔xX kvs x z))->ET H H'->Q (.ref d') H'
def aV:Sp:=fun vs H Q E=>∃d q b y m kvs sm,uH d q b y m kvs sm vs H Q E
section
theorem AB:Eo ["known","window","staying","first","behind","middle"] ["known","window"] (EU KO):=Es
set_option tactic.hygienic true in
theorem uI(T:Txt K mg a):Ec P w K mg base Ew 4 a.Jr a.Jh ["known","window"] aV:=by
 refine T.Td.ok AB fun c8 A b9 s H vs Q E hr h=>?_
 ·obtain⟨d,q,b,y,m,kvs,sm,rfl,hd,hW,hg,k⟩:=h;have hu:=Dc hr;obtain⟨hq,hy,c3,c6,hb,he⟩:=id hW;refine⟨_,QB.h (EQ (Gb (i:=2) AB.nd WF) (EQ (DU PassesOwn.never rfl (DX K rfl (GE (AJ T) hr T.Zx T.Za.kp T.Z4 (EN (qv 1) EO))) (Gm (n:=2) K rfl rfl (EY (GN (i:=3) AB.nd) (EY (GN (i:=4) AB.nd) GW))) (EQ (Gb (i:=5) AB.nd (Eb CN (Eb Go (qv 3) (qv 4)) ER)) (ES (GO (Ee (Lr hu) (GB (EN (qv 3) (EN (qv 4) EO))) (qv 0) (by with_unfolding_all rfl)) (ES (Dz hu (DI hu (qv 0) (GB (EN (qv 3) (EN (qv 4) EO)))) (qv 2) (GB (EN (qv 3) (EN (qv 4) EO))))) (ES (GO (QW.pt (CS (Ee (Lr hu) (GB (EN (qv 3) (EN (qv 5) EO))) (qv 0) (by with_unfolding_all rfl)) (BX (Ee (Lr hu) (GB (EN (qv 5) (EN (qv 4) EO))) (qv 0) (by with_unfolding_all rfl))))) (ES (Dz hu (GE (LX T) hr.m T.Rm T.Jf.kp T.Rf (EN (DI hu (qv 0) (GB (EN (qv 3) (EN (qv 5) EO)))) (EN (DI hu (qv 0) (GB (EN (qv 5) (EN (qv 4) EO)))) EO))) (qv 2) (GB (EN (qv 3) (EN (qv 4) EO))))) GC)))))) (ES (Ea (qv 2))))),?_⟩;walk_at "s";walk_at "w";refine WG fun d' H1 n1 f1 S1=>?_;have nd:d≠d':=GJ hd n1;walk_at "w";refine⟨q,b,y,m,rfl,S1 _ _ hq,c3,by omega,fun l us H2 n2 f2 b0 S2=>?_⟩;have nl:l≠d':=fun z=>by rw[z,f1] at n2;cases n2
  have a6:us.length=m.toNat:=by rw[b0.length,CZ]
  have S02:=S1.trans S2;walk_at "w"
  refine AY (xs:=us) (fun i U H'=>(∃v3 v4 v5,U=[some (.ref d),some (.ref q),some (.ref d'),v3,v4,v5])/\Kp d' H2 H'/\∃B,H' d'=some (.dT B)/\B.length<=i/\
   (∀x z v,GH B (kx x z)=some v->(∃j:Nat,j<i/\x=b+(j:Int)*y/\z=b+(j:Int)*y+y)/\Hf H' sm x z v)/\∀j:Nat,j<i->(has B (b+(j:Int)*y) (b+(j:Int)*y+y)=true↔xX kvs (b+(j:Int)*y) (b+(j:Int)*y+y))) ?_ ?_ ?_ ?_
  ·exact⟨⟨_,_,_,rfl⟩,fun _ _ e _=>e,[],S2 _ _ f1,Ue _,fun x z v h=>(by cases h),fun j h=>(by omega)⟩
  ·rintro i U H3 _ ⟨_,K3,_⟩;exact Eh.of (K3 _ _ f2 nl)
  ·rintro i x U H3 hx ⟨⟨v3,v4,v5,rfl⟩,K3,B,f3,a3,F,L⟩;obtain⟨cc,pq,rfl,a8,hc⟩:=b0.at hx;have c9:i<m.toNat:=by rw[<- a6];exact(Ui.mp hx).1
   obtain rfl:=Hd a8;have a2:∀ {H':Hp} {kv:List (List Ef×V)},H' d'=some (.dT kv)->∀ {e:Addr} {xs:List V},H' e=some (.tup xs)->e≠d':=fun h e xs g z=>by rw[z,h] at g;cases g
   have c2:=K3 _ _ hc (a2 (S2 _ _ f1) hc);have a4:=K3 _ _ (S02 _ _ hd) nd;have J:∀b xs,H b=some (.tup xs)->H3 b=some (.tup xs):=fun b xs e=>K3 _ _ (S02 _ _ e) (GJ e n1);have hz:B.length<sizeLine:=by show _<2 ^ 24;omega
   generalize hX:b+(i:Int)*y=X at c2 a8
   have a1:∀ {H':Hp} {v':V},H' d'=some (.dT (Dh B (kx X (X+y)) v'))->Hf H' sm X (X+y) v'->(∀b xs,H3 b=some (.tup xs)->H' b=some (.tup xs))->xX kvs X (X+y) ->
     (Dh B (kx X (X+y)) v').length<=i+1/\(∀x z v,GH (Dh B (kx X (X+y)) v') (kx x z)=some v->(∃j:Nat,j<i+1/\x=b+(j:Int)*y/\z=b+(j:Int)*y+y)/\Hf H' sm x z v)/\
     ∀j:Nat,j<i+1->(has (Dh B (kx X (X+y)) v') (b+(j:Int)*y) (b+(j:Int)*y+y)=true↔xX kvs (b+(j:Int)*y) (b+(j:Int)*y+y)):=fun {H' v'} _ hv ht O=>by
    refine⟨by have:=CF B (kx X (X+y)) v';omega,fun x z v h=>?_,fun j hj=>?_⟩
    ·rw[Aw] at h;split at h
     ·rename_i e
      obtain⟨rfl,rfl⟩:=XY e;cases h;exact⟨⟨i,by omega,hX.symm,by rw[hX]⟩,hv⟩
     ·obtain⟨⟨j,hj,e1,e2⟩,g⟩:=F _ _ _ h;exact⟨⟨j,by omega,e1,e2⟩,g.tups ht⟩
    ·rw[vD];by_cases e:j=i
     ·subst e;rw[hX];simp[O]
     ·have c1:¬(b+(j:Int)*y=X/\b+(j:Int)*y+y=X+y):=fun z=>by
       have h1:(j:Int)*y=(i:Int)*y:=by omega
       have:=Int.eq_of_mul_eq_mul_right (by omega) h1;omega
      rw[decide_eq_false c1,Bool.false_or];exact L j (by omega)
   have M:∀ {H':Hp},(∀b xs,H3 b=some (.tup xs)->H' b=some (.tup xs))->¬xX kvs X (X+y) ->
     B.length<=i+1/\(∀x z v,GH B (kx x z)=some v->(∃j:Nat,j<i+1/\x=b+(j:Int)*y/\z=b+(j:Int)*y+y)/\Hf H' sm x z v)/\
     ∀j:Nat,j<i+1->(has B (b+(j:Int)*y) (b+(j:Int)*y+y)=true↔xX kvs (b+(j:Int)*y) (b+(j:Int)*y+y)):=fun {H'} ht O=>by
    refine⟨by omega,fun x z v h=>?_,fun j hj=>?_⟩
    ·obtain⟨⟨j,hj,e1,e2⟩,g⟩:=F _ _ _ h;exact⟨⟨j,by omega,e1,e2⟩,g.tups ht⟩
    ·by_cases e:j=i
     ·subst e;rw[hX];refine⟨fun h=>?_,fun h=>absurd h O⟩;unfold has at h;obtain⟨v,hv⟩:=Va.mp h;obtain⟨⟨j',c5,e1,_⟩,_⟩:=F _ _ _ hv;have h1:(j:Int)*y=(j':Int)*y:=by omega
      have:=Int.eq_of_mul_eq_mul_right (by omega) h1;omega
     ·exact L j (by omega)
   have g2:(2:Nat)<=sizeLine:=by decide
   have hM:X<=(X+(X+y)) / 2/\(X+(X+y)) / 2<=X+y:=by omega
   walk_at "w";refine Eg g2 fun u4 H4 n4 f4 S4=>?_;walk_at "w";refine zH (k:=kx X (X+y)) (S4 _ _ a4) f4 ?_
   cases O:GH kvs (kx X (X+y)) with
   |some v=>
    walk_at "w";refine DD ?_;walk_at "w";refine Eg g2 fun u5 H5 n5 f5 S5=>?_;have Y:=S5 _ _ (S4 _ _ a4);walk_at "w";refine⟨d,v,rfl,by rw[<- O];exact DV.t (k:=kx X (X+y)) Y f5,?_⟩;walk_at "w";refine Eg g2 fun u6 H6 n6 f6 S6=>?_;have S36:=(S4.trans S5).trans S6;have c0:=S36 _ _ f3;walk_at "w";refine HK (k:=kx X (X+y)) c0 f6 hz fun H7 f7 K7=>?_;have b6:∀b xs,H3 b=some (.tup xs)->H7 b=some (.tup xs):=fun b xs e=>K7 _ _ (S36 _ _ e) (a2 f3 e);walk_at "w";exact⟨⟨_,_,_,rfl⟩,(K3.then S36).trans K7,_,f7,a1 f7 ((hg _ _ _ O).tups fun b xs e=>b6 _ _ (J _ _ e)) b6 (.inl (Hg O))⟩
   |none=>
    walk_at "w";refine GV ?_;walk_at "w";refine Eg g2 fun u5 H5 n5 f5 S5=>?_;have Y:=S5 _ _ (S4 _ _ a4);walk_at "w";refine zH (k:=kx X ((X+(X+y)) / 2)) Y f5 ?_
    cases hk1:GH kvs (kx X ((X+(X+y)) / 2)) with
    |none=>
     have S35:=S4.trans S5;walk_at "w";refine GV ?_;walk_at "w"
     exact⟨⟨_,_,_,rfl⟩,K3.then S35,_,S35 _ _ f3,M (fun b xs e=>S35 _ _ e) fun z=>by
      rcases z with z|z
      ·rw[Hh O] at z;cases z
      ·rw[Hh hk1] at z;cases z.1⟩
    |some v1=>
     walk_at "w";refine DD ?_;walk_at "w";refine Eg g2 fun u6 H6 n6 f6 S6=>?_;have a7:=S6 _ _ Y;have S36:=(S4.trans S5).trans S6;walk_at "w";refine zH (k:=kx ((X+(X+y)) / 2) (X+y)) a7 f6 ?_
     cases hk2:GH kvs (kx ((X+(X+y)) / 2) (X+y)) with
     |none=>
      walk_at "w";refine GV ?_;walk_at "w"
      exact⟨⟨_,_,_,rfl⟩,K3.then S36,_,S36 _ _ f3,M (fun b xs e=>S36 _ _ e) fun z=>by
       rcases z with z|z
       ·rw[Hh O] at z;cases z
       ·rw[Hh hk2] at z;cases z.2⟩
     |some v2=>
      walk_at "w";refine DD ?_;walk_at "w";refine Eg g2 fun u7 H7 n7 f7 S7=>?_;have a9:=S7 _ _ a7;walk_at "w";refine⟨d,v1,rfl,by rw[<- hk1];exact DV.t (k:=kx X ((X+(X+y)) / 2)) a9 f7,?_⟩;walk_at "w";refine Eg g2 fun u8 H8 n8 f8 S8=>?_;have b8:=S8 _ _ a9;have S38:=(S36.trans S7).trans S8;walk_at "w";refine⟨d,v2,rfl,by rw[<- hk2];exact DV.t (k:=kx ((X+(X+y)) / 2) (X+y)) b8 f8,?_⟩;obtain⟨o1,i1,i2⟩:=(hg _ _ _ hk1).tups (H':=H8) fun b xs e=>S38 _ _ (J _ _ e);obtain⟨o2,j1,j2⟩:=(hg _ _ _ hk2).tups (H':=H8) fun b xs e=>S38 _ _ (J _ _ e);walk_at "w";refine⟨v1,v2,o1,o2,_,_,rfl,i1,i2,j1,j2,jw,fun v9 o9 H9 h9 g9 S9=>?_⟩;walk_at "w";refine Eg g2 fun c7 H10 c4 b7 S10=>?_;have S310:=(S38.trans S9).trans S10;have Z:=S310 _ _ f3;walk_at "w";refine HK (k:=kx X (X+y)) Z b7 hz fun H11 a5 K11=>?_;have a0:∀b xs,H10 b=some (.tup xs)->H11 b=some (.tup xs):=fun b xs e=>K11 _ _ e (a2 Z e);walk_at "w";exact⟨⟨_,_,_,rfl⟩,(K3.then S310).trans K11,_,a5,a1 a5 ⟨o9,(h9.tups fun b xs e=>S10 _ _ e).tups a0,g9.congr fun r=>XN hM.1 hM.2 r⟩ (fun b xs e=>a0 _ _ (S310 _ _ e)) (.inr ⟨Hg hk1,Hg hk2⟩)⟩
  ·rintro U H3 ⟨⟨v3,v4,v5,rfl⟩,K3,B,f3,a3,F,L⟩;rw[a6] at a3 F L;walk_at "w";refine k d' B H3 n1 f3 a3 (fun x z v h=>?_) (fun x z h=>?_) fun b o e=>K3 _ _ (S02 _ _ e) (GJ e n1)
   ·obtain⟨⟨j,hj,e1,e2⟩,g⟩:=F _ _ _ h;exact⟨⟨j,by omega,by omega,e1,e2⟩,g⟩
   ·obtain⟨j,h0,h1,rfl,rfl⟩:=h;have:=L j.toNat (by omega)
    rwa [Int.toNat_of_nonneg h0] at this
end
noncomputable def BC(s q d:Addr)(n e:Int):List (Str×V):=[("source",V.ref s),("window",V.ref q),("asked",V.int n),("known",V.ref d),("seen",V.int e)]
section
variable{s q d q' d':Addr}{n e n' e':Int}
theorem rK:(("window":Str)=="source")=false:=by decide +kernel
theorem rL:(("asked":Str)=="source")=false:=by decide +kernel
theorem rM:(("asked":Str)=="window")=false:=by decide +kernel
theorem rN:(("known":Str)=="source")=false:=by decide +kernel
theorem rO:(("known":Str)=="window")=false:=by decide +kernel
theorem rP:(("known":Str)=="asked")=false:=by decide +kernel
theorem rQ:(("seen":Str)=="source")=false:=by decide +kernel
theorem rR:(("seen":Str)=="window")=false:=by decide +kernel
theorem rS:(("seen":Str)=="asked")=false:=by decide +kernel
theorem eR:(("seen":Str)=="known")=false:=by decide +kernel
theorem KU:(BC s q d n e).lookup ("source":Str)=some (.ref s):=by
 unfold BC;rw[Uk,beq_self_eq_true]
theorem Ck:(BC s q d n e).lookup ("window":Str)=some (.ref q):=by
 unfold BC;rw[Uk,rK,Uk,beq_self_eq_true]
theorem Lb:(BC s q d n e).lookup ("asked":Str)=some (.int n):=by
 unfold BC;rw[Uk,rL,Uk,rM,Uk,beq_self_eq_true]
theorem Lc:(BC s q d n e).lookup ("known":Str)=some (.ref d):=by
 unfold BC;rw[Uk,rN,Uk,rO,Uk,rP,Uk,beq_self_eq_true]
theorem xY:(BC s q d n e).lookup ("seen":Str)=some (.int e):=by
 unfold BC;rw[Uk,rQ,Uk,rR,Uk,rS,Uk,eR,Uk,beq_self_eq_true]
theorem CB{m:Str}(h1:(m==("source":Str))=false:=by decide +kernel)(h2:(m==("window":Str))=false:=by decide +kernel)(J:(m==("asked":Str))=false:=by decide +kernel)(F:(m==("known":Str))=false:=by decide +kernel)(B:(m==("seen":Str))=false:=by decide +kernel):(BC s q d n e).lookup m=none:=by
 unfold BC;rw[Uk,h1,Uk,h2,Uk,J,Uk,F,Uk,B];rfl
theorem KW(f:Str)(v u:V)(r:List (Str×V)):GP f v ((f,u)::r)=(f,v)::r:=by
 show(if f=f then _ else _)=_;rw[if_pos rfl]
theorem Gf{f g:Str}(h:(f==g)=false)(v u:V)(r:List (Str×V)):GP f v ((g,u)::r)=(g,u)::GP f v r:=by
 show(if g=f then _ else _)=_;rw[if_neg (fun z=>by rw[z,beq_self_eq_true] at h;cases h)]
theorem Hi(f:Str)(v:V):GP f v []=[(f,v)]:=rfl
theorem eT:GP "window" (.ref q') (BC s q d n e)=BC s q' d n e:=by
 unfold BC;rw[Gf rK,KW]
theorem eU:GP "asked" (.int n') (BC s q d n e)=BC s q d n' e:=by
 unfold BC;rw[Gf rL,Gf rM,KW]
theorem eV:GP "known" (.ref d') (BC s q d n e)=BC s q d' n e:=by
 unfold BC;rw[Gf rN,Gf rO,Gf rP,KW]
theorem eW:GP "seen" (.int e') (BC s q d n e)=BC s q d n e':=by
 unfold BC;rw[Gf rQ,Gf rR,Gf rS,Gf eR,KW]
theorem mI:GP "seen" (.int e) (GP "known" (.ref d) (GP "asked" (.int n) (GP "window" (.ref q) (GP "source" (.ref s) []))))=BC s q d n e:=by
 unfold BC;rw[Hi,Gf rK,Hi,Gf rL,Gf rM,Hi,Gf rN,Gf rO,Gf rP,Hi,Gf rQ,Gf rR,Gf rS,Gf eR,Hi]
end
def WS(H:Hp)(kvs:List (List Ef×V))(sm:PL)(b y m:Int)(bad:List Int):Prop:=
 ∀x z u,GH kvs (kx x z)=some u->Sf b y m x z/\((∃t∈bad,x<=t/\t<z)\/Hf H sm x z u)
theorem WS.tups{H H':Hp}{kvs:List (List Ef×V)}{sm:PL}{b y m:Int}{B:List Int}(h:WS H kvs sm b y m B)(t:∀b xs,H b=some (.tup xs)->H' b=some (.tup xs)):WS H' kvs sm b y m B:=fun x z u e=>
 ⟨(h x z u e).1,(h x z u e).2.imp id fun g=>g.tups t⟩
def GX(a:Ad)(H:Hp)(S:SA)(v d:Addr)(b y m n:Int)(kvs:List (List Ef×V))(e:Nat)(sm:PL)(ts:List Int):Prop:=
 ∃dx q,H v=some (.ins a.ZC dx (BC S.p q d n (e:Int)))/\BH H q b y m/\H d=some (.dT kvs)/\WS H kvs sm b y m (ts.drop e)/\v∉S.p::S.own/\d∉S.p::S.own
section
variable{a:Ad}{H H':Hp}{S:SA}{v d:Addr}{b y m n:Int}{kvs:List (List Ef×V)}{e:Nat}{sm:PL}{ts:List Int}
theorem GX.frL(h:GX a H S v d b y m n kvs e sm ts){l:List Addr}(f:GD l H H')(M:v∉l)(nd:d∉l)(nt:∀b∈l,∀xs,H b≠some (.tup xs)):GX a H' S v d b y m n kvs e sm ts:=by
 obtain⟨dx,q,h1,h2,L,J,F⟩:=h;have B:∀b xs,H b=some (.tup xs)->H' b=some (.tup xs):=fun b xs e=>f _ _ e fun z=>nt b z xs e;exact⟨dx,q,f _ _ h1 M,⟨B _ _ h2.1,h2.2⟩,f _ _ L nd,J.tups B,F⟩
theorem GX.same(h:GX a H S v d b y m n kvs e sm ts)(s:ET H H'):GX a H' S v d b y m n kvs e sm ts:=h.frL (l:=[]) (GD.same s) (by simp) (by simp) (by simp)
theorem GX.ne(h:GX a H S v d b y m n kvs e sm ts):v≠d:=fun z=>by
 obtain⟨dx,q,h1,h2,B,_⟩:=h;rw[z,B] at h1;cases h1
theorem GX.noTup(h:GX a H S v d b y m n kvs e sm ts):∀b∈[v,d],∀xs,H b≠some (.tup xs):=by
 obtain⟨dx,q,h1,h2,F,_⟩:=h;intro b B xs e;simp only[Ud,Us,or_false] at B;rcases B with rfl|rfl
 ·rw[h1] at e;cases e
 ·rw[F] at e;cases e
end
theorem eX{H:Hp}{q:Addr}{b y m:Int}(h:BH H q b y m):y<=2199023255552:=by
 obtain⟨_,J,h1,h2,F,B⟩:=h;have:0<=(m-1)*y:=Int.mul_nonneg (by omega) (by omega);rw[Int.sub_mul,Int.one_mul] at this;unfold InT at F B;omega
theorem eY(xs:List V)(e:Nat):AN xs (some (e:Int)) none=xs.drop e:=by
 unfold AN;rw[_H.sIx_nat,_H.sIx_none];by_cases h:e<=xs.length
 ·rw[Nat.min_eq_left h,Vp (by rw[List.length_drop];exact Ue _)]
 ·rw[Nat.min_eq_right (by omega),List.drop_length,List.take_nil,Vh (by omega)]
theorem col_of{b y m x z t:Int}(L:0<y)(h:Sf b y m x z)(h1:x<=t)(h2:t<z):0<=(t-b) / y/\(t-b) / y<m/\x=b+(t-b) / y*y/\z=b+(t-b) / y*y+y:=by
 obtain⟨k,F,M,rfl,rfl⟩:=h
 have J:(t-b) / y=k:=by
  have B:=Int.mul_ediv_add_emod (t-b) y;have O:=Int.emod_nonneg (t-b) (by omega:y≠0);have Y:=Int.emod_lt_of_pos (t-b) L;generalize (t-b) / y=c at B;rw[Int.mul_comm] at B;rcases Int.lt_trichotomy c k with h|h|h
  ·have:=UT (show c+1<=k by omega) (show 0<=y by omega);rw[Int.add_mul,Int.one_mul] at this;omega
  ·exact h
  ·have:=UT (show k+1<=c by omega) (show 0<=y by omega);rw[Int.add_mul,Int.one_mul] at this;omega
 rw[J];exact⟨F,M,rfl,rfl⟩
theorem rT{b y t:Int}(B:0<y):b+(t-b) / y*y<=t/\t<b+(t-b) / y*y+y:=by
 have F:=Int.mul_ediv_add_emod (t-b) y;have J:=Int.emod_nonneg (t-b) (by omega:y≠0);have L:=Int.emod_lt_of_pos (t-b) B;rw[Int.mul_comm] at F;omega
theorem eZ{kvs:List (List Ef×V)}{x z x' B:Int}:has (BD kvs (kx x z)) x' B=(!decide (x'=x/\B=z)&&has kvs x' B):=by
 unfold has;rw[La];by_cases e:kx x' B=kx x z
 ·rw[if_pos e,decide_eq_true (XY e)];rfl
 ·rw[if_neg e,decide_eq_false (fun h=>e (by rw[h.1,h.2]))];rfl
def AC(bad:List Int)(x z:Int):Prop:=∃t∈bad,x<=t/\t<z
def wg(a:Ad)(S:SA)(v d:Addr)(b y m k n:Int)(kvs:List (List Ef×V))(e:Nat)(sm:PL)(c:Nat)(ds:List (Int×Option Int))(ts:List Int)(ws:List V):Sp:=fun vs H Q _=>vs=[.ref v]/\EV a H S n sm c ds ts ws/\GX a H S v d b y m k kvs e sm ts/\ts.length<=10000/\
 ∀kvs' H',GX a H' S v d b y m k kvs' ts.length sm ts->EV a H' S n sm c ds ts ws->(∀x z,has kvs' x z=true↔has kvs x z=true/\¬AC (ts.drop e) x z)->kvs'.length<=kvs.length->GD [v,d] H H'->Q .non H'
def ei(a:Ad):Sp:=fun vs H Q E=>∃S v d b y m k n kvs e sm c ds ts ws,wg a S v d b y m k n kvs e sm c ds ts ws vs H Q E
section
local macro_rules|`(tactic|walk_at "rd")=>`(tactic|walk_at " ZD,Zk,KU ZD,ZH,Ck ZD,Z1,Lb ZD,ZZ,Lc ZD,YH,xY gv")
theorem Cm:Eo ["self","times","t","k"] ["self"] (EU FX):=Es
theorem Ip(T:Txt K mg a):Ec P w K mg base Ew 3 a.Yb a.YX ["self"] (ei a):=by
 refine T.MZ.ok Cm fun b7 A a5 s H vs Q E hr h=>?_
 ·obtain⟨S,v,d,b,y,m,k,n,kvs,e,sm,c,ds,ts,ws,rfl,hS,hV,a7,kk⟩:=h;have hu:=Dc hr;obtain⟨dx,q,hv,Y,hd,hk,av,ad⟩:=id hV;obtain⟨sx,b0,sp,_⟩:=id hS;have hy:=Y.2.1;have b6:=eX Y;have O:=hV.ne;refine⟨_,QB.h (EQ (Gb (i:=1) Cm.nd (BB (Eu K rfl (qv 0)) T.ZE T.MT (zK T) hr.m T.Mh .nil GK)) (EQ (DU PassesOwn.never rfl (HG K rfl (Ss (ui K rfl) (qv 1) (Xu (Eu K rfl (qv 0))) Xt)) (GN (i:=2) Cm.nd) (EQ (Gb (i:=3) Cm.nd (GE (xV T) hr.m T.Nq T.RR.kp T.Nw (EN (Eu K rfl (qv 0)) (EN (qv 2) EO)))) (ES (GO (Ee (Ln) (qv 3) Gk (Ej _)) (ES (Et (dr hu (Eu K rfl (qv 0)) (GE (Sa T) hr T.TR T.Jw.kp T.TM (EN (Eu K rfl (qv 0)) (EN (qv 3) EO))) Gk))) GC)))) (ES (Dt K rfl (qv 0) (Ey (Cw K rfl) rfl T.Zf CO (EN (qv 1) EO)))))),?_⟩;walk_at "s";walk_at "w";refine En sp Du ?_;refine⟨S,n,sm,c,ds,ts,ws,rfl,hS,fun u H1 f1 S1=>?_⟩;have a8:=S1 _ _ hv;walk_at "w";refine yz f1 fun u2 H2 f2 S2=>?_;rw[eY,<- List.map_drop] at f2;have S02:=S1.trans S2;have a0:=S02 _ _ hv;have Z:=S2 _ _ f1;have a1:BH H2 q b y m:=⟨S02 _ _ Y.1,Y.2⟩;have M:∀ {e:Addr} {xs:List V},H2 e=some (.tup xs)->e≠d:=fun g z=>by rw[z,S02 _ _ hd] at g;cases g
  walk_at "w";refine IX (xs:=(ts.drop e).map V.int) (fun i U H'=>(∃v2 v3,U=[some (.ref v),some (.ref u),v2,v3])/\Kp d H2 H'/\∃B,H' d=some (.dT B)/\B.length<=kvs.length/\(∀x z w,GH B (kx x z)=some w->GH kvs (kx x z)=some w)/\∀x z,has B x z=true↔has kvs x z=true/\¬AC ((ts.drop e).take i) x z) ?_ ?_ ?_ ?_
  ·exact⟨⟨_,_,rfl⟩,fun _ _ e _=>e,kvs,S02 _ _ hd,Ue _,fun _ _ _ h=>h,fun x z=>⟨fun h=>⟨h,fun⟨t,ht,_⟩=>by rw[List.take_zero] at ht;cases ht⟩,fun h=>h.1⟩⟩
  ·rintro i U H3 _ ⟨_,K3,_⟩;exact GF.of (K3 _ _ f2 (M f2))
  ·rintro i x U H3 hx ⟨⟨v2,v3,rfl⟩,K3,B,f3,L,J,F⟩;rw[UC] at hx;obtain⟨t,ht,rfl⟩:=Vn.mp hx;have a3:=K3 _ _ a0 O;have a4:=K3 _ _ a1.1 (M a1.1)
   have a2:∀x z,AC ((ts.drop e).take (i+1)) x z↔AC ((ts.drop e).take i) x z\/(x<=t/\t<z):=fun x z=>by
    unfold AC;rw[UR,ht];constructor
    ·rintro⟨t',h1,h2⟩;rcases Uu.mp h1 with h1|h1
     ·exact .inl ⟨t',h1,h2⟩
     ·obtain rfl:t'=t:=by simpa using h1
      exact .inr h2
    ·rintro(⟨t',h1,h2⟩|h)
     ·exact⟨t',UV _ h1,h2⟩
     ·exact⟨t,Uv _ (by simp),h⟩
   walk_at "w";refine⟨q,b,y,m,t,rfl,a4,hy,by omega,?_⟩;walk_at "w";unfold xU;by_cases hc:0<=(t-b) / y/\(t-b) / y<m
   ·rw[if_pos hc];walk_at "w";refine AF (fun _=>?_) (fun h=>by cases h);walk_at "w";refine gw f3 ?_;walk_at "w";refine⟨q,b,y,m,_,rfl,a4,hc.1,hc.2,by have:=Y.2.2.2.1;omega,fun u4 H4 n4 f4 S4=>?_⟩;walk_at "w";refine du (k:=kx (b+(t-b) / y*y) (b+(t-b) / y*y+y)) (S4 _ _ f3) f4 fun w5 H5 f5 K5=>?_;walk_at "w";refine⟨⟨_,_,rfl⟩,(K3.then S4).trans K5,_,f5,Uz (UL _ _) L,fun x z w h=>?_,fun x z=>?_⟩
    ·rw[La] at h;split at h
     ·cases h
     ·exact J _ _ _ h
    ·rw[eZ,a2,UN,F];have a6:=rT (b:=b) (t:=t) hy;constructor
     ·rintro⟨h1,h2,h3⟩;refine⟨h2,fun h=>?_⟩;rcases h with h|h
      ·exact h3 h
      ·obtain⟨w,hw⟩:=Va.mp h2;obtain⟨_,_,e1,e2⟩:=col_of hy (hk _ _ _ hw).1 h.1 h.2;rw[decide_eq_true ⟨e1,e2⟩] at h1;cases h1
     ·rintro⟨h1,h2⟩;refine⟨?_,h1,fun h=>h2 (.inl h)⟩;rw[decide_eq_false (fun h=>h2 (.inr (by rw[h.1,h.2];exact a6)))];rfl
   ·rw[if_neg hc];walk_at "w";refine AF (fun h=>absurd rfl h) (fun _=>?_);walk_at "w";refine⟨⟨_,_,rfl⟩,K3,_,f3,L,J,fun x z=>?_⟩;rw[a2,F];refine and_congr_right fun h1=>not_congr ⟨.inl,fun h=>?_⟩;rcases h with h|h
    ·exact h
    ·obtain⟨w,hw⟩:=Va.mp h1;obtain⟨e1,e2,_⟩:=col_of hy (hk _ _ _ hw).1 h.1 h.2;exact absurd ⟨e1,e2⟩ hc
  ·rintro U H3 ⟨⟨v2,v3,rfl⟩,K3,B,f3,L,J,F⟩;rw[Ug,UP] at F;have a3:=K3 _ _ a0 O;have a9:=K3 _ _ Z (M Z);walk_at "w";refine DY a3 T.ZD T.YH (by show 5<1000;decide) fun H4 f4 K4=>?_;rw[eW,Ug] at f4;have F02:GD [v,d] H H4:=((GD.same S02).trans (GD.kp K3 (by simp))).trans (GD.kp K4 (by simp));have kt:∀b xs,H b=some (.tup xs)->H4 b=some (.tup xs):=fun b xs e=>F02 _ _ e fun z=>hV.noTup b z xs e
   have hF:∀x z u,GH B (kx x z)=some u->Sf b y m x z/\Hf H sm x z u:=fun x z u h=>by
    obtain⟨h1,h2⟩:=hk _ _ _ (J _ _ _ h);refine⟨h1,h2.resolve_left fun hh=>?_⟩;exact((F x z).mp (Hg h)).2 hh
   walk_at "w";refine kk B H4 ⟨dx,q,f4,⟨kt _ _ Y.1,Y.2⟩,K4 _ _ f3 (Ne.symm O),fun x z u h=>⟨(hF x z u h).1,.inr ((hF x z u h).2.tups kt)⟩,av,ad⟩ (hS.frL F02 (fun b hb=>?_) hV.noTup) F L F02;simp only[Ud,Us,or_false] at hb;rcases hb with rfl|rfl
   ·exact av
   ·exact ad
end
def FZ(kvs:List (List Ef×V))(b y:Int)(N:Nat):Nat:=((FH b y N).filter fun p=>!has kvs p.1 p.2).length
theorem aW(kvs:List (List Ef×V))(b y:Int)(i:Nat):FZ kvs b y (i+1)=FZ kvs b y i+if has kvs (b+(i:Int)*y) (b+(i:Int)*y+y)=true then 0 else 1:=by
 unfold FZ;rw[XU,List.filter_append,UD];congr 1
 cases hh:has kvs (b+(i:Int)*y) (b+(i:Int)*y+y) with
 |true=>rw[List.filter_cons_of_neg (by simp[hh])];rfl
 |false=>rw[List.filter_cons_of_pos (by simp[hh])];rfl
def wj(a:Ad)(S:SA)(v d:Addr)(b y m k n:Int)(kvs:List (List Ef×V))(e:Nat)(sm:PL)(c:Nat)(ds:List (Int×Option Int))(ts:List Int)(ws:List V):Sp:=fun vs H Q _=>vs=[.ref v]/\EV a H S n sm c ds ts ws/\GX a H S v d b y m k kvs e sm ts/\ts.length<=10000/\kvs.length<=100000/\
 ∀(u:Addr) (us:List V) (fs:List (Option (PL))) (kvs1 kvs':List (List Ef×V)) (n':Int) (H':Hp),H' u=some (.tup us)->GT H' us fs->Ah sm b y m.toNat fs->(∀x z,has kvs1 x z=true↔has kvs x z=true/\¬AC (ts.drop e) x z) ->
  GX a H' S v d b y m (k+(FZ kvs1 b y m.toNat:Int)) kvs' ts.length sm ts->EV a H' S n' sm c ds ts ws->(∀x z,Sf b y m x z->has kvs' x z=true)->kvs'.length<=kvs.length+m.toNat->GD [v,d,S.tr] H H'->Q (.ref u) H'
def er(a:Ad):Sp:=fun vs H Q E=>∃S v d b y m k n kvs e sm c ds ts ws,wj a S v d b y m k n kvs e sm c ds ts ws vs H Q E
section
local macro_rules|`(tactic|walk_at "rd")=>`(tactic|walk_at " ZD,Zk,KU ZD,ZH,Ck ZD,Z1,Lb ZD,ZZ,Lc ZD,YH,xY")
theorem AL:Eo ["self","columns","first","behind"] ["self"] (EU Ak):=Es
set_option tactic.hygienic true in
theorem Ko(T:Txt K mg a):Ec P w K mg base Ew 7 a.Yn a.Yl ["self"] (er a):=by
 refine T.Mp.ok AL fun h6 A e4 s H vs Q E hr h=>?_
 ·obtain⟨S,v,d,b,y,m,k,n,kvs,e,sm,c,ds,ts,ws,rfl,hS,hV,c6,g7,kk⟩:=h;have hu:=Dc hr;obtain⟨dx,q,hv,hW,hd,hk,av,ad⟩:=id hV;have d9:=hV.ne;have c0:S.tr∈S.p::S.own:=by simp[SA.own]
  have g0:v≠S.tr:=fun z=>av (z ▸ c0);have e8:d≠S.tr:=fun z=>ad (z ▸ c0)
  have apart:∀b∈[v,d],b∉S.p::S.own:=fun b L=>by
   simp only[Ud,Us,or_false] at L;rcases L with rfl|rfl
   ·exact av
   ·exact ad
  refine⟨_,QB.h (EQ (Et (BB (qv 0) T.ZD T.J7 (Ip T) hr.m T.QD .nil GK)) (EQ (Gb (i:=1) AL.nd (GE (AJ T) hr.m T.Zx T.Za.kp T.Z4 (EN (Eu K rfl (qv 0)) EO))) (EQ (DU PassesOwn.never rfl (DX K rfl (qv 1)) (Gm (n:=2) K rfl rfl (EY (GN (i:=2) AL.nd) (EY (GN (i:=3) AL.nd) GW))) (ES (GO (Ee (KH hu) (GB (EN (qv 2) (EN (qv 3) EO))) (Eu K rfl (qv 0)) (by with_unfolding_all rfl)) (EQ (Dz hu (GQ (Eu K rfl (qv 0)) T.ZE T.NB (qg T) hr T.Mq .nil GK (EN (qv 2) (EN (qv 3) EO))) (Eu K rfl (qv 0)) (GB (EN (qv 2) (EN (qv 3) EO)))) (ES (zn K rfl (qv 0) ER))) GC))) (ES (Ea (Gy (Dq K rfl) rfl T.ZI Dp (EN (Dg (N:=["self","columns","first","behind"]) (sc:=EU Ak) (own:=["times"]) (caps:=["self"]) (ks:=[0]) rfl rfl rfl ⟨rfl,by decide +kernel,by decide +kernel,by decide +kernel,by decide +kernel,rfl,by decide +kernel⟩ (DX K rfl (qv 1)) (fun _ _ _ _ _=>Ge (i:=0) (show List.Nodup (α:=Str) ["times","self"] from by decide +kernel) rfl (by walk_at "o") (.inr rfl)) (fun _ _ _ _ _=>Df) (fun _ _ _ _ _=>DI hu (Eu K rfl (qv 1)) (qv 0))) EO))))))),?_⟩;walk_at "s";walk_at "w";refine En hv CB ?_;refine⟨S,v,d,b,y,m,k,n,kvs,e,sm,c,ds,ts,ws,rfl,hS,hV,c6,fun B H1 c4 d1 f0 h9 F1=>?_⟩;obtain⟨h3,q1,g1,c9,g3,h4,_⟩:=id c4;obtain⟨f3,hy,e9,g8,L,he⟩:=id c9;walk_at "w";refine⟨q1,b,y,m,rfl,f3,e9,by omega,fun l a6 H2 n2 f2 c1 S2=>?_⟩;have a4:a6.length=m.toNat:=by rw[c1.length,CZ]
  have d8:l∉[v,d,S.tr]:=fun z=>by
   simp only[Ud,Us,or_false] at z;obtain⟨o,ho⟩:=d1.live _ c0;rcases z with rfl|rfl|rfl
   ·rw[g1] at n2;cases n2
   ·rw[g3] at n2;cases n2
   ·rw[ho] at n2;cases n2
  have a9:=c4.same S2;have c7:=d1.same S2
  have c5:∀b∈[v,d,S.tr],∀xs,H2 b≠some (.tup xs):=fun b L xs=>by
   simp only[Ud,Us,or_false] at L;rcases L with rfl|rfl|rfl
   ·exact a9.noTup _ (by simp) xs
   ·exact a9.noTup _ (by simp) xs
   ·exact c7.noTup _ (by simp[SA.own]) xs
  walk_at "w"
  refine AY (xs:=a6) (fun i U H'=>(∃v2 v3,U=[some (.ref v),some (.ref l),v2,v3])/\GD [v,d,S.tr] H2 H'/\∃F n',GX a H' S v d b y m (k+(FZ B b y i:Int)) F ts.length sm ts/\EV a H' S n' sm c ds ts ws/\F.length<=B.length+i/\
   ∀x z,has F x z=true↔has B x z=true\/∃j:Nat,j<i/\x=b+(j:Int)*y/\z=b+(j:Int)*y+y) ?_ ?_ ?_ ?_
  ·refine⟨⟨_,_,rfl⟩,fun _ _ e _=>e,B,n,?_,c7,Ue _,fun x z=>⟨.inl,fun h=>h.resolve_right fun⟨j,hj,_⟩=>by omega⟩⟩;rw[show FZ B b y 0=0 from rfl];simpa using a9
  ·rintro i U H3 _ ⟨_,F3,_⟩;exact Eh.of (F3 _ _ f2 d8)
  ·rintro i x U H3 hx ⟨⟨v2,v3,rfl⟩,F3,F,n3,Y,O,d2,M⟩;obtain⟨cc,pq,rfl,f1,hc⟩:=c1.at hx;have h7:i<m.toNat:=by rw[<- a4];exact(Ui.mp hx).1
   obtain rfl:=Hd f1;have g9:=F3 _ _ hc fun z=>c5 _ z _ hc;obtain⟨w1,w2⟩:=c9.col (k:=(i:Int)) (by omega) (by omega);obtain⟨J,q3,b6,b0,b7,a0,_⟩:=id Y;have a8:=aW B b y i
   have g4:∀j:Nat,j<i->¬(b+(i:Int)*y=b+(j:Int)*y/\b+(i:Int)*y+y=b+(j:Int)*y+y):=fun j hj z=>by
    have h1:(i:Int)*y=(j:Int)*y:=by omega
    have:=Int.eq_of_mul_eq_mul_right (by omega) h1;omega
   have a1:Sf b y m (b+(i:Int)*y) (b+(i:Int)*y+y):=⟨i,by omega,by omega,rfl,rfl⟩
   have Z:∀x z,(∃j:Nat,j<i+1/\x=b+(j:Int)*y/\z=b+(j:Int)*y+y)↔(∃j:Nat,j<i/\x=b+(j:Int)*y/\z=b+(j:Int)*y+y)\/(x=b+(i:Int)*y/\z=b+(i:Int)*y+y):=fun x z=>by
    constructor
    ·rintro⟨j,hj,e1,e2⟩;by_cases ej:j=i
     ·subst ej;exact .inr ⟨e1,e2⟩
     ·exact .inl ⟨j,by omega,e1,e2⟩
    ·rintro(⟨j,hj,e⟩|e)
     ·exact⟨j,by omega,e⟩
     ·exact⟨i,by omega,e⟩
   generalize b+(i:Int)*y=X at *;have g2:(2:Nat)<=sizeLine:=by decide
   walk_at "w";refine Eg g2 fun u4 H4 n4 f4 S4=>?_;have e6:=S4 _ _ b6;have c2:=S4 _ _ b7;walk_at "w";refine wN (k:=kx X (X+y)) c2 f4 ?_
   cases hkx:GH F (kx X (X+y)) with
   |some w=>
    walk_at "w";refine GV ?_;walk_at "w";have hh:has B X (X+y)=true:=((M _ _).mp (Hg hkx)).resolve_right fun⟨j,hj,e⟩=>g4 j hj e;rw[if_pos hh] at a8;refine⟨⟨_,_,rfl⟩,F3.trans (GD.same S4),F,n3,?_,O.same S4,by omega,fun x z=>?_⟩
    ·rw[a8];exact Y.same S4
    ·rw[M,Z];constructor
     ·rintro(h|h)
      ·exact .inl h
      ·exact .inr (.inl h)
     ·rintro(h|h|⟨rfl,rfl⟩)
      ·exact .inl h
      ·exact .inr h
      ·exact .inl hh
   |none=>
    obtain⟨sx,h8,sp,_⟩:=id (O.same S4);walk_at "w";refine DD ?_;walk_at "w";refine En sp Du ?_;walk_at "w";refine⟨S,n3,_,_,sm,c,ds,ts,ws,rfl,O.same S4,w1,w2,fun v5 o5 n5 H5 h5 g5 e5 K5=>?_⟩;have e3:=K5 _ _ e6 g0;have b8:=K5 _ _ c2 e8;walk_at "w";refine Eg g2 fun u6 H6 n6 f6 S6=>?_;have c8:=S6 _ _ b8;have d7:=S6 _ _ e3;walk_at "w";refine HK (k:=kx X (X+y)) c8 f6 (by show _<2 ^ 24;omega) fun H7 f7 K7=>?_;have d5:=K7 _ _ d7 d9;walk_at "w";refine XH d5 T.ZD T.Z1 Lb ?_;walk_at "w";refine⟨_,_,rfl,rfl,J,_,d5,by show 5<1000;decide,?_⟩;rw[eU]
    have hh:¬has B X (X+y)=true:=fun h=>by
     have:=(M X (X+y)).mpr (.inl h);rw[Hh hkx] at this;cases this
    rw[if_neg hh] at a8;have f8:(upd H7 v (.ins a.ZC J (BC S.p q3 d (k+(FZ B b y i:Int)+1) (ts.length:Int)))) v=some (.ins a.ZC J (BC S.p q3 d (k+(FZ B b y i:Int)+1) (ts.length:Int))):=EW;have K8:Kp v H7 (upd H7 v (.ins a.ZC J (BC S.p q3 d (k+(FZ B b y i:Int)+1) (ts.length:Int)))):=Kp.upd;generalize upd H7 v (.ins a.ZC J (BC S.p q3 d (k+(FZ B b y i:Int)+1) (ts.length:Int)))=H8 at f8 K8 ⊢;have F68:GD [v,d] H6 H8:=(GD.kp K7 (by simp)).trans (GD.kp K8 (by simp));have F38:GD [v,d,S.tr] H3 H8:=(((GD.same S4).trans (GD.kp K5 (by simp))).trans (GD.same S6)).trans (F68.mono fun b L=>by simp only[Ud,Us,or_false] at L ⊢;rcases L with h|h<;>simp[h])
    have e0:∀b∈[v,d],∀xs,H6 b≠some (.tup xs):=fun b L xs z=>by
     simp only[Ud,Us,or_false] at L;rcases L with rfl|rfl
     ·rw[d7] at z;cases z
     ·rw[c8] at z;cases z
    have d6:∀b xs,H6 b=some (.tup xs)->H8 b=some (.tup xs):=fun b xs e=>F68 _ _ e fun z=>e0 b z xs e;have d4:∀b xs,H3 b=some (.tup xs)->H8 b=some (.tup xs):=fun b xs e=>d6 _ _ (S6 _ _ (K5 _ _ (S4 _ _ e) fun z=>O.noTup b (by rw[z];simp[SA.own]) xs e));have ek:(k+(FZ B b y (i+1):Int))=k+(FZ B b y i:Int)+1:=by omega
    walk_at "w";refine⟨⟨_,_,rfl⟩,F3.trans F38,_,n5,⟨J,q3,by rw[ek];exact f8,⟨d4 _ _ b0.1,b0.2⟩,K8 _ _ f7 (Ne.symm d9),fun x z u h=>?_,av,ad⟩,(e5.same S6).frL F68 apart e0,?_,fun x z=>?_⟩
    ·rw[Aw] at h;split at h
     ·rename_i e
      obtain⟨rfl,rfl⟩:=XY e;cases h;exact⟨a1,.inr ⟨o5,(h5.tups fun b xs e=>S6 _ _ e).tups d6,g5⟩⟩
     ·exact⟨(a0 _ _ _ h).1,(a0 _ _ _ h).2.imp id fun g=>g.tups d4⟩
    ·have:=CF F (kx X (X+y)) v5;omega
    ·rw[vD,Bool.or_eq_true,decide_eq_true_iff,M,Z];constructor
     ·rintro(h|h|h)
      ·exact .inr (.inr h)
      ·exact .inl h
      ·exact .inr (.inl h)
     ·rintro(h|h|h)
      ·exact .inr (.inl h)
      ·exact .inr (.inr h)
      ·exact .inl h
  ·rintro U H3 ⟨⟨v2,v3,rfl⟩,F3,F,n3,Y,O,d2,M⟩;rw[a4] at Y d2 M
   have a5:∀x z,Sf b y m x z->has F x z=true:=fun x z h=>by
    obtain⟨j,h0,h1,e1,e2⟩:=h;exact(M x z).mpr (.inr ⟨j.toNat,by omega,by rw[Int.toNat_of_nonneg h0];exact e1,by rw[Int.toNat_of_nonneg h0];exact e2⟩)
   have d3:=F3 _ _ f2 d8;obtain⟨J,q3,b6,b0,b7,a0,_⟩:=id Y;rw[List.drop_length] at a0;walk_at "w";intro l2 n4;refine Gw m.toNat (fun i U' H'=>(∃o1,U'=[o1,some (.ref v)])/\ET H3 H'/\∃vs fs,H' l2=some (.lst vs)/\GT H' vs fs/\fs.length=i/\∀(k:Nat) o,fs[k]? = some o->Is4 (inCol sm (b+(k:Int)*y) (b+(k:Int)*y+y)) o) ?_ ?_ ?_
   ·exact⟨⟨none,rfl⟩,ET.new n4,[],[],EW,.nil,rfl,fun k o h=>by simp at h⟩
   ·rintro U' H5 ⟨_,S5,vs,fs,f5,a3,a2,b9⟩;refine⟨⟨_,Eh.of (S5 _ _ d3),by rw[a4];exact Ue _⟩,?_⟩;walk_at "w";refine BJ (Eh.of f5) fun u H6 n6 f6 S6=>?_;have S36:=S5.trans S6;refine kk u vs fs B F n3 H6 f6 (a3.same S6) ⟨a2,b9⟩ f0 (Y.same S36) (O.same S36) a5 (by omega) ?_;exact(((F1.mono fun b L=>by simp only[Ud,Us,or_false] at L ⊢;rcases L with h|h<;>simp[h]).trans (GD.same S2)).trans F3).trans (GD.same S36)
   ·rintro i U' H5 hi ⟨⟨o1,rfl⟩,S5,vs,fs,f5,a3,a2,b9⟩;have f9:i<a6.length:=by rw[a4];exact hi
    have c3:=S5 _ _ d3;refine⟨⟨_,_,Eh.of c3,Ub f9⟩,?_⟩;rintro x H'' ⟨rfl,hx⟩;have hx:=hx _ (Eh.of c3);obtain⟨u,pr,rfl,a7,f6⟩:=c1.at hx;have a7:=Hd a7;subst a7;have e7:=S5 _ _ (F3 _ _ f6 fun z=>c5 _ z _ f6);have e3:=S5 _ _ b6;have b8:=S5 _ _ b7;have a1:Sf b y m (b+(i:Int)*y) (b+(i:Int)*y+y):=⟨i,by omega,by omega,rfl,rfl⟩;obtain⟨w,hw⟩:=Va.mp (a5 _ _ a1);obtain⟨o6,g6,i6⟩:=((a0 _ _ _ hw).2.resolve_left fun⟨t,ht,_⟩=>by cases ht).tups (H':=H'') fun b xs e=>S5 _ _ e;walk_at "w";refine DD ?_;walk_at "w";refine⟨d,w,rfl,by rw[<- hw];exact DV.t (k:=kx (b+(i:Int)*y) (b+(i:Int)*y+y)) b8 e7,?_⟩;refine⟨vs,f5,?_,⟨_,rfl⟩,S5.kpN n4 Kp.upd,vs ++ [w],fs ++ [o6],EW,(a3.snoc g6).mapP fun _ _ d=>d.kpL Kp.upd f5,by simp[a2],?_⟩
    ·rw[a3.len,a2];exact Uh (show i<100 by omega) (by decide)
    ·intro k' o' h';rw[List.getElem?_append] at h';split at h'
     ·exact b9 k' o' h'
     ·have:k'=i:=by
       have:=(Ui.mp h').1;simp at this;omega
      subst this;rw[a2,Nat.sub_self] at h';have:o6=o':=by simpa using h'
      subst this;exact i6
end
def xZ(b y m:Int):Prop:=0<y/\1<=m/\m<=100/\InT b/\InT (b+m*y)
def aX(a:Ad)(S:SA)(p dx q:Addr)(b y m n:Int)(sm:PL)(c:Nat)(ds:List (Int×Option Int))(ts:List Int)(ws:List V):Sp:=fun vs H Q _=>vs=[.ref p,.ref S.p,.ref q]/\H p=some (.ins a.ZC dx [])/\EV a H S n sm c ds ts ws/\BH H q b y m/\p∉S.p::S.own/\
 ∀d H',H d=none->GX a H' S p d b y m 0 [] 0 sm ts->EV a H' S n sm c ds ts ws->Kp p H H'->Q .non H'
def mJ(a:Ad):Sp:=fun vs H Q E=>∃S p dx q b y m n sm c ds ts ws,aX a S p dx q b y m n sm c ds ts ws vs H Q E
def Fp(a:Ad)(H:Hp)(S:SA)(v d:Addr)(k n:Int)(kvs:List (List Ef×V))(e:Nat)(sm:PL)(c:Nat)(ds:List (Int×Option Int))(ts:List Int)(ws:List V)(b' y' m':Int)(Q:VK):Prop:=
 ∀(d':Addr) (kvs1 kvs':List (List Ef×V)) (H':Hp),H d'=none->(∀x z,has kvs1 x z=true↔has kvs x z=true/\¬AC (ts.drop e) x z)->(∀x z,Sf b' y' m' x z->(has kvs' x z=true↔xX kvs1 x z))->kvs'.length<=m'.toNat ->
  GX a H' S v d' b' y' m' k kvs' ts.length sm ts->EV a H' S n sm c ds ts ws->GD [v,d] H H'->Q .non H'
theorem Fp.at{a:Ad}{H H1:Hp}{S:SA}{v d:Addr}{k n:Int}{kvs:List (List Ef×V)}{e:Nat}{sm:PL}{c:Nat}{ds:List (Int×Option Int)}{ts:List Int}{ws:List V}{J L m':Int}{Q:VK}(h:Fp a H S v d k n kvs e sm c ds ts ws J L m' Q)(s:ET H H1):Fp a H1 S v d k n kvs e sm c ds ts ws J L m' Q:=
 fun d' F B H' n' h1 h2 O Y M f=>h d' F B H' (Bc s n') h1 h2 O Y M ((GD.same s).trans f)
def wk(a:Ad)(S:SA)(v d q:Addr)(b y m k n b' y' m':Int)(kvs:List (List Ef×V))(e:Nat)(sm:PL)(c:Nat)(ds:List (Int×Option Int))(ts:List Int)(ws:List V):Sp:=fun vs H Q _=>vs=[.ref v,.ref q]/\EV a H S n sm c ds ts ws/\GX a H S v d b y m k kvs e sm ts/\ts.length<=10000/\BH H q b' y' m'/\
 Fp a H S v d k n kvs e sm c ds ts ws b' y' m' Q
def et(a:Ad):Sp:=fun vs H Q E=>∃S v d q b y m k n b' y' m' kvs e sm c ds ts ws,wk a S v d q b y m k n b' y' m' kvs e sm c ds ts ws vs H Q E
def mK(a:Ad)(S:SA)(v d:Addr)(b y m k n j:Int)(kvs:List (List Ef×V))(e:Nat)(sm:PL)(c:Nat)(ds:List (Int×Option Int))(ts:List Int)(ws:List V):Sp:=fun vs H Q _=>vs=[.ref v,.int j]/\EV a H S n sm c ds ts ws/\GX a H S v d b y m k kvs e sm ts/\ts.length<=10000/\IntMulOk j y/\xZ (b+j*y) y m/\
 Fp a H S v d k n kvs e sm c ds ts ws (b+j*y) y m Q
def sj(a:Ad):Sp:=fun vs H Q E=>∃S v d b y m k n j kvs e sm c ds ts ws,mK a S v d b y m k n j kvs e sm c ds ts ws vs H Q E
def aY(a:Ad)(S:SA)(v d:Addr)(b y m k n:Int)(kvs:List (List Ef×V))(e:Nat)(sm:PL)(c:Nat)(ds:List (Int×Option Int))(ts:List Int)(ws:List V):Sp:=fun vs H Q _=>vs=[.ref v]/\EV a H S n sm c ds ts ws/\GX a H S v d b y m k kvs e sm ts/\ts.length<=10000/\xZ b (y*2) m/\
 Fp a H S v d k n kvs e sm c ds ts ws b (y*2) m Q
def mL(a:Ad):Sp:=fun vs H Q E=>∃S v d b y m k n kvs e sm c ds ts ws,aY a S v d b y m k n kvs e sm c ds ts ws vs H Q E
def uJ(a:Ad)(S:SA)(v d:Addr)(b y m k n:Int)(kvs:List (List Ef×V))(e:Nat)(sm:PL)(c:Nat)(ds:List (Int×Option Int))(ts:List Int)(ws:List V):Sp:=fun vs H Q _=>vs=[.ref v]/\EV a H S n sm c ds ts ws/\GX a H S v d b y m k kvs e sm ts/\ts.length<=10000/\y % 2=0/\xZ b (y / 2) m/\
 Fp a H S v d k n kvs e sm c ds ts ws b (y / 2) m Q
def aZ(a:Ad):Sp:=fun vs H Q E=>∃S v d b y m k n kvs e sm c ds ts ws,uJ a S v d b y m k n kvs e sm c ds ts ws vs H Q E
def aa(a:Ad)(S:SA)(v d:Addr)(b y m k n j:Int)(kvs:List (List Ef×V))(e:Nat)(sm:PL)(c:Nat)(ds:List (Int×Option Int))(ts:List Int)(ws:List V):Sp:=fun vs H Q _=>vs=[.ref v,.int j]/\EV a H S n sm c ds ts ws/\GX a H S v d b y m k kvs e sm ts/\ts.length<=10000/\xZ b y j/\
 Fp a H S v d k n kvs e sm c ds ts ws b y j Q
def mM(a:Ad):Sp:=fun vs H Q E=>∃S v d b y m k n j kvs e sm c ds ts ws,aa a S v d b y m k n j kvs e sm c ds ts ws vs H Q E
section
local macro_rules|`(tactic|walk_at "rd")=>`(tactic|walk_at " ZD,Zk,KU ZD,ZH,Ck ZD,ZZ,Lc")
theorem WT(T:Txt K mg a):Ec P w K mg base Ew 5 a.Z5 a.Zw ["self","store","window"] (mJ a):=by
 refine T.TN.ok (N:=["self","store","window"]) Es fun _ _ _ s H vs Q E hr h=>?_
 ·obtain⟨S,p,dx,q,b,y,m,n,sm,c,ds,ts,ws,rfl,hp,Y,hW,ap,kk⟩:=h;obtain⟨L,hy,a0,a1,B,he⟩:=id hW;refine⟨_,QB.h (EQ (Et (GE (CK T) hr T.Ze T.ZR.kp T.Zh (EN (qv 2) EO))) (EQ (Dt K rfl (qv 0) (qv 1)) (EQ (Dt K rfl (qv 0) (qv 2)) (EQ (Dt K rfl (qv 0) ER) (EQ (Dt K rfl (qv 0) WF) (ES (Dt K rfl (qv 0) ER))))))),?_⟩;walk_at "s";walk_at "w";refine⟨q,b,y,m,rfl,L,by omega,by omega,B,he,?_⟩;walk_at "w";refine DY hp T.ZD T.Zk (by show 0<1000;decide) fun H1 f1 K1=>?_;walk_at "w";refine DY f1 T.ZD T.ZH (by show 1<1000;decide) fun H2 f2 K2=>?_;walk_at "w";refine DY f2 T.ZD T.Z1 (by show 2<1000;decide) fun H3 O K3=>?_;walk_at "w";refine WG fun d H4 J f4 S4=>?_;have nd:d≠p:=fun z=>by rw[z,O] at J;cases J
  walk_at "w";refine DY (S4 _ _ O) T.ZD T.ZZ (by show 3<1000;decide) fun H5 f5 K5=>?_;walk_at "w";refine DY f5 T.ZD T.YH (by show 4<1000;decide) fun H6 Z K6=>?_;rw[mI] at Z;have K03:Kp p H H3:=(K1.trans K2).trans K3;have K06:Kp p H H6:=((K03.then S4).trans K5).trans K6
  have n0:H d=none:=by
   cases e:H d with
   |none=>rfl
   |some o=>rw[K03 _ _ e nd] at J;cases J
  have F:∀b∈[p],∀xs,H b≠some (.tup xs):=fun b B xs e=>by
   obtain rfl:b=p:=by simpa using B
   rw[hp] at e;cases e
  have M:=Y.frL (GD.kp K06 (l:=[p]) (by simp)) (fun b B=>by obtain rfl:b=p:=(by simpa using B);exact ap) F;walk_at "w";refine kk d H6 n0 ⟨dx,q,Z,⟨K06 _ _ L (fun z=>F q (by simp[z]) _ L),hW.2⟩,K6 _ _ (K5 _ _ f4 nd) nd,fun x z u h=>(by cases h),ap,Y.apart (l:=[d]) (fun b B=>by obtain rfl:b=d:=(by simpa using B);exact n0) d (by simp)⟩ M K06
theorem CL(T:Txt K mg a):Ec P w K mg base Ew 5 a.Z9 a.Z7 ["self","window"] (et a):=by
 refine T.Ts.ok (N:=["self","window"]) Es fun _ _ _ s H vs Q E hr h=>?_
 ·obtain⟨S,v,d,q,b,y,m,k,n,b',y',m',kvs,e,sm,c,ds,ts,ws,rfl,hS,hV,a2,hW,kk⟩:=h;obtain⟨hq,hy,b9,c1,J,he⟩:=id hW;obtain⟨dx,q0,hv,b8,hd,hk,av,ad⟩:=id hV;refine⟨_,QB.h (EQ (Et (GE (CK T) hr T.Ze T.ZR.kp T.Zh (EN (qv 1) EO))) (EQ (Et (BB (qv 0) T.ZD T.J7 (Ip T) hr.m T.QD .nil GK)) (EQ (Dt K rfl (qv 0) (GE (uI T) hr T.OD T.Td.kp T.OE (EN (Eu K rfl (qv 0)) (EN (qv 1) EO)))) (ES (Dt K rfl (qv 0) (qv 1)))))),?_⟩;walk_at "s";walk_at "w";refine⟨q,b',y',m',rfl,hq,by omega,by omega,J,he,?_⟩;walk_at "w";refine En hv CB ?_;refine⟨S,v,d,b,y,m,k,n,kvs,e,sm,c,ds,ts,ws,rfl,hS,hV,a2,fun B H1 b0 a9 a8 c2 F1=>?_⟩;obtain⟨a7,q1,M,c0,a1,a4,_⟩:=id b0;rw[List.drop_length] at a4;have a0:BH H1 q b' y' m':=⟨F1 _ _ hq fun z=>hV.noTup _ z _ hq,hW.2⟩;walk_at "w";refine⟨d,q,b',y',m',B,sm,rfl,a1,a0,fun x z u h=>(a4 x z u h).2.resolve_left fun⟨t,ht,_⟩=>(by cases ht),fun F Y H2 L f2 b6 a6 b7 S2=>?_⟩;have Z:=S2 _ _ M;have O:F≠v:=fun z=>by rw[z,M] at L;cases L
  walk_at "w";refine DY Z T.ZD T.ZZ (by show 5<1000;decide) fun H3 f3 K3=>?_;rw[eV] at f3;walk_at "w";refine DY f3 T.ZD T.ZH (by show 5<1000;decide) fun H4 f4 K4=>?_;rw[eT] at f4;have K24:=K3.trans K4
  have a5:∀b∈[v],∀xs,H2 b≠some (.tup xs):=fun b J xs e=>by
   obtain rfl:b=v:=by simpa using J
   rw[Z] at e;cases e
  have a3:∀b xs,H2 b=some (.tup xs)->H4 b=some (.tup xs):=fun b xs e=>K24 _ _ e fun z=>a5 b (by simp[z]) xs e
  have n0:H F=none:=by
   cases e:H F with
   |none=>rfl
   |some o=>
    by_cases z:F∈[v,d]
    ·simp only[Ud,Us,or_false] at z;rcases z with z|z
     ·exact absurd z O
     ·rw[z,a1] at L;cases L
    ·rw[F1 _ _ e z] at L;cases L
  walk_at "w";refine kk F B Y H4 n0 a8 b7 b6 ⟨a7,q,f4,⟨a3 _ _ (S2 _ _ a0.1),hW.2⟩,K24 _ _ f2 O,fun x z u h=>⟨(a6 x z u h).1,.inr ((a6 x z u h).2.tups a3)⟩,av,?_⟩ ((a9.same S2).frL (GD.kp K24 (l:=[v]) (by simp)) (fun b J=>by obtain rfl:b=v:=(by simpa using J);exact av) a5) ((F1.trans (GD.same S2)).trans (GD.kp K24 (by simp)));exact hS.apart (l:=[F]) (fun b J=>by obtain rfl:b=F:=(by simpa using J);exact n0) F (by simp)
theorem wl(T:Txt K mg a):Ec P w K mg base Ew 6 a.Qj a.RB ["self","c"] (sj a):=by
 refine T.Og.ok (N:=["self","c"]) Es fun _ _ _ s H vs Q E J h=>?_
 ·obtain⟨S,v,d,b,y,m,k,n,j,kvs,e,sm,c,ds,ts,ws,rfl,O,F,B,hj,M,kk⟩:=h;obtain⟨dx,q,Y,Z,hd,hk,av,ad⟩:=id F;refine⟨_,QB.h (ES (Et (GQ (qv 0) T.ZD T.Zi (CL T) J T.Zc .nil GK (EN (GE (eQ T) J.m T.Pa T.Nz.kp T.Pg (EN (Eu K rfl (qv 0)) (EN (qv 1) EO))) EO)))),?_⟩;walk_at "s";walk_at "w";refine En Y CB ?_;walk_at "w";refine⟨q,b,y,m,j,rfl,GF.of Z.1,hj,fun u H1 n1 L S1=>?_⟩;walk_at "w";exact⟨S,v,d,u,b,y,m,k,n,_,_,_,kvs,e,sm,c,ds,ts,ws,rfl,O.same S1,F.same S1,B,⟨L,M⟩,kk.at S1⟩
theorem xa(T:Txt K mg a):Ec P w K mg base Ew 6 a.JD a.Y9 ["self"] (mL a):=by
 refine T.Nk.ok (N:=["self"]) Es fun _ _ _ s H vs Q E J h=>?_
 ·obtain⟨S,v,d,b,y,m,k,n,kvs,e,sm,c,ds,ts,ws,rfl,O,F,B,M,kk⟩:=h;obtain⟨dx,q,Y,Z,hd,hk,av,ad⟩:=id F;refine⟨_,QB.h (ES (Et (GQ (qv 0) T.ZD T.Zi (CL T) J T.Zc .nil GK (EN (GE (wf T) J.m T.OR T.Tw.kp T.Os (EN (Eu K rfl (qv 0)) EO)) EO)))),?_⟩;walk_at "s";walk_at "w";refine En Y CB ?_;walk_at "w";refine⟨q,b,y,m,rfl,GF.of Z.1,fun u H1 n1 L S1=>?_⟩;walk_at "w";exact⟨S,v,d,u,b,y,m,k,n,_,_,_,kvs,e,sm,c,ds,ts,ws,rfl,O.same S1,F.same S1,B,⟨L,M⟩,kk.at S1⟩
theorem zM(T:Txt K mg a):Ec P w K mg base Ew 6 a.YM a.YU ["self"] (aZ a):=by
 refine T.Ma.ok (N:=["self"]) Es fun _ _ _ s H vs Q E J h=>?_
 ·obtain⟨S,v,d,b,y,m,k,n,kvs,e,sm,c,ds,ts,ws,rfl,O,F,B,h2,M,kk⟩:=h;obtain⟨dx,q,Y,Z,hd,hk,av,ad⟩:=id F;refine⟨_,QB.h (ES (Et (GQ (qv 0) T.ZD T.Zi (CL T) J T.Zc .nil GK (EN (GE (uG T) J.m T.OF T.Ta.kp T.OK (EN (Eu K rfl (qv 0)) EO)) EO)))),?_⟩;walk_at "s";walk_at "w";refine En Y CB ?_;walk_at "w";refine⟨q,b,y,m,rfl,GF.of Z.1,h2,fun u H1 n1 L S1=>?_⟩;walk_at "w";exact⟨S,v,d,u,b,y,m,k,n,_,_,_,kvs,e,sm,c,ds,ts,ws,rfl,O.same S1,F.same S1,B,⟨L,M⟩,kk.at S1⟩
theorem XZ(T:Txt K mg a):Ec P w K mg base Ew 6 a.YC a.YD ["self","n"] (mM a):=by
 refine T.Tq.ok (N:=["self","n"]) Es fun _ _ _ s H vs Q E J h=>?_
 ·obtain⟨S,v,d,b,y,m,k,n,j,kvs,e,sm,c,ds,ts,ws,rfl,O,F,B,M,kk⟩:=h;obtain⟨dx,q,Y,Z,hd,hk,av,ad⟩:=id F;refine⟨_,QB.h (ES (Et (GQ (qv 0) T.ZD T.Zi (CL T) J T.Zc .nil GK (EN (GE (XX T) J.m T.Tl T.Jc.kp T.Tp (EN (Eu K rfl (qv 0)) (EN (qv 1) EO))) EO)))),?_⟩;walk_at "s";walk_at "w";refine En Y CB ?_;walk_at "w";refine⟨q,b,y,m,j,rfl,GF.of Z.1,fun u H1 n1 L S1=>?_⟩;walk_at "w";exact⟨S,v,d,u,b,y,m,k,n,_,_,_,kvs,e,sm,c,ds,ts,ws,rfl,O.same S1,F.same S1,B,⟨L,M⟩,kk.at S1⟩
end
def BP(cv:PL):Prop:=∀p∈cv,Bn 200 p.1/\Bn 200 p.2
theorem rV:Bn 200 1:=by unfold Bn;decide
section
def fA(K:W.Frag)(t:Addr)(cv:PL)(b e:Int):Sp:=fun vs H Q _=>vs=[.ref t,.int b,.int e]/\Db H t cv/\cv.length<=1000/\
 ∀(u:Addr) (H':Hp),Db H' u (inCol cv b e)->ET H H'->Q (.ref u) H'
def rW(K:W.Frag):Sp:=fun vs H Q E=>∃t cv b e,fA K t cv b e vs H Q E
theorem Xa(T:Txt K mg a):Ec P w K mg base Ew 1 a.Qx a.Qs ["curve","begin","end"] (rW K):=by
 refine T.QM.ok (N:=["curve","begin","end"]) Es fun _ _ _ s H vs Q E hr h=>?_
 ·obtain⟨t,cv,b,e,rfl,⟨us,a0,hP⟩,J,k⟩:=h;have Y:GF K H t us:=GF.of a0;refine⟨_,QB.h (ES (Ea (Gy (Dq K rfl) rfl T.ZI Dp (EN (Dg (N:=["curve","begin","end"]) (sc:=EU LI) (own:=["t","h"]) (caps:=["begin","end"]) (ks:=[1,2]) rfl rfl rfl ⟨rfl,by decide +kernel,by decide +kernel,by decide +kernel,by decide +kernel,rfl,by decide +kernel⟩ (HG K rfl (qv 0)) (fun _ _ _ _ _=>Gm (n:=2) K rfl rfl (EY (Ge (i:=0) (show List.Nodup (α:=Str) ["t","h","begin","end"] from by decide +kernel) rfl (by walk_at "o") (.inr rfl)) (EY (Ge (i:=1) (show List.Nodup (α:=Str) ["t","h","begin","end"] from by decide +kernel) rfl (by walk_at "o") (.inr rfl)) GW))) (fun _ _ _ _ _=>CT (AQ BU Bm (qv 2) (qv 0) (qv 3))) (fun _ _ _ _ _=>GB (EN (qv 0) (EN (qv 1) EO)))) EO)))),?_⟩;walk_at "s";walk_at "w";intro l hl;refine Gw cv.length (fun i U' H'=>(∃o1 o2,U'=[o1,o2,some (.int b),some (.int e)])/\ET H H'/\∃vs,H' l=some (.lst vs)/\EZ H' vs (inCol (cv.take i) b e)) ?_ ?_ ?_
  ·exact⟨⟨none,none,rfl⟩,ET.new hl,[],EW,.nil⟩
  ·rintro U H' ⟨_,s,vs,f,B⟩;refine⟨⟨_,s.seqT Y,by rw[hP.length];exact Ue _⟩,?_⟩;walk_at "w";refine BJ (Eh.of f) fun u H4 n4 M S4=>?_;rw[UP] at B;exact k u H4 ⟨vs,M,B.same S4⟩ (s.trans S4)
  ·rintro i U H' hi ⟨⟨o1,o2,rfl⟩,s,vs,f,B⟩;have Z:i<us.length:=by rw[hP.length];exact hi
   refine⟨⟨_,_,s.seqT Y,Ub Z⟩,?_⟩;rintro u H'' ⟨rfl,F⟩;have F:=F _ (s.seqT Y);obtain⟨c,p,rfl,hp,hc⟩:=(hP.same s).at F
   have e3:cv.take (i+1)=cv.take i ++ [p]:=by
    rw[UR,hp];rfl
   have O:inCol (cv.take (i+1)) b e=inCol (cv.take i) b e++(if(decide (b<=p.1)&&decide (p.1<e))=true then[p] else[]):=by
    rw[e3,inCol,List.filter_append];congr 1;simp only[List.filter_cons,List.filter_nil]
   walk_at "w";refine GL (fun h1=>?_) (fun h1=>?_)
   ·walk_at "w";refine GL (fun h2=>?_) (fun h2=>?_)
    ·walk_at "w";refine Eg (by show 2<=sizeLine;decide) fun t4 H4 n4 M S4=>?_;have L:=S4 _ _ f;refine⟨vs,L,?_,⟨_,_,rfl⟩,?_,?_⟩
     ·have e:=B.length;rw[e];refine Uq (UL _ _) ?_;rw[US];exact Uq (Nat.min_le_left _ _) (Uh (Uh hi J) (by decide))
     ·exact(s.trans S4).kpN hl Kp.upd
     ·refine⟨_,EW,?_⟩;rw[O,decide_eq_true h1,decide_eq_true h2,Bool.and_self,if_pos rfl];exact EZ.kpL Kp.upd L ((B.same S4).snoc M)
    ·refine⟨⟨_,_,rfl⟩,s,vs,f,?_⟩;rw[O,decide_eq_false h2,Bool.and_false,if_neg (by decide),UF];exact B
   ·walk_at "w";refine GV ?_;refine⟨⟨_,_,rfl⟩,s,vs,f,?_⟩;rw[O,decide_eq_false h1,Vr,if_neg (by decide),UF];exact B
def Fc(H:Hp)(p:Addr)(low tall rows:Int):Prop:=H p=some (.tup [.int low,.int tall,.int rows])/\Bn 200 low/\0<tall/\Bn 200 tall/\0<=rows/\rows<=1000
theorem Fc.same{H H':Hp}{p:Addr}{low B F:Int}(h:Fc H p low B F)(s:ET H H'):Fc H' p low B F:=⟨s _ _ h.1,h.2⟩
def ae(K:W.Frag)(x d:Int)(p:Addr)(low tall rows:Int):Sp:=fun vs H Q _=>vs=[.int x,.int d,.ref p]/\Fc H p low tall rows/\0<d/\Bn 201 d/\Q (.int (fl low tall (x,d))) H
def mN(K:W.Frag):Sp:=fun vs H Q E=>∃x d p low tall rows,ae K x d p low tall rows vs H Q E
theorem IB:Eo ["height","parts","heights","low","tall","rows"] ["height","parts","heights"] (EU WL):=Es
theorem qI(T:Txt K mg a):Ec P w K mg base Ew 1 a.Ro a.Rv ["height","parts","heights"] (mN K):=by
 refine T.Ru.ok IB fun a0 A J s H vs Q E hr h=>?_
 ·obtain⟨x,d,p,low,M,O,rfl,⟨hp,L,Y,F,_⟩,Z,B,q⟩:=h;refine⟨_,QB.h (EQ (DE (qv 2) (Gm (n:=3) K rfl rfl (EY (GN (i:=3) IB.nd) (EY (GN (i:=4) IB.nd) (EY (GN (i:=5) IB.nd) GW))))) (ES (Ea (Eb CN (Eb BM (qv 0) (Eb GM (qv 3) (qv 1))) (Eb GM (qv 4) (qv 1)))))),?_⟩;walk_at "s";walk_at "w";refine FU (FN L B (by decide)) ?_;walk_at "w";refine FU (FN F B (by decide)) ?_;refine FU ((F.mul B).divB (Int.mul_pos Y Z) (by decide)) ?_;exact q
def af(K:W.Frag)(c1 c2:Addr)(u v:Int×Int)(t:Int)(p:Addr)(low tall rows:Int):Sp:=fun vs H Q _=>vs=[.ref c1,.ref c2,.int t,.ref p]/\H c1=some (.tup [.int u.1,.int u.2])/\H c2=some (.tup [.int v.1,.int v.2])/\
 Fc H p low tall rows/\u.1<v.1/\Bn 200 u.1/\Bn 200 u.2/\Bn 200 v.1/\Bn 200 v.2/\Bn 200 t/\Q (.int (fl low tall (CU u v t))) H
def mO(K:W.Frag):Sp:=fun vs H Q E=>∃c1 c2 u v t p low tall rows,af K c1 c2 u v t p low tall rows vs H Q E
theorem qJ:Eo ["one","other","t","heights","parts"] ["one","other","t","heights"] (EU WK):=Es
theorem qK(T:Txt K mg a):Ec P w K mg base Ew 2 a.RY a.Ri ["one","other","t","heights"] (mO K):=by
 refine T.Rl.ok qJ fun O A J s H vs Q E Y h=>?_
 ·obtain⟨Z,c2,u,v,t,p,low,B,F,rfl,h1,h2,M,L,b1,b2,b3,b4,b5,q⟩:=h;refine⟨_,QB.h (EQ (Gb (i:=4) qJ.nd (Eb BM (Ei (Ek K rfl) (qv 1) ER) (Ei (Ek K rfl) (qv 0) ER))) (ES (Ea (GE (qI T) Y T.NA T.Ru.kp T.Ms (EN (Eb Go (Eb GM (Ei (Ek K rfl) (qv 0) ER) (qv 4)) (Eb GM (Eb BM (Ei (Ek K rfl) (qv 1) ER) (Ei (Ek K rfl) (qv 0) ER)) (Eb BM (qv 2) (Ei (Ek K rfl) (qv 0) ER)))) (EN (qv 4) (EN (qv 3) EO))))))),?_⟩;walk_at "s";walk_at "w";refine FU (FN b2 (b3.sub b1) (by decide)) ?_;walk_at "w";refine FU (FN (b4.sub b2) (b5.sub b1) (by decide)) ?_;walk_at "w";exact⟨_,_,p,low,B,F,rfl,M,by omega,b3.sub b1,q⟩
theorem Cn{H H':Hp}{l q:Addr}{xs ys:List V}(k:Kp l H H')(B:H l=some (.lst xs))(h:H q=some (.tup ys)):H' q=some (.tup ys):=k _ _ h (fun z=>by subst z;rw[B] at h;cases h)
def fB(K:W.Frag)(t u p:Addr)(cv:PL)(x z low tall rows:Int):Sp:=fun vs H Q _=>vs=[.ref t,.ref u,.ref p]/\Db H t cv/\H u=some (.tup [.int x,.int z])/\Fc H p low tall rows/\DA cv/\BP cv/\cv.length<=100/\Bn 200 x/\Bn 200 z/\
 ∀(l:Addr) (H':Hp),H l=none->H' l=some (.lst (((Dr cv x z).map (fl low tall)).map V.int))->ET H H'->Q (.ref l) H'
def rX(K:W.Frag):Sp:=fun vs H Q E=>∃t u p cv x z low tall rows,fB K t u p cv x z low tall rows vs H Q E
theorem wm{x y:Int}{n:Nat}(h:Bn n x)(g:Bn n y):Bn n (if y>x then y else x):=by split;exact g;exact h
theorem wn{x y:Int}{n:Nat}(h:Bn n x)(g:Bn n y):Bn n (if y<x then y else x):=by split;exact g;exact h
theorem qL{cv:PL}{b e:Int}{p:Int×Int}(h:p∈inCol cv b e):p∈cv:=(Vv.mp h).1
theorem CH:Eo ["samples","times","heights","first","behind","met","one","other"] ["samples","times","heights"] (EU Fn):=Es
theorem uK(T:Txt K mg a):Ec P w K mg base Ew 3 a.Jk a.Je ["samples","times","heights"] (rX K):=by
 refine T.TY.ok CH fun c8 A b8 s H vs Q E hr h=>?_
 ·obtain⟨t,u,p,cv,x,z,low,B,M,rfl,hT,hu,hh,b6,b7,b0,bx,bz,k⟩:=h;refine⟨_,QB.h (EQ (DE (qv 1) (Gm (n:=2) K rfl rfl (EY (GN (i:=3) CH.nd) (EY (GN (i:=4) CH.nd) GW)))) (EQ (Fz (N:=["samples","times","heights","first","behind","met","one","other"]) (sc:=EU Fn) (own:=["t","h"]) (caps:=["heights"]) (ks:=[2]) (i:=5) rfl rfl rfl ⟨rfl,by decide +kernel,by decide +kernel,by decide +kernel,by decide +kernel,rfl,by decide +kernel⟩ CH.nd rfl (by walk_at "o") (HG K rfl (GE (Xa T) hr.m T.Tz T.QM.kp T.MH (EN (qv 0) (EN (qv 3) (EN (qv 4) EO))))) (fun _ _ _ _ _=>Gm (n:=2) K rfl rfl (EY (Ge (i:=0) (show List.Nodup (α:=Str) ["t","h","heights"] from by decide +kernel) rfl (by walk_at "o") (.inr rfl)) (EY (Ge (i:=1) (show List.Nodup (α:=Str) ["t","h","heights"] from by decide +kernel) rfl (by walk_at "o") (.inr rfl)) GW))) (fun _ _ _ _ _=>Df) (fun _ _ _ _ _=>GE (qI T) hr.m T.NA T.Ru.kp T.Ms (EN (qv 1) (EN ER (EN (qv 2) EO))))) (EQ (DU PassesOwn.never rfl (gM K rfl rfl T.Mi (EN (qv 0) (EN (Ss (ui K rfl) (qv 0) (Xu ER) Xt) EO))) (Gm (n:=2) K rfl rfl (EY (GN (i:=6) CH.nd) (EY (GN (i:=7) CH.nd) GW))) (ES (GO (QW.pt (CS (Ee (Bm) (Ei (Ek K rfl) (qv 6) ER) (qv 4) (Ej _)) (BX (Ee (Bm) (qv 3) (Ei (Ek K rfl) (qv 7) ER) (Ej _))))) (EQ (Et (Bp PySem.F.plainAttrs_list PySem.F.slot_list_append PySem.F.type_list_append DT (qv 5) (EN (GE (qK T) hr T.Mw T.Rl.kp T.NO (EN (qv 6) (EN (qv 7) (EN (Ey (Wu rfl) rfl T.Y4 IT (EN (qv 3) (EN (Ei (Ek K rfl) (qv 6) ER) EO))) (EN (qv 2) EO))))) EO))) (ES (Et (Bp PySem.F.plainAttrs_list PySem.F.slot_list_append PySem.F.type_list_append DT (qv 5) (EN (GE (qK T) hr T.Mw T.Rl.kp T.NO (EN (qv 6) (EN (qv 7) (EN (Ey (Wv rfl) rfl T.Y5 IU (EN (qv 4) (EN (Ei (Ek K rfl) (qv 7) ER) EO))) (EN (qv 2) EO))))) EO))))) GC))) (ES (Ea (qv 5)))))),?_⟩;walk_at "s";walk_at "w";refine⟨t,cv,x,z,rfl,hT,by omega,fun w1 H1 hw S1=>?_⟩;obtain⟨c4,g1,pw⟩:=id hw;have c5:(inCol cv x z).length<=100:=Uz (UL _ _) b0;walk_at "w";intro l n1;have nl:H l=none:=S1.free n1;refine Gw (inCol cv x z).length (fun i U' H'=>(∃o1 o2,U'=[o1,o2,some (.ref p)])/\ET H1 H'/\H' l=some (.lst (((((inCol cv x z).take i).map (fun q=>(q.2,(1:Int)))).map (fl low B)).map V.int))) ?_ ?_ ?_
  ·exact⟨⟨none,none,rfl⟩,ET.new n1,EW⟩
  ·rintro U H2 ⟨_,S2,f2⟩;refine⟨⟨_,GF.of (S2 _ _ g1),by rw[pw.length];exact Ue _⟩,?_⟩;rw[UP] at f2;have S02:=S1.trans S2;walk_at "w";refine Db.sl (hT.same S02) fun w3 H3 h3 S3=>?_;obtain⟨us,gT,pT⟩:=hT.same (S02.trans S3);obtain⟨c3,g3,p3⟩:=id h3
   have ec:Kx cv (some 1) none=cv.drop 1:=by
    unfold Kx;rw[show _H.sIx cv.length 0 (some 1)=min 1 cv.length from _H.sIx_nat cv.length 0 1,show _H.sIx cv.length cv.length none=cv.length from rfl];by_cases hz:cv.length=0
    ·have:cv=[]:=Vf.mp hz;subst this;rfl
    ·rw[show min 1 cv.length=1 by omega];exact Vp (by simp)
   rw[ec] at p3;walk_at "w";refine gO (BR.ofT gT) (BR.ofT g3) ?_;have f3:=S3 _ _ f2
   refine uo (xs:=us) (ys:=c3) (b1:=false) (b2:=false) (l1:=t) (l2:=w3) (cv.length-1) (by rw[pT.length,p3.length,List.length_drop];omega) (fun i U H'=>Kp l H3 H'/\(∃v6 v7,U=[some (.ref t),some (.ref u),some (.ref p),some (.int x),some (.int z),some (.ref l),v6,v7])/\∃Z:List Int,H' l=some (.lst (Z.map V.int))/\
    Z=(((inCol cv x z).map (fun q=>(q.2,(1:Int))))++((cv.zip (cv.drop 1)).take i).flatMap (Gc x z)).map (fl low B)/\Z.length<=100+2*i) ?_ ?_ ?_ ?_
   ·refine⟨Kp.same (ET.refl _),⟨_,_,rfl⟩,_,f3,?_,?_⟩
    ·rw[List.take_zero,List.flatMap_nil,UF]
    ·rw[Ug,Ug];omega
   ·rintro i U H4 ⟨K4,_,_⟩;exact⟨BR.ofT (Cn K4 f3 gT),BR.ofT (Cn K4 f3 g3)⟩
   ·rintro i U H4 T H5 a b hi ⟨K4,⟨v6,v7,rfl⟩,Z,f4,a1,c0⟩ ha hb nT fT S5;obtain⟨c1,L,rfl,a2,b9⟩:=pT.at ha;obtain⟨c2,J,rfl,a3,c7⟩:=p3.at hb;have a4:=LD b6 a2 a3;have hz:=zE a2 a3;have K5:Kp l H3 H5:=K4.then S5;have f5:=S5 _ _ f4;have a8:=Cn K5 f3 b9;have a7:=Cn K5 f3 c7;have a0:Fc H5 p low B M:=⟨Cn K5 f3 ((hh.same (S02.trans S3)).1),hh.2⟩;have O:=b7 L (Ux a2);have Y:=b7 J (List.mem_of_mem_drop (Ux a3));have e3:(cv.zip (cv.drop 1)).take (i+1)=(cv.zip (cv.drop 1)).take i ++ [(L,J)]:=by rw[UR,hz];rfl
    have a6:∀k:Nat,k<=400->k<sizeLine:=fun k hk=>Uq hk (by decide)
    have e4:(((inCol cv x z).map (fun q=>(q.2,(1:Int))))++((cv.zip (cv.drop 1)).take (i+1)).flatMap (Gc x z)).map (fl low B)=Z++(Gc x z (L,J)).map (fl low B):=by
     rw[a1,e3,List.flatMap_append,<- List.append_assoc,Uy];simp only[List.flatMap_cons,List.flatMap_nil,UF]
    walk_at "w";refine GL (fun h1=>?_) (fun h1=>?_)
    ·walk_at "w";refine GL (fun h2=>?_) (fun h2=>?_)
     ·have e5:(Gc x z (L,J)).map (fl low B)=[fl low B (CU L J (mx x L.1)),fl low B (CU L J (mn z J.1))]:=by
       unfold Gc;rw[if_pos ⟨h1,h2⟩];rfl
      walk_at "w";refine⟨HH f5,?_⟩;walk_at "w";refine⟨c1,c2,L,J,_,p,low,B,M,rfl,a8,a7,a0,a4,O.1,O.2,Y.1,Y.2,wm bx O.1,?_⟩;walk_at "w";refine Da f5 (by rw[Ug];exact a6 _ (by omega)) fun H6 f6 K6=>?_;have a9:=Cn K6 f5 a8;have a5:=Cn K6 f5 a7;walk_at "w";refine⟨HH f6,?_⟩;walk_at "w";refine⟨c1,c2,L,J,_,p,low,B,M,rfl,a9,a5,⟨Cn K6 f5 a0.1,a0.2⟩,a4,O.1,O.2,Y.1,Y.2,wn bz Y.1,?_⟩;walk_at "w";refine Da f6 (by rw[UD,Ug];exact a6 _ (by simp only[Vd,List.length_nil];omega)) fun H7 f7 K7=>?_;walk_at "w";refine⟨(K5.trans K6).trans K7,⟨_,_,rfl⟩,Z ++ [fl low B (CU L J (mx x L.1)),fl low B (CU L J (mn z J.1))],?_,?_,?_⟩
      ·rw[f7,Uy,List.append_assoc];rfl
      ·rw[e4,e5]
      ·rw[UD];show Z.length+2<=_;omega
     ·have e5:(Gc x z (L,J)).map (fl low B)=[]:=by
       unfold Gc;rw[if_neg (fun g=>h2 g.2)];rfl
      walk_at "w";exact⟨K5,⟨_,_,rfl⟩,Z,f5,by rw[e4,e5,UF],by omega⟩
    ·have e5:(Gc x z (L,J)).map (fl low B)=[]:=by
      unfold Gc;rw[if_neg (fun g=>h1 g.1)];rfl
     walk_at "w";refine GV ?_;walk_at "w";exact⟨K5,⟨_,_,rfl⟩,Z,f5,by rw[e4,e5,UF],by omega⟩
   ·rintro U H4 ⟨K4,⟨v6,v7,rfl⟩,Z,f4,a1,c0⟩;walk_at "w";refine k l H4 nl ?_ ((S02.trans S3).kpN nl K4);rw[f4,a1,Vp (by rw[List.length_zip,List.length_drop];omega)];rfl
  ·rintro i U H2 hi ⟨⟨o1,o2,rfl⟩,S2,f2⟩;have c6:i<c4.length:=by rw[pw.length];exact hi
   refine⟨⟨_,_,GF.of (S2 _ _ g1),Ub c6⟩,?_⟩;rintro v H'' ⟨rfl,hv⟩;have hv:=hv _ (GF.of (S2 _ _ g1));obtain⟨c,q,rfl,hq,hc⟩:=(pw.same S2).at hv;have e3:(inCol cv x z).take (i+1)=(inCol cv x z).take i ++ [q]:=by rw[UR,hq];rfl
   walk_at "w";refine DD ?_;walk_at "w";refine⟨_,_,p,low,B,M,rfl,hh.same (S1.trans S2),by decide,by unfold Bn;decide,?_⟩;refine⟨_,f2,?_,⟨_,_,rfl⟩,S2.kpN n1 Kp.upd,?_⟩
   ·rw[Ug,Ug,Ug,US];exact Uq (Uz (Nat.min_le_right _ _) c5) (by decide)
   ·rw[EW,e3,Uy,Uy,Uy];rfl
def mP(K:W.Frag)(t u p:Addr)(cv:PL)(x z low tall rows:Int):Sp:=fun vs H Q _=>vs=[.ref t,.ref u,.ref p]/\Db H t cv/\H u=some (.tup [.int x,.int z])/\Fc H p low tall rows/\DA cv/\BP cv/\cv.length<=100/\Bn 200 x/\Bn 200 z/\
 ∀(v:V) (o:Option (Int×Int)) (H':Hp),Br H' v o->Ci ((Dr cv x z).map (fl low tall)) rows o->ET H H'->Q v H'
def sk(K:W.Frag):Sp:=fun vs H Q E=>∃t u p cv x z low tall rows,mP K t u p cv x z low tall rows vs H Q E
theorem Co:Eo ["samples","times","heights","met","least","greatest"] ["samples","times","heights"] (EU FV):=Es
theorem zN(T:Txt K mg a):Ec P w K mg base Ew 4 a.Ya a.YO ["samples","times","heights"] (sk K):=by
 refine T.J9.ok Co fun a5 A a2 s H vs Q E hr h=>?_
 ·obtain⟨t,u,p,cv,x,z,low,F,B,rfl,hT,hu,hh,Z,a3,O,bx,bz,k⟩:=h;refine⟨_,QB.h (EQ (Gb (i:=3) Co.nd (GE (uK T) hr T.OO T.TY.kp T.OG (EN (qv 0) (EN (qv 1) (EN (qv 2) EO))))) (EQ (GO (Ee (Dk) (Ey (Cw K rfl) rfl T.Zf CO (EN (qv 3) EO)) ER (Ej _)) (ES (Ea Gk)) GC) (EQ (Gb (i:=4) Co.nd (Ey (Wu rfl) rfl T.Y4 IT (EN (Ey (lH K rfl rfl) rfl T.Y5 IU (EN (qv 3) EO)) (EN ER EO)))) (EQ (Gb (i:=5) Co.nd (Ey (Wv rfl) rfl T.Y5 IU (EN (Ey (lI K rfl rfl) rfl T.Y4 IT (EN (qv 3) EO)) (EN (Eb BM (Ei (Ek K rfl) (qv 2) ER) ER) EO)))) (ES (Ea (Bo (Ee (BU) (qv 4) (qv 5) (Ej _)) (GB (EN (qv 4) (EN (qv 5) EO))) Gk))))))),?_⟩;walk_at "s";walk_at "w";refine⟨t,u,p,cv,x,z,low,F,B,rfl,hT,hu,hh,Z,a3,O,bx,bz,fun l H1 n1 f1 S1=>?_⟩;have g1:=(hh.same S1).1;generalize a4:(Dr cv x z).map (fl low F)=fs at f1 k;walk_at "w";refine GL (fun h=>?_) (fun h=>?_)
  ·walk_at "w";have:fs=[]:=Vf.mp (by have h:=V.int.inj h;rw[Ug] at h;omega);exact k _ _ H1 .non (.inl ⟨this,rfl⟩) S1
  ·have L:fs≠[]:=fun z=>h (by rw[z];rfl);walk_at "w";refine lJ (Eh.of f1) L fun m J Y=>?_;walk_at "w";refine lK (Eh.of f1) L fun M a1 a0=>?_;walk_at "w";have e1:(if(0:Int)>m then 0 else m)=max m 0:=by split<;>omega
   have e2:(if B-1<M then B-1 else M)=min M (B-1):=by split<;>omega
   rw[e1,e2];refine GL (fun h2=>?_) (fun h2=>?_)
   ·walk_at "w";refine Eg (by show 2<=sizeLine;decide) fun c H2 n2 f2 S2=>?_;refine k _ (some (max m 0,min M (B-1))) H2 (.pr f2) (.inr ⟨m,M,J,Y,a1,a0,?_⟩) (S1.trans S2);rw[if_pos h2]
   ·walk_at "w";refine k _ none H1 .non (.inr ⟨m,M,J,Y,a1,a0,?_⟩) S1;rw[if_neg h2]
def qM(H:Hp)(q:Addr)(b y m:Int):Prop:=H q=some (.tup [.int b,.int y,.int m])/\Bn 190 b/\0<y/\Bn 150 y/\1<=m/\m<=100
theorem qM.same{H H':Hp}{q:Addr}{b y m:Int}(h:qM H q b y m)(s:ET H H'):qM H' q b y m:=⟨s _ _ h.1,h.2⟩
theorem rY{k:Int}(h0:0<=k)(h1:k<=100):Bn 7 k:=by unfold Bn;omega
theorem ag{b y k:Int}(h1:Bn 190 b)(h2:Bn 150 y)(h0:0<=k)(B:k<=100):Bn 191 (b+k*y):=h1.add (((rY h0 B).mul h2).mono (by decide))
def xb(cv:PL)(b y m low tall rows:Int)(os:List (Option (Int×Int))):Prop:=os.length=m.toNat/\∀(k:Nat) o,os[k]? = some o->Ci ((Dr (inCol cv b (b+m*y)) (b+(k:Int)*y) (b+(k:Int)*y+y)).map (fl low tall)) rows o
theorem DA.inCol{cv:PL}{b e:Int}(h:DA cv):DA (inCol cv b e):=List.Pairwise.filter _ h
theorem BP.inCol{cv:PL}{b e:Int}(h:BP cv):BP (inCol cv b e):=fun p B=>h p (qL B)
def fC(K:W.Frag)(t q p:Addr)(cv:PL)(b y m low tall rows:Int):Sp:=fun vs H Q _=>vs=[.ref t,.ref q,.ref p]/\Db H t cv/\qM H q b y m/\Fc H p low tall rows/\DA cv/\BP cv/\cv.length<=100/\
 ∀(u:Addr) (vs:List V) (os:List (Option (Int×Int))) (H':Hp),H' u=some (.tup vs)->Dv H' vs os->xb cv b y m low tall rows os->ET H H'->Q (.ref u) H'
def rZ(K:W.Frag):Sp:=fun vs H Q E=>∃t q p cv b y m low tall rows,fC K t q p cv b y m low tall rows vs H Q E
theorem An:Eo ["curve","window","heights","begin","wide","many","counting"] ["curve","window","heights"] (EU Hv):=Es
theorem wo(T:Txt K mg a):Ec P w K mg base Ew 5 a.Qd a.Qa ["curve","window","heights"] (rZ K):=by
 refine T.MA.ok An fun b6 A a2 s H vs Q E hr h=>?_
 ·obtain⟨t,q,p,cv,b,y,m,low,F,B,rfl,hT,⟨hq,hb,hy,Z,a8,b0⟩,hh,a1,a5,a0,k⟩:=h;refine⟨_,QB.h (EQ (DE (qv 1) (Gm (n:=3) K rfl rfl (EY (GN (i:=3) An.nd) (EY (GN (i:=4) An.nd) (EY (GN (i:=5) An.nd) GW))))) (EQ (Gb (i:=6) An.nd (GE (Xa T) hr.m T.Tz T.QM.kp T.MH (EN (qv 0) (EN (qv 3) (EN (Eb Go (qv 3) (Eb GM (qv 5) (qv 4))) EO))))) (ES (Ea (Gy (Dq K rfl) rfl T.ZI Dp (EN (Dg (N:=["curve","window","heights","begin","wide","many","counting"]) (sc:=EU Hv) (own:=["times"]) (caps:=["counting","heights"]) (ks:=[6,2]) rfl rfl rfl ⟨rfl,by decide +kernel,by decide +kernel,by decide +kernel,by decide +kernel,rfl,by decide +kernel⟩ (DX K rfl (GE (AJ T) hr.m T.Zx T.Za.kp T.Z4 (EN (qv 1) EO))) (fun _ _ _ _ _=>Ge (i:=0) (show List.Nodup (α:=Str) ["times","counting","heights"] from by decide +kernel) rfl (by walk_at "o") (.inr rfl)) (fun _ _ _ _ _=>Df) (fun _ _ _ _ _=>GE (zN T) hr T.Mb T.J9.kp T.MP (EN (qv 1) (EN (qv 0) (EN (qv 2) EO))))) EO)))))),?_⟩;walk_at "s";walk_at "w";refine⟨t,cv,_,_,rfl,hT,by omega,fun w1 H1 hw S1=>?_⟩;walk_at "w";refine⟨q,b,y,m,rfl,S1 _ _ hq,by omega,by omega,fun l0 a4 H1' a9 J O S1'=>?_⟩;have S01:=S1.trans S1';walk_at "w";intro l n1;have nl:H l=none:=S01.free n1;refine Gw m.toNat (fun i U' H'=>(∃o,U'=[o,some (.ref w1),some (.ref p)])/\ET H1' H'/\∃vs L,H' l=some (.lst vs)/\Dv H' vs L/\L.length=i/\∀(k:Nat) o,L[k]? = some o->Ci ((Dr (inCol cv b (b+m*y)) (b+(k:Int)*y) (b+(k:Int)*y+y)).map (fl low F)) B o) ?_ ?_ ?_
  ·exact⟨⟨none,rfl⟩,ET.new n1,[],[],EW,.nil,rfl,fun k o h=>by simp at h⟩
  ·rintro U H2 ⟨_,S2,vs,L,f2,hD,ho,hI⟩;refine⟨⟨_,Eh.of (S2 _ _ J),by rw[O.length,CZ];exact Ue _⟩,?_⟩;walk_at "w";refine BJ (Eh.of f2) fun u H4 n4 f4 S4=>?_;exact k u vs L H4 f4 (hD.same S4) ⟨ho,hI⟩ (S01.trans (S2.trans S4))
  ·rintro i U H2 hi ⟨⟨o,rfl⟩,S2,vs,L,f2,hD,ho,hI⟩;have a6:i<a4.length:=by rw[O.length,CZ];exact hi
   refine⟨⟨_,_,Eh.of (S2 _ _ J),Ub a6⟩,?_⟩;rintro x H'' ⟨rfl,hx⟩;have hx:=hx _ (Eh.of (S2 _ _ J));obtain⟨u,pr,rfl,M,f3⟩:=(O.same S2).at hx;have M:=Hd M;subst M;have S02:=S01.trans S2;walk_at "w";refine DD ?_;walk_at "w";have Y:=ag hb Z (k:=(i:Int)) (by omega) (by omega);refine⟨w1,u,p,_,_,_,low,F,B,rfl,hw.same (S1'.trans S2),f3,hh.same S02,DA.inCol a1,BP.inCol a5,Uz (UL _ _) a0,Y.mono (by decide),(Y.add (Z.mono (by decide))).mono (by decide),fun v o2 H5 a7 a3 S25=>?_⟩;have f5:=S25 _ _ f2;refine⟨vs,f5,?_,⟨_,rfl⟩,(S2.trans S25).kpN n1 Kp.upd,vs ++ [v],L ++ [o2],EW,?_,by simp[ho],?_⟩
   ·rw[hD.len,ho];exact Uh hi (Uz (show m.toNat<=1000 by omega) (by decide))
   ·exact((hD.same S25).snoc a7).mapP fun _ _ d=>d.kpL Kp.upd f5
   ·intro k' o' h';rw[List.getElem?_append] at h';split at h'
    ·exact hI k' o' h'
    ·have:k'=i:=by
      have:=(Ui.mp h').1;simp at this;omega
     subst this;rw[ho,Nat.sub_self] at h';have:o2=o':=by simpa using h'
     subst this;exact a3
end
theorem mQ{cv ps:PL}{p:Int×Int}(F:DA cv)(B:(ps.map (·.1)).Nodup)(L:∀q∈ps,q∈cv)(J:p∈cv)(q:Int×Int):q∈Gx ps p.1 p.2↔q∈ps\/q=p:=by
 obtain⟨t,h⟩:=q;rw[<- Ga (Bq B),Sx,<- Ga B];by_cases e:t=p.1
 ·rw[if_pos e];constructor
  ·intro z;refine .inr ?_;rw[e,<- Option.some.inj z]
  ·rintro(z|z)
   ·have:=zF F (L _ ((Ga B).mp z)) J e;rw[<- this]
   ·rw[<- z]
 ·rw[if_neg e];constructor
  ·exact .inl
  ·rintro(z|z)
   ·exact z
   ·rw[<- z] at e;exact absurd rfl e
theorem vE{cv:PL}(F:DA cv):∀(prs B:PL),(B.map (·.1)).Nodup->(∀q∈B,q∈cv)->(∀q∈prs,q∈cv)->∀q,q∈prs.foldl (fun m p=>Gx m p.1 p.2) B↔q∈B\/q∈prs
 | [],B,_,_,_,q=>by simp
 |p::prs,B,hn,ha,hp,q=>by
  have J:=mQ F hn ha (hp p UB)
  rw[List.foldl_cons,vE F prs _ (Bq hn) (fun z hz=>by
   rcases(J z).mp hz with hz|rfl
   ·exact ha z hz
   ·exact hp z UB) (fun z hz=>hp z (Uf _ hz)),J,Ud,or_assoc]
noncomputable def Ao(fs:List (Option (PL))):PL:=fs.flatMap fun o=>o.getD []
theorem qN{fs:List (Option (PL))}{r:Int×Int}:r∈Ao fs↔∃B,some B∈fs/\r∈B:=by
 unfold Ao;rw[List.mem_flatMap];constructor
 ·rintro⟨o,J,F⟩
  cases o with
  |none=>cases F
  |some B=>exact⟨B,J,F⟩
 ·rintro⟨B,J,F⟩;exact⟨some B,J,F⟩
section
def wp(K:W.Frag)(t:Addr)(us:List V)(fs:List (Option (PL)))(cv:PL):Sp:=fun vs H Q _=>vs=[.ref t]/\H t=some (.tup us)/\GT H us fs/\fs.length<=15/\DA cv/\(∀qs,some qs∈fs->∀r∈qs,r∈cv)/\
 ∀(t':Addr) (kp:PL) (H':Hp),Db H' t' kp->DA kp->kp.length<=100->(∀r,r∈kp↔∃qs,some qs∈fs/\r∈qs)->ET H H'->Q (.ref t') H'
def fD(K:W.Frag):Sp:=fun vs H Q E=>∃t us fs cv,wp K t us fs cv vs H Q E
theorem KY:Eo ["fours","samples","four"] ["fours"] (EU LK):=Es
theorem wu(T:Txt K mg a):Ec P w K mg base Ew 2 a.Qe a.Qg ["fours"] (fD K):=by
 refine T.MD.ok KY fun a6 A a0 s H vs Q E hr h=>?_
 ·obtain⟨t,us,fs,cv,rfl,hT,hF,a3,M,a2,k⟩:=h;have a1:us.length=fs.length:=hF.len;refine⟨_,QB.h (EQ (Gb (i:=1) KY.nd (Dd EO)) (EQ (DU PassesOwn.never rfl (HG K rfl (qv 0)) (GN (i:=2) KY.nd) (ES (GO (Ee (Ln) (qv 2) Gk (Ej _)) (ES (Et (Bp PySem.F.plainAttrs_list PySem.F.slot_list_extend PySem.F.type_list_extend vp (qv 1) (EN (qv 2) EO)))) GC))) (ES (Ea (GE (SZ T) hr T.TQ T.Jj.kp T.Tb (EN (qv 1) EO)))))),?_⟩;walk_at "s";walk_at "w";refine Eg (by show 0<=sizeLine;decide) fun l H1 n1 f1 S1=>?_;have a5:=S1 _ _ hT;walk_at "w";refine IX (xs:=us) (fun i U H'=>(∃v2,U=[some (.ref t),some (.ref l),v2])/\ET H H'/\∃vs,H' l=some (.lst vs)/\EZ H' vs (Ao (fs.take i))/\(Ao (fs.take i)).length<=4*i) ?_ ?_ ?_ ?_
  ·exact⟨⟨_,rfl⟩,S1,[],f1,.nil,UX _⟩
  ·rintro i U H2 _ ⟨_,S2,_⟩;exact GF.of (S2 _ _ hT)
  ·rintro i xv U H2 hx ⟨⟨v2,rfl⟩,S2,vs,J,B,L⟩;obtain⟨o,ho,hd⟩:=(hF.same S2).at hx;have hi:i<fs.length:=by have:=(Ui.mp ho).1;exact this
   have Y:Ao (fs.take (i+1))=Ao (fs.take i)++o.getD []:=by
    unfold Ao;rw[UR,ho,List.flatMap_append];simp
   walk_at "w"
   cases hd with
   |non=>
    refine AF (fun h=>absurd rfl h) (fun _=>?_);walk_at "w";refine⟨⟨_,rfl⟩,S2,vs,J,?_,?_⟩
    ·rw[Y];simpa using B
    ·rw[Y];simp;omega
   | @pr c qs O hl4=>
    obtain⟨ws,gq,pq⟩:=O;refine AF (fun _=>?_) (fun h=>by cases h);walk_at "w";refine⟨HH J,?_⟩;walk_at "w";refine vq J gq ?_ ?_ fun H3 f3 K3=>?_
    ·intro j z
     cases pq with
     |nil=>cases z
     |cons a t=>
      obtain⟨c',e,_⟩:=a;rw[List.head?_cons,e] at z;cases z
    ·rw[B.length,pq.length,hl4];exact Uz (show _<=1000 by omega) (by decide)
    walk_at "w";refine⟨⟨_,rfl⟩,S2.kpN n1 K3,_,f3,?_,?_⟩
    ·rw[Y];exact(EZ.kpL K3 J B).app (EZ.kpL K3 J pq)
    ·rw[Y,UD];show _+qs.length<=_;omega
  ·rintro U H2 ⟨⟨v2,rfl⟩,S2,vs,J,B,L⟩;rw[a1,UP] at B L;walk_at "w";refine⟨true,l,vs,_,rfl,J,B,by omega,fun t' kp H3 Z hC a4 S3=>?_⟩;refine k t' kp H3 Z hC.1 (by omega) (fun r=>?_) (S2.trans S3)
   have hm:∀q∈Ao fs,q∈cv:=fun q O=>by
    obtain⟨qs,h1,h2⟩:=qN.mp O;exact a2 qs h1 q h2
   rw[<- qN];obtain⟨t0,h0⟩:=r;rw[hC.2,Ga (Fh _)];have:=vE M (Ao fs) [] List.nodup_nil (fun q O=>by cases O) hm (t0,h0);rw[show BZ (Ao fs)=(Ao fs).foldl (fun m p=>Gx m p.1 p.2) [] from rfl,this];simp
def ah(cv:PL)(x z:Int)(o:Option (PL)):Prop:=(o=none/\inCol cv x z=[])\/∃q0 q1 q2 q3,o=some [q0,q1,q2,q3]/\(∀r∈[q0,q1,q2,q3],r∈inCol cv x z)/\∀p∈inCol cv x z,q0.1<=p.1/\p.1<=q1.1/\q2.2<=p.2/\p.2<=q3.2
def HA(cv:PL)(b y m:Int)(fs:List (Option (PL))):Prop:=fs.length=m.toNat/\∀(k:Nat) o,fs[k]? = some o->ah cv (b+(k:Int)*y) (b+(k:Int)*y+y) o
theorem HA.mem{cv:PL}{b y m:Int}{fs:List (Option (PL))}(h:HA cv b y m fs){B:PL}(J:some B∈fs):∃k:Nat,(k:Int)<m/\∀r∈B,r∈cv/\b+(k:Int)*y<=r.1/\r.1<b+(k:Int)*y+y:=by
 obtain⟨k,F,e⟩:=UQ J;refine⟨k,by rw[h.1] at F;omega,fun r L=>?_⟩;rcases h.2 k _ (by rw[Ub F,e]) with ⟨z,_⟩|⟨q0,q1,q2,q3,e4,h4,_⟩
 ·cases z
 ·obtain rfl:=Option.some.inj e4;exact Ed.mp (h4 r L)
theorem HA.kept{cv kp:PL}{b y m:Int}{fs:List (Option (PL))}(hy:0<y)(h:HA cv b y m fs)(hm:∀r,r∈kp↔∃J,some J∈fs/\r∈J):_L.Kept cv kp b y m:=by
 constructor
 ·intro p M;obtain⟨J,hq,O⟩:=(hm p).mp M;obtain⟨k,hk,F⟩:=h.mem hq;obtain⟨L,g2,g3⟩:=F p O;have h1:(0:Int)<=(k:Int)*y:=Int.mul_nonneg (by omega) (by omega);have h2:((k:Int)+1)*y<=m*y:=UT (by omega) (by omega);rw[Int.add_mul,Int.one_mul] at h2;exact⟨L,by omega,by omega⟩
 ·intro k a0 a1 p M L g2;obtain⟨n,rfl⟩:∃n:Nat,k=(n:Int):=⟨k.toNat,by omega⟩;have Z:n<fs.length:=by rw[h.1];omega
  have B:p∈inCol cv (b+(n:Int)*y) (b+(n:Int)*y+y):=Ed.mpr ⟨M,L,g2⟩;rcases h.2 n _ (Ub Z) with ⟨_,z⟩|⟨q0,q1,q2,q3,e4,h4,hle⟩
  ·rw[z] at B;cases B
  ·obtain⟨l0,l1,l2,l3⟩:=hle p B;have mem:∀r∈[q0,q1,q2,q3],r∈kp:=fun r O=>(hm r).mpr ⟨_,by rw[<- e4];exact Vg Z,O⟩;have c0:=(Ed.mp (h4 q0 (by simp))).2;have c1:=(Ed.mp (h4 q1 (by simp))).2;have Y:=(Ed.mp (h4 q2 (by simp))).2;have c3:=(Ed.mp (h4 q3 (by simp))).2;exact⟨⟨q0,mem _ (by simp),c0.1,l0⟩,⟨q1,mem _ (by simp),l1,c1.2⟩,⟨q2,mem _ (by simp),Y.1,Y.2,l2⟩,⟨q3,mem _ (by simp),c3.1,c3.2,l3⟩⟩
def ww(K:W.Frag)(t q p:Addr)(us:List V)(fs:List (Option (PL)))(cv:PL)(b y m low tall rows:Int):Sp:=fun vs H Q _=>vs=[.ref t,.ref q,.ref p]/\H t=some (.tup us)/\GT H us fs/\HA cv b y m fs/\m<=15/\qM H q b y m/\Fc H p low tall rows/\DA cv/\BP cv/\
 ∀(u:Addr) (vs:List V) (os:List (Option (Int×Int))) (kp:PL) (H':Hp),H' u=some (.tup vs)->Dv H' vs os->DA kp->_L.Kept cv kp b y m->xb kp b y m low tall rows os->ET H H'->Q (.ref u) H'
def fE(K:W.Frag):Sp:=fun vs H Q E=>∃t q p us fs cv b y m low tall rows,ww K t q p us fs cv b y m low tall rows vs H Q E
theorem wx(T:Txt K mg a):Ec P w K mg base Ew 6 a.Qt a.Qp ["fours","window","heights"] (fE K):=by
 refine T.Tx.ok (N:=["fours","window","heights"]) Es fun _ _ _ s H vs Q E F h=>?_
 ·obtain⟨t,q,p,us,fs,cv,b,y,m,low,J,Y,rfl,hT,hF,hO,hm,hW,hh,M,a3,k⟩:=h;refine⟨_,QB.h (ES (Ea (GE (wo T) F T.Of T.MA.kp T.Oj (EN (GE (wu T) F.m T.OX T.MD.kp T.Oi (EN (qv 0) EO)) (EN (qv 1) (EN (qv 2) EO)))))),?_⟩;walk_at "s";walk_at "w";refine⟨t,us,fs,cv,rfl,hT,hF,by rw[hO.1];omega,M,fun qs hq r F=>?_,fun t' kp H1 a2 O a1 Z S1=>?_⟩
  ·obtain⟨_,_,L⟩:=hO.mem hq;exact(L r F).1
  have B:=hO.kept hW.2.2.1 Z;walk_at "w";refine⟨t',q,p,kp,b,y,m,low,J,Y,rfl,a2,hW.same S1,hh.same S1,O,fun r F=>a3 r (B.1 r F).1,a1,fun u vs os H2 f2 a0 a4 S2=>?_⟩;exact k u vs os kp H2 f2 a0 O B a4 (S1.trans S2)
end
abbrev Cr:=Str×List (Option (Int×Int))
def Xb(H:Hp)(v:V)(q:Cr):Prop:=∃c t us,v=.ref c/\H c=some (.tup [.str q.1,.ref t])/\H t=some (.tup us)/\Dv H us q.2
theorem Xb.tups{H H':Hp}{v:V}{q:Cr}(h:Xb H v q)(f:∀b xs,H b=some (.tup xs)->H' b=some (.tup xs)):Xb H' v q:=by
 obtain⟨c,t,us,e,h1,h2,B⟩:=h;refine⟨c,t,us,e,f _ _ h1,f _ _ h2,B.mapP fun v o h=>?_⟩
 cases h with
 |non=>exact .non
 |pr e=>exact .pr (f _ _ e)
def zO(H:Hp)(l:Addr)(qs:List Cr):Prop:=∃vs,H l=some (.lst vs)/\Paired (Xb H) vs qs
theorem zO.same{H H':Hp}{l:Addr}{B:List Cr}(h:zO H l B)(s:ET H H'):zO H' l B:=by
 obtain⟨vs,h1,h2⟩:=h;exact⟨vs,s _ _ h1,Paired.mapP h2 fun _ _ z=>z.tups fun b xs e=>s _ _ e⟩
noncomputable def Fa(o:Option (Int×Int))(r:Int):Bool:=match o with
 |none=>false
 |some p=>decide (p.1<=r)&&decide (r<=p.2)
noncomputable def Cd(qs:List Cr)(k:Nat)(r:Int):Str:=match qs with
 | []=>"."
 |q::qs=>if Fa ((q.2[k]?).getD none) r=true then q.1 else Cd qs k r
def xc(qs:List Cr)(m:Nat):Prop:=∀q∈qs,q.1.length=1/\q.2.length=m
theorem Xc{m:Nat}:∀ {qs:List Cr},xc qs m->∀(k:Nat) (r:Int),(Cd qs k r).length=1
 | [],_,_,_=>rfl
 |q::qs,h,k,r=>by
  unfold Cd;split
  ·exact(h q UB).1
  ·exact Xc (fun z hz=>h z (Uf _ hz)) k r
def lineL(qs:List Cr)(m:Nat)(r:Int):List Str:=(UM m).map fun k=>Cd qs k r
theorem Ld{B:List Cr}{n:Nat}(h:xc B n)(r:Int):∀m:Nat,((lineL B m r).map (·.length)).sum=m
 | 0=>rfl
 |m+1=>by
  have:=Ld h r m;unfold lineL at this ⊢;rw[Vk,Uy,Uy,List.sum_append,this];simp only[UK,List.map_nil,List.sum_cons,List.sum_nil];rw[Xc h,Nat.add_zero]
def Fq(qs:List Cr)(m:Nat)(r:Int):Str:=Af (lineL qs m r)
theorem qO{B:List Cr}{n:Nat}(h:xc B n)(m:Nat)(r:Int):(Fq B m r).length=m:=by
 unfold Fq;rw[Sz,Ld h]
section
def sn:Sp:=fun vs H Q _=>∃(v:V) (o:Option (Int×Int)) (r:Int),vs=[v,.int r]/\Br H v o/\Q (.bl (Fa o r)) H
theorem wy(T:Txt K mg a):Ec P w K mg base Ew 1 a.Qz a.QP ["pair","row"] sn:=by
 refine T.MC.ok (N:=["pair","row"]) Es fun _ _ _ s H vs Q E J h=>?_
 ·obtain⟨v,o,r,rfl,F,q⟩:=h;refine⟨_,QB.h (ES (Ea (Ku (IY (Ln) (qv 0) Gk (Ej _)) (Ww (Sr BU BU (Ei (Ek K rfl) (qv 0) ER) (qv 1) (Ei (Ek K rfl) (qv 0) ER)))))),?_⟩;walk_at "s";walk_at "w"
  cases F with
  |non=>
   refine AF (fun h=>absurd rfl h) (fun _=>?_);exact q
  | @pr c p e=>
   refine AF (fun _=>?_) (fun h=>by cases h);walk_at "w";refine GL (fun h=>?_) (fun h=>?_)
   ·walk_at "w";have B:Fa (some p) r=decide (r<=p.2):=by simp[Fa,h]
    rw[<- B];exact q
   ·have B:Fa (some p) r=false:=by simp[Fa,h]
    rw[B] at q;exact q
def fF(K:W.Frag)(l:Addr)(qs:List Cr)(k m:Nat)(r:Int):Sp:=fun vs H Q _=>vs=[.ref l,.int k,.int r]/\zO H l qs/\xc qs m/\k<m/\Q (.str (Cd qs k r)) H
def rc(K:W.Frag):Sp:=fun vs H Q E=>∃l qs k m r,fF K l qs k m r vs H Q E
theorem IN(B:List Cr)(k:Nat)(r:Int):∀i:Nat,(∀j q,j<i->B[j]? = some q->Fa ((q.2[k]?).getD none) r=false)->Cd B k r=Cd (B.drop i) k r
 | 0,_=>rfl
 |i+1,h=>by
  rw[IN B k r i fun j q F=>h j q (by omega)];by_cases hi:i<B.length
  ·rw[List.drop_eq_getElem_cons hi];have:=h i _ (by omega) (Ub hi)
   conv=>lhs;unfold Cd
   rw[this];rfl
  ·rw[Vh (by omega),Vh (by omega)]
theorem KZ:Eo ["layers","k","row","sign","dots"] ["layers","k","row"] (EU LL):=Es
theorem wz(T:Txt K mg a):Ec P w K mg base Ew 2 a.Qb a.Qm ["layers","k","row"] (rc K):=by
 refine T.MI.ok KZ fun a3 A Y s H vs Q E hr h=>?_
 ·obtain⟨l,J,n,m,r,rfl,⟨vs,hl,hp⟩,a0,hn,q⟩:=h;have a2:vs.length=J.length:=Paired.length hp;refine⟨_,QB.h (EQ (DU PassesOwn.never rfl (DX K rfl (qv 0)) (Gm (n:=2) K rfl rfl (EY (GN (i:=3) KZ.nd) (EY (GN (i:=4) KZ.nd) GW))) (ES (GO (BW (GE (wy T) hr T.OV T.MC.kp T.Oo (EN (Ei (Ek K rfl) (qv 4) (qv 1)) (EN (qv 2) EO)))) (ES (Ea (qv 3))) GC))) (ES (Ea Bx))),?_⟩;walk_at "s";walk_at "w";refine AY (xs:=vs) (fun i U H'=>H'=H/\(∃v3 v4,U=[some (.ref l),some (.int n),some (.int r),v3,v4])/\∀j q,j<i->J[j]? = some q->Fa ((q.2[n]?).getD none) r=false) ⟨rfl,⟨_,_,rfl⟩,fun j q L=>absurd L (by omega)⟩ (fun i U H' _ h=>by rw[h.1];exact Eh.of hl) ?_ ?_
  ·rintro i x U H1 hx ⟨rfl,⟨v3,v4,rfl⟩,B⟩;obtain⟨Z,O,c,t,us,rfl,hc,ht,hD⟩:=Paired.get hp hx;have a1:=(a0 Z (Ux O)).2;have M:n<us.length:=by rw[hD.len];omega
   obtain⟨o,ho,hd⟩:=hD.at (Ub M);walk_at "w";refine FK (GF.of ht) (DS (Ub M)) ?_;walk_at "w";refine⟨_,o,r,rfl,hd,?_⟩;walk_at "w";have eo:(Z.2[n]?).getD none=o:=by rw[ho];rfl
   cases hh:Fa o r with
   |true=>
    refine DD ?_;walk_at "w";have hi:i<J.length:=(Ui.mp O).1;rw[IN J n r i B,List.drop_eq_getElem_cons hi] at q;have eq:J[i]=Z:=(Ui.mp O).2;rw[eq] at q;unfold Cd at q;rw[eo,hh,if_pos rfl] at q;exact q
   |false=>
    refine GV ?_;walk_at "w";refine⟨rfl,⟨_,_,rfl⟩,fun j q' L F=>?_⟩;rcases Nat.lt_or_eq_of_le (Nat.le_of_lt_succ L) with L|rfl
    ·exact B j q' L F
    ·rw[O] at F;cases F;rw[eo];exact hh
  ·rintro U H1 ⟨rfl,⟨v3,v4,rfl⟩,B⟩;walk_at "w";rw[IN J n r vs.length B,Vh (by omega)] at q;exact q
def fG(K:W.Frag)(l:Addr)(qs:List Cr)(m r:Int):Sp:=fun vs H Q _=>vs=[.ref l,.int m,.int r]/\zO H l qs/\xc qs m.toNat/\0<=m/\m<=1000/\∀H',ET H H'->Q (.str (Fq qs m.toNat r++"\n")) H'
def re(K:W.Frag):Sp:=fun vs H Q E=>∃l qs m r,fG K l qs m r vs H Q E
theorem xf(T:Txt K mg a):Ec P w K mg base Ew 3 a.JN a.JS ["layers","many","row"] (re K):=by
 refine T.RO.ok (N:=["layers","many","row"]) Es fun _ _ _ s H vs Q E hr h=>?_
 ·obtain⟨L,J,m,r,rfl,Y,B,Z,M,k⟩:=h;refine⟨_,QB.h (ES (Ea (Eb zA (Bp PySem.F.plainAttrs_str PySem.F.slot_str_join PySem.F.type_str_join (Xy K rfl) Bx (EN (Dg (N:=["layers","many","row"]) (sc:=EU IJ) (own:=["k"]) (caps:=["layers","row"]) (ks:=[0,2]) rfl rfl rfl ⟨rfl,by decide +kernel,by decide +kernel,by decide +kernel,by decide +kernel,rfl,by decide +kernel⟩ (Dm rfl T.ZJ (EN (qv 1) EO)) (fun _ _ _ _ _=>Ge (i:=0) (show List.Nodup (α:=Str) ["k","layers","row"] from by decide +kernel) rfl (by walk_at "o") (.inr rfl)) (fun _ _ _ _ _=>Df) (fun _ _ _ _ _=>GE (wz T) hr T.Oe T.MI.kp T.OQ (EN (qv 1) (EN (qv 0) (EN (qv 2) EO))))) EO)) Bx))),?_⟩;walk_at "s";walk_at "w";refine⟨pX,?_⟩;walk_at "w";refine CQ (by omega) (by omega) ?_;intro l O;refine Gw m.toNat (fun i U' H'=>(∃o,U'=[o,some (.ref L),some (.int r)])/\ET H H'/\H' l=some (.lst ((lineL J i r).map V.str))) ?_ ?_ ?_
  ·exact⟨⟨none,rfl⟩,ET.new O,EW⟩
  ·rintro U H' ⟨_,s,f⟩;refine⟨Ue _,?_⟩;walk_at "w";refine Xz (Eh.of f) ?_ ?_
   ·rw[Ld B];show m.toNat+_*0<=_;omega
   rw[Iz];walk_at "w";refine zB ?_ (k H' s);show(Fq J m.toNat r).length+1<=sizeLine;rw[qO B];exact Uz (show m.toNat+1<=1001 by omega) (by decide)
  ·rintro i U H' hi ⟨⟨o,rfl⟩,s,f⟩;refine⟨hi,?_⟩;rintro x H'' ⟨rfl,rfl⟩;have e0:(0+(i:Int))=(i:Int):=by omega
   walk_at "w";refine DD ?_;walk_at "w";rw[e0];refine⟨L,J,i,m.toNat,r,rfl,Y.same s,B,hi,?_⟩;refine⟨_,f,?_,⟨_,rfl⟩,s.kpN O Kp.upd,?_⟩
   ·rw[Ug,lineL,Ug,Ve];exact Uh hi (Uz (show m.toNat<=1000 by omega) (by decide))
   ·rw[EW,lineL,lineL,Vk,Uy,Uy];rfl
def BS(qs:List Cr)(m:Nat)(x:Int)(n:Nat):List Str:=(UM n).map fun(i:Nat)=>Fq qs m (x+(i:Int)*(-1))++"\n"
theorem yA{B:List Cr}{j:Nat}(h:xc B j)(m:Nat)(x:Int)(n:Nat):((BS B m x n).map (·.length)).sum=n*(m+1):=by
 induction n with
 |zero=>simp[BS]
 |succ n ih=>
  have:BS B m x (n+1)=BS B m x n ++ [Fq B m (x+(n:Int)*(-1))++"\n"]:=by simp[BS,Vk]
  rw[this,Uy,List.sum_append,ih];simp only[UK,List.map_nil,List.sum_cons,List.sum_nil];rw[Ic,qO h];show n*(m+1)+(m+1+0)=_;rw[Nat.succ_mul]
def textL(qs:List Cr)(m rows:Int):Str:=Af (BS qs m.toNat (rows-1) rows.toNat)
def fH(K:W.Frag)(l:Addr)(qs:List Cr)(m r:Int):Sp:=fun vs H Q _=>vs=[.ref l,.int m,.int r]/\zO H l qs/\xc qs m.toNat/\0<=m/\m<=1000/\0<=r/\r<=1000/\∀H',ET H H'->Q (.str (textL qs m r)) H'
def rf(K:W.Frag):Sp:=fun vs H Q E=>∃l qs m r,fH K l qs m r vs H Q E
theorem zP(T:Txt K mg a):Ec P w K mg base Ew 4 a.YL a.YY ["layers","many","rows"] (rf K):=by
 refine T.QC.ok (N:=["layers","many","rows"]) Es fun _ _ _ s H vs Q E hr h=>?_
 ·obtain⟨O,M,m,r,rfl,hL,B,L,J,Z,a0,k⟩:=h;refine⟨_,QB.h (ES (Ea (Bp PySem.F.plainAttrs_str PySem.F.slot_str_join PySem.F.type_str_join (Xy K rfl) Bx (EN (Dg (N:=["layers","many","rows"]) (sc:=EU FW) (own:=["row"]) (caps:=["layers","many"]) (ks:=[0,1]) rfl rfl rfl ⟨rfl,by decide +kernel,by decide +kernel,by decide +kernel,by decide +kernel,rfl,by decide +kernel⟩ (gE rfl T.ZJ (EN (Eb BM (qv 2) ER) (EN (AG Bw ER) (EN (AG Bw ER) EO)))) (fun _ _ _ _ _=>Ge (i:=0) (show List.Nodup (α:=Str) ["row","layers","many"] from by decide +kernel) rfl (by walk_at "o") (.inr rfl)) (fun _ _ _ _ _=>Df) (fun _ _ _ _ _=>GE (xf T) hr T.No T.RO.kp T.NX (EN (qv 1) (EN (qv 2) (EN (qv 0) EO))))) EO)))),?_⟩;walk_at "s";walk_at "w";refine⟨pX,?_⟩;walk_at "w";refine dO (by omega) (by omega) (by decide) (by decide) ?_;intro l Y;have en:(r-1 - -1).toNat=r.toNat:=by congr 1;omega
  rw[en];refine Gw r.toNat (fun i U' H'=>(∃o,U'=[o,some (.ref O),some (.int m)])/\ET H H'/\H' l=some (.lst ((BS M m.toNat (r-1) i).map V.str))) ?_ ?_ ?_
  ·exact⟨⟨none,rfl⟩,ET.new Y,EW⟩
  ·rintro U H' ⟨_,s,f⟩;refine⟨Ue _,?_⟩;walk_at "w";refine Xz (Eh.of f) ?_ ?_
   ·rw[yA B];show r.toNat*(m.toNat+1)+_*0<=_;have h1:r.toNat*(m.toNat+1)<=1000*1001:=Nat.mul_le_mul (by omega) (by omega);omega
   rw[Iz];exact k H' s
  ·rintro i U H' hi ⟨⟨o,rfl⟩,s,f⟩;refine⟨hi,?_⟩;rintro x H'' ⟨rfl,rfl⟩;walk_at "w";refine DD ?_;walk_at "w";refine⟨O,M,m,_,rfl,hL.same s,B,L,J,fun H5 S5=>?_⟩;refine⟨_,S5 _ _ f,?_,⟨_,rfl⟩,(s.trans S5).kpN Y Kp.upd,?_⟩
   ·rw[Ug,BS,Ug,Ve];exact Uh hi (Uz (show r.toNat<=1000 by omega) (by decide))
   ·rw[EW,BS,BS,Vk,Uy,Uy];rfl
end
noncomputable def ai(d:Addr):List (Str×V):=[("stores",V.ref d)]
theorem Xd{d:Addr}:(ai d).lookup ("stores":Str)=some (.ref d):=by
 unfold ai;rw[Uk,beq_self_eq_true]
theorem Le{d:Addr}{m:Str}(h1:(m==("stores":Str))=false):(ai d).lookup m=none:=by
 unfold ai;rw[Uk,h1];rfl
structure SS where
 S:SA
 sm:PL
 c:Nat
 ds:List (Int×Option Int)
 ts:List Int
 ws:List V
def SS.At(a:Ad)(H:Hp)(q:SS):Prop:=∃n,EV a H q.S n q.sm q.c q.ds q.ts q.ws
def SS.all(q:SS):List Addr:=q.S.p::q.S.own
noncomputable def BV(m:List (Str×SS)):List (Str×V):=m.map fun q=>(q.1,V.ref q.2.S.p)
theorem aj(m:List (Str×SS)):(BV m).length=m.length:=by simp[BV]
theorem yB(m:List (Str×SS)):(BV m).map (·.1)=m.map (·.1):=by simp[BV,UH,Function.comp_def]
theorem FQ(m:List (Str×SS))(k:Str):Ex (BV m) k=(Ex m k).map fun q=>V.ref q.S.p:=HS (fun q:SS=>V.ref q.S.p) m k
structure Fd(a:Ad)(H:Hp)(p d:Addr)(m:List (Str×SS)):Prop where
 nd:(m.map (·.1)).Nodup
 st:∀q∈m,q.2.At a H
 pw:m.Pairwise fun x y=>∀b∈x.2.all,b∉y.2.all
 ap:∀q∈m,p∉q.2.all/\d∉q.2.all
def GA(a:Ad)(H:Hp)(p d:Addr)(m:List (Str×SS)):Prop:=(∃dx,H p=some (.ins a.ZG dx (ai d)))/\H d=some (.dK (DL (BV m)))/\Fd a H p d m
def BL(p d:Addr)(m:List (Str×SS)):List Addr:=p::d::m.flatMap fun q=>q.2.all
noncomputable def Xe(m:List (Str×SS)):List Addr:=m.map fun q=>q.2.S.tr
theorem Gn{p d b:Addr}{m:List (Str×SS)}:b∈BL p d m↔b=p\/b=d\/∃q∈m,b∈q.2.all:=by simp[BL,List.mem_flatMap]
theorem iX{α:Type}{R:α->α->Prop}(sy:∀x y,R x y->R y x):∀ {l:List α},l.Pairwise R->∀ {x y:α},x∈l->y∈l->x≠y->R x y
 | [],_,_,_,h,_,_=>by cases h
 |z::l,h,x,y,hx,hy,n=>by
  rw[List.pairwise_cons] at h;rcases Ud.mp hx with e1|hx<;>rcases Ud.mp hy with e2|hy
  ·exact absurd (e1.trans e2.symm) n
  ·rw[e1];exact h.1 y hy
  ·rw[e2];exact sy _ _ (h.1 x hx)
  ·exact iX sy h.2 hx hy n
section
variable{a:Ad}{H H':Hp}{p d:Addr}{m:List (Str×SS)}{l:List Addr}
theorem SS.At.frL{q:SS}(h:q.At a H)(f:GD l H H')(n:∀b∈l,b∉q.all)(nt:∀b∈l,∀xs,H b≠some (.tup xs)):q.At a H':=by
 obtain⟨x,h⟩:=h;exact⟨x,h.frL f n nt⟩
theorem SS.At.same{q:SS}(h:q.At a H)(s:ET H H'):q.At a H':=by
 obtain⟨x,h⟩:=h;exact⟨x,h.same s⟩
theorem Fd.frL(h:Fd a H p d m)(f:GD l H H')(n:∀q∈m,∀b∈l,b∉q.2.all)(nt:∀b∈l,∀xs,H b≠some (.tup xs)):Fd a H' p d m:=⟨h.nd,fun q B=>(h.st q B).frL f (n q B) nt,h.pw,h.ap⟩
theorem Fd.same(h:Fd a H p d m)(s:ET H H'):Fd a H' p d m:=⟨h.nd,fun q B=>(h.st q B).same s,h.pw,h.ap⟩
theorem Fd.apart(h:Fd a H p d m){x y:Str×SS}(B:x∈m)(F:y∈m)(n:x≠y):∀b∈x.2.all,b∉y.2.all:=iX (fun _ _ h b J z=>h b z J) h.pw B F n
theorem Fd.look(h:Fd a H p d m){q:Str×SS}(J:q∈m)(g:q.2.At a H')(k:Kp q.2.S.tr H H'):Fd a H' p d m:=by
 refine⟨h.nd,fun x F=>?_,h.pw,h.ap⟩;by_cases e:x=q
 ·rw[e];exact g
 ·have L:=h.apart J F (Ne.symm e);obtain⟨n,M⟩:=h.st q J;refine(h.st x F).frL (l:=[q.2.S.tr]) (GD.kp k (by simp)) (fun b B=>?_) fun b B xs=>?_
  ·rw[Um.mp B];exact L _ (by simp[SS.all,SA.own])
  ·rw[Um.mp B];exact M.noTup _ (by simp[SA.own]) xs
theorem GA.bin(h:GA a H p d m):Fd a H p d m:=h.2.2
theorem GA.frL(h:GA a H p d m)(f:GD l H H')(n:∀b∈l,b∉BL p d m)(nt:∀b∈l,∀xs,H b≠some (.tup xs)):GA a H' p d m:=by
 obtain⟨⟨dx,h1⟩,h2,J⟩:=h;exact⟨⟨dx,f _ _ h1 fun z=>n _ z (Gn.mpr (.inl rfl))⟩,f _ _ h2 fun z=>n _ z (Gn.mpr (.inr (.inl rfl))),J.frL f (fun q B b F z=>n b F (Gn.mpr (.inr (.inr ⟨q,B,z⟩)))) nt⟩
theorem GA.same(h:GA a H p d m)(s:ET H H'):GA a H' p d m:=by
 obtain⟨⟨dx,h1⟩,h2,B⟩:=h;exact⟨⟨dx,s _ _ h1⟩,s _ _ h2,B.same s⟩
theorem GA.live(h:GA a H p d m):∀b∈BL p d m,∃o,H b=some o:=fun b F=>by
 obtain⟨⟨dx,h1⟩,h2,J⟩:=h;rcases Gn.mp F with rfl|rfl|⟨q,hq,z⟩
 ·exact⟨_,h1⟩
 ·exact⟨_,h2⟩
 ·obtain⟨n,B⟩:=J.st q hq;exact B.live b z
theorem GA.fresh(h:GA a H p d m){b:Addr}(e:H b=none):b∉BL p d m:=fun z=>by
 obtain⟨o,B⟩:=h.live b z;rw[e] at B;cases B
theorem GA.kpL(h:GA a H p d m){q:Addr}{xs:List V}(k:Kp q H H')(F:H q=some (.lst xs))(J:q∉BL p d m):GA a H' p d m:=
 h.frL (l:=[q]) (GD.kp k (by simp)) (fun b B=>by rw[Um.mp B];exact J) fun b B ys=>by rw[Um.mp B,F];intro z;cases z
theorem GA.pur(h:GA a H p d m){q:Addr}(B:DP H q)(k:Kp q H H')(F:q∉BL p d m):GA a H' p d m:=by
 obtain⟨x,n,c,e,_⟩:=B;exact h.kpL k e F
theorem GA.looked(h:GA a H p d m)(g:Fd a H' p d m)(f:GD (Xe m) H H'):GA a H' p d m:=by
 obtain⟨⟨dx,h1⟩,h2,F⟩:=h
 have nt:∀b,(∀q∈m,b∉q.2.all)->b∉Xe m:=fun b n z=>by
  obtain⟨q,B,rfl⟩:=Ur.mp z;exact n q B (by simp[SS.all,SA.own])
 exact⟨⟨dx,f _ _ h1 (nt _ fun q B=>(F.ap q B).1)⟩,f _ _ h2 (nt _ fun q B=>(F.ap q B).2),g⟩
set_option tactic.hygienic true in
theorem al{k:Str}{q q':SS}(nd:(m.map (·.1)).Nodup)(F:Ex m k=some q)(e:q'.S=q.S):BV (Gd m k q')=BV m/\(Gd m k q').map (·.1)=m.map (·.1):=by
 have J:(m.any fun p=>decide (p.1=k))=true:=by
  rw[UY];exact⟨_,Bu F,by simp⟩
 unfold Gd;rw[if_pos J];unfold BV;constructor
 ·rw[UH];refine UU fun x B=>?_;simp only[Function.comp];split
  ·rename_i c
   have h1:Ex m k=some x.2:=Gi nd (by rw[<- c];exact B);rw[F] at h1;rw[e,Option.some.inj h1]
  ·rfl
 ·rw[UH];refine UU fun x B=>?_;simp only[Function.comp];split<;>rfl
theorem xg{k:Str}{q q':SS}(n:(m.map (·.1)).Nodup)(J:Ex m k=some q){x:Str×SS}(B:x∈Gd m k q'):x=(k,q')\/(x∈m/\x.1≠k):=by
 have F:(m.any fun p=>decide (p.1=k))=true:=by
  rw[UY];exact⟨_,Bu J,by simp⟩
 unfold Gd at B;rw[if_pos F] at B;obtain⟨z,hz,e⟩:=Ur.mp B;by_cases c:z.1=k
 ·rw[if_pos c] at e;left;rw[<- e,c]
 ·rw[if_neg c] at e;right;rw[<- e];exact⟨hz,c⟩
set_option tactic.hygienic true in
theorem mR{k:Str}{q q':SS}(nd:(m.map (·.1)).Nodup)(L:Ex m k=some q)(e:q'.S=q.S)(h:m.Pairwise fun x y=>∀b∈x.2.all,b∉y.2.all):(Gd m k q').Pairwise fun x y=>∀b∈x.2.all,b∉y.2.all:=by
 have O:(m.any fun p=>decide (p.1=k))=true:=by
  rw[UY];exact⟨_,Bu L,by simp⟩
 have B:∀x∈m,(if x.1=k then(x.1,q') else x).2.all=x.2.all:=fun x F=>by
  split
  ·rename_i c
   have h1:Ex m k=some x.2:=Gi nd (by rw[<- c];exact F);rw[L] at h1;unfold SS.all;rw[e,Option.some.inj h1]
  ·rfl
 unfold Gd;rw[if_pos O,List.pairwise_map]
 exact h.imp_of_mem fun {x y} F M g b J=>by
  rw[B x F] at J;rw[B y M];exact g b J
theorem GA.more(h:GA a H p d m){k:Str}{S:SA}(hg:Ex m k=none){H1:Hp}(Z:∀b∈S.p::S.own,H b=none)(s:ET H H1)(g:(SS.mk S [] 0 [] [] []).At a H1)(kp:Kp d H1 H')(f:H' d=some (.dK (DL (BV (m ++ [(k,⟨S,[],0,[],[],[]⟩)]))))):GA a H' p d (m ++ [(k,⟨S,[],0,[],[],[]⟩)]):=by
 have hl:=h.live;obtain⟨⟨dx,h1⟩,h2,M⟩:=h;have O:p≠d:=fun z=>by rw[z,h2] at h1;cases h1
 have nt:∀xs,H1 d≠some (.tup xs):=fun xs z=>by rw[s _ _ h2] at z;cases z
 have fa:∀b∈BL p d m,b∉S.p::S.own:=fun b F z=>by
  obtain⟨o,e⟩:=hl b F;rw[Z b z] at e;cases e
 have J:d∉S.p::S.own:=fa d (Gn.mpr (.inr (.inl rfl)));refine⟨⟨dx,kp _ _ (s _ _ h1) O⟩,f,?_,fun x B=>?_,?_,fun x B=>?_⟩
 ·rw[Uy,List.nodup_append];refine⟨M.nd,by simp,fun y Y z hz e=>?_⟩;simp only[UK,List.map_nil,Um] at hz;rw[CY] at hg;exact hg (by rw[<- hz,<- e];exact Y)
 ·have L:∀q:SS,q.At a H1->d∉q.all->q.At a H':=fun q hq nq=>hq.frL (l:=[d]) (GD.kp kp (by simp)) (fun b F=>by rw[Um.mp F];exact nq) fun b F=>by rw[Um.mp F];exact nt
  rcases Uu.mp B with B|B
  ·exact L _ ((M.st x B).same s) (M.ap x B).2
  ·rw[Um.mp B];exact L _ g J
 ·rw[List.pairwise_append];refine⟨M.pw,List.pairwise_singleton _ _,fun x B y Y b F=>?_⟩;rw[Um.mp Y];exact fa b (Gn.mpr (.inr (.inr ⟨x,B,F⟩)))
 ·rcases Uu.mp B with B|B
  ·exact M.ap x B
  ·rw[Um.mp B];exact⟨fa p (Gn.mpr (.inl rfl)),J⟩
end
noncomputable def BI(k:Str):Bool:=decide (1<=k.length)&&decide (k.length<=8)&&k.cps.toList.all fun c=>decide (c∈("abcdefghijklmnopqrstuvwxyz":Str).cps.toList)
theorem am(K:W.Frag):W.kitOne K (.type "str") (.type "str")=some true:=by kernel_rfl
section
local macro_rules|`(tactic|walk_at "rd")=>`(tactic|walk_at " WI Zq,YF,Xd")
inductive zQ (H:Hp):V->Prop where
 |non:zQ H .non
 |bl (b:Bool):zQ H (.bl b)
 |int (i:Int):zQ H (.int i)
 |tup {p:Addr} {xs:List V} (e:H p=some (.tup xs)):zQ H (.ref p)
 |lst {p:Addr} {xs:List V} (e:H p=some (.lst xs)):zQ H (.ref p)
theorem ao(K:W.Frag):W.kitOne K (.type "NoneType") (.type "str")=some false:=by kernel_rfl
theorem fJ(K:W.Frag):W.kitOne K (.type "bool") (.type "str")=some false:=by kernel_rfl
theorem aq(K:W.Frag):W.kitOne K (.type "int") (.type "str")=some false:=by kernel_rfl
theorem ar(K:W.Frag):W.kitOne K (.type "tuple") (.type "str")=some false:=by kernel_rfl
theorem au(K:W.Frag):W.kitOne K (.type "list") (.type "str")=some false:=by kernel_rfl
def fK:Sp:=fun vs H Q _=>∃v:V,vs=[v]/\((∃k:Str,v=.str k/\k.length<=1000/\∀H',ET H H'->Q (.bl (BI k)) H')\/(zQ H v/\Q (.bl false) H))
theorem yC(T:Txt K mg a):Ec P w K mg base Ew 1 a.RL a.RD ["thing"] fK:=by
 refine T.MK.ok (N:=["thing"]) Es fun _ _ _ s H vs Q E Y h=>?_
 ·obtain⟨v,rfl,J⟩:=h;refine⟨_,QB.h (ES (Ea (Ku (Ey (jQ K rfl) rfl T.Zb FT (EN (qv 0) (EN (Xs (v:=.ty "str") rfl T.OL oN rfl) EO))) (Ku (Sr BU BU ER (Ey lQ rfl T.Zf CO (EN (qv 0) EO)) (Fy (v:=.int 8) rfl T.Tj ⟨_,rfl⟩)) (Ww (Ey (pP K rfl rfl) rfl T.OJ oP (EN (Dg (N:=["thing"]) (sc:=EU LR) (own:=["sign"]) (caps:=[]) (ks:=[]) rfl rfl rfl ⟨rfl,by decide +kernel,by decide +kernel,by decide +kernel,by decide +kernel,rfl,by decide +kernel⟩ (pv (qv 0)) (fun _ _ _ _ _=>Ge (i:=0) (show List.Nodup (α:=Str) ["sign"] from by decide +kernel) rfl (by walk_at "o") (.inr rfl)) (fun _ _ _ _ _=>Df) (fun _ _ _ _ _=>IY (ph) (qv 0) (Fy (v:=.str "abcdefghijklmnopqrstuvwxyz") rfl T.On ⟨_,rfl⟩) (by with_unfolding_all rfl))) EO))))))),?_⟩;walk_at "s";walk_at "w";rcases J with ⟨z,rfl,hl,k⟩|⟨J,q⟩
  case inr=>
   cases J with
   |non=>exact FL .non (ao _) (Sq (GV q))
   |bl b=>exact FL (.bl b) (fJ _) (Sq (GV q))
   |int i=>exact FL (.int i) (aq _) (Sq (GV q))
   |tup e=>exact FL (.tup e) (ar _) (Sq (GV q))
   |lst e=>exact FL (.lst e) (au _) (Sq (GV q))
  have L:z.length=z.cps.toList.length:=by rw[UI];rfl
  refine FL (.str z) (am _) ?_;walk_at "w";refine DD ?_;walk_at "w";refine lR (Uz hl (by decide)) ?_;walk_at "w";have F:BI z=(decide (1<=z.length)&&(decide (z.length<=8)&&z.cps.toList.all fun c=>decide (c∈("abcdefghijklmnopqrstuvwxyz":Str).cps.toList))):=by unfold BI;rw[Bool.and_assoc]
  refine GL (fun h1=>?_) (fun h1=>?_)
  ·walk_at "w";refine GL (fun h2=>?_) (fun h2=>?_)
   ·walk_at "w";intro l B;refine Gw z.cps.toList.length (fun i U' H'=>(∃o,U'=[o])/\ET H H'/\H' l=some (.lst (((z.cps.toList.take i).map fun c=>decide (c∈("abcdefghijklmnopqrstuvwxyz":Str).cps.toList)).map V.bl))) ?_ ?_ ?_
    ·exact⟨⟨none,rfl⟩,ET.new B,EW⟩
    ·rintro U H' ⟨_,s,f⟩;refine⟨by show z.cps.size<=_;rw[UI];exact Ue _,?_⟩;rw[UP] at f;walk_at "w";refine pD (Eh.of f) ?_
     have M:((z.cps.toList.map fun c=>decide (c∈("abcdefghijklmnopqrstuvwxyz":Str).cps.toList)).all id)=BI z:=by
      rw[F,decide_eq_true (by omega),decide_eq_true (by omega),Bool.true_and,Bool.true_and,List.all_map];rfl
     rw[M];exact k H' s
    ·rintro i U H' hi ⟨⟨o,rfl⟩,s,f⟩;refine⟨by show i<z.cps.size;rw[UI] at hi;exact hi,?_⟩;rintro x H'' ⟨rfl,c,O,rfl⟩;walk_at "w";refine DD ?_;walk_at "w";refine pi ?_;refine⟨_,f,?_,⟨_,rfl⟩,s.kpN B Kp.upd,?_⟩
     ·rw[Ug,Ug,US];exact Uq (Nat.min_le_right _ _) (Uq (show z.cps.toList.length<=1000 by omega) (by decide))
     ·rw[EW,UR,O,Uy,Uy];rfl
   ·have:=k H (ET.refl _);rw[F,decide_eq_false (show ¬z.length<=8 by simp at h2;omega),Vr,Bool.and_false] at this;exact this
  ·refine⟨_,rfl,GV ?_⟩;have:=k H (ET.refl _);rw[F,decide_eq_false (show ¬ 1<=z.length by simp at h1;omega),Vr] at this;exact this
def mS(a:Ad):Sp:=fun vs H Q _=>∃p dx:Addr,vs=[.ref p]/\H p=some (.ins a.ZG dx [])/\∀(d:Addr) (H':Hp),H d=none->GA a H' p d []->Kp p H H'->Q .non H'
theorem Lz(T:Txt K mg a):Ec P w K mg base Ew 1 a.Zn a.Zm ["self"] (mS a):=by
 refine T.RW.ok (N:=["self"]) Es fun _ _ _ s H vs Q E O h=>?_
 ·obtain⟨p,dx,rfl,J,k⟩:=h;refine⟨_,QB.h (ES (Dt K rfl (qv 0) AS)),?_⟩;walk_at "s";walk_at "w";refine KJ fun d H1 F L S1=>?_;have nd:d≠p:=fun z=>by rw[z,J] at F;cases F
  walk_at "w";refine DY (S1 _ _ J) T.Zq T.YF (by show 0<1000;decide) fun H2 M K2=>?_;walk_at "w";exact k d H2 F ⟨⟨dx,M⟩,K2 _ _ L nd,by simp,fun q B=>(by cases B),.nil,fun q B=>by cases B⟩ ((Kp.same S1).trans K2)
def yD(a:Ad)(p d:Addr)(m:List (Str×SS))(k:Str):Sp:=fun vs H Q _=>vs=[.ref p,.str k]/\BI k=true/\GA a H p d m/\m.length<=60/\
 (∀q,Ex m k=some q->∀H',ET H H'->Q (.ref q.S.p) H')/\
 (Ex m k=none->∀(S:SA) (H':Hp),(∀b∈S.p::S.own,H b=none)->GA a H' p d (m ++ [(k,⟨S,[],0,[],[],[]⟩)])->Kp d H H'->Q (.ref S.p) H')
def fL(a:Ad):Sp:=fun vs H Q E=>∃p d m k,yD a p d m k vs H Q E
theorem FB(T:Txt K mg a):Ec P w K mg base Ew 9 a.Yd a.YI ["self","name"] (fL a):=by
 refine T.Mf.ok (N:=["self","name"]) Es fun _ _ _ s H vs Q E J h=>?_
 ·obtain⟨p,d,m,z,rfl,hz,hB,Y,k1,k2⟩:=h;have hu:=Dc J
  have a3:z.length<=1000:=by
   unfold BI at hz;simp only[UN,decide_eq_true_eq] at hz;omega
  refine⟨_,QB.h (EQ (GO (By (BW (GE (yC T) J.m T.OW T.MK.kp T.Ob (EN (qv 1) EO)))) (ES AR) GC) (EQ (GO (Ee (KH hu) (qv 1) (Eu K rfl (qv 0)) (by with_unfolding_all rfl)) (ES (Dz hu (jl (dvs:=[V.non]) T.PR (Ly T) J rfl T.Pf T.RM (.cons rfl .nil) GK) (Eu K rfl (qv 0)) (qv 1))) GC) (ES (Ea (DI hu (Eu K rfl (qv 0)) (qv 1)))))),?_⟩;walk_at "s";walk_at "w";refine⟨_,rfl,.inl ⟨z,rfl,a3,fun H1 S1=>?_⟩⟩;rw[hz];have B:=hB.same S1;obtain⟨⟨dx,c0⟩,L,b6⟩:=id B;walk_at "w";refine GV ?_;walk_at "w";refine wQ L ?_;rw[FQ];walk_at "w"
  cases hg:Ex m z with
  |some q=>
   refine GV ?_;walk_at "w";refine Di (v:=.ref q.S.p) L (by rw[FQ,hg];rfl) ?_;exact k1 q hg H1 S1
  |none=>
   refine DD ?_;walk_at "w";refine Lq fun x a7 H2 n2 f2 S2=>?_;refine⟨x,a7,.non,[],rfl,f2,.inl ⟨rfl,rfl⟩,List.nodup_nil,(fun q hq=>by cases hq),UX _,fun S sm H3 eS a5 a4 a0 a9 K3=>⟨rfl,?_⟩⟩;subst eS;obtain rfl:sm=[]:=List.eq_nil_iff_forall_not_mem.mpr fun r J=>by have:=(a0 r).mp J;cases this
   have S13:ET H1 H3:=S2.kpN n2 K3;have a2:=B.same S13;obtain⟨⟨b0,b7⟩,a6,a8⟩:=id a2;walk_at "w";refine HU a6 (Uq (show(BV m).length<=60 by simpa[BV] using Y) (by decide)) fun H4 f4 K4=>?_
   have e4:Gd (BV m) z (.ref S.p)=BV (m ++ [(z,⟨S,[],0,[],[],[]⟩)]):=by
    rw[KI (by rw[FQ,hg];rfl)];simp[BV]
   rw[e4] at f4
   have F:∀b∈S.p::S.own,H1 b=none:=fun b O=>by
    rcases Ud.mp O with rfl|O
    ·exact n2
    ·exact Bc S2 (a5 b O)
   have M:=B.more hg F S13 ⟨0,a4⟩ K4 f4;obtain⟨⟨b8,b9⟩,Z,a1⟩:=id M;walk_at "w";refine Di (v:=.ref S.p) Z ?_ ?_
   ·rw[FQ,Gi a1.nd (v:=⟨S,[],0,[],[],[]⟩) (by simp)];rfl
   ·exact k2 hg S H4 (fun b O=>Bc S1 (F b O)) M (((Kp.same S1).trans (Kp.same S13)).trans K4)
def fM(a:Ad):Sp:=fun vs H Q _=>∃(p d:Addr) (m:List (Str×SS)),vs=[.ref p]/\GA a H p d m/\m.length<=60/\∀(l:Addr) (ss:List Str) (H':Hp),H l=none->H' l=some (.lst (ss.map V.str))->ss.Perm (m.map (·.1))->ss.Pairwise Cy->ET H H'->Q (.ref l) H'
theorem zR(T:Txt K mg a):Ec P w K mg base Ew 1 a.YS a.Yf ["self"] (fM a):=by
 refine T.MO.ok (N:=["self"]) Es fun _ _ _ s H vs Q E hr h=>?_
 ·obtain⟨p,d,m,rfl,Y,J,k⟩:=h;refine⟨_,QB.h (ES (Ea (Ey (SO rfl) rfl T.ZV AW (EN (Eu K rfl (qv 0)) EO)))),?_⟩;walk_at "s";obtain⟨⟨dx,hp⟩,L,hI⟩:=id Y;walk_at "w";refine XR L (by rw[aj];omega) fun l H1 O Z M B F S1=>?_;rw[yB] at B;exact k l O H1 Z M B F S1
end
section
local macro_rules|`(tactic|walk_at "rd")=>`(tactic|walk_at " WI Zq,YF,Xd")
theorem fN{sm cv:PL}{x z:Int}{o:Option (PL)}(hm:∀r,r∈cv↔r∈sm)(h:Is4 (inCol sm x z) o):ah cv x z o:=by
 have e:∀r,r∈inCol cv x z↔r∈inCol sm x z:=fun r=>by rw[Ed,Ed,hm]
 rcases h with ⟨h1,h2⟩|⟨q0,q1,q2,q3,h0,m0,m1,m2,m3,hb⟩
 ·refine .inl ⟨h1,List.eq_nil_iff_forall_not_mem.mpr fun r B=>?_⟩;have:=(e r).mp B;rw[h2] at this;cases this
 ·refine .inr ⟨q0,q1,q2,q3,h0,fun r B=>(e r).mpr ?_,fun r B=>?_⟩
  ·simp only[Ud,Us,or_false] at B;rcases B with rfl|rfl|rfl|rfl<;>assumption
  ·have:=hb r ((e r).mp B);exact⟨this.1,this.2.1,by omega,by omega⟩
theorem fO{sm:PL}(n:(sm.map (·.1)).Nodup):∃cv,DA cv/\∀r,r∈cv↔r∈sm:=by
 have h:=Ix n (List.mergeSort_perm (sm.map (·.1)) (fun a b=>decide (a<=b))) (by
  have:=List.pairwise_mergeSort (le:=fun a b:Int=>decide (a<=b)) (fun a b c h1 h2=>by simp at *;omega) (fun a b=>by simp;omega) (sm.map (·.1))
  exact this.imp fun h=>by simpa using h)
 exact⟨_,h.1,fun r=>by obtain⟨t,x⟩:=r;rw[h.2,Ga n]⟩
def vF(sm:PL)(b y w low tall rows:Int)(os:List (Option (Int×Int))):Prop:=∃cv kp,DA cv/\(∀r,r∈cv↔r∈sm)/\DA kp/\_L.Kept cv kp b y w/\xb kp b y w low tall rows os
def qw(m:List (Str×SS))(b y w low tall rows:Int)(k:Str)(q:Cr):Prop:=∃st c,Ex m k=some st/\k.cps.toList.head? = some c/\q.1=⟨#[c]⟩/\vF st.sm b y w low tall rows q.2
def xh(a:Ad)(p d q h:Addr)(m:List (Str×SS))(b y w low tall rows:Int):Sp:=fun vs H Q _=>vs=[.ref p,.ref q,.ref h]/\GA a H p d m/\m.length<=60/\(∀x∈m,BI x.1=true/\BP x.2.sm)/\BH H q b y w/\w<=15/\Fc H h low tall rows/\
 ∀(ss:List Str) (qs:List Cr) (H':Hp),ss.Perm (m.map (·.1))->ss.Pairwise Cy->Paired (qw m b y w low tall rows) ss qs->GA a H' p d m->GD (Xe m) H H'->Q (.str (textL qs w rows)) H'
def yE(a:Ad):Sp:=fun vs H Q E=>∃p d q h m b y w low tall rows,xh a p d q h m b y w low tall rows vs H Q E
theorem GD.tup{l:List Addr}{H H':Hp}{b:Addr}{xs:List V}(f:GD l H H')(nt:∀b∈l,∀xs,H b≠some (.tup xs))(e:H b=some (.tup xs)):H' b=some (.tup xs):=f _ _ e fun z=>nt b z xs e
theorem Fd.noTup{a:Ad}{H:Hp}{p d:Addr}{m:List (Str×SS)}(h:Fd a H p d m):∀b∈Xe m,∀xs,H b≠some (.tup xs):=fun b J xs=>by
 obtain⟨q,B,rfl⟩:=Ur.mp J;obtain⟨n,F⟩:=h.st q B;exact F.noTup _ (by simp[SA.own]) xs
theorem BH.win{H:Hp}{q:Addr}{b y w:Int}(h:BH H q b y w):qM H q b y w:=by
 obtain⟨h1,h2,B,J,F,L⟩:=h;unfold InT at F L;have:1*y<=w*y:=UT B (by omega);exact⟨h1,by unfold Bn;omega,h2,by unfold Bn;omega,B,J⟩
theorem Hj:Eo ["self","window","heights","layers"] ["self","window","heights"] (EU CI):=Es
theorem WU(T:Txt K mg a):Ec P w K mg base Ew 8 a.Zz a.Z3 ["self","window","heights"] (yE a):=by
 refine T.Te.ok Hj fun f4 A c6 s H vs Q E hr h=>?_
 ·obtain⟨p,d,q,h,m,b,y,w,low,Z,J,rfl,hB,d3,d6,hW,c2,hH,k⟩:=h;have hu:=Dc hr;refine⟨_,QB.h (EQ (Et (GE (CK T) hr.m T.Ze T.ZR.kp T.Zh (EN (qv 1) EO))) (EQ (Fz (N:=["self","window","heights","layers"]) (sc:=EU CI) (own:=["name"]) (caps:=["window","heights","self"]) (ks:=[1,2,0]) (i:=3) rfl rfl rfl ⟨rfl,by decide +kernel,by decide +kernel,by decide +kernel,by decide +kernel,rfl,by decide +kernel⟩ Hj.nd rfl (by walk_at "o") (DX K rfl (BB (qv 0) T.Zq T.MU (zR T) hr.m T.Mg .nil GK)) (fun _ _ _ _ _=>Ge (i:=0) (show List.Nodup (α:=Str) ["name","window","heights","self"] from by decide +kernel) rfl (by walk_at "o") (.inr rfl)) (fun _ _ _ _ _=>Df) (fun _ _ _ _ _=>GB (EN (Ei ye (qv 0) ER) (EN (GE (wx T) hr.m T.OY T.Tx.kp T.OS (EN (GQ (DI hu (Eu K rfl (qv 3)) (qv 0)) T.ZE T.YR (FA T) hr T.Ye .nil GK (EN (qv 1) EO)) (EN (qv 1) (EN (qv 2) EO)))) EO)))) (ES (Ea (GE (zP T) hr.m T.MY T.QC.kp T.MW (EN (qv 3) (EN (Ei (Ek K rfl) (qv 1) ER) (EN (Ei (Ek K rfl) (qv 2) ER) EO)))))))),?_⟩;walk_at "s";walk_at "w";refine⟨q,b,y,w,rfl,hW.1,by have:=hW.2.2.1;omega,by omega,hW.2.2.2.2.1,hW.2.2.2.2.2,?_⟩;obtain⟨⟨dx,hp⟩,hd,hI⟩:=id hB;walk_at "w";refine En hp (Le (by decide +kernel)) ?_;walk_at "w";refine⟨p,d,m,rfl,hB,d3,fun l1 ss H1 n1 f1 a9 c5 S1=>?_⟩;walk_at "w";intro l hl;have L:=hB.same S1
  have c3:l1∉Xe m:=fun z=>by
   obtain⟨x,hx,e⟩:=Ur.mp z;exact hB.fresh n1 (Gn.mpr (.inr (.inr ⟨x,hx,by rw[<- e];simp[SS.all,SA.own]⟩)))
  have b8:=L.fresh hl
  have c9:l∉Xe m:=fun z=>by
   obtain⟨x,hx,e⟩:=Ur.mp z;exact b8 (Gn.mpr (.inr (.inr ⟨x,hx,by rw[<- e];simp[SS.all,SA.own]⟩)))
  have e6:l1≠l:=fun z=>by rw[z,hl] at f1;cases f1
  refine Gw ss.length (fun i U' H'=>(∃o,U'=[o,some (.ref q),some (.ref h),some (.ref p)])/\GA a H' p d m/\GD (Xe m) H1 H'/\∃vs qs,H' l=some (.lst vs)/\Paired (Xb H') vs qs/\Paired (qw m b y w low Z J) (ss.take i) qs) ?_ ?_ ?_
  ·exact⟨⟨none,rfl⟩,L.same (ET.new hl),GD.same (ET.new hl),[],[],EW,.nil,.nil⟩
  ·rintro U H2 ⟨_,a3,F2,vs,qs,f2,a0,F⟩;refine⟨⟨_,Eh.of (F2 _ _ f1 c3),by simp⟩,?_⟩;rw[UP] at F;have f3:=GD.tup F2 L.bin.noTup (S1 _ _ hW.1);have a7:=GD.tup F2 L.bin.noTup (S1 _ _ hH.1);walk_at "w";refine⟨l,qs,w,J,rfl,⟨vs,f2,a0⟩,fun x hx=>?_,by have:=hW.2.2.1;omega,by omega,hH.2.2.2.2.1,hH.2.2.2.2.2,fun H3 S3=>k ss qs H3 a9 c5 F (a3.same S3) (((GD.same S1).trans F2).trans (GD.same S3))⟩;obtain⟨i,hi,e⟩:=UQ hx;have e0:i<ss.length:=by rw[Paired.length F];exact hi
   obtain⟨y',e2,st,c,_,_,g1,cv,kp,_,_,_,_,a8⟩:=Paired.get F (Ub e0);rw[Ub hi,e] at e2;cases e2;exact⟨by rw[g1];rfl,a8.1⟩
  ·rintro i U H2 hi ⟨⟨o,rfl⟩,a3,F2,vs,qs,f2,a0,F⟩;have b7:=F2 _ _ f1 c3;refine⟨⟨_,_,Eh.of b7,by rw[UC,Ub hi];rfl⟩,?_⟩;rintro u H3 ⟨eh,a2⟩;obtain rfl:H2=H3:=eh.symm;have a2:=a2 _ (Eh.of b7);rw[UC,Ub hi] at a2;obtain rfl:=Option.some.inj a2;generalize c4:ss[i]=kk at *;have e5:kk∈m.map (·.1):=a9.mem_iff.mp (by rw[<- c4];exact Vg hi);obtain⟨⟨k',st⟩,B,ek⟩:=Ur.mp e5;dsimp only at ek;subst ek;have hg:=Gi hB.bin.nd B;obtain⟨M,c1⟩:=d6 _ B;dsimp only at M c1
   obtain⟨c,hc⟩:∃c,k'.cps.toList.head? = some c:=by
    unfold BI at M;simp only[UN,decide_eq_true_eq] at M
    have h0:0<k'.cps.toList.length:=by
     have:k'.length=k'.cps.toList.length:=by rw[UI];rfl
     omega
    exact⟨k'.cps.toList[0],by rw[List.head?_eq_getElem?,Ub h0]⟩
   have d2:k'.length<=sizeLine:=by
    unfold BI at M;simp only[UN,decide_eq_true_eq] at M;exact Uz M.1.2 (by decide)
   obtain⟨⟨e7,e9⟩,d4,b6⟩:=id a3;obtain⟨n2,Y⟩:=b6.st _ B;dsimp only at Y;obtain⟨f0,e8,c8,_⟩:=id Y;have a6:BH H2 q b y w:=⟨GD.tup F2 L.bin.noTup (S1 _ _ hW.1),hW.2⟩;have a7:Fc H2 h low Z J:=⟨GD.tup F2 L.bin.noTup (S1 _ _ hH.1),hH.2⟩;walk_at "w";refine DD ?_;walk_at "w";refine gY (c:=c) d2 (by rw[List.head?_eq_getElem?] at hc;exact DS (j:=0) hc) ?_;walk_at "w";refine Di (v:=.ref st.S.p) d4 (by rw[FQ,hg];rfl) ?_;walk_at "w";refine En c8 Du ?_;walk_at "w";refine⟨st.S,q,n2,b,y,w,st.sm,st.c,st.ds,st.ts,st.ws,rfl,Y,a6,fun u5 d5 fs n5 H5 f5 d7 b9 d8 K5=>?_⟩;have O:∀b xs,H2 b=some (.tup xs)->H5 b=some (.tup xs):=fun b xs e=>K5 _ _ e fun z=>by rw[z] at e;exact Y.noTup _ (by simp[SA.own]) xs e
   have e1:=a3.looked (b6.look B ⟨n5,d8⟩ K5) (GD.kp K5 (Ur.mpr ⟨_,B,rfl⟩));obtain⟨cv,c0,a5⟩:=fO Y.nd;have d1:HA cv b y w fs:=⟨b9.1,fun k' o hk=>fN a5 (b9.2 k' o hk)⟩;walk_at "w";refine⟨u5,q,h,d5,fs,cv,b,y,w,low,Z,J,rfl,f5,d7,d1,c2,BH.win ⟨O _ _ a6.1,a6.2⟩,⟨O _ _ a7.1,a7.2⟩,c0,fun r hr=>c1 r ((a5 r).mp hr),fun u6 e4 os kp H6 f6 e3 d9 b0 a8 S6=>?_⟩;walk_at "w";refine Eg (by show 2<=sizeLine;decide) fun c7 H7 n7 f7 S7=>?_;have S57:=S6.trans S7;have a4:H7 l=some (.lst vs):=S57 _ _ (K5 _ _ f2 fun z=>c9 (by rw[z];exact Ur.mpr ⟨_,B,rfl⟩))
   have a1:∀b xs,H7 b=some (.tup xs)->upd H7 l (.lst (vs ++ [.ref c7])) b=some (.tup xs):=fun b xs e=>by
    rw[Ep (fun z=>by rw[z,a4] at e;cases e)];exact e
   refine⟨vs,a4,?_,⟨_,rfl⟩,(e1.same S57).kpL Kp.upd a4 b8,?_,vs ++ [.ref c7],qs ++ [(⟨#[c]⟩,os)],EW,?_,?_⟩
   ·have h1:=Paired.length a0;have h2:=Paired.length F;rw[US] at h2;have h3:=a9.length_eq;rw[Ug] at h3;exact Uq (show vs.length<=60 by omega) (by decide)
   ·intro b' o' e' nb;rw[Ep (fun z=>by rw[z,hl] at e';cases e')];exact S57 _ _ (K5 _ _ (F2 _ _ e' nb) fun z=>nb (by rw[z];exact Ur.mpr ⟨_,B,rfl⟩))
   ·exact Paired.snocP (Paired.mapP a0 fun _ _ z=>z.tups fun b xs e=>a1 _ _ (S57 _ _ (O _ _ e))) ⟨c7,u6,e4,rfl,a1 _ _ f7,a1 _ _ (S7 _ _ f6),(e3.same S7).mapP fun v o hd=>by
     cases hd with
     |non=>exact .non
     |pr e=>exact .pr (a1 _ _ e)⟩
   ·rw[UR,Ub hi,c4];exact Paired.snocP F ⟨st,c,hg,hc,rfl,cv,kp,c0,a5,d9,b0,a8⟩
end
section
def fP(K:W.Frag)(c1 c2:Addr)(u v:Int×Int):Sp:=fun vs H Q _=>vs=[.ref c1,.ref c2]/\H c1=some (.tup [.int u.1,.int u.2])/\H c2=some (.tup [.int v.1,.int v.2])/\Bn 600 u.1/\Bn 600 u.2/\Bn 600 v.1/\Bn 600 v.2/\Q (.bl (decide (u.1*v.2<v.1*u.2))) H
def rg(K:W.Frag):Sp:=fun vs H Q E=>∃c1 c2 u v,fP K c1 c2 u v vs H Q E
theorem qP(T:Txt K mg a):Ec P w K mg base Ew 1 a.Ry a.RX ["_law_one","_law_other"] (rg K):=by
 refine T.TC.ok (N:=["_law_one","_law_other"]) Es fun _ _ _ s H vs Q E J h=>?_
 ·obtain⟨B,F,u,v,rfl,h1,h2,b1,b2,b3,b4,q⟩:=h;refine⟨_,QB.h (ES (Ea (IY (Bm) (Eb GM (Ei (Ek K rfl) (qv 0) ER) (Ei (Ek K rfl) (qv 1) ER)) (Eb GM (Ei (Ek K rfl) (qv 1) ER) (Ei (Ek K rfl) (qv 0) ER)) (Ej _)))),?_⟩;walk_at "s";walk_at "w";refine FU (FN b1 b4 (by decide)) ?_;walk_at "w";refine FU (FN b3 b2 (by decide)) ?_;walk_at "w";exact q
def uL(K:W.Frag)(c1 c2:Addr)(u v:Int×Int)(t:Int):Sp:=fun vs H Q _=>vs=[.ref c1,.ref c2,.int t]/\H c1=some (.tup [.int u.1,.int u.2])/\H c2=some (.tup [.int v.1,.int v.2])/\
 Bn 200 u.1/\Bn 200 u.2/\Bn 200 v.1/\Bn 200 v.2/\Bn 200 t/\∀(r:Addr) (H':Hp),H r=none->H' r=some (.tup [.int (CU u v t).1,.int (CU u v t).2])->ET H H'->Q (.ref r) H'
def aw(K:W.Frag):Sp:=fun vs H Q E=>∃c1 c2 u v t,uL K c1 c2 u v t vs H Q E
theorem Sg:Eo ["_law_one","_law_other","_law_time_here","_law_apart"] ["_law_one","_law_other","_law_time_here"] (EU KP):=Es
theorem Sh(T:Txt K mg a):Ec P w K mg base Ew 1 a.Jt a.J6 ["_law_one","_law_other","_law_time_here"] (aw K):=by
 refine T.Jm.ok Sg fun J A B s H vs Q E Y h=>?_
 ·obtain⟨M,O,u,v,t,rfl,h1,h2,b1,b2,b3,b4,b5,k⟩:=h;refine⟨_,QB.h (EQ (Gb (i:=3) Sg.nd (Eb BM (Ei (Ek K rfl) (qv 1) ER) (Ei (Ek K rfl) (qv 0) ER))) (ES (Ea (GB (EN (Eb Go (Eb GM (Ei (Ek K rfl) (qv 0) ER) (qv 3)) (Eb GM (Eb BM (Ei (Ek K rfl) (qv 1) ER) (Ei (Ek K rfl) (qv 0) ER)) (Eb BM (qv 2) (Ei (Ek K rfl) (qv 0) ER)))) (EN (qv 3) EO)))))),?_⟩;walk_at "s";walk_at "w";refine FU (FN b2 (b3.sub b1) (by decide)) ?_;walk_at "w";refine FU (FN (b4.sub b2) (b5.sub b1) (by decide)) ?_;walk_at "w";exact Eg (by show 2<=sizeLine;decide) fun r H2 L F S2=>k r H2 L F S2
theorem ints_dats{H:Hp}:∀ns:List Int,BY K H (ns.map V.int) (ns.map PyData.int)
 | []=>.nil
 |n::ns=>.cons (.int n) (ints_dats ns)
theorem ints_lay:∀ns:List Int,PyData.canLayAll0 (ns.map PyData.int)=true
 | []=>rfl
 |n::ns=>by
  show(PyData.canLay0 (PyData.int n)&&PyData.canLayAll0 (ns.map PyData.int))=true;rw[ints_lay ns];rfl
theorem ints_depth:∀B:List Int,PyData.depthAll (B.map PyData.int)<=50
 | []=>by decide
 |n::B=>by
  have F:=ints_depth B;show PyData.depthAll (PyData.int n::B.map PyData.int)<=50;simp only[PyData.depthAll,PyData.depth];omega
def fQ(K:W.Frag)(t:Addr)(cv:PL)(x z:Int):Sp:=fun vs H Q _=>vs=[.ref t,.int x,.int z]/\Hr H t cv/\DA cv/\BP cv/\cv.length<=100/\Bn 200 x/\Bn 200 z/\
 ∀(l:Addr) (H':Hp),H l=none->Hr H' l (Dr cv x z)->(Dr cv x z).length<=400->ET H H'->Q (.ref l) H'
def rh(K:W.Frag):Sp:=fun vs H Q E=>∃t cv x z,fQ K t cv x z vs H Q E
theorem Ka:Eo ["_law_samples","_law_x","_law_z","_law_found","_law_one","_law_other"] ["_law_samples","_law_x","_law_z"] (EU Lu):=Es
theorem fR(T:Txt K mg a):Ec P w K mg base Ew 2 a.Tk a.Tt ["_law_samples","_law_x","_law_z"] (rh K):=by
 refine T.Ny.ok Ka fun d9 A c3 s H vs Q E hr h=>?_
 ·obtain⟨t,cv,x,z,rfl,hT,d6,b8,a2,bx,bz,k⟩:=h;obtain⟨d1,g1,pw⟩:=id hT;have d8:(inCol cv x z).length<=100:=Uz (UL _ _) a2;refine⟨_,QB.h (EQ (Fz (N:=["_law_samples","_law_x","_law_z","_law_found","_law_one","_law_other"]) (sc:=EU Lu) (own:=["_law_time_here","_law_height_here"]) (caps:=["_law_x","_law_z"]) (ks:=[1,2]) (i:=3) rfl rfl rfl ⟨rfl,by decide +kernel,by decide +kernel,by decide +kernel,by decide +kernel,rfl,by decide +kernel⟩ Ka.nd rfl (by walk_at "o") (DX K rfl (qv 0)) (fun _ _ _ _ _=>Gm (n:=2) K rfl rfl (EY (Ge (i:=0) (show List.Nodup (α:=Str) ["_law_time_here","_law_height_here","_law_x","_law_z"] from by decide +kernel) rfl (by walk_at "o") (.inr rfl)) (EY (Ge (i:=1) (show List.Nodup (α:=Str) ["_law_time_here","_law_height_here","_law_x","_law_z"] from by decide +kernel) rfl (by walk_at "o") (.inr rfl)) GW))) (fun _ _ _ _ _=>CT (AQ BU Bm (qv 2) (qv 0) (qv 3))) (fun _ _ _ _ _=>GB (EN (qv 1) (EN ER EO)))) (EQ (DU PassesOwn.never rfl (gM K rfl rfl T.Mi (EN (qv 0) (EN (Ss (km K rfl) (qv 0) (Xu ER) Xt) EO))) (Gm (n:=2) K rfl rfl (EY (GN (i:=4) Ka.nd) (EY (GN (i:=5) Ka.nd) GW))) (ES (GO (QW.pt (CS (Ee (Bm) (Ei (Ek K rfl) (qv 4) ER) (qv 2) (Ej _)) (BX (Ee (Bm) (qv 1) (Ei (Ek K rfl) (qv 5) ER) (Ej _))))) (EQ (Et (Bp PySem.F.plainAttrs_list PySem.F.slot_list_append PySem.F.type_list_append DT (qv 3) (EN (GE (Sh T) hr T.Th T.Jm.kp T.Tg (EN (qv 4) (EN (qv 5) (EN (Ey (Wu rfl) rfl T.Y4 IT (EN (qv 1) (EN (Ei (Ek K rfl) (qv 4) ER) EO))) EO)))) EO))) (ES (Et (Bp PySem.F.plainAttrs_list PySem.F.slot_list_append PySem.F.type_list_append DT (qv 3) (EN (GE (Sh T) hr T.Th T.Jm.kp T.Tg (EN (qv 4) (EN (qv 5) (EN (Ey (Wv rfl) rfl T.Y5 IU (EN (qv 2) (EN (Ei (Ek K rfl) (qv 5) ER) EO))) EO)))) EO))))) GC))) (ES (Ea (qv 3))))),?_⟩;walk_at "s";walk_at "w";intro l n1;refine Gw cv.length (fun i U' H'=>(∃o1 o2,U'=[o1,o2,some (.int x),some (.int z)])/\ET H H'/\∃vs,H' l=some (.lst vs)/\EZ H' vs ((inCol (cv.take i) x z).map (fun q=>(q.2,(1:Int))))) ?_ ?_ ?_
  ·exact⟨⟨none,none,rfl⟩,ET.new n1,[],EW,.nil⟩
  ·rintro U H2 ⟨_,S2,d7,f2,a9⟩;refine⟨⟨_,Eh.of (S2 _ _ g1),by rw[pw.length];exact Ue _⟩,?_⟩;rw[UP] at a9;walk_at "w";refine Hr.sl (hT.same S2) fun w3 H3 n3 h3 S3=>?_;have S23:=S2.trans S3;obtain⟨us,gT,pT⟩:=hT.same S23;obtain⟨c8,g3,p3⟩:=id h3
   have ec:Kx cv (some 1) none=cv.drop 1:=by
    unfold Kx;rw[show _H.sIx cv.length 0 (some 1)=min 1 cv.length from _H.sIx_nat cv.length 0 1,show _H.sIx cv.length cv.length none=cv.length from rfl];by_cases hz:cv.length=0
    ·have:cv=[]:=Vf.mp hz;subst this;rfl
    ·rw[show min 1 cv.length=1 by omega];exact Vp (by simp)
   rw[ec] at p3;have f3:=S3 _ _ f2;have c7:=a9.same S3;have c9:t≠l:=GJ g1 n1;have d3:w3≠l:=(GJ f2 n3).symm;walk_at "w";refine gO (BR.ofL gT) (BR.ofL g3) ?_
   refine uo (xs:=us) (ys:=c8) (b1:=true) (b2:=true) (l1:=t) (l2:=w3) (cv.length-1) (by rw[pT.length,p3.length,List.length_drop];omega) (fun i U H'=>Kp l H3 H'/\(∃v6 v7,U=[some (.ref t),some (.int x),some (.int z),some (.ref l),v6,v7])/\∃(vs:List V) (Y:PL),H' l=some (.lst vs)/\EZ H' vs Y/\
    Y=(((inCol cv x z).map (fun q=>(q.2,(1:Int))))++((cv.zip (cv.drop 1)).take i).flatMap (Gc x z))/\Y.length<=100+2*i) ?_ ?_ ?_ ?_
   ·refine⟨Kp.same (ET.refl _),⟨_,_,rfl⟩,_,_,f3,c7,?_,?_⟩
    ·rw[List.take_zero,List.flatMap_nil,UF]
    ·rw[Ug];omega
   ·rintro i U H4 ⟨K4,_,_⟩;exact⟨BR.ofL (K4 _ _ gT c9),BR.ofL (K4 _ _ g3 d3)⟩
   ·rintro i U H4 T H5 a b hi ⟨K4,⟨v6,v7,rfl⟩,Z,Y,f4,L,a4,c6⟩ ha hb nT fT S5;obtain⟨c1,J,rfl,b7,c4⟩:=pT.at ha;obtain⟨c2,B,rfl,c0,d5⟩:=p3.at hb;have hz:=zE b7 c0;have K5:Kp l H3 H5:=K4.then S5;have f5:=S5 _ _ f4;have a3:=L.same S5;have b0:=Cn K5 f3 c4;have a7:=Cn K5 f3 d5;have M:=b8 J (Ux b7);have O:=b8 B (List.mem_of_mem_drop (Ux c0));have e3:(cv.zip (cv.drop 1)).take (i+1)=(cv.zip (cv.drop 1)).take i ++ [(J,B)]:=by rw[UR,hz];rfl
    have a6:∀k:Nat,k<=400->k<sizeLine:=fun k hk=>Uq hk (by decide)
    have e4:(((inCol cv x z).map (fun q=>(q.2,(1:Int))))++((cv.zip (cv.drop 1)).take (i+1)).flatMap (Gc x z))=Y++(Gc x z (J,B)):=by
     rw[a4,e3,List.flatMap_append,<- List.append_assoc];simp only[List.flatMap_cons,List.flatMap_nil,UF]
    walk_at "w";refine GL (fun h1=>?_) (fun h1=>?_)
    ·walk_at "w";refine GL (fun h2=>?_) (fun h2=>?_)
     ·have e5:(Gc x z (J,B))=[(CU J B (mx x J.1)),(CU J B (mn z B.1))]:=by
       unfold Gc;rw[if_pos ⟨h1,h2⟩]
      walk_at "w";refine⟨HH f5,?_⟩;walk_at "w";refine⟨c1,c2,J,B,_,rfl,b0,a7,M.1,M.2,O.1,O.2,wm bx M.1,fun r6 H6 n6 f6 S6=>?_⟩;have a1:=S6 _ _ f5;walk_at "w";refine Da a1 (by rw[L.length];exact a6 _ (by omega)) fun H7 f7 K7=>?_;have c5:=EZ.kpL K7 a1 ((a3.same S6).snoc f6);have b6:=Cn K7 a1 (S6 _ _ b0);have a5:=Cn K7 a1 (S6 _ _ a7);walk_at "w";refine⟨HH f7,?_⟩;walk_at "w";refine⟨c1,c2,J,B,_,rfl,b6,a5,M.1,M.2,O.1,O.2,wn bz O.1,fun r8 H8 n8 f8 S8=>?_⟩;have b9:=S8 _ _ f7;walk_at "w";refine Da b9 (by rw[UD,L.length];exact a6 _ (by simp only[Vd,List.length_nil];omega)) fun H9 f9 K9=>?_;have d2:=EZ.kpL K9 b9 ((c5.same S8).snoc f8);walk_at "w";refine⟨(((K5.then S6).trans K7).then S8).trans K9,⟨_,_,rfl⟩,_,_,f9,d2,?_,?_⟩
      ·rw[e4,e5,List.append_assoc];rfl
      ·rw[UD,UD];show Y.length+1+1<=_;omega
     ·have e5:(Gc x z (J,B))=[]:=by
       unfold Gc;rw[if_neg (fun g=>h2 g.2)]
      walk_at "w";exact⟨K5,⟨_,_,rfl⟩,Z,Y,f5,a3,by rw[e4,e5,UF],by omega⟩
    ·have e5:(Gc x z (J,B))=[]:=by
      unfold Gc;rw[if_neg (fun g=>h1 g.1)]
     walk_at "w";refine GV ?_;walk_at "w";exact⟨K5,⟨_,_,rfl⟩,Z,Y,f5,a3,by rw[e4,e5,UF],by omega⟩
   ·rintro U H4 ⟨K4,⟨v6,v7,rfl⟩,Z,Y,f4,L,a4,c6⟩;walk_at "w"
    have em:Y=Dr cv x z:=by
     rw[a4,Vp (by rw[List.length_zip,List.length_drop];omega)];rfl
    subst em;exact k l H4 n1 ⟨Z,f4,L⟩ (by omega) (S23.kpN n1 K4)
  ·rintro i U H2 hi ⟨⟨o1,o2,rfl⟩,S2,vs,f,a0⟩;have d4:i<d1.length:=by rw[pw.length];exact hi
   refine⟨⟨_,_,Eh.of (S2 _ _ g1),Ub d4⟩,?_⟩;rintro v H'' ⟨rfl,hv⟩;have hv:=hv _ (Eh.of (S2 _ _ g1));obtain⟨c,p,rfl,hp,hc⟩:=(pw.same S2).at hv
   have e3:cv.take (i+1)=cv.take i ++ [p]:=by
    rw[UR,hp];rfl
   have e4:inCol (cv.take (i+1)) x z=inCol (cv.take i) x z++(if(decide (x<=p.1)&&decide (p.1<z))=true then[p] else[]):=by
    rw[e3,inCol,List.filter_append];congr 1;simp only[List.filter_cons,List.filter_nil]
   walk_at "w";refine GL (fun h1=>?_) (fun h1=>?_)
   ·walk_at "w";refine GL (fun h2=>?_) (fun h2=>?_)
    ·walk_at "w";refine Eg (by show 2<=sizeLine;decide) fun t4 H4 n4 f4 S4=>?_;have a8:=S4 _ _ f;refine⟨vs,a8,?_,⟨_,_,rfl⟩,?_,?_⟩
     ·have e:=a0.length;rw[e,Ug];refine Uq (UL _ _) ?_;rw[US];exact Uq (Nat.min_le_left _ _) (Uh (Uh hi a2) (by decide))
     ·exact(S2.trans S4).kpN n1 Kp.upd
     ·refine⟨_,EW,?_⟩;rw[e4,decide_eq_true h1,decide_eq_true h2,Bool.and_self,if_pos rfl,Uy];exact EZ.kpL Kp.upd a8 ((a0.same S4).snoc (p:=(p.2,1)) f4)
    ·refine⟨⟨_,_,rfl⟩,S2,vs,f,?_⟩;rw[e4,decide_eq_false h2,Bool.and_false,if_neg (by decide),UF];exact a0
   ·walk_at "w";refine GV ?_;refine⟨⟨_,_,rfl⟩,S2,vs,f,?_⟩;rw[e4,decide_eq_false h1,Vr,if_neg (by decide),UF];exact a0
theorem ax{low B k:Int}(h1:Bn 200 low)(h2:Bn 200 B)(h0:0<=k)(J:k<=1001):Bn 600 (low+k*B):=by
 have F:Bn 11 k:=by unfold Bn;omega
 exact((h1.mono (show 200<=250 by decide)).add ((F.mul h2).mono (by decide))).mono (by decide)
def iY(mt:PL):Prop:=∀q∈mt,0<q.2/\Bn 600 q.1/\Bn 600 q.2
theorem rj{cv:PL}{x z:Int}(O:DA cv)(J:BP cv)(bx:Bn 200 x)(bz:Bn 200 z):iY (Dr cv x z):=by
 intro q B;refine⟨lP O q B,?_⟩;rcases Uu.mp B with B|B
 ·obtain⟨p,hp,rfl⟩:=Ur.mp B;exact⟨(J p (qL hp)).2.mono (by decide),rV.mono (by decide)⟩
 ·unfold XI at B;obtain⟨F,Y,B⟩:=List.mem_flatMap.mp B;have L:=J F.1 (List.of_mem_zip (a:=F.1) (b:=F.2) Y).1;have Z:=J F.2 (List.mem_of_mem_drop (List.of_mem_zip (a:=F.1) (b:=F.2) Y).2)
  have M:∀t,Bn 200 t->Bn 600 (CU F.1 F.2 t).1/\Bn 600 (CU F.1 F.2 t).2:=fun t ht=>
   ⟨(Bn.add ((L.2.mul (Z.1.sub L.1)).mono (show 200+(200+1)<=500 by decide)) (((Z.2.sub L.2).mul (ht.sub L.1)).mono (by decide))).mono (by decide),(Z.1.sub L.1).mono (by decide)⟩
  unfold Gc at B;split at B
  ·simp only[Ud,Us,or_false] at B;rcases B with rfl|rfl
   ·exact M _ (wm bx L.1)
   ·exact M _ (wn bz Z.1)
  ·cases B
end
def Lf(fs:List Int)(rows:Int)(rs:List Int):Prop:=(fs=[]/\rs=[])\/∃m M,m∈fs/\(∀f∈fs,m<=f)/\M∈fs/\(∀f∈fs,f<=M)/\rs=XJ m M rows.toNat
theorem Xf:∀ {fs:List Int},fs≠[]->∃m∈fs,∀f∈fs,m<=f
 | [],h=>absurd rfl h
 | [x],_=>⟨x,by simp,fun f B=>by rw[Um.mp B];exact Int.le_refl _⟩
 |x::y::r,_=>by
  obtain⟨m,h1,h2⟩:=Xf (fs:=y::r) (by simp);by_cases h:x<=m
  ·exact⟨x,by simp,fun f B=>by
    rcases Ud.mp B with rfl|B
    ·exact Int.le_refl _
    ·exact Int.le_trans h (h2 f B)⟩
  ·exact⟨m,Uf _ h1,fun f B=>by
    rcases Ud.mp B with rfl|B
    ·omega
    ·exact h2 f B⟩
theorem ay{fs:List Int}(h:fs≠[]):∃m∈fs,∀f∈fs,f<=m:=by
 obtain⟨m,h1,h2⟩:=Xf (fs:=fs.map fun x=>-x) (by simpa using h);obtain⟨x,B,rfl⟩:=Ur.mp h1;exact⟨x,B,fun f F=>by have:=h2 (-f) (Ur.mpr ⟨f,F,rfl⟩);omega⟩
noncomputable def WV(fs:List Int)(n:Nat):List Int:=((UM n).map fun(i:Nat)=>(0+(i:Int))).filter fun r=>fs.any (fun f=>decide (f<=r))&&fs.any (fun f=>decide (r<=f))
theorem az(fs:List Int)(n:Nat):WV fs (n+1)=WV fs n++(if(fs.any (fun f=>decide (f<=0+(n:Int)))&&fs.any (fun f=>decide (0+(n:Int)<=f)))=true then[0+(n:Int)] else[]):=by
 unfold WV;rw[Vk,Uy,List.filter_append];congr 1;simp only[UK,List.map_nil,List.filter_cons,List.filter_nil]
theorem mT(fs:List Int)(B:Int):Lf fs B (WV fs B.toNat):=by
 by_cases h:fs=[]
 ·refine .inl ⟨h,?_⟩;rw[h];unfold WV;rw[List.filter_eq_nil_iff];intro r _;simp
 ·obtain⟨m,h1,h2⟩:=Xf h;obtain⟨M,Y,O⟩:=ay h;refine .inr ⟨m,M,h1,h2,Y,O,?_⟩;unfold WV XJ;apply List.filter_congr;intro r _;rw[Vw,UN,UN,UY,UY,decide_eq_true_iff,decide_eq_true_iff];constructor
  ·rintro⟨⟨f,J,F⟩,f',Z,L⟩;rw[decide_eq_true_iff] at F L;exact⟨Int.le_trans (h2 f J) F,Int.le_trans L (O f' Z)⟩
  ·rintro⟨J,F⟩;exact⟨⟨m,h1,by simpa using J⟩,M,Y,by simpa using F⟩
section
def bA(K:W.Frag)(t p:Addr)(mt:PL)(low tall rows:Int):Sp:=fun vs H Q _=>vs=[.ref t,.ref p]/\Hr H t mt/\iY mt/\mt.length<=400/\Fc H p low tall rows/\
 ∀(l:Addr) (rs:List Int) (H':Hp),H l=none->H' l=some (.lst (rs.map V.int))->Lf (mt.map (fl low tall)) rows rs->ET H H'->Q (.ref l) H'
def mU(K:W.Frag):Sp:=fun vs H Q E=>∃t p mt low tall rows,bA K t p mt low tall rows vs H Q E
theorem Bj:Eo ["_law_met_here","_law_heights","_law_low","_law_tall","_law_rows_here","_law_found","_law_r","_law_under","_law_over"] ["_law_met_here","_law_heights"] (EU Ha):=Es
section
local macro_rules|`(tactic|omega)=>`(tactic|omega +splitMinMax)
theorem bB(T:Txt K mg a):Ec P w K mg base Ew 2 a.Rs a.RZ ["_law_met_here","_law_heights"] (mU K):=by
 refine T.Mu.ok Bj fun d4 A c3 s H vs Q E hr h=>?_
 ·obtain⟨t,p,L,low,B,Y,rfl,⟨us,gT,pT⟩,c1,c8,hh,k⟩:=h;have hu:=Dc hr;have a4:us.length=L.length:=pT.length;obtain⟨ht,a5,b8,c0,d1,d3⟩:=hh.2 |> fun x=>(⟨hh.1,x.1,x.2.1,x.2.2.1,x.2.2.2.1,x.2.2.2.2⟩:_/\_/\_/\_/\_/\_);refine⟨_,QB.h (EQ (DE (qv 1) (Gm (n:=3) K rfl rfl (EY (GN (i:=2) Bj.nd) (EY (GN (i:=3) Bj.nd) (EY (GN (i:=4) Bj.nd) GW))))) (EQ (Gb (i:=5) Bj.nd (Dd EO)) (EQ (DU PassesOwn.never rfl (Dm rfl T.ZJ (EN (qv 4) EO)) (GN (i:=6) Bj.nd) (EQ (Fz (N:=["_law_met_here","_law_heights","_law_low","_law_tall","_law_rows_here","_law_found","_law_r","_law_under","_law_over"]) (sc:=EU Ha) (own:=["_law_height_here"]) (caps:=["_law_low","_law_tall","_law_r"]) (ks:=[2,3,6]) (i:=7) rfl rfl rfl ⟨rfl,by decide +kernel,by decide +kernel,by decide +kernel,by decide +kernel,rfl,by decide +kernel⟩ Bj.nd rfl (by walk_at "o") (DX K rfl (qv 0)) (fun _ _ _ _ _=>Ge (i:=0) (show List.Nodup (α:=Str) ["_law_height_here","_law_low","_law_tall","_law_r"] from by decide +kernel) rfl (by walk_at "o") (.inr rfl)) (fun _ _ _ _ _=>CT (BW (GE (qP T) hr T.Mo T.TC.kp T.Mx (EN (qv 0) (EN (GB (EN (Eb Go (qv 1) (Eb GM (Eb Go (qv 3) ER) (qv 2))) (EN ER EO))) EO))))) (fun _ _ _ _ _=>qv 0)) (EQ (Fz (N:=["_law_met_here","_law_heights","_law_low","_law_tall","_law_rows_here","_law_found","_law_r","_law_under","_law_over"]) (sc:=EU Ha) (own:=["_law_height_here"]) (caps:=["_law_low","_law_r","_law_tall"]) (ks:=[2,6,3]) (i:=8) rfl rfl rfl ⟨rfl,by decide +kernel,by decide +kernel,by decide +kernel,by decide +kernel,rfl,by decide +kernel⟩ Bj.nd rfl (by walk_at "o") (DX K rfl (qv 0)) (fun _ _ _ _ _=>Ge (i:=0) (show List.Nodup (α:=Str) ["_law_height_here","_law_low","_law_r","_law_tall"] from by decide +kernel) rfl (by walk_at "o") (.inr rfl)) (fun _ _ _ _ _=>CT (By (BW (GE (qP T) hr T.Mo T.TC.kp T.Mx (EN (qv 0) (EN (GB (EN (Eb Go (qv 1) (Eb GM (qv 2) (qv 3))) (EN ER EO))) EO)))))) (fun _ _ _ _ _=>qv 0)) (ES (GO (QW.pt (CS (Ee (HQ K rfl hu) (qv 7) (Dd EO) (Ej _)) (BX (Ee (HQ K rfl hu) (qv 8) (Dd EO) (Ej _))))) (ES (Et (Bp PySem.F.plainAttrs_list PySem.F.slot_list_append PySem.F.type_list_append DT (qv 5) (EN (qv 6) EO)))) GC))))) (ES (Ea (qv 5)))))),?_⟩;walk_at "s";walk_at "w";refine Eg (by show 0<=sizeLine;decide) fun l1 H1 n1 f1 S1=>?_;have c7:t≠l1:=GJ gT n1;have c6:=S1 _ _ gT;have c5:=pT.same S1;walk_at "w";refine CQ (by omega) (by omega) (IW (fun i U H'=>(∃v6 v7 v8,U=[some (.ref t),some (.ref p),some (.int low),some (.int B),some (.int Y),some (.ref l1),v6,v7,v8])/\Kp l1 H1 H'/\H' l1=some (.lst ((WV (L.map (fl low B)) i).map V.int))) ?_ ?_ ?_)
  ·exact⟨⟨_,_,_,rfl⟩,Kp.refl _ _,f1⟩
  ·rintro i U H2 hi ⟨⟨v6,v7,v8,rfl⟩,K2,f2⟩;have d2:(i:Int)<Y:=by omega
   have e5:=az (L.map (fl low B)) i;have Z:H2 t=some (.lst us):=K2 _ _ c6 c7;have b0:EZ H2 us L:=Paired.mapP c5 fun _ _ ⟨b,e,z⟩=>⟨b,e,Cn K2 f1 z⟩;walk_at "w";intro l3 n3
   have c9:H l3=none/\l3≠l1:=by
    have h1:l3≠l1:=fun z=>by rw[z,f2] at n3;cases n3
    refine⟨?_,h1⟩
    cases hh:H l3 with
    |none=>rfl
    |some o=>rw[K2 _ _ (S1 _ _ hh) h1] at n3;cases n3
   refine Gw L.length (fun J U' H'=>(∃o,U'=[o,some (.int low),some (.int B),some (.int (0+(i:Int)))])/\ET H2 H'/\∃vs,H' l3=some (.lst vs)/\vs.length<=J/\(!vs.isEmpty)=(L.take J).any fun q=>decide (fl low B q<=0+(i:Int))) ?_ ?_ ?_
   ·exact⟨⟨none,rfl⟩,ET.new n3,[],EW,Ue _,rfl⟩
   ·rintro U' H3 ⟨_,S3,O,f3,b9,a0⟩;refine⟨⟨_,Eh.of (S3 _ _ Z),by rw[a4];exact Ue _⟩,?_⟩;rw[UP] at a0;have a8:=S3 _ _ Z;have c4:=b0.same S3;walk_at "w";intro l4 n4;refine Gw L.length (fun J U' H'=>(∃o,U'=[o,some (.int low),some (.int (0+(i:Int))),some (.int B)])/\ET H3 H'/\∃vs,H' l4=some (.lst vs)/\vs.length<=J/\(!vs.isEmpty)=(L.take J).any fun q=>decide (0+(i:Int)<=fl low B q)) ?_ ?_ ?_
    ·exact⟨⟨none,rfl⟩,ET.new n4,[],EW,Ue _,rfl⟩
    ·rintro U'' H4 ⟨_,S4,M,f4,b6,a3⟩;refine⟨⟨_,Eh.of (S4 _ _ a8),by rw[a4];exact Ue _⟩,?_⟩;rw[UP] at a3;have a1:(L.map (fl low B)).any (fun f=>decide (f<=0+(i:Int))) = !O.isEmpty:=by rw[a0,List.any_map];rfl
     have a2:(L.map (fl low B)).any (fun f=>decide (0+(i:Int)<=f)) = !M.isEmpty:=by rw[a3,List.any_map];rfl
     rw[a1,a2] at e5;have S24:=S3.trans S4;walk_at "w";refine Eg (by show 0<=sizeLine;decide) fun l5 H5 n5 f5 S5=>?_;refine HR (Eh.of (S5 _ _ (S4 _ _ f3))) (Eh.of f5) ?_;walk_at "w"
     cases hb1:O.isEmpty with
     |true=>
      rw[hb1,Bool.not_true,Vr,if_neg (by decide),UF] at e5;refine GV ?_;walk_at "w";refine GV ?_;walk_at "w";refine⟨⟨_,_,_,rfl⟩,K2.then (S24.trans S5),?_⟩;rw[e5];exact S5 _ _ (S24 _ _ f2)
     |false=>
      refine DD ?_;walk_at "w";refine Eg (by show 0<=sizeLine;decide) fun l6 H6 n6 f6 S6=>?_;refine HR (Eh.of (S6 _ _ (S5 _ _ f4))) (Eh.of f6) ?_;walk_at "w";have S26:=(S24.trans S5).trans S6;have a9:=S26 _ _ f2
      cases hb2:M.isEmpty with
      |true=>
       rw[hb1,hb2,Bool.not_true,Bool.and_false,if_neg (by decide),UF] at e5;refine GV ?_;walk_at "w";refine⟨⟨_,_,_,rfl⟩,K2.then S26,?_⟩;rw[e5];exact a9
      |false=>
       rw[hb1,hb2,Bool.not_false,Bool.and_self,if_pos rfl] at e5;refine DD ?_;walk_at "w";refine⟨HH a9,?_⟩;walk_at "w";refine Da a9 ?_ fun H7 f7 K7=>?_
       ·rw[Ug];refine Uq (UL _ _) ?_;rw[Ug,Ve];exact Uh hi (Uz (show Y.toNat<=1000 by omega) (by decide))
       walk_at "w";refine⟨⟨_,_,_,rfl⟩,(K2.then S26).trans K7,?_⟩;rw[f7,e5,Uy];rfl
    ·rintro J U'' H4 a7 ⟨⟨o,rfl⟩,S4,M,f4,b6,a3⟩;have a6:J<us.length:=by rw[a4];exact a7
     refine⟨⟨_,_,Eh.of (S4 _ _ a8),Ub a6⟩,?_⟩;rintro v H'' ⟨rfl,hv⟩;have hv:=hv _ (Eh.of (S4 _ _ a8));obtain⟨c,q,rfl,hq,hc⟩:=(c4.same S4).at hv;have oq:=c1 q (Ux hq);have e3:L.take (J+1)=L.take J ++ [q]:=by rw[UR,hq];rfl
     have q2:¬(q.1*1<(low+(0+(i:Int))*B)*q.2)↔0+(i:Int)<=fl low B q:=by rw[Int.mul_one,qu b8 oq.1];omega
     walk_at "w";refine Eg (by show 2<=sizeLine;decide) fun t5 H5 n5 f5 S5=>?_;walk_at "w";refine⟨c,t5,q,(_,_),rfl,S5 _ _ hc,f5,oq.2.1,oq.2.2,ax a5 c0 (by omega) (by omega),rV.mono (by decide),?_⟩;walk_at "w";have c2:=S5 _ _ f4;refine AF (fun h2=>?_) (fun h2=>?_)
     ·have h2:=q2.mp h2;walk_at "w";refine⟨M,c2,Uq b6 (Uh (show J<1000 by omega) (by decide)),⟨_,rfl⟩,(S4.trans S5).kpN n4 Kp.upd,_,EW,by rw[UD];simp only[Vd,List.length_nil];omega,?_⟩;rw[e3,List.any_append,List.any_cons,decide_eq_true h2];cases M<;>simp
     ·have h2:¬(0+(i:Int)<=fl low B q):=fun z=>q2.mpr z h2;refine⟨⟨_,rfl⟩,S4.trans S5,M,c2,by omega,?_⟩;rw[e3,List.any_append,List.any_cons,decide_eq_false h2,List.any_nil,Bool.or_false,Bool.or_false];exact a3
   ·rintro J U' H3 a7 ⟨⟨o,rfl⟩,S3,O,f3,b9,a0⟩;have a6:J<us.length:=by rw[a4];exact a7
    refine⟨⟨_,_,Eh.of (S3 _ _ Z),Ub a6⟩,?_⟩;rintro v H'' ⟨rfl,hv⟩;have hv:=hv _ (Eh.of (S3 _ _ Z));obtain⟨c,q,rfl,hq,hc⟩:=(b0.same S3).at hv;have oq:=c1 q (Ux hq);have e3:L.take (J+1)=L.take J ++ [q]:=by rw[UR,hq];rfl
    have q1:(q.1*1<(low+(0+(i:Int)+1)*B)*q.2)↔fl low B q<=0+(i:Int):=by rw[Int.mul_one];exact(sX b8 oq.1).symm
    walk_at "w";refine Eg (by show 2<=sizeLine;decide) fun t5 H5 n5 f5 S5=>?_;walk_at "w";refine⟨c,t5,q,(_,_),rfl,S5 _ _ hc,f5,oq.2.1,oq.2.2,ax a5 c0 (by omega) (by omega),rV.mono (by decide),?_⟩;walk_at "w";have b7:=S5 _ _ f3;refine GL (fun h2=>?_) (fun h2=>?_)
    ·have h2:=q1.mp h2;walk_at "w";refine⟨O,b7,Uq b9 (Uh (show J<1000 by omega) (by decide)),⟨_,rfl⟩,(S3.trans S5).kpN n3 Kp.upd,_,EW,by rw[UD];simp only[Vd,List.length_nil];omega,?_⟩;rw[e3,List.any_append,List.any_cons,decide_eq_true h2];cases O<;>simp
    ·have h2:¬(fl low B q<=0+(i:Int)):=fun z=>h2 (q1.mpr z);refine⟨⟨_,rfl⟩,S3.trans S5,O,b7,by omega,?_⟩;rw[e3,List.any_append,List.any_cons,decide_eq_false h2,List.any_nil,Bool.or_false,Bool.or_false];exact a0
  ·rintro U H2 ⟨⟨v6,v7,v8,rfl⟩,K2,f2⟩;walk_at "w";exact k l1 _ H2 n1 f2 (mT _ _) (S1.kpN n1 K2)
end
def De(H:Hp)(vs:List V)(rss:List (List Int)):Prop:=Paired (fun v (rs:List Int)=>∃b,v=.ref b/\H b=some (.lst (rs.map V.int))) vs rss
theorem De.same{H H':Hp}{vs:List V}{B:List (List Int)}(h:De H vs B)(s:ET H H'):De H' vs B:=Paired.mapP h fun _ _ ⟨b,e,z⟩=>⟨b,e,s _ _ z⟩
theorem De.snoc{H:Hp}:∀ {vs:List V} {rss:List (List Int)},De H vs rss->∀ {b:Addr} {rs:List Int},H b=some (.lst (rs.map V.int))->De H (vs ++ [.ref b]) (rss ++ [rs])
 |_,_,.nil,_,_,e=>.cons ⟨_,rfl,e⟩ .nil
 |_,_,.cons h t,_,_,e=>.cons h (De.snoc t e)
theorem De.at{H:Hp}:∀ {vs:List V} {rss:List (List Int)},De H vs rss->∀ {i:Nat} {v:V},vs[i]? = some v->∃b rs,v=.ref b/\rss[i]? = some rs/\H b=some (.lst (rs.map V.int))
 |_,_,.nil,_,_,e=>by simp at e
 |_,_,.cons ⟨b,e1,e2⟩ t,i,v,e=>by
  cases i with
  |zero=>exact⟨b,_,by simpa[e1] using e.symm,rfl,e2⟩
  |succ i=>exact De.at t (by simpa using e)
def yF(cv:PL)(b y m low tall rows:Int)(rss:List (List Int)):Prop:=rss.length=m.toNat/\∀(k:Nat) rs,rss[k]? = some rs->Lf ((Dr (inCol cv b (b+m*y)) (b+(k:Int)*y) (b+(k:Int)*y+y)).map (fl low tall)) rows rs
theorem xi{H:Hp}{l:Addr}{o:HO}:∀ {vs:List V} {rss:List (List Int)},De H vs rss->(∀v∈vs,v≠.ref l)->De (upd H l o) vs rss
 |_,_,.nil,_=>.nil
 |_,_,.cons ⟨b,e1,e2⟩ t,hn=>.cons ⟨b,e1,by rw[Ep (fun z=>hn _ (UB ..) (by rw[e1,z]))];exact e2⟩ (xi t fun v hv=>hn v (Uf _ hv))
def bC(K:W.Frag)(t q p:Addr)(cv:PL)(b y m low tall rows:Int):Sp:=fun vs H Q _=>vs=[.ref t,.ref q,.ref p]/\Db H t cv/\qM H q b y m/\Fc H p low tall rows/\DA cv/\BP cv/\cv.length<=100/\
 ∀(u:Addr) (vs:List V) (rss:List (List Int)) (H':Hp),H' u=some (.lst vs)->De H' vs rss->yF cv b y m low tall rows rss->ET H H'->Q (.ref u) H'
def mV(K:W.Frag):Sp:=fun vs H Q E=>∃t q p cv b y m low tall rows,bC K t q p cv b y m low tall rows vs H Q E
theorem AZ:Eo ["_law_curve","_law_window","_law_heights","_law_begin","_law_wide","_law_many","_law_samples","_law_ends"] ["_law_curve","_law_window","_law_heights"] (EU Az):=Es
section
local macro_rules|`(tactic|omega)=>`(tactic|omega +splitMinMax)
theorem bD(T:Txt K mg a):Ec P w K mg base Ew 3 a.Rt a.Rh ["_law_curve","_law_window","_law_heights"] (mV K):=by
 refine T.NG.ok AZ fun c5 A a8 s H vs Q E hr h=>?_
 ·obtain⟨t,q,p,cv,b,y,m,low,L,J,rfl,hT,⟨hq,hb,hy,a4,c3,c4⟩,hh,O,a7,M,k⟩:=h;obtain⟨us,gT,pT⟩:=id hT;have a6:us.length=cv.length:=pT.length;refine⟨_,QB.h (EQ (DE (qv 1) (Gm (n:=3) K rfl rfl (EY (GN (i:=3) AZ.nd) (EY (GN (i:=4) AZ.nd) (EY (GN (i:=5) AZ.nd) GW))))) (EQ (lB (i:=6) AZ.nd rfl (by walk_at "o") (Dg (N:=["_law_curve","_law_window","_law_heights","_law_begin","_law_wide","_law_many","_law_samples","_law_ends"]) (sc:=EU Az) (own:=["_law_sample"]) (caps:=["_law_begin","_law_wide","_law_many"]) (ks:=[3,4,5]) rfl rfl rfl ⟨rfl,by decide +kernel,by decide +kernel,by decide +kernel,by decide +kernel,rfl,by decide +kernel⟩ (HG K rfl (qv 0)) (fun _ _ _ _ _=>Ge (i:=0) (show List.Nodup (α:=Str) ["_law_sample","_law_begin","_law_wide","_law_many"] from by decide +kernel) rfl (by walk_at "o") (.inr rfl)) (fun _ _ _ _ _=>CT (AQ BU Bm (qv 1) (Ei (Ek K rfl) (qv 0) ER) (Eb Go (qv 1) (Eb GM (qv 2) (qv 3))))) (fun _ _ _ _ _=>qv 0))) (EQ (Fz (N:=["_law_curve","_law_window","_law_heights","_law_begin","_law_wide","_law_many","_law_samples","_law_ends"]) (sc:=EU Az) (own:=["_law_k"]) (caps:=["_law_begin","_law_wide"]) (ks:=[3,4]) (i:=7) rfl rfl rfl ⟨rfl,by decide +kernel,by decide +kernel,by decide +kernel,by decide +kernel,rfl,by decide +kernel⟩ AZ.nd rfl (by walk_at "o") (Dm rfl T.ZJ (EN (qv 5) EO)) (fun _ _ _ _ _=>Ge (i:=0) (show List.Nodup (α:=Str) ["_law_k","_law_begin","_law_wide"] from by decide +kernel) rfl (by walk_at "o") (.inr rfl)) (fun _ _ _ _ _=>Df) (fun _ _ _ _ _=>Eb Go (qv 1) (Eb GM (qv 0) (qv 2)))) (ES (Ea (Dg (N:=["_law_curve","_law_window","_law_heights","_law_begin","_law_wide","_law_many","_law_samples","_law_ends"]) (sc:=EU Az) (own:=["_law_x"]) (caps:=["_law_heights","_law_samples","_law_wide"]) (ks:=[2,6,4]) rfl rfl rfl ⟨rfl,by decide +kernel,by decide +kernel,by decide +kernel,by decide +kernel,rfl,by decide +kernel⟩ (DX K rfl (qv 7)) (fun _ _ _ _ _=>Ge (i:=0) (show List.Nodup (α:=Str) ["_law_x","_law_heights","_law_samples","_law_wide"] from by decide +kernel) rfl (by walk_at "o") (.inr rfl)) (fun _ _ _ _ _=>Df) (fun _ _ _ _ _=>GE (bB T) hr T.PC T.Mu.kp T.PX (EN (GE (fR T) hr T.Pb T.Ny.kp T.Pi (EN (qv 2) (EN (qv 0) (EN (Eb Go (qv 0) (qv 3)) EO)))) (EN (qv 1) EO))))))))),?_⟩;walk_at "s";walk_at "w";intro l n1;refine Gw cv.length (fun i U' H'=>(∃o,U'=[o,some (.int b),some (.int y),some (.int m)])/\ET H H'/\∃vs,H' l=some (.lst vs)/\EZ H' vs (inCol (cv.take i) b (b+y*m))) ?_ ?_ ?_
  ·exact⟨⟨none,rfl⟩,ET.new n1,[],EW,.nil⟩
  ·rintro U H1 ⟨_,S1,c0,f1,a3⟩;refine⟨⟨_,GF.of (S1 _ _ gT),by rw[a6];exact Ue _⟩,?_⟩;rw[UP,Int.mul_comm y m] at a3;walk_at "w";refine CQ (by omega) (by omega) ?_;intro l2 n2;refine Gw m.toNat (fun i U' H'=>(∃o,U'=[o,some (.int b),some (.int y)])/\ET H1 H'/\H' l2=some (.lst (((UM i).map fun(j:Nat)=>b+(j:Int)*y).map V.int))) ?_ ?_ ?_
   ·exact⟨⟨none,rfl⟩,ET.new n2,EW⟩
   ·rintro U H2 ⟨_,S2,f2⟩;refine⟨Ue _,?_⟩;have b7:=S2 _ _ f1;have S02:=S1.trans S2;walk_at "w";intro l3 n3;refine Gw m.toNat (fun i U' H'=>(∃o,U'=[o,some (.ref p),some (.ref l),some (.int y)])/\ET H2 H'/\∃vs Y,H' l3=some (.lst vs)/\De H' vs Y/\Y.length=i/\(∀v∈vs,v≠.ref l3)/\∀(k:Nat) rs,Y[k]? = some rs->Lf ((Dr (inCol cv b (b+m*y)) (b+(k:Int)*y) (b+(k:Int)*y+y)).map (fl low L)) J rs) ?_ ?_ ?_
    ·exact⟨⟨none,rfl⟩,ET.new n3,[],[],EW,.nil,rfl,fun v hv=>(by cases hv),fun k o h=>by simp at h⟩
    ·rintro U H3 ⟨_,S3,vs,os,f3,hD,ho,_,hI⟩;refine⟨⟨_,Eh.of (S3 _ _ f2),by simp⟩,?_⟩;walk_at "w";exact k l3 vs os H3 f3 hD ⟨ho,hI⟩ (S02.trans S3)
    ·rintro i U H3 hi ⟨⟨o,rfl⟩,S3,vs,os,f3,hD,ho,a0,hI⟩
     have a1:(((UM m.toNat).map fun(j:Nat)=>b+(j:Int)*y).map V.int)[i]? = some (.int (b+(i:Int)*y)):=by
      rw[UC,UC,List.getElem?_range hi];rfl
     refine⟨⟨_,_,Eh.of (S3 _ _ f2),a1⟩,?_⟩;rintro x H'' ⟨rfl,B⟩;have B:=B _ (Eh.of (S3 _ _ f2));rw[a1] at B;obtain rfl:=Option.some.inj B;have a2:=ag hb a4 (k:=(i:Int)) (by omega) (by omega);have b1:Bn 200 (b+(i:Int)*y):=a2.mono (by decide);have b2:Bn 200 (b+(i:Int)*y+y):=(a2.add (a4.mono (by decide))).mono (by decide);walk_at "w";refine DD ?_;walk_at "w";refine⟨l,_,_,_,rfl,⟨c0,S3 _ _ b7,(a3.same S2).same S3⟩,DA.inCol O,BP.inCol a7,Uz (UL _ _) M,b1,b2,fun l4 H4 n4 b8 b6 S4=>?_⟩;walk_at "w";refine⟨l4,p,_,low,L,J,rfl,b8,rj (DA.inCol O) (BP.inCol a7) b1 b2,b6,hh.same (S02.trans (S3.trans S4)),fun v o2 H5 a5 c2 a9 S5=>?_⟩;have S35:=S4.trans S5;have f5:=S35 _ _ f3;have Z:v≠l3:=fun z=>by rw[z,S4 _ _ f3] at a5;cases a5
     have b0:vs.length=os.length:=Paired.length hD;refine⟨vs,f5,?_,⟨_,rfl⟩,(S3.trans S35).kpN n3 Kp.upd,vs ++ [.ref v],os ++ [o2],EW,?_,by simp[ho],?_,?_⟩
     ·rw[b0,ho];exact Uh hi (Uz (show m.toNat<=1000 by omega) (by decide))
     ·refine De.snoc ?_ (by rw[Ep Z];exact c2);exact xi (hD.same S35) a0
     ·intro x B;rcases Uu.mp B with B|B
      ·exact a0 x B
      ·rw[Um.mp B];exact fun z=>Z (by cases z;rfl)
     ·intro k' o' h';rw[List.getElem?_append] at h';split at h'
      ·exact hI k' o' h'
      ·have:k'=i:=by
        have:=(Ui.mp h').1;simp at this;omega
       subst this;rw[ho,Nat.sub_self] at h';have:o2=o':=by simpa using h'
       subst this;exact a9
   ·rintro i U H2 hi ⟨⟨o,rfl⟩,S2,f2⟩;refine⟨hi,?_⟩;rintro x H'' ⟨rfl,rfl⟩;walk_at "w";refine DD ?_;walk_at "w";refine⟨_,f2,?_,⟨_,rfl⟩,S2.kpN n2 Kp.upd,?_⟩
    ·rw[Ug,Ug,Ve];exact Uh hi (Uz (show m.toNat<=1000 by omega) (by decide))
    ·rw[EW,Vk,Uy,Uy];simp only[UK,List.map_nil,Int.zero_add]
  ·rintro i U H1 hi ⟨⟨o,rfl⟩,S1,vs,f,F⟩;have c1:i<us.length:=by rw[a6];exact hi
   refine⟨⟨_,_,GF.of (S1 _ _ gT),Ub c1⟩,?_⟩;rintro v H'' ⟨rfl,hv⟩;have hv:=hv _ (GF.of (S1 _ _ gT));obtain⟨c,q1,rfl,b9,hc⟩:=(pT.same S1).at hv
   have e3:cv.take (i+1)=cv.take i ++ [q1]:=by
    rw[UR,b9];rfl
   have e4:inCol (cv.take (i+1)) b (b+y*m)=inCol (cv.take i) b (b+y*m)++(if(decide (b<=q1.1)&&decide (q1.1<b+y*m))=true then[q1] else[]):=by
    rw[e3,inCol,List.filter_append];congr 1;simp only[List.filter_cons,List.filter_nil]
   walk_at "w";refine GL (fun h1=>?_) (fun h1=>?_)
   ·walk_at "w";refine GL (fun h2=>?_) (fun h2=>?_)
    ·walk_at "w";refine⟨vs,f,?_,⟨_,rfl⟩,?_,?_⟩
     ·have e:=F.length;rw[e];refine Uq (UL _ _) ?_;rw[US];exact Uq (Nat.min_le_left _ _) (Uh (Uh hi M) (by decide))
     ·exact S1.kpN n1 Kp.upd
     ·refine⟨_,EW,?_⟩;rw[e4,decide_eq_true h1,decide_eq_true h2,Bool.and_self,if_pos rfl];exact EZ.kpL Kp.upd f (F.snoc hc)
    ·refine⟨⟨_,rfl⟩,S1,vs,f,?_⟩;rw[e4,decide_eq_false h2,Bool.and_false,if_neg (by decide),UF];exact F
   ·walk_at "w";refine GV ?_;refine⟨⟨_,rfl⟩,S1,vs,f,?_⟩;rw[e4,decide_eq_false h1,Vr,if_neg (by decide),UF];exact F
end
end
noncomputable def xj(fs:List Int)(r:Int):Bool:=fs.any (fun f=>decide (f<=r))&&fs.any (fun f=>decide (r<=f))
theorem bE{fs:List Int}{m M r:Int}(h1:m∈fs)(h2:∀f∈fs,m<=f)(J:M∈fs)(F:∀f∈fs,f<=M):xj fs r=(decide (m<=r)&&decide (r<=M)):=by
 unfold xj;congr 1
 ·rw[Vw,UY,decide_eq_true_iff];constructor
  ·rintro⟨f,B,e⟩;have:=h2 f B;have:=of_decide_eq_true e;omega
  ·exact fun e=>⟨m,h1,decide_eq_true e⟩
 ·rw[Vw,UY,decide_eq_true_iff];constructor
  ·rintro⟨f,B,e⟩;have:=F f B;have:=of_decide_eq_true e;omega
  ·exact fun e=>⟨M,J,decide_eq_true e⟩
theorem fV{fs:List Int}{B r:Int}{F:List Int}(h:Lf fs B F)(h0:0<=r)(h1:r<B):decide (r∈F)=xj fs r:=by
 rcases h with ⟨rfl,rfl⟩|⟨m,M,g1,g2,g3,g4,rfl⟩
 ·rfl
 ·rw[bE g1 g2 g3 g4,Vw,decide_eq_true_iff,wE,UN,decide_eq_true_iff,decide_eq_true_iff];constructor
  ·exact fun z=>z.2
  ·exact fun z=>⟨⟨h0,by omega⟩,z⟩
theorem mW{fs:List Int}{B r:Int}{o:Option (Int×Int)}(h:Ci fs B o)(h0:0<=r)(h1:r<B):Fa o r=xj fs r:=by
 rcases h with ⟨rfl,rfl⟩|⟨m,M,g1,g2,g3,g4,rfl⟩
 ·rfl
 ·rw[bE g1 g2 g3 g4];by_cases c:max m 0<=min M (B-1)
  ·rw[if_pos c];show(decide (max m 0<=r)&&decide (r<=min M (B-1)))=_;rw[Vw,UN,UN,decide_eq_true_iff,decide_eq_true_iff,decide_eq_true_iff,decide_eq_true_iff];omega
  ·rw[if_neg c];show false=_;rw[eq_comm,Bool.eq_false_iff];intro z;rw[UN,decide_eq_true_iff,decide_eq_true_iff] at z;omega
theorem rl(fs:List Int)(B:Int):∃o,Ci fs B o:=by
 by_cases e:fs=[]
 ·exact⟨none,.inl ⟨e,rfl⟩⟩
 ·obtain⟨m,h1,h2⟩:=Xf e;obtain⟨M,J,F⟩:=ay e;exact⟨_,.inr ⟨m,M,h1,h2,J,F,rfl⟩⟩
def WW(sm:PL):PL:=BK sm ((sm.map (·.1)).mergeSort fun a b=>decide (a<=b))
theorem Lv{sm:PL}(n:(sm.map (·.1)).Nodup):DA (WW sm)/\∀r,r∈WW sm↔r∈sm:=by
 have h:=Ix n (List.mergeSort_perm (sm.map (·.1)) (fun a b=>decide (a<=b))) (by
  have:=List.pairwise_mergeSort (le:=fun a b:Int=>decide (a<=b)) (fun a b c h1 h2=>by simp at *;omega) (fun a b=>by simp;omega) (sm.map (·.1))
  exact this.imp fun h=>by simpa using h)
 exact⟨h.1,fun r=>by obtain⟨t,x⟩:=r;rw[WW,h.2,Ga n]⟩
theorem zS{sm cv:PL}(n:(sm.map (·.1)).Nodup)(h:DA cv)(g:∀r,r∈cv↔r∈sm):cv=WW sm:=Xx h (Lv n).1 fun r=>(g r).trans ((Lv n).2 r).symm
theorem fW{sm B:PL}(n:(sm.map (·.1)).Nodup)(n':(B.map (·.1)).Nodup)(h:Dx sm B):WW sm=WW B:=zS n' (Lv n).1 fun r=>((Lv n).2 r).trans (h r)
def Cp(sm:PL)(b y w low tall:Int)(j:Nat)(r:Int):Bool:=xj ((Dr (inCol (WW sm) b (b+w*y)) (b+(j:Int)*y) (b+(j:Int)*y+y)).map (fl low tall)) r
theorem bF{sm F:PL}{b y w low B:Int}(n:(sm.map (·.1)).Nodup)(n':(F.map (·.1)).Nodup)(h:Dx sm F):Cp sm b y w low B=Cp F b y w low B:=by
 unfold Cp;rw[fW n n' h]
theorem mY{sm cv:PL}{b y w low F J r:Int}{B:List (List Int)}{j:Nat}(n:(sm.map (·.1)).Nodup)(h:DA cv)(g:∀r,r∈cv↔r∈sm)(O:yF cv b y w low F J B)(Y:(j:Int)<w)(h0:0<=r)(h1:r<J) :
  ∃M,B[j]? = some M/\decide (r∈M)=Cp sm b y w low F j r:=by
 have L:j<B.length:=by rw[O.1];omega
 refine⟨B[j],Ub L,?_⟩;have:=fV (O.2 j _ (Ub L)) h0 h1;rw[this,zS n h g];rfl
theorem bG{sm:PL}{b y w low B F r:Int}{J:List (Option (Int×Int))}{j:Nat}(n:(sm.map (·.1)).Nodup)(hy:0<y)(ht:0<B)(h:vF sm b y w low B F J)(Z:(j:Int)<w)(h0:0<=r)(h1:r<F):Fa ((J[j]?).getD none) r=Cp sm b y w low B j r:=by
 obtain⟨cv,kp,O,hm,hk,hK,L⟩:=h;have M:j<J.length:=by rw[L.1];omega
 have h2:=L.2 j _ (Ub M);obtain⟨o,Y⟩:=rl ((Dr (inCol cv b (b+w*y)) (b+(j:Int)*y) (b+(j:Int)*y+y)).map (fl low B)) F;have h3:=(gZ hy ht O hk hK (by omega) Z Y).unique h2;rw[Ub M];show Fa J[j] r=_;rw[<- h3,mW Y h0 h1,zS n O hm];rfl
noncomputable def Lg(k:Str):Str:=match k.cps.toList.head? with
 |some c=>⟨#[c]⟩
 |none=>""
noncomputable def Fe(f:Str->Bool):List Str->Str
 | []=>"."
 |k::ss=>if f k=true then Lg k else Fe f ss
theorem qQ{f g:Str->Bool}:∀ {ss:List Str},(∀k∈ss,f k=g k)->Fe f ss=Fe g ss
 | [],_=>rfl
 |k::ss,h=>by
  unfold Fe;rw[h k UB,qQ fun j hj=>h j (Uf _ hj)]
def CC(f:Str->Nat->Int->Bool)(ss:List Str)(w:Nat)(r:Int):List Str:=(UM w).map fun j=>Fe (fun k=>f k j r) ss
noncomputable def AM(f:Str->Nat->Int->Bool)(ss:List Str)(w:Nat):Nat->Str
 | 0=>""
 |n+1=>Af (CC f ss w n)++"\n"++AM f ss w n
theorem Si{f g:Str->Nat->Int->Bool}{B ss':List Str}{w:Nat}:∀n:Nat,(∀(r:Nat) j,r<n->j<w->Fe (fun k=>f k j r) B=Fe (fun k=>g k j r) ss')->AM f B w n=AM g ss' w n
 | 0,_=>rfl
 |n+1,h=>by
  unfold AM;rw[Si n fun r j J=>h r j (by omega)];have:CC f B w n=CC g ss' w n:=UU fun j F=>h n j (by omega) (List.mem_range.mp F);rw[this]
theorem vG{f:Str->Bool}:∀ {ss:List Str},(∀k∈ss,BI k=true)->(Fe f ss).length=1
 | [],_=>rfl
 |k::ss,h=>by
  unfold Fe;split
  ·have:=h k UB;unfold BI at this;simp only[UN,decide_eq_true_eq] at this;unfold Lg
   cases e:k.cps.toList with
   |nil=>
    have h1:k.length=k.cps.toList.length:=by rw[UI];rfl
    rw[e] at h1;simp at h1;omega
   |cons c l=>rfl
  ·exact vG fun j B=>h j (Uf _ B)
theorem Fs{f:Str->Nat->Int->Bool}{B:List Str}(h:∀k∈B,BI k=true)(r:Int):∀w:Nat,((CC f B w r).map (·.length)).sum=w
 | 0=>rfl
 |w+1=>by
  have:=Fs (f:=f) h r w;unfold CC at this ⊢;rw[Vk,Uy,Uy,List.sum_append,this];simp only[UK,List.map_nil,List.sum_cons,List.sum_nil];rw[vG h,Nat.add_zero]
theorem qR{f:Str->Nat->Int->Bool}{ss:List Str}{w:Nat}(h:∀k∈ss,BI k=true):∀n:Nat,(AM f ss w n).length=n*(w+1)
 | 0=>by simp[AM];rfl
 |n+1=>by
  unfold AM;rw[Ic,Ic,Sz,Fs h,qR h n,Nat.succ_mul];show w+1+n*(w+1)=_;omega
theorem Xg{m:List (Str×SS)}{b y w low B F:Int}(L:∀x∈m,(x.2.sm.map (·.1)).Nodup)(O:0<y)(M:0<B){j:Nat}{r:Int}(J:(j:Int)<w)(h0:0<=r)(h1:r<F):∀ {ss:List Str} {qs:List Cr},Paired (qw m b y w low B F) ss qs ->
  Cd qs j r=Fe (fun k=>Cp (((Ex m k).map SS.sm).getD []) b y w low B j r) ss
 |_,_,.nil=>rfl
 |_,_,@Paired.cons _ _ _ k q ss qs ⟨st,c,hg,hc,e1,hD⟩ t=>by
  unfold Cd Fe;have h2:=bG (L _ (Bu hg)) O M hD J h0 h1;have Y:Lg k=q.1:=by unfold Lg;rw[hc,e1]
  rw[h2,hg];simp only[Vb,Option.getD_some];rw[Y,Xg L O M J h0 h1 t]
theorem bH(x y z:Str):x++y++z=x++(y++z):=by
 obtain⟨x⟩:=x;obtain⟨y⟩:=y;obtain⟨z⟩:=z;show Str.mk ((x++y)++z)=Str.mk (x++(y++z));rw[Array.append_assoc]
theorem foldS:∀(l:List Str) (x y:Str),l.foldl (· ++ ·) (x++y)=x++l.foldl (· ++ ·) y
 | [],_,_=>rfl
 |z::l,x,y=>by
  rw[List.foldl_cons,List.foldl_cons,bH,foldS l]
theorem bI(x:Str)(l:List Str):Af (x::l)=x++Af l:=by
 show l.foldl (· ++ ·) (Str.empty++x)=x++l.foldl (· ++ ·) Str.empty;rw[<- foldS];congr 1;obtain⟨⟨x⟩⟩:=x;show Str.mk (#[]++_)=Str.mk (_ ++ #[]);simp
theorem yG{m:List (Str×SS)}{b y w low F B:Int}(Y:∀x∈m,(x.2.sm.map (·.1)).Nodup)(hy:0<y)(Z:0<F){L:List Str}{J:List Cr}(hP:Paired (qw m b y w low F B) L J)(hr:0<=B) :
  textL J w B=AM (fun k j r=>Cp (((Ex m k).map SS.sm).getD []) b y w low F j r) L w.toNat B.toNat:=by
 have M:∀n:Nat,(n:Int)<=B->Af (BS J w.toNat ((n:Int)-1) n)=AM (fun k j r=>Cp (((Ex m k).map SS.sm).getD []) b y w low F j r) L w.toNat n:=fun n=>by
  induction n with
  |zero=>exact fun _=>rfl
  |succ n ih=>
   intro hn
   have e:BS J w.toNat (((n+1:Nat):Int)-1) (n+1)=(Fq J w.toNat n++"\n")::BS J w.toNat ((n:Int)-1) n:=by
    unfold BS;rw[List.range_succ_eq_map,UK,UH];congr 1
    ·congr 2;omega
    ·refine UU fun i _=>?_;show Fq J w.toNat (((n+1:Nat):Int)-1+((i+1:Nat):Int) * -1)++"\n"=_;congr 2;omega
   rw[e,bI,ih (by omega)];show _=Af (CC _ L w.toNat n)++"\n"++AM _ L w.toNat n;congr 2;unfold Fq;congr 1;exact UU fun j O=>Xg Y hy Z (by have:=List.mem_range.mp O;omega) (by omega) (by omega) hP
 unfold textL;have:=M B.toNat (by omega);rw[show((B.toNat:Nat):Int)=B by omega] at this;exact this
abbrev Cv:=Str×Addr×PL
noncomputable def Xh(cs:List Cv):List (Str×V):=cs.map fun c=>(c.1,V.ref c.2.1)
theorem mZ(B:List Cv)(k:Str):Ex (Xh B) k=(Ex B k).map fun c=>V.ref c.1:=HS (fun c:Addr×PL=>V.ref c.1) B k
structure rn(H:Hp)(cs:List Cv):Prop where
 nd:(cs.map (·.1)).Nodup
 hd:∀c∈cs,H c.2.1=some (.dK (Ez c.2.2))
 nk:∀c∈cs,(c.2.2.map (·.1)).Nodup
 nm:∀c∈cs,BI c.1=true
section
variable{α:Type}{m:List (Str × α)}
set_option tactic.hygienic true in
theorem FC{k:Str}{q':α}{x:Str × α}(B:x∈Gd m k q'):x=(k,q')\/(x∈m/\x.1≠k):=by
 unfold Gd at B;split at B
 ·obtain⟨z,hz,e⟩:=Ur.mp B;by_cases c:z.1=k
  ·rw[if_pos c] at e;left;rw[<- e,c]
  ·rw[if_neg c] at e;right;rw[<- e];exact⟨hz,c⟩
 ·rename_i ha
  rcases Uu.mp B with B|B
  ·refine .inr ⟨B,fun e=>ha ?_⟩;rw[UY];exact⟨x,B,by simpa using e⟩
  ·exact .inl (Um.mp B)
theorem FR{k:Str}{q q':α}(F:Ex m k=some q):(Gd m k q').map (·.1)=m.map (·.1):=by
 have B:(m.any fun p=>decide (p.1=k))=true:=by
  rw[UY];exact⟨_,Bu F,by simp⟩
 unfold Gd;rw[if_pos B,UH];refine UU fun x J=>?_;simp only[Function.comp];split<;>rfl
theorem Kb{β:Type}{f:α->β}{k:Str}{q':α}(m:List (Str × α)):(Gd m k q').map (fun x=>(x.1,f x.2))=Gd (m.map fun x=>(x.1,f x.2)) k (f q'):=by
 unfold Gd;have:((m.map fun x=>(x.1,f x.2)).any fun p=>decide (p.1=k))=m.any fun p=>decide (p.1=k):=by rw[List.any_map];rfl
 rw[this];split
 ·rw[UH,UH];refine UU fun x B=>?_;simp only[Function.comp];split<;>rfl
 ·simp
set_option tactic.hygienic true in
theorem qS{k:Str}{q:α}(B:Ex m k=some q)(n:(m.map (·.1)).Nodup):Gd m k q=m:=by
 have J:(m.any fun p=>decide (p.1=k))=true:=by
  rw[UY];exact⟨_,Bu B,by simp⟩
 unfold Gd;rw[if_pos J]
 conv=>rhs;rw[<- List.map_id m]
 refine UU fun x F=>?_;split
 ·rename_i c
  have h1:Ex m k=some x.2:=Gi n (by rw[<- c];exact F);rw[B] at h1;rw[Option.some.inj h1];rfl
 ·rfl
end
def yH(b y w:Int):Prop:=-20000<=b/\b<=20000/\1<=y/\y<=100/\1<=w/\w<=7
theorem yH.winT{H:Hp}{q:Addr}{b y w:Int}(h:yH b y w)(e:H q=some (.tup [.int b,.int y,.int w])):BH H q b y w:=by
 obtain⟨h1,h2,O,B,J,F⟩:=h;have L:0<=w*y:=Int.mul_nonneg (by omega) (by omega);have M:w*y<=7*100:=Int.mul_le_mul F B (by omega) (by decide);exact⟨e,by omega,by omega,by omega,⟨by omega,by omega⟩,⟨by omega,by omega⟩⟩
theorem vH{α β:Type}{f:α->β}{l:List α}(n:(l.map f).Nodup){i:Nat}(hi:i<l.length):f l[i]∉(l.take i).map f:=fun z=>by
 rw[<- List.take_append_drop i l,Uy,List.nodup_append] at n;exact n.2.2 _ z _ (Ur.mpr ⟨l[i],by rw[List.drop_eq_getElem_cons hi];exact UB,rfl⟩) rfl
section
def ma(K:W.Frag):Sp:=fun vs H Q _=>∃(l:Addr) (ps:PL) (sg:Int),vs=[.ref l,.int sg]/\Hr H l ps/\ps≠[]/\(sg=1\/sg = -1)/\
 ∀(c:Addr) (q:Int×Int) (j:Nat),H c=some (.tup [.int q.1,.int q.2])->ps[j]? = some q->(∀(i:Nat) r,ps[i]? = some r->q.2*sg<=r.2*sg/\(i<j->q.2*sg<r.2*sg))->Q (.ref c) H
theorem Ft:Eo ["_law_samples","_law_sign_here","_law_best","_law_sample"] ["_law_samples","_law_sign_here"] (EU LU):=Es
theorem Xi(T:Txt K mg a):Ec P w K mg base Ew 1 a.RE a.Qn ["_law_samples","_law_sign_here"] (ma K):=by
 refine T.Qf.ok Ft fun a9 A O s H vs Q E B h=>?_
 ·obtain⟨l,ps,J,rfl,⟨us,gT,pT⟩,a0,L,k⟩:=h;have a8:-2<J:=by rcases L with rfl|rfl<;>decide
  have a7:J<2:=by rcases L with rfl|rfl<;>decide
  have a6:0<ps.length:=Vt.mpr a0;have a2:us.length=ps.length:=pT.length;obtain⟨c0,q0,a3,a5,a1⟩:=pT.at (Ub (show 0<us.length by omega));have a4:us[0]? = some (.ref c0):=by rw[Ub (show 0<us.length by omega),a3]
  refine⟨_,QB.h (EQ (Gb (i:=2) Ft.nd (Ei (DH K rfl) (qv 0) ER)) (EQ (DU PassesOwn.never rfl (DX K rfl (qv 0)) (GN (i:=3) Ft.nd) (ES (GO (Ee (Bm) (Eb GM (Ei (Ek K rfl) (qv 3) ER) (qv 1)) (Eb GM (Ei (Ek K rfl) (qv 2) ER) (qv 1)) (Ej _)) (ES (Gb (i:=2) Ft.nd (qv 3))) GC))) (ES (Ea (qv 2))))),?_⟩;walk_at "s";walk_at "w";refine CP (Eh.of gT) (DS (j:=0) a4) ?_;walk_at "w";refine AY (xs:=us) (fun i U H'=>H'=H/\∃(c:Addr) (u:Int×Int) (j:Nat),(∃v3,U=[some (.ref l),some (.int J),some (.ref c),v3])/\H c=some (.tup [.int u.1,.int u.2])/\ps[j]? = some u/\j<=i/\∀(n:Nat) r,n<i->ps[n]? = some r->u.2*J<=r.2*J/\(n<j->u.2*J<r.2*J)) ?_ ?_ ?_ ?_
  ·exact⟨rfl,c0,q0,0,⟨_,rfl⟩,a1,a5,Ue _,fun n r hn=>absurd hn (by omega)⟩
  ·rintro i U H' _ ⟨rfl,_⟩;exact Eh.of gT
  ·rintro i x U H' hx ⟨rfl,c,u,j,⟨v3,rfl⟩,hc,hu,hj,M⟩;obtain⟨c2,q2,rfl,F,Y⟩:=pT.at hx;walk_at "w";refine GL (fun Z=>?_) (fun Z=>?_)
   ·walk_at "w";refine⟨rfl,c2,q2,i,⟨_,rfl⟩,Y,F,Vl _,fun n r hn B=>?_⟩;by_cases e:n=i
    ·subst e;rw[F] at B;cases B;exact⟨Int.le_refl _,fun z=>absurd z (by omega)⟩
    ·have:=(M n r (by omega) B).1;exact⟨by omega,fun _=>by omega⟩
   ·walk_at "w";refine⟨rfl,c,u,j,⟨_,rfl⟩,hc,hu,Nat.le_succ_of_le hj,fun n r hn B=>?_⟩;by_cases e:n=i
    ·subst e;rw[F] at B;cases B;exact⟨by omega,fun z=>absurd z (by omega)⟩
    ·exact M n r (by omega) B
  ·rintro U H' ⟨rfl,c,u,j,⟨v3,rfl⟩,hc,hu,hj,M⟩;walk_at "w";refine k c u j hc hu fun i r B=>M i r ?_ B;rw[a2];exact(Ui.mp B).1
end
instance leS_dec(a b:Str):Decidable (Cy a b):=inferInstanceAs (Decidable (¬_))
def Ff(l:List Str):List Str:=l.mergeSort fun a b=>decide (Cy a b)
theorem WX(l:List Str):(Ff l).Perm l:=List.mergeSort_perm l _
theorem rp(l:List Str):(Ff l).Pairwise Cy:=by
 have:=List.pairwise_mergeSort (le:=fun a b:Str=>decide (Cy a b)) (fun a b c h1 h2=>by simp only[decide_eq_true_eq] at *;exact zt h1 h2) (fun a b=>by
  simp only[Bool.or_eq_true,decide_eq_true_eq];by_cases h:Cy a b
  ·exact .inl h
  ·refine .inr fun z=>?_;unfold Cy at h;rw[Classical.not_not] at h
   exact List.lt_irrefl _ (List.lt_trans h z)) l
 exact this.imp fun h=>by simpa using h
theorem bJ{l B:List Str}(F:B.Perm l)(h:B.Pairwise Cy):B=Ff l:=xJ (F.trans (WX l).symm) h (rp l)
theorem xk(k:Int):∀l:List Int,fw (.int k) (l.map V.int)=decide (k∈l)
 | []=>rfl
 |x::l=>by
  have B:=xk k l;unfold fw at B ⊢;rw[UK,List.any_cons,B];by_cases e:x=k
  ·subst e;simp[SF]
  ·simp[SF,e,Ne.symm e]
theorem bK(l:List Int):(l.map V.int).all FD=true:=by
 rw[List.all_map];simp[List.all_eq_true,FD,Function.comp]
theorem rq{K:W.Frag}{H:Hp}{Q:VK}{p:Addr}{l:List Int}{i:Int}(h1:H p=some (.lst (l.map V.int)))(q:Q (.bl (decide (i∈l))) H):oE K false (.int i) (.ref p) H Q:=
 ⟨p,_,rfl,.inl (Eh.of h1),rfl,bK l,by rw[if_neg (by decide),xk];exact q⟩
abbrev Rw:=Str×Addr×List (List Int)
noncomputable def Lh(rm:List Rw):List (Str×V):=rm.map fun x=>(x.1,V.ref x.2.1)
theorem md(B:List Rw)(k:Str):Ex (Lh B) k=(Ex B k).map fun x=>V.ref x.1:=HS (fun x:Addr×List (List Int)=>V.ref x.1) B k
theorem xl(B:List Rw):(Lh B).map (·.1)=B.map (·.1):=by simp[Lh,UH,Function.comp_def]
theorem vI(B:List Rw):(Lh B).length=B.length:=by simp[Lh]
def zT(H:Hp)(rm:List Rw)(w:Nat):Prop:=∀x∈rm,BI x.1=true/\x.2.2.length=w/\∃vs,H x.2.1=some (.lst vs)/\De H vs x.2.2
theorem zT.same{H H':Hp}{B:List Rw}{w:Nat}(h:zT H B w)(s:ET H H'):zT H' B w:=fun x F=>by
 obtain⟨h1,h2,vs,L,J⟩:=h x F;exact⟨h1,h2,vs,s _ _ L,J.same s⟩
def Aq(rm:List Rw)(k:Str)(j:Nat)(r:Int):Bool:=decide (r∈((((Ex rm k).map (·.2)).getD [])[j]?).getD [])
section
local macro_rules|`(tactic|walk_at "rd")=>`(tactic|walk_at " dw xF")
def bL(d:Addr)(r:Int)(j w:Nat)(rm:List Rw):Sp:=fun vs H Q _=>vs=[.ref d,.int r,.int j]/\H d=some (.dK (DL (Lh rm)))/\zT H rm w/\(rm.map (·.1)).Nodup/\j<w/\rm.length<=60/\
 ∀H',ET H H'->Q (.str (Fe (fun k=>Aq rm k j r) (Ff (rm.map (·.1))))) H'
def me:Sp:=fun vs H Q E=>∃d r j w rm,bL d r j w rm vs H Q E
theorem WY{f:Str->Bool}(B:List Str):∀i:Nat,(∀j q,j<i->B[j]? = some q->f q=false)->Fe f B=Fe f (B.drop i)
 | 0,_=>rfl
 |i+1,h=>by
  rw[WY B i fun j q F=>h j q (by omega)];by_cases hi:i<B.length
  ·rw[List.drop_eq_getElem_cons hi];have:=h i _ (by omega) (Ub hi)
   conv=>lhs;unfold Fe
   rw[this];rfl
  ·rw[Vh (by omega),Vh (by omega)]
theorem qT:Eo ["_law_rows_here","_law_row","_law_k","_law_name"] ["_law_rows_here","_law_row","_law_k"] (EU WP):=Es
theorem bN(T:Txt K mg a):Ec P w K mg base Ew 1 a.Rn a.RV ["_law_rows_here","_law_row","_law_k"] me:=by
 refine T.Mt.ok qT fun b7 A a4 s H vs Q E hr h=>?_
 ·obtain⟨d,r,j,w,rm,rfl,hd,hR,a7,hj,hl,k⟩:=h;have hu:=Dc hr;refine⟨_,QB.h (EQ (DU PassesOwn.never rfl (DX K rfl (Ey (SO rfl) rfl T.ZV AW (EN (qv 0) EO))) (GN (i:=3) qT.nd) (ES (GO (Ee (rD K rfl) (qv 1) (Ei (DH K rfl) (DI hu (qv 0) (qv 3)) (qv 2)) (by with_unfolding_all rfl)) (ES (Ea (Ei ye (qv 3) ER))) GC))) (ES (Ea Bx))),?_⟩;walk_at "s";walk_at "w";refine XR hd (by rw[vI];omega) fun l1 H1 ss n1 f1 Y a3 S1=>?_;rw[xl] at Y;obtain rfl:=bJ Y a3;have a9:=S1 _ _ hd;have a6:=hR.same S1;walk_at "w";refine AY (xs:=(Ff (rm.map (·.1))).map V.str) (fun i U H'=>H'=H1/\(∃v3,U=[some (.ref d),some (.int r),some (.int j),v3])/\∀i' q,i'<i->(Ff (rm.map (·.1)))[i']? = some q->Aq rm q j r=false) ⟨rfl,⟨_,rfl⟩,fun i' q h=>absurd h (by omega)⟩ (fun i U H' _ h=>by rw[h.1];exact Eh.of f1) ?_ ?_
  ·rintro i x U H2 hx ⟨eh,⟨v3,rfl⟩,B⟩;obtain rfl:H1=H2:=eh.symm;rw[UC] at hx;obtain⟨kk,J,rfl⟩:=Vn.mp hx;have b0:kk∈rm.map (·.1):=Y.mem_iff.mp (Ux J);obtain⟨⟨L,l2,b6⟩,a1,e⟩:=Ur.mp b0;dsimp only at e;subst e;have hg:=Gi a7 a1;obtain⟨F,a2,vs,fv,O⟩:=a6 _ a1;dsimp only at F a2 fv O;have a0:j<vs.length:=by rw[Paired.length O];omega
   obtain⟨b,rs,e2,a8,fb⟩:=O.at (Ub a0)
   have M:Aq rm L j r=decide (r∈rs):=by
    unfold Aq;rw[hg];simp only[Vb,Option.getD_some,a8]
   have a5:L.length<=8/\1<=L.length:=by
    unfold BI at F;simp only[UN,decide_eq_true_eq] at F;exact⟨F.1.2,F.1.1⟩
   walk_at "w";refine Di (v:=.ref l2) a9 (by rw[md,hg];rfl) ?_;walk_at "w";refine CP (v:=.ref b) (Eh.of fv) (DS (by rw[<- e2];exact Ub a0)) ?_;walk_at "w";refine rq fb ?_;walk_at "w"
   cases hh:decide (r∈rs) with
   |true=>
    refine DD ?_
    obtain⟨c,hc⟩:∃c,L.cps.toList.head? = some c:=by
     have h0:0<L.cps.toList.length:=by
      have:L.length=L.cps.toList.length:=by rw[UI];rfl
      omega
     exact⟨L.cps.toList[0],by rw[List.head?_eq_getElem?,Ub h0]⟩
    walk_at "w";refine gY (c:=c) (Uz a5.1 (by decide)) (by rw[List.head?_eq_getElem?] at hc;exact DS (j:=0) hc) ?_;have hi:i<(Ff (rm.map (·.1))).length:=(Ui.mp J).1;have:=k H1 S1;rw[WY _ i B,List.drop_eq_getElem_cons hi,(Ui.mp J).2] at this;unfold Fe at this;rw[M,hh,if_pos rfl] at this;unfold Lg at this;rw[hc] at this;exact this
   |false=>
    refine GV ?_;walk_at "w";refine⟨rfl,⟨_,rfl⟩,fun i' q Z hq=>?_⟩;rcases Nat.lt_or_eq_of_le (Nat.le_of_lt_succ Z) with Z | rfl
    ·exact B i' q Z hq
    ·rw[J] at hq;cases hq;rw[M];exact hh
  ·rintro U H2 ⟨eh,⟨v3,rfl⟩,B⟩;obtain rfl:H1=H2:=eh.symm;walk_at "w";have:=k H1 S1;rw[Ug] at B;rw[WY _ _ B,Vh (Ue _)] at this;exact this
def vJ(cs:List Cv)(k:Str):PL:=((Ex cs k).map (·.2)).getD []
def fX(cd q h:Addr)(cs:List Cv)(b y w low tall rows:Int):Sp:=fun vs H Q _=>vs=[.ref cd,.ref q,.ref h]/\H cd=some (.dK (DL (Xh cs)))/\rn H cs/\(∀c∈cs,c.2.1≠cd)/\cs.length<=10/\(∀c∈cs,c.2.2.length<64/\BP c.2.2)/\H q=some (.tup [.int b,.int y,.int w])/\yH b y w/\Fc H h low tall rows/\rows<=7/\
 ∀H',ET H H'->Q (.str (AM (fun k j r=>Cp (vJ cs k) b y w low tall j r) (Ff (cs.map (·.1))) w.toNat rows.toNat)) H'
def sA:Sp:=fun vs H Q E=>∃cd q h cs b y w low tall rows,fX cd q h cs b y w low tall rows vs H Q E
theorem Bg:Eo ["_law_curves","_law_window","_law_heights","_law_rows_here","_law_name","_law_text","_law_row"] ["_law_curves","_law_window","_law_heights"] (EU FE):=Es
theorem xm(T:Txt K mg a):Ec P w K mg base Ew 4 a.JH a.JK ["_law_curves","_law_window","_law_heights"] sA:=by
 refine T.RN.ok Bg fun h5 A d2 s H vs Q E hr h=>?_
 ·obtain⟨cd,q,h,M,b,y,w,low,O,Y,rfl,fc,hC,d3,h4,d1,hq,hW,hH,h7,k⟩:=h;have hu:=Dc hr;obtain⟨h9,g6,h6,i0,f8,f9⟩:=id hW;have h3:=hH.2.2.2.2.1;refine⟨_,QB.h (EQ (Gb (i:=3) Bg.nd AS) (EQ (lf (DU PassesOwn.never rfl (vA (qv 0)) (GN (i:=4) Bg.nd) (ES (Dz hu (GE (bD T) hr T.PF T.NG.kp T.PQ (EN (Gy (Dq K rfl) rfl T.ZI Dp (EN (SI rfl rfl T.ZV (DI hu (qv 0) (qv 4))) EO)) (EN (qv 1) (EN (qv 2) EO)))) (qv 3) (qv 4))))) (EQ (Gb (i:=5) Bg.nd Bx) (EQ (DU PassesOwn.never rfl (Dm rfl T.ZJ (EN (Ei (Ek K rfl) (qv 2) ER) EO)) (GN (i:=6) Bg.nd) (ES (Gb (i:=5) Bg.nd (Eb zA (Eb zA (Bp PySem.F.plainAttrs_str PySem.F.slot_str_join PySem.F.type_str_join (Xy K rfl) Bx (EN (Dg (N:=["_law_curves","_law_window","_law_heights","_law_rows_here","_law_name","_law_text","_law_row"]) (sc:=EU FE) (own:=["_law_k"]) (caps:=["_law_rows_here","_law_row"]) (ks:=[3,6]) rfl rfl rfl ⟨rfl,by decide +kernel,by decide +kernel,by decide +kernel,by decide +kernel,rfl,by decide +kernel⟩ (Dm rfl T.ZJ (EN (Ei (Ek K rfl) (qv 1) ER) EO)) (fun _ _ _ _ _=>Ge (i:=0) (show List.Nodup (α:=Str) ["_law_k","_law_rows_here","_law_row"] from by decide +kernel) rfl (by walk_at "o") (.inr rfl)) (fun _ _ _ _ _=>Df) (fun _ _ _ _ _=>GE (bN T) hr.m T.Ox T.Mt.kp T.PN (EN (qv 1) (EN (qv 2) (EN (qv 0) EO))))) EO)) Bx) (qv 5))))) (ES (Ea (qv 5))))))),?_⟩;walk_at "s";walk_at "w";refine KJ fun rd H1 n1 f1 S1=>?_;walk_at "w";refine lb (S1 _ _ fc) fun ob H2 nf f2 K2=>?_;have b9:rd≠cd:=fun z=>by rw[z,fc] at n1;cases n1
  refine lc (fun i U H'=>(∃v4 v5 v6,U=[some (.ref cd),some (.ref q),some (.ref h),some (.ref rd),v4,v5,v6])/\Kp cd H H'/\H' cd=some (.frz ob (.dK (DL (Xh M))))/\∃B:List Rw,H' rd=some (.dK (DL (Lh B)))/\zT H' B w.toNat/\B.map (·.1)=(M.take i).map (·.1)/\∀x∈B,∃c∈M,c.1=x.1/\∃cv,DA cv/\(∀r,r∈cv↔r∈c.2.2)/\yF cv b y w low O Y x.2.2) ⟨⟨_,_,_,rfl⟩,(Kp.same S1).trans K2,f2,[],K2 _ _ f1 b9,(fun x J=>by cases J),rfl,fun x J=>by cases J⟩ (fun i' U H' _ h=>h.2.2.1) ?_ ?_
  ·rintro i pr U H3 a0 ⟨⟨v4,v5,v6,rfl⟩,K3,f3,B,a9,a7,L,a3⟩
   have hi:i<M.length:=by
    have:=(Ui.mp a0).1;simpa[DL,Xh] using this
   have e6:pr=(.inr M[i].1,.ref M[i].2.1):=by
    unfold DL Xh at a0;rw[UC,UC,Ub hi] at a0;exact(Option.some.inj a0).symm
   rw[e6];have Z:M[i]∈M:=Vg hi;have e5:M.take (i+1)=M.take i ++ [M[i]]:=by rw[UR,Ub hi];rfl
   have c0:=vH hC.nd hi;generalize g0:M[i]=c at *;obtain⟨kk,hd,sm⟩:=c;dsimp only at *;have b6:=Gi hC.nd Z;have c1:=K3 _ _ (hC.hd _ Z) (d3 _ Z);have a2:=d1 _ Z;have b8:=hC.nk _ Z;dsimp only at c1 a2 b8;walk_at "w";refine gy (v:=.ref hd) f3 (by rw[mZ,b6];rfl) ?_;walk_at "w";refine SJ c1 b8 a2.1 fun l4 H4 b7 n4 e2 a4 h8 S4=>?_;obtain⟨d7,f4,d5⟩:=e2;walk_at "w";refine BJ (Eh.of f4) fun t5 H5 n5 f5 S5=>?_;have S35:=S4.trans S5
   have c2:∀r,r∈b7↔r∈sm:=fun r=>by
    obtain⟨t0,x0⟩:=r;rw[a4.2,Ga b8]
   have tk:∀b xs,H b=some (.tup xs)->H5 b=some (.tup xs):=fun b xs e=>S35 _ _ (K3 _ _ e fun z=>by rw[z,fc] at e;cases e);have d9:qM H5 q b y w:=(hW.winT (tk _ _ hq)).win;walk_at "w";refine⟨t5,q,h,b7,b,y,w,low,O,Y,rfl,⟨d7,f5,d5.same S5⟩,d9,⟨tk _ _ hH.1,hH.2⟩,a4.1,fun r hr=>a2.2 r ((c2 r).mp hr),by omega,fun u6 f0 c3 H6 f6 e9 c4 S6=>?_⟩;have c6:=S6 _ _ (S35 _ _ a9)
   have a8:B.length<=60:=by
    have:=congrArg List.length L;simp only[Ug,US] at this;omega
   walk_at "w";refine HU c6 (Uq (show(Lh B).length<=60 by rw[vI];exact a8) (by decide)) fun H7 f7 K7=>?_
   have e7:Gd (Lh B) kk (.ref u6)=Lh (B ++ [(kk,u6,c3)]):=by
    rw[KI (by rw[CY,xl,L];exact c0)];simp[Lh]
   rw[e7] at f7;have lk:∀b vs,H6 b=some (.lst vs)->H7 b=some (.lst vs):=fun b vs e=>K7 _ _ e fun z=>by rw[z,c6] at e;cases e
   have rk:∀vs a6,De H6 vs a6->De H7 vs a6:=fun vs a6 hR=>Paired.mapP hR fun v rs ⟨b,e,z⟩=>⟨b,e,lk _ _ z⟩;have c5:=a7.same (S35.trans S6);walk_at "w";refine⟨⟨_,_,_,rfl⟩,(fun b o e nb=>K7 _ _ (S6 _ _ (S35 _ _ (K3 _ _ e nb))) fun z=>by rw[z,n1] at e;cases e),K7 _ _ (S6 _ _ (S35 _ _ f3)) (Ne.symm b9),_,f7,fun x J=>?_,?_,fun x J=>?_⟩
   ·rcases Uu.mp J with J|J
    ·obtain⟨g1,g2,vs,g3,g4⟩:=c5 x J;exact⟨g1,g2,vs,lk _ _ g3,rk _ _ g4⟩
    ·rw[Um.mp J];exact⟨hC.nm _ Z,c4.1,f0,lk _ _ f6,rk _ _ e9⟩
   ·rw[Uy,L,e5,Uy];rfl
   ·rcases Uu.mp J with J|J
    ·exact a3 x J
    ·rw[Um.mp J];exact⟨_,Z,rfl,b7,a4.1,c2,c4⟩
  ·rintro U H3 ⟨⟨v4,v5,v6,rfl⟩,K3,f3,B,a9,a7,L,a3⟩;have el:(DL (Xh M)).length=M.length:=by simp[DL,Xh]
   rw[el,UP] at L;refine gz nf f3 True.intro fun H4 f4 K4=>?_
   have S04:ET H H4:=fun b o e=>by
    by_cases z:b=cd
    ·rw[z] at e ⊢;rw[f4,<- fc,e]
    ·exact K4 _ _ (K3 _ _ e z) z
   have c9:=K4 _ _ a9 b9;have lk:∀b vs,H3 b=some (.lst vs)->H4 b=some (.lst vs):=fun b vs e=>K4 _ _ e fun z=>by rw[z,f3] at e;cases e
   have c7:zT H4 B w.toNat:=fun x J=>by
    obtain⟨g1,g2,vs,g3,g4⟩:=a7 x J;exact⟨g1,g2,vs,lk _ _ g3,Paired.mapP g4 fun v rs ⟨b,e,z⟩=>⟨b,e,lk _ _ z⟩⟩
   have a1:(B.map (·.1)).Nodup:=by rw[L];exact hC.nd
   have a8:B.length<=60:=by
    have:=congrArg List.length L;simp only[Ug] at this;omega
   have b0:∀kx∈Ff (B.map (·.1)),BI kx=true:=fun kx a5=>by
    obtain⟨x,J,rfl⟩:=Ur.mp ((WX _).mem_iff.mp a5);exact(c7 x J).1
   have e8:=S04 _ _ hq;have g7:=S04 _ _ hH.1;walk_at "w";refine CQ (by omega) (by omega) (IW (fun i U H'=>(∃v4 v6,U=[some (.ref cd),some (.ref q),some (.ref h),some (.ref rd),v4,some (.str (AM (Aq B) (Ff (B.map (·.1))) w.toNat i)),v6])/\ET H4 H') ⟨⟨_,_,rfl⟩,ET.refl _⟩ ?_ ?_)
   ·rintro i U H5 hi ⟨⟨d8,e3,rfl⟩,S5⟩;have g8:=S5 _ _ e8;walk_at "w";refine⟨pX,?_⟩;walk_at "w";refine CQ (by omega) (by omega) ?_;intro l hl;refine Gw w.toNat (fun j U' H'=>(∃o,U'=[o,some (.ref rd),some (.int (0+(i:Int)))])/\ET H5 H'/\H' l=some (.lst ((CC (Aq B) (Ff (B.map (·.1))) j i).map V.str))) ?_ ?_ ?_
    ·exact⟨⟨none,rfl⟩,ET.new hl,EW⟩
    ·rintro U' H6 ⟨_,S6,f6⟩;refine⟨Ue _,?_⟩;walk_at "w";refine Xz (Eh.of f6) ?_ ?_
     ·rw[Fs b0];show w.toNat+_*0<=_;omega
     rw[Iz];have c8:(Af (CC (Aq B) (Ff (B.map (·.1))) w.toNat i)).length=w.toNat:=by rw[Sz,Fs b0]
     have d6:(Af (CC (Aq B) (Ff (B.map (·.1))) w.toNat i)++("\n":Str)).length=w.toNat+1:=by rw[Ic,c8];rfl
     have e4:=qR (f:=Aq B) (w:=w.toNat) b0 i;have g9:i*(w.toNat+1)<=7*8:=Nat.mul_le_mul (by omega) (by omega);walk_at "w";refine zB (by rw[c8,sizeLine_eq];show w.toNat+1<=_;omega) ?_;walk_at "w";refine zB (by rw[d6,e4,sizeLine_eq];omega) ?_;walk_at "w";exact⟨⟨_,_,rfl⟩,S5.trans S6⟩
    ·rintro j U' H6 hj ⟨⟨o,rfl⟩,S6,f6⟩;refine⟨hj,?_⟩;rintro x H7 ⟨eh,rfl⟩;obtain rfl:H6=H7:=eh.symm;have e0:(0+(j:Int))=(j:Int):=by omega
     have e1:(0+(i:Int))=(i:Int):=by omega
     walk_at "w";refine DD ?_;walk_at "w";rw[e0,e1];refine⟨rd,i,j,w.toNat,B,rfl,(S5.trans S6) _ _ c9,c7.same (S5.trans S6),a1,hj,a8,fun H7 S7=>?_⟩;refine⟨_,S7 _ _ f6,?_,⟨_,rfl⟩,(S6.trans S7).kpN hl Kp.upd,?_⟩
     ·rw[Ug,CC,Ug,Ve];exact Uh hj (Uz (show w.toNat<=1000 by omega) (by decide))
     ·rw[EW,CC,CC,Vk,Uy,Uy];rfl
   ·rintro U H5 ⟨⟨d8,e3,rfl⟩,S5⟩;walk_at "w";have:=k H5 (S04.trans S5);rw[<- L] at this;rw[Si (g:=fun k j r=>Cp (vJ M k) b y w low O j r) (ss':=Ff (B.map (·.1))) Y.toNat fun r j hr hj=>qQ fun kx a5=>?_]
    ·exact this
    ·obtain⟨x,J,rfl⟩:=Ur.mp ((WX _).mem_iff.mp a5);obtain⟨c,Z,e,cv,g1,g2,g3⟩:=a3 x J;obtain⟨rs,g4,g5⟩:=mY (j:=j) (hC.nk c Z) g1 g2 g3 (by omega) (show(0:Int)<=r by omega) (by omega);have d4:=Gi (k:=x.1) (v:=x.2) a1 J;have b6:=Gi (k:=c.1) (v:=c.2) hC.nd Z;show Aq B x.1 j r=Cp (vJ M x.1) b y w low O j r;unfold Aq vJ;rw[d4,<- e,b6];simp only[Vb,Option.getD_some,g4];exact g5
end
local macro_rules|`(tactic|walk_at "rd")=>`(tactic|walk_at " xF WI")
section
def tf(H:Hp)(q:Addr)(b y m:Int):Prop:=H q=some (.tup [.int b,.int y,.int m])/\0<y/\1<=m/\m<=100
def yI(d q:Addr)(m:PL)(b y k:Int):Sp:=fun vs H Q _=>vs=[.ref d,.ref q]/\H d=some (.dK (Ez m))/\(m.map (·.1)).Nodup/\m.length<64/\tf H q b y k/\
 ∀(u:Addr) (us:List V) (fs:List (Option (PL))) (H':Hp),H' u=some (.tup us)->GT H' us fs->Ah m b y k.toNat fs->ET H H'->Q (.ref u) H'
def fY:Sp:=fun vs H Q E=>∃d q m b y k,yI d q m b y k vs H Q E
theorem Dl:Eo ["_law_held","_law_window","_law_begin","_law_wide","_law_many","_law_found","_law_k","_law_x","_law_some","_law_four"] ["_law_held","_law_window"] (EU Hy):=Es
section
local macro_rules|`(tactic|omega)=>`(tactic|omega +splitMinMax)
theorem Kc(T:Txt K mg a):Ec P w K mg base Ew 2 a.RJ a.QK ["_law_held","_law_window"] fY:=by
 refine T.Y6.ok Dl fun g5 A d6 s H vs Q E hr h=>?_
 ·obtain⟨d,q,m,b,y,kk,rfl,hd,a8,b9,⟨hq,hy,g4,g6⟩,k⟩:=h;have hu:=Dc hr;have g1:=hr.units;refine⟨_,QB.h (EQ (DE (qv 1) (Gm (n:=3) K rfl rfl (EY (GN (i:=2) Dl.nd) (EY (GN (i:=3) Dl.nd) (EY (GN (i:=4) Dl.nd) GW))))) (EQ (Gb (i:=5) Dl.nd (Dd EO)) (EQ (DU PassesOwn.never rfl (Dm rfl T.ZJ (EN (qv 4) EO)) (GN (i:=6) Dl.nd) (EQ (Gb (i:=7) Dl.nd (Eb Go (qv 2) (Eb GM (qv 6) (qv 3)))) (EQ (Gb (i:=8) Dl.nd (Ey (vt K rfl) rfl T.ZV AW (EN (lY (Dg (N:=["_law_held","_law_window","_law_begin","_law_wide","_law_many","_law_found","_law_k","_law_x","_law_some","_law_four"]) (sc:=EU Hy) (own:=["_law_time_here"]) (caps:=["_law_held","_law_x","_law_wide"]) (ks:=[0,7,3]) rfl rfl rfl ⟨rfl,by decide +kernel,by decide +kernel,by decide +kernel,by decide +kernel,rfl,by decide +kernel⟩ (vA (qv 0)) (fun _ _ _ _ _=>Ge (i:=0) (show List.Nodup (α:=Str) ["_law_time_here","_law_held","_law_x","_law_wide"] from by decide +kernel) rfl (by walk_at "o") (.inr rfl)) (fun _ _ _ _ _=>CT (AQ BU Bm (qv 2) (qv 0) (Eb Go (qv 2) (qv 3)))) (fun _ _ _ _ _=>GB (EN (qv 0) (EN (DI hu (qv 1) (qv 0)) EO))))) EO))) (EQ (Gb (i:=9) Dl.nd Gk) (EQ (GO (Ee (HQ K rfl hu) (qv 8) (Dd EO) (Ej _)) (ES (Gb (i:=9) Dl.nd (GB (EN (Ei (DH K rfl) (qv 8) ER) (EN (Ei (DH K rfl) (qv 8) (AG Bw ER)) (EN (GE (Xi T) hr T.MF T.Qf.kp T.MG (EN (qv 8) (EN ER EO))) (EN (GE (Xi T) hr T.MF T.Qf.kp T.MG (EN (qv 8) (EN (AG Bw ER) EO))) EO))))))) GC) (ES (Et (Bp PySem.F.plainAttrs_list PySem.F.slot_list_append PySem.F.type_list_append DT (qv 5) (EN (qv 9) EO))))))))) (ES (Ea (Gy (Dq K rfl) rfl T.ZI Dp (EN (qv 5) EO))))))),?_⟩;walk_at "s";walk_at "w";refine Eg (by show 0<=sizeLine;decide) fun l H1 n1 f1 S1=>?_;have g2:l≠d:=fun z=>by rw[z,hd] at n1;cases n1
  walk_at "w";refine CQ (by omega) (by omega) (IW (fun i U H'=>(∃v6 v7 v8 v9,U=[some (.ref d),some (.ref q),some (.int b),some (.int y),some (.int kk),some (.ref l),v6,v7,v8,v9])/\ET H H'/\∃vs fs,H' l=some (.lst vs)/\GT H' vs fs/\fs.length=i/\∀(k:Nat) o,fs[k]? = some o->Is4 (inCol m (b+(k:Int)*y) (b+(k:Int)*y+y)) o) ?_ ?_ ?_)
  ·exact⟨⟨_,_,_,_,rfl⟩,S1,[],[],f1,.nil,rfl,fun k o h=>by simp at h⟩
  ·rintro i U H2 hi ⟨⟨v6,v7,v8,v9,rfl⟩,S2,vs,fs,f2,Y,O,a7⟩;have e0:(0+(i:Int))=(i:Int):=by omega
   have g3:(i:Int)<100:=by omega
   rw[e0];walk_at "w";generalize hx:b+(i:Int)*y=x;have b7:=S2 _ _ hd;refine rB b7 fun o H3 nf f3 K3=>?_;intro l4 n4;have d2:l4≠d:=fun z=>by rw[z,f3] at n4;cases n4
   refine Gw m.length (fun i' U' H'=>(∃o,U'=[o,some (.ref d),some (.int x),some (.int y)])/\ET H3 H'/\∃vs,H' l4=some (.lst vs)/\EZ H' vs (inCol (m.take i') x (x+y))) ?_ ?_ ?_
   ·exact⟨⟨none,rfl⟩,ET.new n4,[],EW,.nil⟩
   ·rintro U' H4 ⟨_,S4,L,f4,b8⟩;refine⟨⟨S4 _ _ f3,by simp[Ez]⟩,?_⟩;rw[UP] at b8;refine lZ nf (S4 _ _ f3) fun H5 f5 K5=>?_
    have S25:ET H2 H5:=fun b o e=>by
     by_cases z:b=d
     ·subst z;rw[b7] at e;cases e;exact f5
     ·exact K5 _ _ (S4 _ _ (K3 _ _ e z)) z
    have d9:EZ H5 L (inCol m x (x+y)):=Paired.mapP b8 fun _ _ ⟨b,e,z⟩=>⟨b,e,K5 _ _ z (fun c=>by rw[c,S4 _ _ f3] at z;cases z)⟩;have a4:=K5 _ _ f4 d2;walk_at "w";refine vv (Eh.of a4) d9 (AH (a8.sublist ((List.filter_sublist).map _))) (Uq (UL _ _) b9) fun l6 B ps H6 n6 f6 b0 M d1 S6=>?_;have e9:DA ps:=um d1 ((M.map (·.1)).nodup_iff.mpr (a8.sublist ((List.filter_sublist).map _)));have a5:∀r,r∈ps↔r∈inCol m x (x+y):=fun r=>M.mem_iff;have S26:=S25.trans S6;have a6:B.length=ps.length:=b0.length
    repeat walk_at "ri"
    refine Ih (fun U' H'=>(∃v8 v9 fv,U'=[some (.ref d),some (.ref q),some (.int b),some (.int y),some (.int kk),some (.ref l),some (.int (i:Int)),v8,v9,some fv]/\∃o,GR H' fv o/\Is4 (inCol m x (x+y)) o)/\ET H2 H') ?_ ?_
    ·rintro U' H7 ⟨⟨v8,v9,fv,rfl,o7,e7,e3⟩,S7⟩;have a9:=S7 _ _ f2;walk_at "w";refine⟨HH a9,?_⟩;walk_at "w";refine Da a9 (by rw[Y.len,O];exact Uh (show i<1000 by omega) (by decide)) fun H8 f8 K8=>?_;walk_at "w";refine⟨⟨_,_,_,_,rfl⟩,?_,vs ++ [fv],fs ++ [o7],f8,((Y.same S7).snoc e7).mapP fun _ _ d=>d.kpL K8 a9,by simp[O],?_⟩
     ·exact fun b o e=>K8 _ _ (S7 _ _ (S2 _ _ e)) (GJ e n1)
     ·intro k' o' h';rw[List.getElem?_append] at h';split at h'
      ·exact a7 k' o' h'
      ·have:k'=i:=by
        have:=(Ui.mp h').1;simp at this;omega
       subst this;rw[O,Nat.sub_self] at h';have:o7=o':=by simpa using h'
       subst this;rw[hx];exact e3
    ·intro D' _ b6;walk_at "w";refine Eg (by show 0<=sizeLine;decide) fun l7 H7 n7 f7 S7=>?_;refine HR (Eh.of (S7 _ _ f6)) (Eh.of f7) ?_;have S27:=S26.trans S7;by_cases J:ps=[]
     ·have:B=[]:=Vf.mp (by rw[a6,J];rfl);rw[this];walk_at "w";refine GV ?_;walk_at "w";refine b6 _ _ ⟨⟨_,_,_,rfl,none,.non,?_⟩,S27⟩;exact(Is4.congr (.inl ⟨rfl,J⟩) a5)
     ·have g0:0<ps.length:=Vt.mpr J;have a2:=S7 _ _ f6;have a0:=b0.same S7;obtain⟨c0,q0,e8,d8,e6⟩:=a0.at (Ub (show 0<B.length by omega));obtain⟨c1,q1,e1,a3,e5⟩:=a0.at (Ub (show B.length-1<B.length by omega));have c9:B[0]? = some (.ref c0):=by rw[Ub (show 0<B.length by omega),e8]
      have f0:B[B.length-1]? = some (.ref c1):=by rw[Ub (show B.length-1<B.length by omega),e1]
      rw[a6] at a3;rw[show B.isEmpty=false by cases B with|nil=>simp at a6;omega|cons _ _=>rfl];walk_at "w";refine DD ?_;walk_at "w";refine CP (Eh.of a2) (DS (j:=0) c9) ?_;walk_at "w";refine CP (Eh.of a2) (vC f0) ?_;walk_at "w";refine⟨l6,ps,1,rfl,⟨B,a2,a0⟩,J,.inl rfl,fun c2 r2 j2 d5 c6 d3=>?_⟩;walk_at "w";refine⟨l6,ps,-1,rfl,⟨B,a2,a0⟩,J,.inr rfl,fun c3 r3 j3 d7 c4 f9=>?_⟩;walk_at "w";refine Eg (by show 4<=sizeLine;decide) fun c8 H8 n8 f8 S8=>?_;have e2:EZ H8 [.ref c0,.ref c1,.ref c2,.ref c3] [q0,q1,r2,r3]:=.cons ⟨c0,rfl,S8 _ _ e6⟩ (.cons ⟨c1,rfl,S8 _ _ e5⟩ (.cons ⟨c2,rfl,S8 _ _ d5⟩ (.cons ⟨c3,rfl,S8 _ _ d7⟩ .nil)));walk_at "w";have dg:∀ {j:Nat} {r:Int×Int},ps[j]? = some r->ps.getD j (0,0)=r:=fun h=>by simp[h]
      refine b6 _ _ ⟨⟨_,_,_,rfl,some [q0,q1,r2,r3],.pr ⟨_,f8,e2⟩ rfl,(Is4.minmax e9 d8 a3 c6 c4 (fun j hj=>?_) (fun j hj=>?_)).congr a5⟩,S27.trans S8⟩
      ·have:=d3 j _ (Ub hj);rw[dg c6,dg (Ub hj)];rw[Int.mul_one,Int.mul_one] at this;exact this
      ·have:=f9 j _ (Ub hj);rw[dg c4,dg (Ub hj)];exact⟨by omega,fun z=>by have:=this.2 z;omega⟩
   ·rintro i' U' H4 Z ⟨⟨o4,rfl⟩,S4,L,f4,a1⟩;refine⟨⟨S4 _ _ f3,by simpa[Ez] using Z⟩,?_⟩;rintro v H'' ⟨rfl,p',c7,rfl⟩;have a3:m[i']? = some m[i']:=Ub Z;rw[sZ Z] at c7;cases c7;have hg:GG m m[i'].1=some m[i'].2:=(Ga a8).mpr (Vg Z);have e4:=wG (x:=x) (z:=x+y) a3;show AD 0 (.int m[i'].1) _ _ _;walk_at "w";refine GL (fun h1=>?_) (fun h1=>?_)
    ·walk_at "w";refine GL (fun h2=>?_) (fun h2=>?_)
     ·walk_at "w";refine dj (S4 _ _ f3) hg ?_;walk_at "w";refine Eg (by show 2<=sizeLine;decide) fun c5 H5 n5 d4 S5=>?_;have a4:=S5 _ _ f4;refine⟨L,a4,?_,⟨_,rfl⟩,(S4.trans S5).kpN n4 Kp.upd,_,EW,?_⟩
      ·rw[a1.length];refine Uq (UL _ _) ?_;rw[US];exact Uq (Nat.min_le_left _ _) (Uh (show i'<64 by omega) (by decide))
      ·rw[e4,decide_eq_true h1,decide_eq_true h2,Bool.and_self,if_pos rfl];exact EZ.kpL Kp.upd a4 ((a1.same S5).snoc d4)
     ·refine⟨⟨_,rfl⟩,S4,L,f4,?_⟩;rw[e4,decide_eq_false h2,Bool.and_false,if_neg (by decide),UF];exact a1
    ·walk_at "w";refine GV ?_;refine⟨⟨_,rfl⟩,S4,L,f4,?_⟩;rw[e4,decide_eq_false h1,Vr,if_neg (by decide),UF];exact a1
  ·rintro U H2 ⟨⟨v6,v7,v8,v9,rfl⟩,S2,vs,fs,f2,Y,O,a7⟩;walk_at "w";refine BJ (Eh.of f2) fun u H3 n3 f3 S3=>?_;exact k u vs fs H3 f3 (Y.same S3) ⟨O,a7⟩ (S2.trans S3)
end
end
theorem Fu{b y m:Int}(h1:0<y)(h2:y<=2000)(F:1<=m)(B:m<=7)(J:-20000<=b)(O:b<=20000):xZ b y m:=by
 have L:0<=m*y:=Int.mul_nonneg (by omega) (by omega);have M:m*y<=7*2000:=Int.mul_le_mul B h2 (by omega) (by decide);exact⟨h1,F,by omega,⟨by omega,by omega⟩,⟨by omega,by omega⟩⟩
theorem DP.fr{H H':Hp}{p:Addr}{l:List Addr}(h:DP H p)(f:GD l H H')(n:p∉l):DP H' p:=by
 obtain⟨x,m,c,e,r⟩:=h;exact⟨x,m,c,f _ _ e n,r⟩
theorem DP.no{H:Hp}{p:Addr}(h:DP H p):∀b∈[p],∀xs,H b≠some (.tup xs):=fun b B xs z=>by
 obtain rfl:b=p:=(by simpa using B);obtain⟨x,m,c,e,r⟩:=h;rw[e] at z;cases z
theorem EV.pur{a:Ad}{H H':Hp}{S:SA}{n:Int}{sm:PL}{c:Nat}{ds:List (Int×Option Int)}{ts:List Int}{ws:List V}{p:Addr}(h:EV a H S n sm c ds ts ws)(B:DP H p)(k:Kp p H H')(F:p∉S.ls):EV a H' S n sm c ds ts ws:=by
 obtain⟨x,m,y,e,_⟩:=B;exact h.kpL k e F
theorem GX.pur{a:Ad}{H H':Hp}{S:SA}{v d p:Addr}{b y m n:Int}{kvs:List (List Ef×V)}{e:Nat}{sm:PL}{ts:List Int}(h:GX a H S v d b y m n kvs e sm ts)(B:DP H p)(k:Kp p H H'):GX a H' S v d b y m n kvs e sm ts:=by
 obtain⟨dx,q,F,_,J,_⟩:=id h;refine h.frL (GD.kp k (l:=[p]) (by simp)) (fun z=>?_) (fun z=>?_) B.no
 ·obtain⟨x,m,y,e,_⟩:=B;rw[Um] at z;rw[z,e] at F;cases F
 ·obtain⟨x,m,y,e,_⟩:=B;rw[Um] at z;rw[z,e] at J;cases J
theorem mf{c:TT}{t u:TS}{D:DQ}{U:St}{H:Hp}(P:St->Hp->Prop)(h1:∀U' H',P U' H'->t D U' H')(h2:∀t':TS,(∀U' H',P U' H'->t' D U' H')->Ir c t' u D U H):Ir c t u D U H:=h2 t h1
theorem EV.keepPur{a:Ad}{H H':Hp}{S:SA}{n:Int}{sm:PL}{c:Nat}{ds:List (Int×Option Int)}{ts:List Int}{ws:List V}{q:Addr}(h:EV a H S n sm c ds ts ws)(f:BE S H H')(e:DP H q)(B:q∉S.ls):DP H' q:=by
 obtain⟨x,m,y,g,r⟩:=e;exact⟨x,m,y,h.keepL f g B,r⟩
def uM(a:Ad)(S:SA)(p v d:Addr)(b y m k n B:Int)(kvs:List (List Ef×V))(e:Nat)(sm:PL)(c:Nat)(ds:List (Int×Option Int))(ts:List Int)(ws:List V):Sp:=fun vs H Q _=>vs=[.ref v,.ref p]/\DP H p/\p∉S.ls/\EV a H S n sm c ds ts ws/\GX a H S v d b y m k kvs e sm ts/\ts.length<=1000/\-B<=b/\b<=B/\y<=80/\m<=7/\B<=10000/\
 ∀(d':Addr) (b' y' m':Int) (kvs':List (List Ef×V)) (H':Hp),H d'=none->GX a H' S v d' b' y' m' k kvs' ts.length sm ts->EV a H' S n sm c ds ts ws->-(B+320)<=b'->b'<=B+320->y'<=80->m'<=7->kvs'.length<=7->DP H' p->GD [p,v,d] H H'->Q .non H'
def bO(a:Ad):Sp:=fun vs H Q E=>∃S p v d b y m k n B kvs e sm c ds ts ws,uM a S p v d b y m k n B kvs e sm c ds ts ws vs H Q E
section
local macro_rules|`(tactic|walk_at "rd")=>`(tactic|walk_at " ZD,ZH,Ck")
theorem Ce:Eo ["_law_view","_law_purse_here","_law_way","_law_begin","_law_wide","_law_many"] ["_law_view","_law_purse_here"] (EU IM):=Es
theorem xn(T:Txt K mg a):Ec P w K mg base Ew 7 a.JQ a.JT ["_law_view","_law_purse_here"] (bO a):=by
 refine T.RT.ok Ce fun d3 A b8 s H vs Q E hr h=>?_
 ·obtain⟨S,p,v,d,b,y,m,k,n,B,kvs,e,sm,c,ds,ts,ws,rfl,hp,a8,hS,hV,c2,c6,d1,c9,a1,hB,kk⟩:=h;refine⟨_,QB.h (EQ (Gb (i:=2) Ce.nd (GE (Do T) hr.m T.ZP T.ZK.kp T.ZO (EN (qv 1) (EN ER EO)))) (EQ (DE (Eu K rfl (qv 0)) (Gm (n:=3) K rfl rfl (EY (GN (i:=3) Ce.nd) (EY (GN (i:=4) Ce.nd) (EY (GN (i:=5) Ce.nd) GW))))) (ES (GO (QW.pt (Iu (Ee (Dk) (qv 2) ER (Ej _)) (Iu (QW.pt (CS (Ee (Dk) (qv 2) ER (Ej _)) (BX (Ee (fm) (qv 4) ER (Ej _))))) (IZ (QW.pt (CS (Ee (Dk) (qv 2) ER (Ej _)) (BX (Ee (Dk) (Eb Cu (qv 4) ER) ER (Ej _))))))))) (ES (Et (GQ (qv 0) T.ZD T.Oh (wl T) hr T.Ol .nil GK (EN (Eb BM (GE (Do T) hr.m T.ZP T.ZK.kp T.ZO (EN (qv 1) (EN ER EO))) ER) EO)))) (ES (GO (Ee (Dk) (qv 2) ER (Ej _)) (ES (Et (BB (qv 0) T.ZD T.Nu (xa T) hr T.Np .nil GK))) (ES (GO (Ee (Dk) (qv 2) ER (Ej _)) (ES (Et (BB (qv 0) T.ZD T.MR (zM T) hr T.Me .nil GK))) (ES (Et (GQ (qv 0) T.ZD T.Tv (XZ T) hr T.To .nil GK (EN (Eb Go ER (GE (Do T) hr.m T.ZP T.ZK.kp T.ZO (EN (qv 1) (EN ER EO)))) EO)))))))))))),?_⟩;walk_at "s";walk_at "w";refine⟨p,_,rfl,hp,by decide,by decide,fun a5 H1 h1 c1 P1 K1=>?_⟩;have a4:=hS.pur hp K1 a8;have Z:=hV.pur hp K1;obtain⟨dx,q,a2,b7,c4,_⟩:=id Z;have c7:=b7.1;obtain⟨_,c8,a0,_⟩:=id b7
  -- what a step leaves
  have a3:∀(H2:Hp) (b' y' m':Int),DP H2 p->Kp p H H2->GX a H2 S v d b y m k kvs e sm ts->-(B+320)<=b'->b'<=B+320->y'<=80->1<=m'->m'<=7->Fp a H2 S v d k n kvs e sm c ds ts ws b' y' m' (fun _ H'=>Q .non H'):=by
   intro H2 b' y' m' P2 K2 O g1 g2 g3 c3 g4 d' L J H' n' e1 M e3 e4 e5 F;obtain⟨c5,q2,b0,_,b6,_⟩:=id O
   have n0:H d'=none:=by
    cases hh:H d' with
    |none=>rfl
    |some o=>
     by_cases z:d'=p
     ·obtain⟨x,m,y,e,_⟩:=P2;rw[z,e] at n';cases n'
     ·rw[K2 _ _ hh z] at n';cases n'
   refine kk d' b' y' m' J H' n0 e4 e5 g1 g2 g3 g4 (by omega) (P2.fr F fun z=>?_) ((GD.kp K2 (by simp)).trans (F.mono (by simp +contextual)));obtain⟨x,m,y,e,_⟩:=P2;simp only[Ud,Us,or_false] at z;rcases z with z|z
   ·rw[<- z,e] at b0;cases b0
   ·rw[<- z,e] at b6;cases b6
  repeat walk_at "ri"
  dsimp only;refine mf (fun U' H'=>U'=[some (.ref v),some (.ref p),some (.int a5),some (.int b),some (.int y),some (.int m)]/\H1=H') ?_ ?_
  ·rintro U' H' ⟨rfl,rfl⟩;walk_at "w";refine En a2 CB ?_;walk_at "w";refine⟨p,_,rfl,P1,by decide,by decide,fun Y H2 h2 b9 P2 K2=>?_⟩;have O:=Z.pur P1 K2
   have d4:-(4*y)<=(Y-4)*y/\(Y-4)*y<=4*y:=by
    have:Y=0\/Y=1\/Y=2\/Y=3\/Y=4\/Y=5\/Y=6\/Y=7\/Y=8:=by omega
    rcases this with rfl|rfl|rfl|rfl|rfl|rfl|rfl|rfl|rfl<;>omega
   walk_at "w";refine⟨S,v,d,b,y,m,k,n,Y-4,kvs,e,sm,c,ds,ts,ws,rfl,a4.pur P1 K2 a8,O,by omega,oK (by omega) (by omega),Fu (by omega) (by omega) a0 a1 (by omega) (by omega),fun d' L J H' n' e1 M e3 e4 e5 F=>?_⟩;walk_at "w";exact a3 H2 _ y m P2 (K1.trans K2) O (by omega) (by omega) (by omega) a0 a1 d' L J H' n' e1 M e3 e4 e5 F
  intro t' a6;refine lX (fun U' H'=>U'=[some (.ref v),some (.ref p),some (.int a5),some (.int b),some (.int y),some (.int m)]/\H1=H'/\(a5=1->y<=40)/\(a5=2->y % 2=0)) ?_ ?_
  ·rintro U' H' ⟨rfl,rfl,c0,a9⟩;walk_at "w";rw[BQ];refine GL (fun e0=>?_) (fun e0=>?_)
   ·walk_at "w";refine En a2 CB ?_;refine⟨S,v,d,b,y,m,k,n,kvs,e,sm,c,ds,ts,ws,rfl,a4,Z,by omega,Fu (by omega) (by omega) a0 a1 (by omega) (by omega),fun d' L J H' n' e1 M e3 e4 e5 F=>?_⟩;walk_at "w";exact a3 H1 b (y*2) m P1 K1 Z (by omega) (by omega) (by omega) a0 a1 d' L J H' n' e1 M e3 e4 e5 F
   ·walk_at "w";rw[BQ];refine GL (fun M=>?_) (fun M=>?_)
    ·walk_at "w";refine En a2 CB ?_;refine⟨S,v,d,b,y,m,k,n,kvs,e,sm,c,ds,ts,ws,rfl,a4,Z,by omega,a9 M,Fu (by have:=a9 M;omega) (by omega) a0 a1 (by omega) (by omega),fun d' L J H' n' e1 M e3 e4 e5 F=>?_⟩;walk_at "w";exact a3 H1 b (y / 2) m P1 K1 Z (by omega) (by omega) (by omega) a0 a1 d' L J H' n' e1 M e3 e4 e5 F
    ·walk_at "w";refine En a2 CB ?_;walk_at "w";refine⟨p,_,rfl,P1,by decide,by decide,fun Y H2 h2 b9 P2 K2=>?_⟩;have O:=Z.pur P1 K2;walk_at "w";refine⟨S,v,d,b,y,m,k,n,1+Y,kvs,e,sm,c,ds,ts,ws,rfl,a4.pur P1 K2 a8,O,by omega,Fu (by omega) (by omega) (by omega) (by omega) (by omega) (by omega),fun d' L J H' n' e1 M e3 e4 e5 F=>?_⟩;walk_at "w";exact a3 H2 b y (1+Y) P2 (K1.trans K2) O (by omega) (by omega) (by omega) (by omega) (by omega) d' L J H' n' e1 M e3 e4 e5 F
  ·intro u' a7;walk_at "w";rw[BQ];refine GL (fun e0=>?_) (fun e0=>?_)
   ·walk_at "w";exact a6 _ _ ⟨rfl,rfl⟩
   ·walk_at "w";rw[BQ];refine GL (fun e1=>?_) (fun e1=>?_)
    ·walk_at "w";refine GL (fun M=>?_) (fun M=>?_)
     ·walk_at "w";exact a6 _ _ ⟨rfl,rfl⟩
     ·walk_at "w";rw[BQ];refine GL (fun e3=>absurd e3 (by omega)) (fun _=>?_);walk_at "w";exact a7 _ _ ⟨rfl,rfl,fun _=>by omega,fun z=>absurd z (by omega)⟩
    ·walk_at "w";refine GV ?_;walk_at "w";rw[BQ];refine GL (fun M=>?_) (fun M=>?_)
     ·walk_at "w";rw[BQ];refine GL (fun e3=>?_) (fun e3=>?_)
      ·walk_at "w";exact a6 _ _ ⟨rfl,rfl⟩
      ·walk_at "w";exact a7 _ _ ⟨rfl,rfl,fun z=>absurd z e1,fun _=>by omega⟩
     ·walk_at "w";exact a7 _ _ ⟨rfl,rfl,fun z=>absurd z e1,fun z=>absurd z M⟩
def mh:Sp:=fun vs H Q _=>∃(p d:Addr) (m:PL),vs=[.ref p,.ref d]/\DP H p/\H d=some (.dK (Ez m))/\m.length<64/\(∀q∈m,-30<=q.1/\q.1<=30)/\
 ∀(t:Int) (H':Hp),-30<=t->t<=30->DP H' p->Kp p H H'->Q (.int t) H'
theorem qU:Eo ["_law_purse_here","_law_held","_law_times"] ["_law_purse_here","_law_held"] (EU WN):=Es
theorem bP(T:Txt K mg a):Ec P w K mg base Ew 2 a.Rg a.RU ["_law_purse_here","_law_held"] mh:=by
 refine T.NM.ok qU fun a7 A a0 s H vs Q E Z h=>?_
 ·obtain⟨p,d,m,rfl,hp,hd,hl,hb,k⟩:=h;have hu:=Dc Z;refine⟨_,QB.h (EQ (Gb (i:=2) qU.nd (Ey (Wz rfl) rfl T.ZV AW (EN (qv 1) EO))) (EQ (GO (QW.pt (CS (Ee (HQ K rfl hu) (qv 2) (Dd EO) (Ej _)) (BX (Ee (Dk) (GE (Do T) Z T.ZP T.ZK.kp T.ZO (EN (qv 0) (EN ER EO))) ER (Ej _))))) (ES (Ea (Ei (DH K rfl) (qv 2) (GE (Do T) Z T.ZP T.ZK.kp T.ZO (EN (qv 0) (EN (Ey (Cw K rfl) rfl T.Zf CO (EN (qv 2) EO)) EO)))))) GC) (ES (Ea (Eb BM (GE (Do T) Z T.ZP T.ZK.kp T.ZO (EN (qv 0) (EN ER EO))) ER))))),?_⟩;walk_at "s";walk_at "w";refine XB hd (by omega) fun l1 H1 F n1 f1 J a4 S1=>?_;have a6:F.length=m.length:=by have:=J.length_eq;simpa using this
  have O:∀t∈F,-30<=t/\t<=30:=fun t ht=>by
   obtain⟨q,hq,rfl⟩:=Ur.mp (J.mem_iff.mp ht);exact hb q hq
  have P1:=hp.same S1;walk_at "w";refine Eg (by show 0<=sizeLine;decide) fun l2 H2 n2 f2 S2=>?_;refine HR (Eh.of (S2 _ _ f1)) (Eh.of f2) ?_;have P2:=P1.same S2;have a1:=S2 _ _ f1;have L:l1≠p:=hp.neN n1;walk_at "w"
  cases hb0:(F.map V.int).isEmpty with
  |true=>
   refine GV ?_;walk_at "w";refine GV ?_;walk_at "w";refine⟨p,_,rfl,P2,by decide,by decide,fun Y H4 h4 B P4 K4=>?_⟩;walk_at "w";exact k _ H4 (by omega) (by omega) P4 (((Kp.same S1).then S2).trans K4)
  |false=>
   refine DD ?_;walk_at "w";refine⟨p,_,rfl,P2,by decide,by decide,fun d3 H3 h3 a5 P3 K3=>?_⟩;have K03:=((Kp.same S1).then S2).trans K3;walk_at "w";rw[BQ];refine GL (fun _=>?_) (fun _=>?_)
   ·have a2:=K3 _ _ a1 L
    have a3:0<F.length:=by
     cases F with
     |nil=>cases hb0
     |cons v vs=>simp
    walk_at "w";refine⟨p,_,rfl,P3,by rw[Ug];omega,Int.lt_of_le_of_lt (show((F.map V.int).length:Int)<=100 by rw[Ug];omega) (by decide),fun Y H4 h4 B P4 K4=>?_⟩;rw[Ug] at B;obtain⟨n4,rfl⟩:∃n:Nat,Y=(n:Int):=⟨Y.toNat,by omega⟩;have M:n4<F.length:=by omega
    refine CP (Eh.of (K4 _ _ a2 L)) (DS (by rw[UC,Ub M];rfl)) ?_;have:=O _ (Vg M);walk_at "w";exact k _ H4 this.1 this.2 P4 (K03.trans K4)
   ·walk_at "w";refine⟨p,_,rfl,P3,by decide,by decide,fun Y H4 h4 B P4 K4=>?_⟩;walk_at "w";exact k _ H4 (by omega) (by omega) P4 (K03.trans K4)
end
theorem Dx.bring{m m':PL}(h:Dx m m')(n:(m.map (·.1)).Nodup)(n':(m'.map (·.1)).Nodup)(t:Int)(o:Option Int):Dx (DJ m t o) (DJ m' t o):=by
 cases o with
 |none=>exact h.drop t
 |some v=>exact h.put n n' t v
theorem xo{m:PL}(n:(m.map (·.1)).Nodup)(t:Int)(o:Option Int):((DJ m t o).map (·.1)).Nodup:=by
 cases o with
 |none=>exact IH n
 |some v=>exact Bq n
theorem yJ{m:PL}(n:(m.map (·.1)).Nodup)(t:Int)(o:Option Int)(F:o=none->(GG m t).isSome=true):Dx (DJ (DJ m t o) t (GG m t)) m:=by
 cases o with
 |none=>
  obtain⟨v,B⟩:=Va.mp (F rfl);rw[B];exact gf n B
 |some v=>
  cases hg:GG m t with
  |none=>exact gg n hg
  |some u=>exact de n hg
def Bv(S:SA)(H:Hp)(vs:List V)(bk:List (PL)):Prop:=Paired (fun v (m:PL)=>∃b,v=.ref b/\H b=some (.dK (Ez m))/\b≠S.d1) vs bk
theorem Bv.dks{S:SA}{H H':Hp}{vs:List V}{bk:List (PL)}(h:Bv S H vs bk)(t:∀b m,.ref b∈vs->H b=some (.dK (Ez m))->b≠S.d1->H' b=some (.dK (Ez m))):Bv S H' vs bk:=by
 induction h with
 |nil=>exact .nil
 |cons h _ ih=>
  obtain⟨b,e,z,n⟩:=h;exact .cons ⟨b,e,t b _ (by rw[e];exact UB) z n,n⟩ (ih fun b m B=>t b m (Uf _ B))
theorem Bv.snoc{S:SA}{H:Hp}:∀ {vs:List V} {bk:List (PL)},Bv S H vs bk->∀ {b:Addr} {m:PL},H b=some (.dK (Ez m))->b≠S.d1->Bv S H (vs ++ [.ref b]) (bk ++ [m])
 |_,_,.nil,_,_,e,n2=>.cons ⟨_,rfl,e,n2⟩ .nil
 |_,_,.cons h t,_,_,e,n2=>.cons h (Bv.snoc t e n2)
theorem Bv.unsnoc{S:SA}{H:Hp}{m:PL}:∀ {bk:List (PL)} {vs:List V},Bv S H vs (bk ++ [m])->∃us b,vs=us ++ [.ref b]/\Bv S H us bk/\H b=some (.dK (Ez m))/\b≠S.d1
 | [],_,h=>by
  cases h with
  |cons h t=>
   cases t;obtain⟨b,rfl,e,n⟩:=h;exact⟨[],b,rfl,.nil,e,n⟩
 |d::ds,_,h=>by
  cases h with
  |cons h t=>
   obtain⟨us,b,B,F,J⟩:=Bv.unsnoc t;subst B;exact⟨_::us,b,rfl,.cons h F,J⟩
def Bd(q:Int×Int):Prop:=-30<=q.1/\q.1<=30/\-20<=q.2/\q.2<=20
inductive Lk:PL->List (Int×Option Int)->List (PL)->Prop where
 |nil {m:PL}:Lk m [] []
 |snoc {m m':PL} {ds:List (Int×Option Int)} {bk:List (PL)} {t:Int} {o:Option Int} (h:Lk m' ds bk) (ht:Tm t) (ho:o=none->(GG m t).isSome=true) (n:(m'.map (·.1)).Nodup) (htm:∀q∈m',Bd q) (e:Dx (DJ m t o) m'):Lk m (ds ++ [(t,o)]) (bk ++ [m'])
theorem Lk.len{m:PL}{ds:List (Int×Option Int)}{bk:List (PL)}(h:Lk m ds bk):ds.length=bk.length:=by
 induction h with
 |nil=>rfl
 |snoc _ _ _ _ _ _ ih=>rw[UD,UD,ih];rfl
theorem Lk.open{m:PL}{ds:List (Int×Option Int)}{bk:List (PL)}(h:Lk m ds bk)(e:bk≠[]):∃B F t o m',ds=B ++ [(t,o)]/\bk=F ++ [m']/\Lk m' B F/\Tm t/\(o=none->(GG m t).isSome=true)/\(m'.map (·.1)).Nodup/\(∀q∈m',Bd q)/\Dx (DJ m t o) m':=by
 cases h with
 |nil=>exact absurd rfl e
 |snoc h ht ho ha htm eb=>exact⟨_,_,_,_,_,rfl,rfl,h,ht,ho,ha,htm,eb⟩
structure Fv(sm m:PL)(c:Nat)(ds:List (Int×Option Int))(ts:List Int)(bk:List (PL))(N:Nat):Prop where
 eqv:Dx sm m
 nd:(m.map (·.1)).Nodup
 bd:∀q∈m,Bd q
 lk:Lk m ds bk
 c:c<=N
 t:ts.length<=N
 m:m.length<=N
 b:bk.length<=N
 bM:∀q∈bk,q.length<=N
theorem Fv.deed{sm m:PL}{c N:Nat}{ds:List (Int×Option Int)}{ts:List Int}{bk:List (PL)}(h:Fv sm m c ds ts bk N)(n:(sm.map (·.1)).Nodup){t:Int}{o:Option Int}(F:-30<=t/\t<=30)(J:∀v,o=some v->-20<=v/\v<=20)(L:o=none->(GG m t).isSome=true):Fv (DJ sm t o) (DJ m t o) (c+1) (ds ++ [(t,GG m t)]) (ts ++ [t]) (bk ++ [m]) (N+1):=by
 have hm:=h.m;have O:=h.b;have M:=h.t;refine⟨Dx.bring h.eqv n h.nd t o,xo h.nd t o,fun r B=>?_,.snoc h.lk ⟨by omega,by omega⟩ (fun z=>?_) h.nd h.bd (yJ h.nd t o L),Nat.succ_le_succ h.c,by rw[UD];simp;omega,Uz (wY _ _ _) (by omega),by rw[UD];simp;omega,fun r B=>?_⟩
 ·cases o with
  |none=>exact h.bd r (Bi.mp B).2
  |some v=>
   rcases(Ds h.nd).mp B with h' | h'
   ·exact h.bd r h'.2
   ·rw[h'];exact⟨F.1,F.2,(J v rfl).1,(J v rfl).2⟩
 ·cases o with
  |none=>have:=L rfl;rw[z] at this;cases this
  |some v=>show(GG (Gx m t v) t).isSome=true;rw[Sx,if_pos rfl];rfl
 ·rcases Uu.mp B with h' | h'
  ·exact Nat.le_succ_of_le (h.bM r h')
  ·rw[Um.mp h'];omega
section
def fZ(a:Ad)(S:SA)(p hd bk:Addr)(N c:Nat)(n:Int)(sm m:PL)(ds:List (Int×Option Int))(ts:List Int)(ws bvs:List V)(bks:List (PL)):Sp:=fun vs H Q _=>vs=[.ref S.p,.ref p,.ref hd,.ref bk]/\DP H p/\p∉S.ls/\p≠bk/\bk∉S.ls/\hd≠S.d1/\
 EV a H S n sm c ds ts ws/\H hd=some (.dK (Ez m))/\H bk=some (.lst bvs)/\Bv S H bvs bks/\Fv sm m c ds ts bks N/\N<60/\
 ∀(hd':Addr) (t:Int) (o:Option Int) (m':PL) (ds':List (Int×Option Int)) (bvs':List V) (bks':List (PL)) (H':Hp),EV a H' S n (DJ sm t o) (c+1) ds' (ts ++ [t]) ws->hd'≠S.d1->H' hd'=some (.dK (Ez m'))->H' bk=some (.lst bvs')->Bv S H' bvs' bks'->Fv (DJ sm t o) m' (c+1) ds' (ts ++ [t]) bks' (N+1) ->
  (H hd'=none\/.ref hd'∈bvs)->(∀v∈bvs',v∈bvs\/∃b,v=.ref b/\H b=none)->DP H' p->GD (p::bk::S.own) H H'->Q (.ref hd') H'
def sB(a:Ad):Sp:=fun vs H Q E=>∃S p hd bk N c n sm m ds ts ws bvs bks,fZ a S p hd bk N c n sm m ds ts ws bvs bks vs H Q E
theorem Bk:Eo ["_law_store","_law_purse_here","_law_held","_law_before","_law_way","_law_time_here","_law_height_here","_law_was"] ["_law_store","_law_purse_here","_law_held","_law_before"] (EU WO):=Es
theorem bQ(T:Txt K mg a):Ec P w K mg base Ew 8 a.Rz a.Rx ["_law_store","_law_purse_here","_law_held","_law_before"] (sB a):=by
 refine T.Mr.ok Bk fun j5 A f2 s H vs Q E hr h=>?_
 ·obtain⟨S,p,hd,bk,N,c,n,sm,m,ds,ts,ws,a6,c8,rfl,hp,a3,a8,a2,j1,hS,hh,hb,hB,L,hN,k⟩:=h;have hu:=Dc hr;have i4:=L.m;have e2:=L.b;have i3:=L.t;have j4:=L.c;have i8:=L.lk.len;have i5:=L.eqv.len hS.nd L.nd;have c7:a6.length=c8.length:=Paired.length hB;have i1:bk≠hd:=fun z=>by rw[z,hh] at hb;cases hb
  have mo:∀b∈S.own,b∈p::bk::S.own:=fun b h=>Uf _ (Uf _ h);refine⟨_,QB.h (EQ (Gb (i:=4) Bk.nd (GE (Do T) hr.m T.ZP T.ZK.kp T.ZO (EN (qv 1) (EN ER EO)))) (EQ (Gb (i:=5) Bk.nd (GE (bP T) hr.m T.PP T.NM.kp T.Ou (EN (qv 1) (EN (qv 2) EO)))) (EQ (GO (QW.pt (CS (Ee (Dk) (qv 4) ER (Ej _)) (BX (Ee (HQ K rfl hu) (qv 3) (Dd EO) (Ej _))))) (EQ (Gb (i:=2) Bk.nd (gF PySem.F.plainAttrs_list PySem.F.slot_list_pop PySem.F.type_list_pop yi (qv 3))) (ES (Ea (Bo (BW (BB (qv 0) T.ZE T.NI (qf T) hr.m T.Ml .nil GK)) (qv 2) Gk)))) GC) (EQ (Et (Bp PySem.F.plainAttrs_list PySem.F.slot_list_append PySem.F.type_list_append DT (qv 3) (EN (Gy XO rfl T.TW uh (EN (qv 2) EO)) EO))) (EQ (Gb (i:=2) Bk.nd (Gy XO rfl T.TW uh (EN (qv 2) EO))) (EQ (GO (QW.pt (CS (Ee (Dk) (qv 4) ER (Ej _)) (BX (Ee (Lr hu) (qv 5) (qv 2) (by with_unfolding_all rfl))))) (EQ (Gb (i:=6) Bk.nd (jx (qv 2) (qv 5))) (ES (Ea (Bo (Ee (Dk) (GQ (qv 0) T.ZE T.NT (qe T) hr T.ND .nil GK (EN (qv 5) EO)) (qv 6) (Ej _)) (qv 2) Gk)))) GC) (EQ (Gb (i:=6) Bk.nd (Eb BM (GE (Do T) hr.m T.ZP T.ZK.kp T.ZO (EN (qv 1) (EN ER EO))) ER)) (EQ (Gb (i:=7) Bk.nd (HL hu (qv 2) (qv 5))) (EQ (Dz hu (qv 6) (qv 2) (qv 5)) (ES (Ea (Bo (Ee (Dk) (GQ (qv 0) T.ZE T.NW (xT T) hr T.Nl .nil GK (EN (qv 5) (EN (qv 6) EO))) (qv 7) (Ej _)) (qv 2) Gk)))))))))))),?_⟩;walk_at "s";walk_at "w";refine⟨p,_,rfl,hp,by decide,by decide,fun e9 H1 w0 w1 P1 K1=>?_⟩;have g4:=K1 _ _ hh (hp.ne_dk hh);walk_at "w";refine⟨p,hd,m,rfl,P1,g4,by omega,fun q hq=>⟨(L.bd q hq).1,(L.bd q hq).2.1⟩,fun t H2 d7 e0 P2 K2=>?_⟩;have K02:=K1.trans K2;have g9:=K02 _ _ hh (hp.ne_dk hh);have b8:=K02 _ _ hb (Ne.symm a8);have a7:=hS.pur hp K02 a3;have c9:=hB.dks (H':=H2) (fun b m _ e _=>K02 _ _ e (hp.ne_dk e));have F2:GD (p::bk::S.own) H H2:=.kp K02 (by simp);have J:∀ {b:Addr},H2 b=none->H b=none:=fun e=>DP.free K02 P2 e
  repeat walk_at "ri"
  refine Ih (fun U' H'=>U'=[some (.ref S.p),some (.ref p),some (.ref hd),some (.ref bk),some (.int e9),some (.int t),none,none]/\ET H2 H') ?_ ?_
  ·rintro U' H3 ⟨rfl,S3⟩;have M:=S3 _ _ b8;have d6:=S3 _ _ g9;walk_at "w";refine⟨HH M,?_⟩;walk_at "w";refine xB d6 fun b4 H4 n4 f4 S4=>?_;walk_at "w";refine Da (S4 _ _ M) (by rw[c7];exact Uq e2 (Uh hN (by decide))) fun H5 f5 K5=>?_;have S24:=S3.trans S4;have c0:=(a7.same S24).kpL K5 (S4 _ _ M) a2;have c4:∀b' m',H4 b'=some (.dK m')->H5 b'=some (.dK m'):=fun b' m' e=>K5 _ _ e (fun z=>by rw[z,S4 _ _ M] at e;cases e);have h4:=c4 _ _ (S4 _ _ d6);have c5:H2 b4=none:=Bc S3 n4;have g7:b4≠S.d1:=(a7.fresh c5).2;have b7:=(c9.dks (H':=H5) (fun b m _ e _=>c4 _ _ (S24 _ _ e))).snoc (c4 _ _ f4) g7
   have P5:DP H5 p:=by
    obtain⟨x,y,z,e,r⟩:=P2.same S24;exact⟨x,y,z,K5 _ _ e a8,r⟩
   walk_at "w";refine xB h4 fun B H6 n6 f6 S6=>?_
   have a4:H2 B=none:=by
    cases e:H2 B with
    |none=>rfl
    |some o=>
     have e4:=S24 _ _ e;by_cases z:B=bk
     ·rw[z,f5] at n6;cases n6
     ·rw[K5 _ _ e4 z] at n6;cases n6
   have Z:B≠S.d1:=(a7.fresh a4).2;have b0:=c0.same S6;have P6:=P5.same S6;have e8:=S6 _ _ f5;have j2:=b7.dks (H':=H6) (fun b m _ e _=>S6 _ _ e);have F6:GD (p::bk::S.own) H H6:=((F2.trans (.same S24)).trans (.kp K5 (by simp))).trans (.same S6)
   have e1:∀v∈a6 ++ [V.ref b4],v∈a6\/∃b,v=.ref b/\H b=none:=fun v hv=>by
    rcases Uu.mp hv with h|h
    ·exact .inl h
    ·exact .inr ⟨b4,Um.mp h,J c5⟩
   obtain⟨j7,j8,j6,_⟩:=id b0
   repeat walk_at "ri"
   refine Ih (fun U' H'=>U'=[some (.ref S.p),some (.ref p),some (.ref B),some (.ref bk),some (.int e9),some (.int t),none,none]/\H6=H') ?_ ?_
   ·rintro U' H7 ⟨rfl,rfl⟩;walk_at "w";refine⟨p,_,rfl,P6,by decide,by decide,fun d8 H8 h8 j0 P8 K8=>?_⟩;have d5:B≠p:=P5.neN n6;have f8:=K8 _ _ f6 d5;have c2:=b0.pur P6 K8 a3;walk_at "w";refine zo f8 ?_;walk_at "w";refine jo f8 ?_;rw[xR];walk_at "w";refine Sv f8 (Uq (show m.length<=60 by omega) (by decide)) fun H9 f9 K9=>?_;have Y:=c2.kpD K9 f8 Z;obtain⟨i6,i9,g2,_⟩:=id Y;walk_at "w";refine En g2 Du ?_;walk_at "w";refine⟨S,n,t,d8-20,sm,c,ds,ts,ws,rfl,Y,⟨by omega,by omega⟩,by omega,by omega,by omega,by omega,fun H10 a9 F10=>?_⟩;have eg:GG sm t=GG m t:=L.eqv.get hS.nd L.nd t;rw[eg] at a9 ⊢
    have h7:∀o:Option Int,∀(Q:VK),Q (.bl true) H10->nY (He o) (He o) H10 Q:=fun o Q q=>by
     cases o with
     |none=>exact⟨rfl,by rw[decide_eq_true rfl];exact q⟩
     |some i=>exact⟨rfl,by rw[decide_eq_true rfl];exact q⟩
    walk_at "w";refine h7 _ _ ?_;refine⟨true,rfl,DD ?_⟩;walk_at "w"
    have c3:∀ {b:Addr} {m':List (Ef×V)},H5 b=some (.dK m')->b≠S.d1->H10 b=some (.dK m'):=fun {b m'} e O=>by
     have c1:b≠B:=fun z=>by rw[z,n6] at e;cases e
     have e6:=S6 _ _ e;exact Y.keepD F10 (K9 _ _ (K8 _ _ e6 (P6.ne_dk e6)) c1) O
    have b6:bk≠B:=fun z=>by rw[z,n6] at f5;cases f5
    have h9:=K8 _ _ e8 (Ne.symm a8);have P9:=P8.kp K9 (Ne.symm d5);have F9:GD (p::bk::S.own) H H9:=fun b o e O=>K9 _ _ ((F6.trans (.kp K8 (by simp))) b o e O) (fun z=>by rw[z,J a4] at e;cases e);exact k B t (some (d8-20)) _ _ _ _ H10 a9 Z (Y.keepD F10 f9 Z) (Y.keepL F10 (K9 _ _ h9 b6) a2) (b7.dks fun b m _ e O=>c3 e O) (L.deed hS.nd ⟨d7,e0⟩ (fun v e=>by cases e;omega) (fun z=>by cases z)) (.inl (J a4)) e1 (Y.keepPur F10 P9 a3) (F9.trans (GD.ofS F10 mo))
   ·intro D' b9 a1;walk_at "w";rw[BQ];refine GL (fun _=>?_) (fun _=>?_)
    ·walk_at "w";refine lV f6 ?_
     cases hg:GG m t with
     |none=>
      walk_at "w";refine GV ?_;walk_at "w";exact a1 _ _ ⟨rfl,rfl⟩
     |some v=>
      walk_at "w";refine DD ?_;walk_at "w";refine jz f6 ?_;walk_at "w";refine xA f6 hg fun H7 f7 K7=>?_;have a0:=b0.kpD K7 f6 Z;obtain⟨i2,i7,f0,_⟩:=id a0;walk_at "w";refine En f0 Du ?_;walk_at "w";have eg:GG sm t=some v:=by rw[L.eqv.get hS.nd L.nd];exact hg
      refine⟨S,n,t,v,sm,c,ds,ts,ws,rfl,a0,⟨by omega,by omega⟩,eg,by omega,by omega,by omega,by omega,fun H8 c2 F8=>?_⟩;walk_at "w";rw[decide_eq_true rfl];refine DD ?_;walk_at "w";rw[b9]
      have c3:∀ {b:Addr} {m':List (Ef×V)},H5 b=some (.dK m')->b≠S.d1->H8 b=some (.dK m'):=fun {b m'} e O=>by
       have c1:b≠B:=fun z=>by rw[z,n6] at e;cases e
       exact a0.keepD F8 (K7 _ _ (S6 _ _ e) c1) O
      have b6:bk≠B:=fun z=>by rw[z,n6] at f5;cases f5
      have P7:=P6.kp K7 (Ne.symm (P5.neN n6));have e5:=L.deed hS.nd (t:=t) (o:=none) ⟨d7,e0⟩ (fun v e=>by cases e) (fun _=>by rw[hg];rfl);rw[hg] at e5;have F7:GD (p::bk::S.own) H H7:=fun b o e O=>K7 _ _ (F6 b o e O) (fun z=>by rw[z,J a4] at e;cases e);exact k B t none _ _ _ _ H8 c2 Z (a0.keepD F8 f7 Z) (a0.keepL F8 (K7 _ _ e8 b6) a2) (b7.dks fun b m _ e O=>c3 e O) e5 (.inl (J a4)) e1 (a0.keepPur F8 P7 a3) (F7.trans (GD.ofS F8 mo))
    ·walk_at "w";refine GV ?_;walk_at "w";exact a1 _ _ ⟨rfl,rfl⟩
  ·intro D' b9 a1;walk_at "w";rw[BQ];refine GL (fun _=>?_) (fun _=>?_)
   ·walk_at "w";refine Eg (by show 0<=sizeLine;decide) fun l3 H3 n3 f3 S3=>?_;refine HR (Eh.of (S3 _ _ b8)) (Eh.of f3) ?_;by_cases d4:c8=[]
    ·have g5:a6=[]:=Vf.mp (by rw[c7,d4];rfl);rw[g5];walk_at "w";refine GV ?_;walk_at "w";exact a1 _ _ ⟨rfl,S3⟩
    ·obtain⟨d2,g6,t',o,m',rfl,rfl,h5,g0,ho,h6,c6,g8⟩:=L.lk.open d4;obtain⟨us,b,rfl,h3,f1,d9⟩:=c9.unsnoc;rw[show(us ++ [V.ref b]).isEmpty=false by simp];have M:=S3 _ _ b8;walk_at "w";refine DD ?_;walk_at "w";refine⟨HH M,?_⟩;refine gj M fun H4 f4 K4=>?_;have a5:=(a7.same S3).kpL K4 M a2;obtain⟨i0,j3,g1,_⟩:=id a5;walk_at "w";refine En g1 Du ?_;have g3:o=none->(GG sm t').isSome=true:=fun z=>by rw[L.eqv.get hS.nd L.nd];exact ho z
     refine⟨S,n,sm,c,_,ts,ws,rfl,a5,.inr ⟨d2,t',o,rfl,g0,g3,by omega,by omega,by omega,fun H5 c0 F5=>?_⟩⟩;walk_at "w";refine DD ?_;walk_at "w";rw[b9]
     have e7:∀ {b:Addr} {m':List (Ef×V)},H2 b=some (.dK m')->b≠S.d1->H5 b=some (.dK m'):=fun {b m'} e O=>by
      have e3:=S3 _ _ e;exact a5.keepD F5 (K4 _ _ e3 (fun z=>by rw[z,M] at e3;cases e3)) O
     have P4:DP H4 p:=by
      obtain⟨x,y,z,e,r⟩:=P2.same S3;exact⟨x,y,z,K4 _ _ e a8,r⟩
     have d3:=e2;rw[UD] at d3;refine k b t' o m' d2 us g6 H5 c0 d9 (e7 f1 d9) (a5.keepL F5 f4 a2) (h3.dks fun b m _ e O=>e7 e O) ⟨(Dx.bring L.eqv hS.nd L.nd t' o).trans g8,h6,c6,h5,by omega,by rw[UD];simp;omega,by have:=L.bM m' (by simp);omega,by omega,fun r hr=>Nat.le_succ_of_le (L.bM r (UV _ hr))⟩ (.inr (by simp)) (fun v hv=>.inl (UV _ hv)) (a5.keepPur F5 P4 a3) (((F2.trans (.same S3)).trans (.kp K4 (by simp))).trans (GD.ofS F5 mo))
   ·walk_at "w";refine GV ?_;walk_at "w";exact a1 _ _ ⟨rfl,ET.refl _⟩
end
theorem Fw{m m':PL}{b y:Int}{k:Nat}{fs gs:List (Option (PL))}(B:Dx m m')(n:(m.map (·.1)).Nodup)(h:Ah m b y k fs)(g:Ah m' b y k gs):fs=gs:=by
 refine List.ext_getElem (by rw[h.1,g.1]) fun i h1 h2=>?_;exact di B n (h.2 i _ (Ub h1)) (g.2 i _ (Ub h2))
section
def bR(a:Ad)(S:SA)(hd hu q:Addr)(v:V)(n:Int)(sm m:PL)(c:Nat)(ds:List (Int×Option Int))(ts:List Int)(us:List V)(fs:List (Option (PL))):Sp:=fun vs H Q _=>vs=[.ref S.p,.ref hd,.ref hu]/\EV a H S n sm c ds ts [v]/\CG H v ⟨q,-6,4,3,fs⟩/\
 H hd=some (.dK (Ez m))/\Dx sm m/\(m.map (·.1)).Nodup/\m.length<64/\H hu=some (.tup us)/\GT H us fs/\
 ∀(u:Addr) (v':V) (us':List V) (fs':List (Option (PL))) (n':Int) (H':Hp),H' u=some (.tup us')->GT H' us' fs'->CG H' v' ⟨q,-6,4,3,fs'⟩->EV a H' S n' sm c ds ts [v']->BE S H H'->Q (.ref u) H'
def mj(a:Ad):Sp:=fun vs H Q E=>∃S hd hu q v n sm m c ds ts us fs,bR a S hd hu q v n sm m c ds ts us fs vs H Q E
theorem Li:Eo ["_law_store","_law_held","_law_heard","_law_now","_law_due"] ["_law_store","_law_held","_law_heard"] (EU KQ):=Es
theorem bS(T:Txt K mg a):Ec P w K mg base Ew 9 a.Rq a.Re ["_law_store","_law_held","_law_heard"] (mj a):=by
 refine T.Mj.ok Li fun b9 A a0 s H vs Q E hr h=>?_
 ·obtain⟨S,hd,hU,q,v,n,sm,m,c,ds,ts,us,fs,rfl,hS,hW,hh,he,a2,Y,fU,hF,k⟩:=h;have hu:=Dc hr;have F:=hr.units
  have b8:fs.length=3:=by
   obtain⟨_,_,_,_,_,_,_,_,h⟩:=id hW;exact h
  refine⟨_,QB.h (EQ (Gb (i:=3) Li.nd (GE (Kc T) hr.m T.Qc T.Y6.kp T.QR (EN (qv 1) (EN (GB (EN (AG Bw ER) (EN ER (EN ER EO)))) EO)))) (EQ (Gb (i:=4) Li.nd (Gy (Dq K rfl) rfl T.ZI Dp (EN (Dg (N:=["_law_store","_law_held","_law_heard","_law_now","_law_due"]) (sc:=EU KQ) (own:=["_law_k"]) (caps:=["_law_now","_law_heard"]) (ks:=[3,2]) rfl rfl rfl ⟨rfl,by decide +kernel,by decide +kernel,by decide +kernel,by decide +kernel,rfl,by decide +kernel⟩ (Dm rfl T.ZJ (EN ER EO)) (fun _ _ _ _ _=>Ge (i:=0) (show List.Nodup (α:=Str) ["_law_k","_law_now","_law_heard"] from by decide +kernel) rfl (by walk_at "o") (.inr rfl)) (fun _ _ _ _ _=>CT (Ee (Wx K rfl F) (Ei (Ek K rfl) (qv 1) (qv 0)) (Ei (Ek K rfl) (qv 2) (qv 0)) (Ej _))) (fun _ _ _ _ _=>qv 0)) EO))) (ES (Ea (Bo (Ee (yp K rfl F) (GQ (qv 0) T.ZE T.NN (qi T) hr T.Mv .nil GK (EN ER EO)) (qv 4) (Ej _)) (qv 3) Gk))))),?_⟩;walk_at "s";walk_at "w";refine Eg (by show 3<=sizeLine;decide) fun q1 H1 n1 f1 S1=>?_;walk_at "w";refine⟨hd,q1,m,-6,4,3,rfl,S1 _ _ hh,a2,Y,⟨f1,by decide,by decide,by decide⟩,fun u M L H2 f2 J O S2=>?_⟩;have S02:=S1.trans S2;have a3:=S02 _ _ fU;have Z:=hF.same S02;have b7:L.length=3:=O.1;walk_at "w";refine CQ (by decide) (by decide) ?_;intro l hl;refine Gw 3 (fun i U' H'=>(∃o,U'=[o,some (.ref u),some (.ref hU)])/\ET H2 H'/\H' l=some (.lst ((IA fs L i).map V.int))) ?_ ?_ ?_
  ·exact⟨⟨none,rfl⟩,ET.new hl,EW⟩
  ·rintro U' H3 ⟨_,S3,f3⟩;refine⟨Ue _,?_⟩;walk_at "w";refine BJ (Eh.of f3) fun t4 H4 n4 f4 S4=>?_;have S24:=S3.trans S4;have S04:=S02.trans S24;have B:=hS.same S04;obtain⟨b0,b6,a4,_⟩:=id B;walk_at "w";refine En a4 Du ?_;walk_at "w";refine⟨S,0,_,v,n,sm,c,ds,ts,[v],rfl,B,rfl,hW.tups fun b xs e=>S04 _ _ e,fun t5 v5 a9 n5 H5 f5 a1 a6 a8 F5=>?_⟩;obtain rfl:=Fw he hS.nd a6 O;walk_at "w";refine lW f5 (B.keepT F5 f4) ?_;refine⟨true,congrArg V.bl (decide_eq_true rfl),DD ?_⟩;walk_at "w";exact k u v5 M a9 n5 H5 (B.keepT F5 (S24 _ _ f2)) ((J.same S24).tups fun b xs e=>B.keepT F5 e) a1 a8 ((BE.same S04).trans F5)
  ·rintro i U' H3 hi ⟨⟨o,rfl⟩,S3,f3⟩;refine⟨hi,?_⟩;rintro x H'' ⟨rfl,rfl⟩;have e0:(0+(i:Int))=(i:Int):=by omega
   have e1:=Ub (show i<M.length by rw[J.len];omega);have e2:=Ub (show i<us.length by rw[hF.len];omega);obtain⟨o1,a5,g1⟩:=(J.same S3).at e1;obtain⟨o2,a7,g2⟩:=(Z.same S3).at e2;rw[e0];walk_at "w";refine FK (GF.of (S3 _ _ f2)) (DS e1) ?_;walk_at "w";refine FK (GF.of (S3 _ _ a3)) (DS e2) ?_;walk_at "w";refine zq g1 g2 ?_;have en:=XW fs L i;rw[a5,a7] at en;walk_at "w";refine AF (fun z=>?_) (fun z=>?_)
   ·walk_at "w";refine⟨_,f3,?_,⟨_,rfl⟩,S3.kpN hl Kp.upd,?_⟩
    ·rw[Ug];exact Uq (qH _ _ _) (Uh hi (by decide))
    ·rw[EW,en,if_pos (by simpa using z),Uy];rfl
   ·refine⟨⟨_,rfl⟩,S3,?_⟩;rw[en,if_neg (by simpa using z),UF];exact f3
end
structure Nm where
 q:SS
 hd:Addr
 m:PL
 sd:Addr
 v:Addr
 d:Addr
 bk:Addr
 b:Int
 y:Int
 w:Int
 j:Int
 kvs:List (List Ef×V)
 e:Nat
 bvs:List V
 bks:List (PL)
 hu:Addr
 hus:List V
 fs:List (Option (PL))
 wq:Addr
 wv:V
noncomputable def Nm.ob(x:Nm):List Addr:=[x.sd,x.v,x.d,x.bk]
def Nm.dc(x:Nm)(b:Addr):Prop:=b=x.hd\/V.ref b∈x.bvs
theorem Fv.mono{sm m:PL}{c N N':Nat}{ds:List (Int×Option Int)}{ts:List Int}{bk:List (PL)}(h:Fv sm m c ds ts bk N)(g:N<=N'):Fv sm m c ds ts bk N':=⟨h.eqv,h.nd,h.bd,h.lk,Uz h.c g,Uz h.t g,Uz h.m g,Uz h.b g,fun q B=>Uz (h.bM q B) g⟩
structure AU(a:Ad)(H:Hp)(N:Nat)(x:Nm):Prop where
 ws:x.q.ws=[x.wv]
 hd:H x.hd=some (.dK (Ez x.m))
 sd:H x.sd=some (.lst [.ref x.v,.ref x.bk,.ref x.hu])
 vw:GX a H x.q.S x.v x.d x.b x.y x.w x.j x.kvs x.e x.q.sm x.q.ts
 bk:H x.bk=some (.lst x.bvs)
 bd:Bv x.q.S H x.bvs x.bks
 ls:Fv x.q.sm x.m x.q.c x.q.ds x.q.ts x.bks N
 hu:H x.hu=some (.tup x.hus)
 fs:GT H x.hus x.fs
 wt:CG H x.wv ⟨x.wq,-6,4,3,x.fs⟩
 sb:x.sd≠x.bk
 el:x.e<=x.q.ts.length
 vb:-(320*(N:Int)+10)<=x.b/\x.b<=320*(N:Int)+10/\x.y<=80/\x.w<=7/\x.kvs.length<=10*N+10
theorem AU.frV{a:Ad}{H H':Hp}{N N':Nat}{x:Nm}(h:AU a H N x)(g:N<=N'){l:List Addr}(f:GD l H H')(n1:x.sd∉l)(Z:x.bk∉l)(Y:∀b,x.dc b->b∉l)(nt:∀b∈l,∀xs,H b≠some (.tup xs)){d':Addr}{F L M O:Int}{B:List (List Ef×V)}{e':Nat}(hv:GX a H' x.q.S x.v d' F L M O B e' x.q.sm x.q.ts)(el:e'<=x.q.ts.length)(vb:-(320*(N':Int)+10)<=F/\F<=320*(N':Int)+10/\L<=80/\M<=7/\B.length<=10*N'+10):AU a H' N' { x with d:=d',b:=F,y:=L,w:=M,j:=O,kvs:=B,e:=e' }:=by
 have J:∀b xs,H b=some (.tup xs)->H' b=some (.tup xs):=fun b xs e=>GD.tup f nt e;exact⟨h.ws,f _ _ h.hd (Y _ (.inl rfl)),f _ _ h.sd n1,hv,f _ _ h.bk Z,h.bd.dks fun b m hb e _=>f _ _ e (Y _ (.inr hb)),h.ls.mono g,J _ _ h.hu,h.fs.tups J,h.wt.tups J,h.sb,el,vb⟩
theorem AU.frL{a:Ad}{H H':Hp}{N N':Nat}{x:Nm}(h:AU a H N x)(g:N<=N'){l:List Addr}(f:GD l H H')(B:∀b∈x.ob,b∉l)(L:∀b,x.dc b->b∉l)(nt:∀b∈l,∀xs,H b≠some (.tup xs)):AU a H' N' x:=by
 obtain⟨Y,M,J,F,O⟩:=h.vb;exact h.frV g f (B _ (by simp[Nm.ob])) (B _ (by simp[Nm.ob])) L nt (h.vw.frL f (B _ (by simp[Nm.ob])) (B _ (by simp[Nm.ob])) nt) h.el ⟨by omega,by omega,J,F,by omega⟩
theorem Xj{m:PL}{l:List (Str×V)}(h:Ez m=DL l)(B:l≠[]):False:=by
 cases l with
 |nil=>exact B rfl
 |cons p l=>
  cases m with
  |nil=>simp[Ez,DL] at h
  |cons q m=>simp[Ez,DL,Ib] at h
theorem AU.dcd{a:Ad}{H:Hp}{N:Nat}{x:Nm}(h:AU a H N x){b:Addr}(B:x.dc b):∃m,H b=some (.dK (Ez m)):=by
 rcases B with rfl|B
 ·exact⟨_,h.hd⟩
 ·have:=h.bd;generalize x.bvs=vs at B this;generalize x.bks=bk at this
  induction this with
  |nil=>cases B
  |cons g _ ih=>
   rcases Ud.mp B with e|B
   ·obtain⟨F,e',z,_⟩:=g;rw[<- e] at e';cases e';exact⟨_,z⟩
   ·exact ih B
theorem AU.obs{a:Ad}{H:Hp}{N:Nat}{x:Nm}(h:AU a H N x){b:Addr}(B:b∈x.ob):∃o,H b=some o/\(∀m,o≠.dK m)/\(∀m,o≠.tup m)/\∀i j k:Int,o=.lst [.int i,.int j,.int k]->False:=by
 obtain⟨dx,q,h1,_,h2,_⟩:=id h.vw;simp only[Nm.ob,Ud,Us,or_false] at B;rcases B with rfl|rfl|rfl|rfl
 ·exact⟨_,h.sd,by simp,by simp,by simp⟩
 ·exact⟨_,h1,by simp,by simp,by simp⟩
 ·exact⟨_,h2,by simp,by simp,by simp⟩
 ·refine⟨_,h.bk,by simp,by simp,fun i j k e=>?_⟩;have:=h.bd;injection e with e;rw[e] at this;generalize x.bks=bk at this
  cases this with
  |cons g _=>
   obtain⟨_,z,_⟩:=g;cases z
noncomputable def bm(xs:List (Str×Nm)):List (Str×SS):=xs.map fun x=>(x.1,x.2.q)
noncomputable def hm(xs:List (Str×Nm)):List (Str×V):=xs.map fun x=>(x.1,V.ref x.2.hd)
noncomputable def dm(xs:List (Str×Nm)):List (Str×V):=xs.map fun x=>(x.1,V.ref x.2.sd)
structure Wd(a:Ad)(H0 H:Hp)(x0 d0 C D:Addr)(N:Nat)(xs:List (Str×Nm)):Prop where
 bo:GA a H x0 d0 (bm xs)
 cu:H C=some (.dK (DL (hm xs)))
 si:H D=some (.dK (DL (dm xs)))
 ok:∀x∈xs,AU a H N x.2
 ap:∀x∈xs,∀y∈xs,x.1≠y.1->∀b∈x.2.ob,b∉y.2.ob
 ou:∀x∈xs,∀b,b∈x.2.ob\/x.2.dc b->b∉BL x0 d0 (bm xs)
 cd:C≠D/\C∉BL x0 d0 (bm xs)/\D∉BL x0 d0 (bm xs)
 fr:∀b,(∃x∈xs,b∈x.2.q.all\/b∈x.2.ob)\/b=C\/b=D->H0 b=none
 s0:Kp d0 H0 H
section
variable{a:Ad}{H0 H H':Hp}{x0 d0 C D:Addr}{N:Nat}{xs:List (Str×Nm)}
theorem Wd.nd(h:Wd a H0 H x0 d0 C D N xs):(xs.map (·.1)).Nodup:=by
 have:=h.bo.bin.nd;simpa[bm,UH,Function.comp_def] using this
theorem Xk(xs:List (Str×Nm))(k:Str):Ex (bm xs) k=(Ex xs k).map Nm.q:=HS Nm.q xs k
theorem CD{xs:List (Str×Nm)}{x:Str×Nm}(F:x∈xs){b:Addr}(B:b∈x.2.q.all):b∈BL x0 d0 (bm xs):=Gn.mpr (.inr (.inr ⟨(x.1,x.2.q),Ur.mpr ⟨x,F,rfl⟩,B⟩))
theorem Wd.dcN(h:Wd a H0 H x0 d0 C D N xs){x:Str×Nm}(F:x∈xs){b:Addr}(J:x.2.dc b):b≠C/\b≠D:=by
 obtain⟨m,e⟩:=(h.ok x F).dcd J
 have B:∀f:Nm->V,(xs.map fun x=>(x.1,f x.2))≠[]:=fun f z=>by
  rw[List.map_eq_nil_iff] at z;rw[z] at F;cases F
 refine⟨fun z=>?_,fun z=>?_⟩
 ·rw[z,h.cu] at e;injection e with e;injection e with e;exact Xj e.symm (B fun x=>.ref x.hd)
 ·rw[z,h.si] at e;injection e with e;injection e with e;exact Xj e.symm (B fun x=>.ref x.sd)
def Ap(H0 H:Hp)(x0 d0 C D:Addr)(xs:List (Str×Nm))(b:Addr):Prop:=b≠C/\b≠D/\(∀x∈xs,b∉x.2.ob/\¬x.2.dc b)/\b∉BL x0 d0 (bm xs)/\H0 b=none/\∀ys,H b≠some (.tup ys)
theorem Wd.nt(h:Wd a H0 H x0 d0 C D N xs){x:Str×Nm}(F:x∈xs){pl:List Addr}(J:∀b∈pl,Ap H0 H x0 d0 C D xs b):∀b∈pl++C::(x.2.ob++x.2.q.S.own),∀ys,H b≠some (.tup ys):=fun b O ys e=>by
 rcases Uu.mp O with z|z
 ·exact(J b z).2.2.2.2.2 ys e
 rcases Ud.mp z with z|z
 ·rw[z,h.cu] at e;cases e
 rcases Uu.mp z with z|z
 ·obtain⟨o,B,_,L,_⟩:=(h.ok x F).obs z;rw[e] at B;injection B with B;exact L _ B.symm
 ·obtain⟨n,M⟩:=h.bo.bin.st _ (Ur.mpr ⟨x,F,rfl⟩);exact M.noTup b z ys e
theorem Wd.other(h:Wd a H0 H x0 d0 C D N xs){N':Nat}(g:N<=N'){x y:Str×Nm}(J:x∈xs)(F:y∈xs)(n:y.1≠x.1){pl:List Addr}(M:∀b∈pl,Ap H0 H x0 d0 C D xs b)(f:GD (pl++C::(x.2.ob++x.2.q.S.own)) H H'):AU a H' N' y.2:=by
 refine(h.ok y F).frL g f (fun b B z=>?_) (fun b B z=>?_) (h.nt J M)
 ·rcases Uu.mp z with z|z
  ·exact((M b z).2.2.1 y F).1 B
  rcases Ud.mp z with z|z
  ·obtain⟨o,e,O,_⟩:=(h.ok y F).obs B;rw[z,h.cu] at e;injection e with e;exact O _ e.symm
  rcases Uu.mp z with z|z
  ·exact h.ap y F x J n b B z
  ·exact h.ou y F b (.inl B) (CD J (Uf _ z))
 ·obtain⟨m,e⟩:=(h.ok y F).dcd B;rcases Uu.mp z with z|z
  ·exact((M b z).2.2.1 y F).2 B
  rcases Ud.mp z with z|z
  ·exact(h.dcN F B).1 z
  rcases Uu.mp z with z|z
  ·obtain⟨o,L,O,_⟩:=(h.ok x J).obs z;rw[e] at L;injection L with L;exact O _ L.symm
  ·exact h.ou y F b (.inr B) (CD J (Uf _ z))
theorem GA.deedL{m:List (Str×SS)}{p d:Addr}{l:List Addr}(h:GA a H p d m){k:Str}{q q':SS}(L:Ex m k=some q)(e:q'.S=q.S)(g:q'.At a H')(f:GD l H H')(n:∀b∈l,b∈q.S.own\/b∉BL p d m)(nt:∀b∈l,∀xs,H b≠some (.tup xs)):GA a H' p d (Gd m k q'):=by
 obtain⟨⟨dx,h1⟩,h2,B⟩:=h;have O:=Bu L;have J:=B.ap _ O;obtain⟨Y,e2⟩:=al B.nd L e
 have M:H' d=some (.dK (DL (BV (Gd m k q')))):=by
  rw[Y];exact f _ _ h2 fun z=>(n _ z).elim (fun z=>J.2 (Uf _ z)) fun z=>z (Gn.mpr (.inr (.inl rfl)))
 refine⟨⟨dx,f _ _ h1 fun z=>?_⟩,M,by rw[e2];exact B.nd,fun x F=>?_,mR B.nd L e B.pw,fun x F=>?_⟩
 ·exact(n _ z).elim (fun z=>J.1 (Uf _ z)) fun z=>z (Gn.mpr (.inl rfl))
 ·rcases xg B.nd L F with rfl|⟨F,nx⟩
  ·exact g
  ·have Z:=B.apart O F fun z=>nx (by rw[<- z]);exact(B.st x F).frL f (fun b hb=>(n b hb).elim (fun z=>Z b (Uf _ z)) fun z w=>z (Gn.mpr (.inr (.inr ⟨x,F,w⟩)))) nt
 ·rcases xg B.nd L F with rfl|⟨F,nx⟩
  ·unfold SS.all;rw[e];exact J
  ·exact B.ap x F
theorem Wd.frL(h:Wd a H0 H x0 d0 C D N xs){l:List Addr}(f:GD l H H')(M:GA a H' x0 d0 (bm xs))(n:∀b∈l,b≠C/\b≠D/\∀x∈xs,b∉x.2.ob/\¬x.2.dc b)(nt:∀b∈l,∀ys,H b≠some (.tup ys))(J:∀b∈l,H0 b=none):Wd a H0 H' x0 d0 C D N xs:=
 ⟨M,f _ _ h.cu fun z=>(n _ z).1 rfl,f _ _ h.si fun z=>(n _ z).2.1 rfl,fun x B=>(h.ok x B).frL (Ue _) f (fun b F z=>((n b z).2.2 x B).1 F) (fun b F z=>((n b z).2.2 x B).2 F) nt,h.ap,h.ou,h.cd,h.fr,fun b o e L=>f _ _ (h.s0 _ _ e L) fun z=>by rw[J b z] at e;cases e⟩
theorem Wd.same(h:Wd a H0 H x0 d0 C D N xs)(s:ET H H'):Wd a H0 H' x0 d0 C D N xs:=h.frL (GD.same s (l:=[])) (h.bo.same s) (by simp) (by simp) (by simp)
theorem Wd.look(h:Wd a H0 H x0 d0 C D N xs)(f:GD (Xe (bm xs)) H H')(L:GA a H' x0 d0 (bm xs)):Wd a H0 H' x0 d0 C D N xs:=by
 have B:∀b∈Xe (bm xs),b∈BL x0 d0 (bm xs):=fun b F=>by
  obtain⟨z,hz,e⟩:=Ur.mp F;exact Gn.mpr (.inr (.inr ⟨z,hz,by rw[<- e];simp[SS.all,SA.own]⟩))
 exact h.frL f L (fun b F=>⟨fun z=>h.cd.2.1 (z ▸ B b F),fun z=>h.cd.2.2 (z ▸ B b F),fun x J=>⟨fun z=>h.ou x J b (.inl z) (B b F),fun z=>h.ou x J b (.inr z) (B b F)⟩⟩) h.bo.bin.noTup fun b F=>by
  obtain⟨z,hz,e⟩:=Ur.mp F;obtain⟨x,J,rfl⟩:=Ur.mp hz;exact h.fr b (.inl ⟨x,J,.inl (by rw[<- e];simp[SS.all,SA.own])⟩)
theorem Wd.pob(h:Wd a H0 H x0 d0 C D N xs){p:Addr}(J:DP H p):p≠C/\p≠D/\∀x∈xs,p∉x.2.ob/\¬x.2.dc p:=by
 obtain⟨Y,O,M,B,_⟩:=id J;refine⟨(fun z=>by rw[z,h.cu] at B;cases B),(fun z=>by rw[z,h.si] at B;cases B),fun x F=>⟨fun z=>?_,fun z=>?_⟩⟩
 ·obtain⟨o,e,_,_,L⟩:=(h.ok x F).obs z;rw[B] at e;injection e with e;exact L _ _ _ e.symm
 ·obtain⟨m,e⟩:=(h.ok x F).dcd z;rw[B] at e;cases e
theorem Wd.pur(h:Wd a H0 H x0 d0 C D N xs){p:Addr}(B:DP H p)(J:p∉BL x0 d0 (bm xs))(L:H0 p=none)(k:Kp p H H'):Wd a H0 H' x0 d0 C D N xs:=
 h.frL (GD.kp k (l:=[p]) (by simp)) (h.bo.pur B k J) (fun b F=>by rw[Um.mp F];exact h.pob B) B.no fun b F=>by rw[Um.mp F];exact L
theorem Wd.okp(h:Wd a H0 H x0 d0 C D N xs){p:Addr}(B:DP H p)(F:p∉BL x0 d0 (bm xs))(L:H0 p=none):∀b∈[p],Ap H0 H x0 d0 C D xs b:=fun b J=>by
 rw[Um.mp J];have g:=h.pob B;exact⟨g.1,g.2.1,g.2.2,F,L,B.no p (by simp)⟩
theorem Wd.step(h:Wd a H0 H x0 d0 C D N xs){k:Str}{x x':Nm}(J:(k,x)∈xs){N':Nat}(gN:N<=N'){pl:List Addr}(O:∀b∈pl,Ap H0 H x0 d0 C D xs b)(f:GD (pl++C::(x.ob++x.q.S.own)) H H')(g:AU a H' N' x')(eS:x'.q.S=x.q.S)(hA:x'.q.At a H')(a1:x'.sd=x.sd)
  (hC:H' C=some (.dK (DL (hm (Gd xs k x'))))) (L:∀b∈x'.ob,b∈x.ob\/H b=none) (a3:∀b,x'.dc b->x.dc b\/H b=none):Wd a H0 H' x0 d0 C D N' (Gd xs k x')/\(k,x')∈Gd xs k x'/\∀b∈BL x0 d0 (bm (Gd xs k x')),b∈BL x0 d0 (bm xs):=by
 have hg:=Gi h.nd J;have a2:Ex (bm xs) k=some x.q:=by rw[Xk,hg];rfl
 have M:bm (Gd xs k x')=Gd (bm xs) k x'.q:=Kb (f:=Nm.q) (k:=k) (q':=x') xs
 have Z:dm (Gd xs k x')=dm xs:=by
  have e:=Kb (f:=fun n:Nm=>V.ref n.sd) (k:=k) (q':=x') xs;rw[show dm (Gd xs k x')=Gd (dm xs) k (V.ref x'.sd) from e];refine qS ?_ ?_
  ·rw[a1];exact Gi (by simpa[dm,UH,Function.comp_def] using h.nd) (Ur.mpr ⟨_,J,rfl⟩)
  ·simpa[dm,UH,Function.comp_def] using h.nd
 have BLs:∀b∈BL x0 d0 (bm (Gd xs k x')),b∈BL x0 d0 (bm xs):=fun b B=>by
  rw[M] at B;rcases Gn.mp B with z|z|⟨z,hz,w⟩
  ·exact Gn.mpr (.inl z)
  ·exact Gn.mpr (.inr (.inl z))
  ·rcases FC hz with rfl|⟨hz,_⟩
   ·unfold SS.all at w;dsimp only at w;rw[eS] at w;exact CD J w
   ·exact Gn.mpr (.inr (.inr ⟨z,hz,w⟩))
 have live:∀y∈xs,∀b∈y.2.ob,∃o,H b=some o:=fun y F b B=>by
  obtain⟨o,e,_⟩:=(h.ok y F).obs B;exact⟨o,e⟩
 have n0:∀b∈pl++C::(x.ob++x.q.S.own),H0 b=none:=fun b B=>by
  rcases Uu.mp B with z|z
  ·exact(O b z).2.2.2.2.1
  rcases Ud.mp z with z|z
  ·exact h.fr b (.inr (.inl z))
  rcases Uu.mp z with z|z
  ·exact h.fr b (.inl ⟨_,J,.inr z⟩)
  ·exact h.fr b (.inl ⟨_,J,.inl (Uf _ z)⟩)
 have nD:D∉pl++C::(x.ob++x.q.S.own):=fun z=>by
  rcases Uu.mp z with z|z
  ·exact(O _ z).2.1 rfl
  rcases Ud.mp z with z|z
  ·exact h.cd.1 z.symm
  rcases Uu.mp z with z|z
  ·obtain⟨o,Y,e2,_⟩:=(h.ok _ J).obs z;rw[h.si] at Y;injection Y with Y;exact e2 _ Y.symm
  ·exact h.cd.2.2 (CD J (Uf _ z))
 have a0:∀b,b∈x'.ob\/x'.dc b->b∉BL x0 d0 (bm xs):=fun b B=>by
  rcases B with B|B
  ·exact(L b B).elim (fun z=>h.ou _ J b (.inl z)) fun z=>h.bo.fresh z
  ·exact(a3 b B).elim (fun z=>h.ou _ J b (.inr z)) fun z=>h.bo.fresh z
 refine⟨⟨?_,hC,by rw[Z];exact f _ _ h.si nD,fun y F=>?_,fun y F z hz n b B=>?_,fun y F b B w=>?_,⟨h.cd.1,fun z=>h.cd.2.1 (BLs _ z),fun z=>h.cd.2.2 (BLs _ z)⟩,fun b B=>?_,fun b o e nb=>f _ _ (h.s0 _ _ e nb) fun z=>by rw[n0 b z] at e;cases e⟩,?_,BLs⟩
 ·rw[M];refine h.bo.deedL a2 eS hA f (fun b B=>?_) (h.nt J O);rcases Uu.mp B with z|z
  ·exact .inr (O b z).2.2.2.1
  rcases Ud.mp z with z|z
  ·rw[z];exact .inr h.cd.2.1
  rcases Uu.mp z with z|z
  ·exact .inr (h.ou _ J b (.inl z))
  ·exact .inl z
 ·rcases FC F with rfl|⟨F,ny⟩
  ·exact g
  ·exact h.other gN J F ny O f
 ·rcases FC F with rfl|⟨F,ny⟩<;>rcases FC hz with rfl|⟨hz,nz⟩
  ·exact absurd rfl n
  ·rcases L b B with w|w
   ·exact h.ap _ J z hz (Ne.symm nz) b w
   ·intro w2;obtain⟨o,e⟩:=live z hz b w2;rw[w] at e;cases e
  ·intro w2;rcases L b w2 with w|w
   ·exact h.ap _ J y F (Ne.symm ny) b w B
   ·obtain⟨o,e⟩:=live y F b B;rw[w] at e;cases e
  ·exact h.ap y F z hz n b B
 ·rcases FC F with rfl|⟨F,ny⟩
  ·exact a0 b B (BLs b w)
  ·exact h.ou y F b B (BLs b w)
 ·rcases B with ⟨y,F,B⟩|B
  ·rcases FC F with rfl|⟨F,ny⟩
   ·rcases B with B|B
    ·unfold SS.all at B;dsimp only at B;rw[eS] at B;exact h.fr b (.inl ⟨_,J,.inl B⟩)
    rcases L b B with w|w
    ·exact h.fr b (.inl ⟨_,J,.inr w⟩)
    ·cases e:H0 b with
     |none=>rfl
     |some o=>rw[h.s0 _ _ e fun z=>by rw[z,h.bo.2.1] at w;cases w] at w;cases w
   ·exact h.fr b (.inl ⟨y,F,B⟩)
  ·exact h.fr b (.inr B)
 ·unfold Gd;rw[if_pos (by rw[UY];exact⟨_,J,by simp⟩)];exact Ur.mpr ⟨_,J,by simp⟩
end
section
noncomputable def IP(xs:List (Str×Nm)):List Cv:=xs.map fun x=>(x.1,x.2.hd,x.2.m)
def bT(a:Ad)(H0:Hp)(x0 d0 C D q h:Addr)(N:Nat)(xs:List (Str×Nm))(b y w low tall rows:Int):Sp:=fun vs H Q _=>vs=[.ref x0,.ref C,.ref q,.ref h]/\Wd a H0 H x0 d0 C D N xs/\(∀x∈xs,BI x.1=true)/\xs.length<=10/\N<=60/\H q=some (.tup [.int b,.int y,.int w])/\yH b y w/\Fc H h low tall rows/\rows<=7/\
 ∀H',Wd a H0 H' x0 d0 C D N xs->Q (.bl true) H'
def ml(a:Ad):Sp:=fun vs H Q E=>∃H0 x0 d0 C D q h N xs b y w low tall rows,bT a H0 x0 d0 C D q h N xs b y w low tall rows vs H Q E
theorem Xl(T:Txt K mg a):Ec P w K mg base Ew 9 a.Qv a.QZ ["_law_board","_law_curves","_law_window","_law_heights"] (ml a):=by
 refine T.Qk.ok (N:=["_law_board","_law_curves","_law_window","_law_heights"]) Es fun _ _ _ s H vs Q E O h=>?_
 ·obtain⟨H0,x0,d0,C,D,q,h,N,xs,b,y,w,low,F,M,rfl,J,a2,hl,hN,hq,hW,hH,b0,k⟩:=h;have hu:=Dc O;have c4:(bm xs).length=xs.length:=by simp[bm]
  have a6:=hH.2.2.1;have c1:=hH.2.2.2.2.1;obtain⟨c8,c2,c6,c9,b9,c0⟩:=id hW
  have a1:∀m:PL,(∀r∈m,Bd r)->BP m:=fun m hm r O=>by
   have:=hm r O;unfold Bd at this;exact⟨by unfold Bn;omega,by unfold Bn;omega⟩
  have b6:∀z∈bm xs,BI z.1=true/\BP z.2.sm:=fun z hz=>by
   obtain⟨x,B,rfl⟩:=Ur.mp hz;exact⟨a2 x B,a1 _ fun r O=>(J.ok x B).ls.bd r (((J.ok x B).ls.eqv r).mp O)⟩
  have a0:∀z∈bm xs,(z.2.sm.map (·.1)).Nodup:=fun z hz=>by
   obtain⟨n,hS⟩:=J.bo.bin.st z hz;exact hS.nd
  obtain⟨⟨c7,a8⟩,_⟩:=id J.bo;refine⟨_,QB.h (ES (Ea (IY (Dk) (GQ (qv 0) T.Zq T.TU (WU T) O T.Tf .nil GK (EN (qv 2) (EN (qv 3) EO))) (GE (xm T) O.m T.Nt T.RN.kp T.Nh (EN (qv 1) (EN (qv 2) (EN (qv 3) EO)))) (Ej _)))),?_⟩;walk_at "s";walk_at "w";refine En a8 (Le (by decide +kernel)) ?_;walk_at "w";refine⟨x0,d0,q,h,bm xs,b,y,w,low,F,M,rfl,J.bo,by omega,b6,hW.winT hq,by omega,hH,fun c5 c3 H1 b8 a7 b7 a3 F1=>?_⟩;obtain rfl:=bJ b8 a7;have e1:=yG a0 (by omega) a6 b7 (by omega);rw[e1];have Y:=J.look F1 a3;have a5:=GD.tup F1 J.bo.bin.noTup hq;have a4:=GD.tup F1 J.bo.bin.noTup hH.1;have a9:Xh (IP xs)=hm xs:=by simp[Xh,IP,hm,UH,Function.comp_def]
  have Z:(IP xs).map (·.1)=xs.map (·.1):=by simp[IP,UH,Function.comp_def]
  have CV:rn H1 (IP xs):=⟨by rw[Z];exact J.nd,fun c L=>by obtain⟨x,B,rfl⟩:=Ur.mp L;exact(Y.ok x B).hd,fun c L=>by obtain⟨x,B,rfl⟩:=Ur.mp L;exact(Y.ok x B).ls.nd,fun c L=>by obtain⟨x,B,rfl⟩:=Ur.mp L;exact a2 x B⟩;walk_at "w";refine⟨C,q,h,IP xs,b,y,w,low,F,M,rfl,by rw[a9];exact Y.cu,CV,(fun c L=>by obtain⟨x,B,rfl⟩:=Ur.mp L;exact(Y.dcN B (.inl rfl)).1),by simpa[IP] using hl,(fun c L=>by obtain⟨x,B,rfl⟩:=Ur.mp L;exact⟨by have:=(Y.ok x B).ls.m;show x.2.m.length<64;omega,a1 _ (Y.ok x B).ls.bd⟩),a5,hW,⟨a4,hH.2⟩,b0,fun H2 S2=>?_⟩
  have ef:(fun k j r=>Cp (((Ex (bm xs) k).map SS.sm).getD []) b y w low F j r)=fun k j r=>Cp (vJ (IP xs) k) b y w low F j r:=by
   funext kx j r;have g1:=Xk xs kx;have g2:Ex (IP xs) kx=(Ex xs kx).map fun x:Nm=>(x.hd,x.m):=HS (fun x:Nm=>(x.hd,x.m)) xs kx;unfold vJ;rw[g1,g2]
   cases hg:Ex xs kx with
   |none=>rfl
   |some x=>
    have B:=Bu hg;obtain⟨n,hS⟩:=J.bo.bin.st _ (Ur.mpr ⟨_,B,rfl⟩);exact congrFun (congrFun (bF hS.nd (J.ok _ B).ls.nd (J.ok _ B).ls.eqv) j) r
  have ek:Ff ((bm xs).map (·.1))=Ff ((IP xs).map (·.1)):=by rw[Z];congr 1;simp[bm,UH,Function.comp_def]
  rw[ef,ek];refine⟨rfl,?_⟩;rw[decide_eq_true rfl];exact k H2 (Y.same S2)
end
theorem WS.deed{H:Hp}{kvs:List (List Ef×V)}{sm:PL}{b y m:Int}{J:List Int}(h:WS H kvs sm b y m J)(n:(sm.map (·.1)).Nodup)(t:Int)(o:Option Int):WS H kvs (DJ sm t o) b y m (J ++ [t]):=fun x z u e=>by
 obtain⟨h1,h2⟩:=h x z u e;refine⟨h1,?_⟩;rcases h2 with ⟨t',m1,m2⟩|⟨o',f,g⟩
 ·exact .inl ⟨t',UV _ m1,m2⟩
 ·by_cases L:x<=t/\t<z
  ·exact .inl ⟨t,by simp,L⟩
  ·refine .inr ⟨o',f,g.congr fun r=>?_⟩;rw[Ed,Ed]
   have F:x<=r.1/\r.1<z->(r∈sm↔r∈DJ sm t o):=fun M=>by
    have B:r.1≠t:=fun z=>L (z ▸ M)
    cases o with
    |none=>show r∈sm↔r∈Dw sm t;rw[Bi];exact⟨fun h=>⟨B,h⟩,fun h=>h.2⟩
    |some v=>
     show r∈sm↔r∈Gx sm t v;rw[Ds n];exact⟨fun h=>.inl ⟨B,h⟩,fun h=>h.elim (fun h=>h.2) fun h=>absurd (by rw[h]) B⟩
   exact⟨fun h=>⟨(F h.2).mp h.1,h.2⟩,fun h=>⟨(F h.2).mpr h.1,h.2⟩⟩
theorem GX.deed{a:Ad}{H:Hp}{S:SA}{v d:Addr}{b y m n:Int}{kvs:List (List Ef×V)}{e:Nat}{sm:PL}{ts:List Int}(h:GX a H S v d b y m n kvs e sm ts)(le:e<=ts.length)(nd:(sm.map (·.1)).Nodup)(t:Int)(o:Option Int):GX a H S v d b y m n kvs e (DJ sm t o) (ts ++ [t]):=by
 obtain⟨dx,q,F,L,M,B,J⟩:=h;exact⟨dx,q,F,L,M,by rw[List.drop_append_of_le_length le];exact B.deed nd t o,J⟩
section
local macro_rules|`(tactic|walk_at "rd")=>`(tactic|walk_at " ZD,ZH,Ck")
theorem vK{a:Ad}{H0 H:Hp}{x0 d0 C D:Addr}{N:Nat}{xs:List (Str×Nm)}(h:Wd a H0 H x0 d0 C D N xs){k:Str}{x x':Nm}(J:(k,x)∈xs)(e:x'.hd=x.hd):hm (Gd xs k x')=hm xs:=by
 have F:=Kb (f:=fun n:Nm=>V.ref n.hd) (k:=k) (q':=x') xs;rw[show hm (Gd xs k x')=Gd (hm xs) k (V.ref x'.hd) from F];have B:((hm xs).map (·.1)).Nodup:=by simpa[hm,UH,Function.comp_def] using h.nd
 exact qS (by rw[e];exact Gi B (Ur.mpr ⟨_,J,rfl⟩)) B
theorem Wd.vl{a:Ad}{H0 H:Hp}{x0 d0 C D:Addr}{pl:List Addr}{N:Nat}{xs:List (Str×Nm)}(h:Wd a H0 H x0 d0 C D N xs){k:Str}{x:Nm}(F:(k,x)∈xs)(hp:∀b∈pl,Ap H0 H x0 d0 C D xs b):∀b∈pl++x.v::x.d::x.q.S.own,b≠x.sd/\b≠x.bk/\b≠C/\¬x.dc b/\∀ys,H b≠some (.tup ys):=fun b B=>by
 have ok:=h.ok _ F;dsimp only at ok;have L:=ok.sd;have J:=ok.bk;obtain⟨dx,q,O,_,M,_⟩:=id ok.vw
 have Y:∀ {o},H b=some o->(∀m,o≠.dK m)->¬x.dc b:=fun e ne z=>by
  obtain⟨m,Z⟩:=ok.dcd z;rw[e] at Z;injection Z with Z;exact ne _ Z
 rcases Uu.mp B with B|B
 ·have g:=hp b B;exact⟨fun z=>(g.2.2.1 _ F).1 (by simp[Nm.ob,<- z]),fun z=>(g.2.2.1 _ F).1 (by simp[Nm.ob,<- z]),g.1,(g.2.2.1 _ F).2,g.2.2.2.2.2⟩
 rcases Ud.mp B with rfl|B
 ·exact⟨(fun z=>by rw[<- z,O] at L;cases L),(fun z=>by rw[<- z,O] at J;cases J),(fun z=>by rw[z,h.cu] at O;cases O),Y O (by simp),fun ys z=>by rw[O] at z;cases z⟩
 rcases Ud.mp B with rfl|B
 ·exact⟨(fun z=>by rw[<- z,M] at L;cases L),(fun z=>by rw[<- z,M] at J;cases J),(fun z=>by rw[z,h.cu] at M;cases M),Y M (by simp),fun ys z=>by rw[M] at z;cases z⟩
 ·have hB:=CD (x0:=x0) (d0:=d0) F (Uf _ B);obtain⟨n,hS⟩:=h.bo.bin.st _ (Ur.mpr ⟨_,F,rfl⟩);exact⟨fun z=>h.ou _ F b (.inl (by simp[Nm.ob,z])) hB,fun z=>h.ou _ F b (.inl (by simp[Nm.ob,z])) hB,fun z=>h.cd.2.1 (z ▸ hB),fun z=>h.ou _ F b (.inr z) hB,hS.noTup b B⟩
theorem Wd.view{a:Ad}{H0 H H':Hp}{x0 d0 C D:Addr}{pl:List Addr}{N N':Nat}{xs:List (Str×Nm)}(h:Wd a H0 H x0 d0 C D N xs){k:Str}{x:Nm}(Y:(k,x)∈xs)(Z:N<=N')(hp:∀b∈pl,Ap H0 H x0 d0 C D xs b)(f:GD (pl++x.v::x.d::x.q.S.own) H H'){n:Int}(hS:EV a H' x.q.S n x.q.sm x.q.c x.q.ds x.q.ts x.q.ws)
  {d':Addr} {J M L O:Int} {F:List (List Ef×V)} {e':Nat} (hv:GX a H' x.q.S x.v d' J M L O F e' x.q.sm x.q.ts) (el:e'<=x.q.ts.length) (vb:-(320*(N':Int)+10)<=J/\J<=320*(N':Int)+10/\M<=80/\L<=7/\F.length<=10*N'+10) (nd:d'=x.d\/H d'=none) :
  Wd a H0 H' x0 d0 C D N' (Gd xs k { x with d:=d',b:=J,y:=M,w:=L,j:=O,kvs:=F,e:=e' })/\(k,({ x with d:=d',b:=J,y:=M,w:=L,j:=O,kvs:=F,e:=e' }:Nm))∈Gd xs k { x with d:=d',b:=J,y:=M,w:=L,j:=O,kvs:=F,e:=e' }/\∀b∈BL x0 d0 (bm (Gd xs k { x with d:=d',b:=J,y:=M,w:=L,j:=O,kvs:=F,e:=e' })),b∈BL x0 d0 (bm xs):=by
 have g:=h.vl Y hp;refine h.step Y Z hp (f.mono fun b B=>?_) ((h.ok _ Y).frV Z f (fun z=>(g _ z).1 rfl) (fun z=>(g _ z).2.1 rfl) (fun b B z=>(g _ z).2.2.2.1 B) (fun b B=>(g b B).2.2.2.2) hv el vb) rfl ⟨n,hS⟩ rfl ?_ (fun b B=>?_) fun b B=>.inl B
 ·rcases Uu.mp B with B|B
  ·exact UV _ B
  refine Uv _ (Uf _ ?_);rcases Ud.mp B with rfl|B
  ·exact UV _ (by simp[Nm.ob])
  rcases Ud.mp B with rfl|B
  ·exact UV _ (by simp[Nm.ob])
  ·exact Uv _ B
 ·rw[vK h Y (x':={ x with d:=d',b:=J,y:=M,w:=L,j:=O,kvs:=F,e:=e' }) rfl];exact f _ _ h.cu fun z=>(g _ z).2.2.1 rfl
 ·simp only[Nm.ob,Ud,Us,or_false] at B ⊢;rcases B with B|B|B|B
  ·exact .inl (.inl B)
  ·exact .inl (.inr (.inl B))
  ·rcases nd with z|z
   ·exact .inl (.inr (.inr (.inl (B.trans z))))
   ·exact .inr (by rw[B];exact z)
  ·exact .inl (.inr (.inr (.inr B)))
def sw(a:Ad)(H0:Hp)(x0 d0 C D p:Addr)(N M:Nat)(ks:List Str)(k:Str)(x:Nm)(H':Hp)(xs:List (Str×Nm))(y:Nm):Prop:=Wd a H0 H' x0 d0 C D N xs/\(k,y)∈xs/\xs.map (·.1)=ks/\y.sd=x.sd/\y.v=x.v/\y.bk=x.bk/\y.q.S=x.q.S/\y.kvs.length<=M/\DP H' p/\p∉BL x0 d0 (bm xs)
def fe(a:Ad)(H0:Hp)(x0 d0 C D p:Addr)(N:Nat)(xs:List (Str×Nm))(k:Str)(x:Nm):Sp:=fun vs H Q _=>vs=[.ref x0,.ref C,.ref x.sd,.str k,.ref p]/\Wd a H0 H x0 d0 C D N xs/\(k,x)∈xs/\BI k=true/\xs.length<=10/\N<30/\DP H p/\p∉BL x0 d0 (bm xs)/\H0 p=none/\
 ∀xs' H',Wd a H0 H' x0 d0 C D (N+1) xs'->xs'.map (·.1)=xs.map (·.1)->Q (.bl true) H'
def sC(a:Ad):Sp:=fun vs H Q E=>∃H0 x0 d0 C D p N xs k x,fe a H0 x0 d0 C D p N xs k x vs H Q E
theorem FS:Eo ["_law_board","_law_curves","_law_side","_law_name","_law_purse_here","_law_view","_law_before","_law_heard","_law_store"] ["_law_board","_law_curves","_law_side","_law_name","_law_purse_here"] (EU WQ):=Es
theorem bU(T:Txt K mg a):Ec P w K mg base Ew 10 a.Rk a.Rc ["_law_board","_law_curves","_law_side","_law_name","_law_purse_here"] (sC a):=by
 refine T.NE.ok FS fun m1 A j2 s H vs Q E hr h=>?_
 ·obtain⟨H0,x0,d0,C,D,p,N,xs,k,x,rfl,hw,hx,k3,hl,hN,hp,np,n0,kk⟩:=h;have hu:=Dc hr;have h3:=hr.units;have ok:=hw.ok _ hx;have h5:=ok.sd;dsimp only at ok h5;have m4:(bm xs).length=xs.length:=by simp[bm]
  have hg:=Gi hw.nd hx;have f7:Ex (bm xs) k=some x.q:=by rw[Xk,hg];rfl
  obtain⟨⟨m6,j7⟩,_⟩:=id hw.bo;refine⟨_,QB.h (EQ (DE (qv 2) (yu (n:=3) K rfl rfl (EY (GN (i:=5) FS.nd) (EY (GN (i:=6) FS.nd) (EY (GN (i:=7) FS.nd) GW))))) (EQ (Gb (i:=8) FS.nd (GQ (qv 0) T.Zq T.Yg (FB T) hr T.YW .nil GK (EN (qv 3) EO))) (EQ (GO (Ee (Dk) (GE (Do T) hr.m T.ZP T.ZK.kp T.ZO (EN (qv 4) (EN ER EO))) ER (Ej _)) (ES (Et (GE (xn T) hr.m T.Ni T.RT.kp T.Nd (EN (qv 5) (EN (qv 4) EO))))) (EQ (Dz hu (GE (bQ T) hr.m T.Ov T.Mr.kp T.Ow (EN (qv 8) (EN (qv 4) (EN (DI hu (qv 1) (qv 3)) (EN (qv 6) EO))))) (qv 1) (qv 3)) (ES (GO (Ee (IV) (DI hu (qv 1) (qv 3)) Gk (Ej _)) (ES (Ea Fg)) GC)))) (EQ (GO (Ee (Dk) (GE (Do T) hr.m T.ZP T.ZK.kp T.ZO (EN (qv 4) (EN ER EO))) ER (Ej _)) (EQ (DE (GE (bS T) hr T.PU T.Mj.kp T.PJ (EN (qv 8) (EN (DI hu (qv 1) (qv 3)) (EN (qv 7) EO)))) (Kv (qv 2) ER HD)) (ES (GO (Ee (IV) (Ei (DH K rfl) (qv 2) ER) Gk (Ej _)) (ES (Ea Fg)) GC))) GC) (ES (Ea (IY (yp K rfl h3) (BB (qv 5) T.ZD T.QL (Ko T) hr.m T.Qu .nil GK) (GE (Kc T) hr.m T.Qc T.Y6.kp T.QR (EN (DI hu (qv 1) (qv 3)) (EN (Eu K rfl (qv 5)) EO))) (Ej _)))))))),?_⟩;walk_at "s";walk_at "w";refine uf (Eh.of h5) rfl ?_;walk_at "w";refine En j7 (Le (by decide +kernel)) ?_;walk_at "w";refine⟨x0,d0,bm xs,k,rfl,k3,hw.bo,by omega,fun q d9 H1 S1=>?_,fun hn=>by rw[f7] at hn;cases hn⟩;rw[f7] at d9;obtain rfl:=Option.some.inj d9;have w1:=hw.same S1;have P1:=hp.same S1;have g9:∀ {xs:List (Str×Nm)} {y:Nm},(k,y)∈xs->p∉BL x0 d0 (bm xs)->p∉y.q.S.ls:=fun hy hn z=>hn (CD hy (Uf _ (SA.ls_own z)))
  repeat walk_at "ri"
  refine Ih (fun U' H'=>∃d3 J,sw a H0 x0 d0 C D p (N+1) (10*N+10) (xs.map (·.1)) k x H' d3 J/\J.hu=x.hu/\U'=[some (.ref x0),some (.ref C),some (.ref x.sd),some (.str k),some (.ref p),some (.ref x.v),some (.ref x.bk),some (.ref x.hu),some (.ref x.q.S.p)]) ?_ ?_
  ·rintro U' H3 ⟨d3,J,⟨w3,O,e8,e1,e2,e3,e4,hM,P3,a5⟩,e5,rfl⟩
   repeat walk_at "ri"
   refine Ih (fun U' H'=>∃d8 Y,sw a H0 x0 d0 C D p (N+1) (10*N+10) (xs.map (·.1)) k x H' d8 Y/\U'=[some (.ref x0),some (.ref C),some (.ref x.sd),some (.str k),some (.ref p),some (.ref x.v),some (.ref x.bk),some (.ref x.hu),some (.ref x.q.S.p)]) ?_ ?_
   ·rintro U' H4 ⟨d8,Y,⟨M,b8,k2,f1,f2,f3,f4,l7,P4,h8⟩,rfl⟩;have B:=M.ok _ b8;obtain⟨n4,a3⟩:=M.bo.bin.st _ (Ur.mpr ⟨_,b8,rfl⟩);dsimp only at B a3;obtain⟨e9,qv,b7,i0,c6,_⟩:=id B.vw;have j6:=B.ls.t;have c1:=B.vb;have j9:=B.ls.m;have m2:=i0.2.2.1;rw[<- f2];walk_at "w";refine En b7 CB ?_;refine⟨Y.q.S,Y.v,Y.d,Y.b,Y.y,Y.w,Y.j,n4,Y.kvs,Y.e,Y.q.sm,Y.q.c,Y.q.ds,Y.q.ts,Y.q.ws,rfl,a3,B.vw,by omega,by omega,fun u us fs l0 c5 n5 H5 f5 c9 i9 m5 j0 d5 l3 l9 F5=>?_⟩
    obtain⟨w5,g8,l4⟩:=M.view b8 (Ue _) (M.okp P4 h8 n0) (F5.mono fun b F=>by
     simp only[Ud,Us,or_false] at F
     rcases F with rfl | rfl | rfl<;>simp[SA.own]) d5 j0 (Ue _) ⟨c1.1,c1.2.1,c1.2.2.1,c1.2.2.2.1,by omega⟩ (.inl rfl)
    have b9:=w5.ok _ g8;dsimp only at b9;obtain⟨l5,i8,k9,a2,m3,_⟩:=id b9.vw;dsimp only at k9 a2;walk_at "w";refine Di w5.cu (Gi (by simpa[hm,UH,Function.comp_def] using w5.nd) (Ur.mpr ⟨_,g8,rfl⟩)) ?_;walk_at "w";refine⟨Y.hd,i8,Y.m,Y.b,Y.y,Y.w,rfl,b9.hd,b9.ls.nd,by omega,⟨a2.1,a2.2.1,a2.2.2.1,a2.2.2.2.1⟩,fun u6 l8 m0 H6 f6 i1 i7 S6=>?_⟩;obtain rfl:=Fw B.ls.eqv a3.nd i9 i7;refine wJ (S6 _ _ f5) (c9.same S6) f6 i1 ?_;rw[decide_eq_true rfl];exact kk _ H6 (w5.same S6) ((FR (Gi M.nd b8)).trans k2)
   ·intro D' k4 a6;walk_at "w";refine⟨p,_,rfl,P3,by decide,by decide,fun d4 H4 h4 m8 P4 K4=>?_⟩;have M:=w3.pur P3 a5 n0 K4;walk_at "w";rw[BQ];refine GL (fun _=>?_) (fun _=>?_)
    ·have B:=M.ok _ O;obtain⟨n4,a3⟩:=M.bo.bin.st _ (Ur.mpr ⟨_,O,rfl⟩);dsimp only at B a3;have j9:=B.ls.m;have g4:=M.vl O (M.okp P4 a5 n0);have Z:=B.sd;have f8:J.sd∉J.q.S.own:=fun z=>M.ou _ O _ (.inl (by simp[Nm.ob])) (CD O (Uf _ z));obtain⟨e9,qv,b7,_,c6,_,c2,h7⟩:=id B.vw;rw[<- e4,<- e5,<- e1];walk_at "w";refine Di M.cu (Gi (by simpa[hm,UH,Function.comp_def] using M.nd) (Ur.mpr ⟨_,O,rfl⟩)) ?_;walk_at "w";refine⟨J.q.S,J.hd,J.hu,J.wq,J.wv,n4,J.q.sm,J.m,J.q.c,J.q.ds,J.q.ts,J.hus,J.fs,rfl,by rw[<- B.ws];exact a3,B.wt,B.hd,B.ls.eqv,B.ls.nd,by omega,B.hu,B.fs,fun u v' d7 fs' n5 H5 fu c9 a2 d5 F5=>?_⟩;have a8:=F5 _ _ Z f8;walk_at "w";refine Xr a8 (j:=2) rfl ?_;generalize f0:upd H5 J.sd (.lst ([V.ref J.v,.ref J.bk,.ref J.hu].set 2 (.ref u)))=H6;have f6:H6 J.sd=some (.lst [.ref J.v,.ref J.bk,.ref u]):=by rw[<- f0];exact EW
     have K6:Kp J.sd H5 H6:=by rw[<- f0];exact Kp.upd
     have F6:GD (J.sd::J.q.S.own) H4 H6:=fun b o e nb=>K6 _ _ (F5 _ _ e fun z=>nb (Uf _ z)) fun z=>nb (by simp[z])
     have k8:∀b∈J.sd::J.q.S.own,∀ys,H4 b≠some (.tup ys):=fun b F ys z=>by
      rcases Ud.mp F with rfl|F
      ·rw[Z] at z;cases z
      ·exact a3.noTup b F ys z
     have c8:∀b ys,H5 b=some (.tup ys)->H6 b=some (.tup ys):=fun b ys e=>K6 _ _ e fun z=>by rw[z,a8] at e;cases e
     have n6:∀b,J.dc b->b∉J.sd::J.q.S.own:=fun b F z=>by
      rcases Ud.mp z with z|z
      ·obtain⟨m,e⟩:=B.dcd F;rw[z,Z] at e;cases e
      ·exact(g4 b (by simp[z])).2.2.2.1 F
     have i6:J.bk∉J.sd::J.q.S.own:=fun z=>by
      rcases Ud.mp z with z|z
      ·exact B.sb z.symm
      ·exact(g4 _ (by simp[z])).2.1 rfl
     have i3:=d5.kpL K6 a8 fun z=>f8 (SA.ls_own z)
     obtain⟨w6,j1,e0⟩:=M.step O (x':={ J with q:={ J.q with ws:=[v'] },hu:=u,hus:=d7,fs:=fs',wv:=v' }) (Ue _) (M.okp P4 a5 n0) (F6.mono fun b F=>by
       rcases Ud.mp F with rfl|F
       ·simp[Nm.ob]
       ·exact Uf _ (Uf _ (Uv _ F)))
      ⟨rfl,F6 _ _ B.hd (n6 _ (.inl rfl)),f6,B.vw.frL F6 (fun z=>by
       rcases Ud.mp z with z|z
       ·rw[z,Z] at b7;cases b7
       ·exact c2 (Uf _ z)) (fun z=>by
       rcases Ud.mp z with z|z
       ·rw[z,Z] at c6;cases c6
       ·exact h7 (Uf _ z)) k8,F6 _ _ B.bk i6,B.bd.dks (fun b m F e _=>F6 _ _ e (n6 _ (.inr F))),B.ls,c8 _ _ fu,c9.tups c8,a2.tups c8,B.sb,B.el,B.vb⟩ rfl ⟨n5,i3⟩ rfl (by
       rw[vK M O (x':={ J with q:={ J.q with ws:=[v'] },hu:=u,hus:=d7,fs:=fs',wv:=v' }) rfl]
       exact F6 _ _ M.cu fun z=>by
        rcases Ud.mp z with z|z
        ·have:=M.cu;rw[z,Z] at this;cases this
        ·exact(g4 C (by simp[z])).2.2.1 rfl) (fun b F=>.inl F) fun b F=>.inl F
     have P6:DP H6 p:=P4.fr F6 fun z=>by
      rcases Ud.mp z with z|z
      ·exact(g4 p (by simp)).1 z
      ·exact a5 (CD O (Uf _ z))
     walk_at "w";refine GV ?_;walk_at "w";exact a6 _ _ ⟨_,_,⟨w6,j1,(FR (Gi M.nd O)).trans e8,e1,e2,e3,e4,hM,P6,fun z=>a5 (e0 _ z)⟩,by rw[e1,e4,e5]⟩
    ·walk_at "w";exact a6 _ _ ⟨d3,J,⟨M,O,e8,e1,e2,e3,e4,hM,P4,a5⟩,rfl⟩
  ·intro D' k4 a6;walk_at "w";refine⟨p,_,rfl,P1,by decide,by decide,fun d2 H2 h2 l6 P2 K2=>?_⟩;have w2:=w1.pur P1 np n0 K2;have L:=w2.ok _ hx;obtain⟨n2,a7⟩:=w2.bo.bin.st _ (Ur.mpr ⟨_,hx,rfl⟩);dsimp only at L a7;have j6:=L.ls.t;have a0:=L.vb;walk_at "w";rw[BQ];refine GL (fun _=>?_) (fun _=>?_)
   ·walk_at "w";refine⟨x.q.S,p,x.v,x.d,x.b,x.y,x.w,x.j,n2,320*(N:Int)+10,x.kvs,x.e,x.q.sm,x.q.c,x.q.ds,x.q.ts,x.q.ws,rfl,P2,g9 hx np,a7,L.vw,by omega,a0.1,a0.2.1,a0.2.2.1,a0.2.2.2.1,by omega,fun d' b' y' m' c5 H3 k1 k5 d1 g1 g2 g3 g4 g5 P3 F3=>?_⟩
    obtain⟨w3,j5,g0⟩:=w2.view hx (Vl N) (w2.okp P2 np n0) (F3.mono fun b F=>by
     simp only[Ud,Us,or_false] at F
     rcases F with rfl | rfl | rfl<;>simp) d1 k5 (Ue _) ⟨by push_cast;omega,by push_cast;omega,g3,g4,by omega⟩ (.inr k1)
    walk_at "w";exact a6 _ _ ⟨_,_,⟨w3,j5,FR hg,rfl,rfl,rfl,rfl,by show c5.length<=_;omega,P3,fun z=>np (g0 _ z)⟩,rfl,rfl⟩
   ·walk_at "w";refine Di w2.cu (Gi (by simpa[hm,UH,Function.comp_def] using w2.nd) (Ur.mpr ⟨_,hx,rfl⟩)) ?_;have g2:=w2.vl hx (w2.okp P2 np n0);have h9:x.bk∉BL x0 d0 (bm xs):=w2.ou _ hx _ (.inl (by simp[Nm.ob]));have a4:=L.bk;have e7:C≠x.bk:=fun z=>by have:=w2.cu;rw[z,a4] at this;cases this
    walk_at "w";refine⟨x.q.S,p,x.hd,x.bk,N,x.q.c,n2,x.q.sm,x.m,x.q.ds,x.q.ts,x.q.ws,x.bvs,x.bks,rfl,P2,g9 hx np,(g2 p (by simp)).2.1,fun z=>h9 (CD hx (Uf _ (SA.ls_own z))),fun z=>w2.ou _ hx _ (.inr (.inl rfl)) (CD hx (by rw[z];simp[SS.all,SA.own])),a7,L.hd,a4,L.bd,L.ls,by omega,fun b6 t o m' g6 c3 c4 H3 d1 m7 a1 j4 k7 e6 d6 k6 P3 F3=>?_⟩
    have nC:C∉p::x.bk::x.q.S.own:=fun z=>by
     rcases Ud.mp z with z|z
     ·exact(g2 p (by simp)).2.2.1 z.symm
     rcases Ud.mp z with z|z
     ·exact e7 z
     ·exact(g2 C (by simp[z])).2.2.1 rfl
    have c0:=F3 _ _ w2.cu nC;walk_at "w";refine HU c0 (Uq (show(hm xs).length<=10 by simpa[hm] using hl) (by decide)) fun H4 f4 K4=>?_;generalize a9:({ x with q:=⟨x.q.S,DJ x.q.sm t o,x.q.c+1,g6,x.q.ts ++ [t],x.q.ws⟩,hd:=b6,m:=m',bvs:=c3,bks:=c4 }:Nm)=x4
    have k0:hm (Gd xs k x4)=Gd (hm xs) k (.ref b6):=by
     have:=Kb (f:=fun n:Nm=>V.ref n.hd) (k:=k) (q':=x4) xs;rw[<- a9] at this ⊢;exact this
    rw[<- k0] at f4
    have h6:b6≠C:=fun z=>by
     rw[z,c0] at a1;injection a1 with a1;injection a1 with a1;refine Xj a1.symm fun z=>?_;have:xs=[]:=by simpa[hm] using z
     rw[this] at hx;cases hx
    subst a9;have b0:=L.sd;have j3:x.sd≠C:=fun z=>by rw[z,w2.cu] at b0;cases b0
    obtain⟨e9,qv,i2,_,i5,_,i4,j8⟩:=id L.vw;have F4:GD (C::p::x.bk::x.q.S.own) H2 H4:=fun b o e nb=>K4 _ _ (F3 _ _ e fun z=>nb (Uf _ z)) fun z=>nb (by simp[z])
    have g7:∀b∈C::p::x.bk::x.q.S.own,∀ys,H2 b≠some (.tup ys):=fun b F ys z=>by
     rcases Ud.mp F with rfl|F
     ·rw[w2.cu] at z;cases z
     rcases Ud.mp F with rfl|F
     ·exact P2.no b (by simp) ys z
     rcases Ud.mp F with rfl|F
     ·rw[a4] at z;cases z
     ·exact a7.noTup b F ys z
    have c7:∀b ys,H2 b=some (.tup ys)->H4 b=some (.tup ys):=fun b ys e=>GD.tup F4 g7 e
    have c2:∀b,(∃o,H2 b=some o/\(∀m,o≠.dK m)/\∀m,o≠.lst m)->b∉x.q.S.own->b∉C::p::x.bk::x.q.S.own:=fun b ⟨o,e,e1,e2⟩ nb z=>by
     rcases Ud.mp z with rfl|z
     ·rw[w2.cu] at e;cases e;exact e1 _ rfl
     rcases Ud.mp z with rfl|z
     ·obtain⟨_,_,_,e3,_⟩:=id P2;rw[e3] at e;cases e;exact e2 _ rfl
     rcases Ud.mp z with rfl|z
     ·rw[a4] at e;cases e;exact e2 _ rfl
     ·exact nb z
    obtain⟨M,a9,f9⟩:=w2.step hx (x':={ x with q:=⟨x.q.S,DJ x.q.sm t o,x.q.c+1,g6,x.q.ts ++ [t],x.q.ws⟩,hd:=b6,m:=m',bvs:=c3,bks:=c4 }) (Vl N) (w2.okp P2 np n0) (F4.mono fun b F=>by
      rcases Ud.mp F with rfl|F
      ·simp
      rcases Ud.mp F with rfl|F
      ·simp
      rcases Ud.mp F with rfl|F
      ·simp[Nm.ob]
      ·exact Uf _ (Uf _ (Uv _ F)))
     ⟨L.ws,K4 _ _ a1 h6,F4 _ _ b0 (fun z=>by
      rcases Ud.mp z with z|z
      ·exact j3 z
      rcases Ud.mp z with z|z
      ·exact(g2 p (by simp)).1 z.symm
      rcases Ud.mp z with z|z
      ·exact L.sb z
      ·exact(g2 _ (by simp[z])).1 rfl),(L.vw.frL F4 (c2 _ ⟨_,i2,by simp,by simp⟩ fun z=>i4 (Uf _ z)) (c2 _ ⟨_,i5,by simp,by simp⟩ fun z=>j8 (Uf _ z)) g7).deed L.el a7.nd t o,K4 _ _ j4 (Ne.symm e7),k7.dks (fun b m _ e _=>K4 _ _ e fun z=>by
      rw[z,c0] at e;injection e with e;injection e with e;refine Xj e.symm fun z=>?_;have:xs=[]:=by simpa[hm] using z
      rw[this] at hx;cases hx),e6,c7 _ _ L.hu,L.fs.tups c7,L.wt.tups c7,L.sb,by show x.e<=(x.q.ts ++ [t]).length;rw[UD];exact Nat.le_add_right_of_le L.el,⟨by push_cast;omega,by push_cast;omega,a0.2.2.1,a0.2.2.2.1,by have:=a0.2.2.2.2;show x.kvs.length<=_;omega⟩⟩ rfl ⟨n2,d1.kpD K4 c0 fun z=>w2.cd.2.1 (CD hx (by rw[z];simp[SS.all,SA.own]))⟩ rfl f4 (fun b F=>.inl F) fun b F=>by
      rcases F with F|F
      ·rcases d6 with z|z
       ·exact .inr (by rw[F];exact z)
       ·exact .inl (.inr (by rw[F];exact z))
      ·rcases k6 _ F with z|⟨b',z,z2⟩
       ·exact .inl (.inr z)
       ·cases z;exact .inr z2
    have P4:DP H4 p:=by
     obtain⟨x',y',z',e,r⟩:=P3;exact⟨x',y',z',K4 _ _ e ((g2 p (by simp)).2.2.1),r⟩
    walk_at "w";refine Di f4 (Gi (by simpa[hm,UH,Function.comp_def] using M.nd) (Ur.mpr ⟨_,a9,rfl⟩)) ?_;walk_at "w";refine GV ?_;walk_at "w";exact a6 _ _ ⟨_,_,⟨M,a9,FR hg,rfl,rfl,rfl,rfl,by have:=a0.2.2.2.2;show x.kvs.length<=_;omega,P4,fun z=>np (f9 _ z)⟩,rfl,rfl⟩
end
theorem bV{α:Type}{m:List (Str × α)}{k:Str}{q q':α}(B:Ex m k=none):Gd (m ++ [(k,q)]) k q'=m ++ [(k,q')]:=by
 unfold Gd;rw[if_pos (by rw[UY];exact⟨(k,q),by simp,by simp⟩),Uy];congr 1
 ·conv=>rhs;rw[<- List.map_id m]
  refine UU fun x F=>?_;rw[if_neg fun e=>(CY.mp B) (Ur.mpr ⟨x,F,e⟩)];rfl
 ·simp
theorem Wd.more{a:Ad}{H0 H H':Hp}{x0 d0 C D:Addr}{N:Nat}{xs:List (Str×Nm)}(h:Wd a H0 H x0 d0 C D N xs){k:Str}{x:Nm}(f:GD [C,d0,D] H H')(hB:GA a H' x0 d0 (bm (xs ++ [(k,x)])))(hC:H' C=some (.dK (DL (hm (xs ++ [(k,x)])))))(hD:H' D=some (.dK (DL (dm (xs ++ [(k,x)])))))(g:AU a H' N x)(L:∀b,b∈x.ob\/x.dc b\/b∈x.q.all->H b=none)(no:∀b,b∈x.ob\/x.dc b->b∉x.q.all):Wd a H0 H' x0 d0 C D N (xs ++ [(k,x)]):=by
 have O:=h.bo.2.1
 have nt:∀b∈[C,d0,D],∀ys,H b≠some (.tup ys):=fun b F ys z=>by
  simp only[Ud,Us,or_false] at F;rcases F with rfl|rfl|rfl
  ·rw[h.cu] at z;cases z
  ·rw[O] at z;cases z
  ·rw[h.si] at z;cases z
 have J:∀b,b∈BL x0 d0 (bm (xs ++ [(k,x)]))->b∈BL x0 d0 (bm xs)\/b∈x.q.all:=fun b F=>by
  rcases Gn.mp F with z|z|⟨q,hq,z⟩
  ·exact .inl (Gn.mpr (.inl z))
  ·exact .inl (Gn.mpr (.inr (.inl z)))
  ·obtain⟨y,B,rfl⟩:=Ur.mp hq;rcases Uu.mp B with B|B
   ·exact .inl (CD B z)
   ·rw[Um.mp B] at z;exact .inr z
 have live:∀y∈xs,∀b,b∈y.2.ob\/y.2.dc b->∃o,H b=some o:=fun y B b F=>by
  rcases F with F|F
  ·obtain⟨o,e,_⟩:=(h.ok y B).obs F;exact⟨o,e⟩
  ·obtain⟨m,e⟩:=(h.ok y B).dcd F;exact⟨_,e⟩
 have Y:∀ {b o},H b=some o->b∉x.q.all:=fun e z=>by rw[L _ (.inr (.inr z))] at e;cases e
 have M:d0∈BL x0 d0 (bm xs):=Gn.mpr (.inr (.inl rfl));refine⟨hB,hC,hD,fun y B=>?_,fun y B z hz n b F=>?_,fun y B b F w=>?_,⟨h.cd.1,fun z=>(J _ z).elim h.cd.2.1 (Y h.cu),fun z=>(J _ z).elim h.cd.2.2 (Y h.si)⟩,fun b F=>?_,fun b o e Z=>f _ _ (h.s0 _ _ e Z) fun z=>?_⟩
 ·rcases Uu.mp B with B|B
  ·refine(h.ok y B).frL (Ue _) f (fun b F z=>?_) (fun b F z=>?_) nt
   ·obtain⟨o,e,e2,_⟩:=(h.ok y B).obs F;simp only[Ud,Us,or_false] at z;rcases z with rfl|rfl|rfl
    ·rw[h.cu] at e;cases e;exact e2 _ rfl
    ·exact h.ou y B _ (.inl F) M
    ·rw[h.si] at e;cases e;exact e2 _ rfl
   ·simp only[Ud,Us,or_false] at z;rcases z with rfl|rfl|rfl
    ·exact(h.dcN B F).1 rfl
    ·exact h.ou y B _ (.inr F) M
    ·exact(h.dcN B F).2 rfl
  ·rw[Um.mp B];exact g
 ·rcases Uu.mp B with B|B<;>rcases Uu.mp hz with hz|hz
  ·exact h.ap y B z hz n b F
  ·rw[Um.mp hz];intro w;obtain⟨o,e⟩:=live y B b (.inl F);rw[L b (.inl w)] at e;cases e
  ·rw[Um.mp B] at F;intro w;obtain⟨o,e⟩:=live z hz b (.inl w);rw[L b (.inl F)] at e;cases e
  ·rw[Um.mp B,Um.mp hz] at n;exact absurd rfl n
 ·rcases Uu.mp B with B|B
  ·obtain⟨o,e⟩:=live y B b F;exact(J b w).elim (h.ou y B b F) (Y e)
  ·rw[Um.mp B] at F;exact(J b w).elim (h.bo.fresh (L b (F.elim .inl fun z=>.inr (.inl z)))) (no b F)
 ·rcases F with ⟨y,B,F⟩|F
  ·rcases Uu.mp B with B|B
   ·exact h.fr b (.inl ⟨y,B,F⟩)
   ·rw[Um.mp B] at F;have w:=L b (F.elim (fun z=>.inr (.inr z)) .inl)
    cases e:H0 b with
    |none=>rfl
    |some o=>rw[h.s0 _ _ e fun z=>by rw[z,O] at w;cases w] at w;cases w
  ·exact h.fr b (.inr F)
 ·simp only[Ud,Us,or_false] at z;rcases z with rfl|rfl|rfl
  ·rw[h.fr _ (.inr (.inl rfl))] at e;cases e
  ·exact Z rfl
  ·rw[h.fr _ (.inr (.inr rfl))] at e;cases e
section
noncomputable def nms:List Str:=["a","ab","c"]
theorem bW:∀k∈nms,BI k=true:=by decide +kernel
theorem sD:nms.Nodup:=by decide +kernel
theorem sE:Ah [] (-6) 4 3 [none,none,none]:=⟨rfl,fun k o h=>by
 have:o=none:=by
  rcases k with _|_|_|k<;>simp at h<;>exact h.symm
 rw[this]
 exact Is4.nil⟩
def mm(a:Ad):Sp:=fun vs H Q _=>∃(x0 d0 nl:Addr),vs=[.ref x0,.ref nl]/\GA a H x0 d0 []/\H nl=some (.lst (nms.map V.str))/\∀(l C D:Addr) (xs:List (Str×Nm)) (H':Hp),H' l=some (.lst [.ref C,.ref D])->Wd a H H' x0 d0 C D 0 xs->xs.map (·.1)=nms->Q (.ref l) H'
theorem Ar:Eo ["_law_board","_law_names","_law_curves","_law_sides","_law_name","_law_store"] ["_law_board","_law_names"] (EU LV):=Es
theorem yK(T:Txt K mg a):Ec P w K mg base Ew 10 a.Qq a.Ql ["_law_board","_law_names"] (mm a):=by
 refine T.ML.ok Ar fun j2 A g8 s H vs Q E hr h=>?_
 ·obtain⟨x0,d0,nl,rfl,hB,hn,k⟩:=h;have hu:=Dc hr;have h3:=hB.2.1;have g1:nl≠d0:=fun z=>by rw[z,h3] at hn;cases hn
  refine⟨_,QB.h (EQ (Gb (i:=2) Ar.nd AS) (EQ (Gb (i:=3) Ar.nd AS) (EQ (DU PassesOwn.never rfl (DX K rfl (qv 1)) (GN (i:=4) Ar.nd) (EQ (Dz hu AS (qv 2) (qv 4)) (EQ (Gb (i:=5) Ar.nd (GQ (qv 0) T.Zq T.Yg (FB T) hr T.YW .nil GK (EN (qv 4) EO))) (EQ (Dz hu (Dd (EN (uq T.Pd (WT T) hr.m rfl T.Pp T.Ti .nil GK (EN (qv 5) (EN (GB (EN (AG Bw ER) (EN ER (EN ER EO)))) EO))) (EN (Dd EO) (EN (GB (EN Gk (EN Gk (EN Gk EO)))) EO)))) (qv 3) (qv 4)) (ES (GO (Ee (sL) (GQ (qv 5) T.ZE T.Mc (zL T) hr.m T.MS .nil GK (EN (GB (EN (AG Bw ER) (EN ER (EN ER EO)))) EO)) ER (Ej _)) (ES (Ea Gk)) GC)))))) (ES (Ea (Dd (EN (qv 2) (EN (qv 3) EO)))))))),?_⟩;walk_at "s";walk_at "w";refine KJ fun C H1 n1 f1 S1=>?_;walk_at "w";refine KJ fun D H2 n2 f2 S2=>?_;have i0:C≠D:=fun z=>by rw[<- z,f1] at n2;cases n2
  have f0:H D=none:=Bc S1 n2
  have w2:Wd a H H2 x0 d0 C D 0 []:=⟨(hB.same S1).same S2,S2 _ _ f1,f2,(fun x hx=>by cases hx),(fun x hx=>by cases hx),(fun x hx=>by cases hx),⟨i0,hB.fresh n1,hB.fresh f0⟩,(fun b B=>by
   rcases B with ⟨x,hx,_⟩|rfl|rfl
   ·cases hx
   ·exact n1
   ·exact f0),(Kp.same S1).then S2⟩
  have j1:=S2 _ _ (S1 _ _ hn);walk_at "w";refine AY (xs:=nms.map V.str) (fun i U H'=>(∃v4 v5,U=[some (.ref x0),some (.ref nl),some (.ref C),some (.ref D),v4,v5])/\∃xs,Wd a H H' x0 d0 C D 0 xs/\xs.map (·.1)=nms.take i) ?_ ?_ ?_ ?_
  ·exact⟨⟨_,_,rfl⟩,[],w2,rfl⟩
  ·rintro i U H3 _ ⟨_,xs,J,_⟩;exact Eh.of (J.s0 _ _ hn g1)
  ·rintro i xv U H3 d4 ⟨⟨v4,v5,rfl⟩,xs,J,a7⟩;rw[UC] at d4;obtain⟨M,a1,rfl⟩:=Vn.mp d4;have i1:=bW M (Ux a1);have hi:i<nms.length:=(Ui.mp a1).1;have i7:i<3:=hi
   have b8:M∉xs.map (·.1):=fun z=>by
    rw[a7] at z;have:=vH (f:=id) (l:=nms) (by simpa using sD) hi;rw[List.map_id] at this;refine this ?_;rw[show(id nms[i])=M from by have:=Ub hi;rw[this] at a1;exact Option.some.inj a1];exact z
   have d5:xs.length<=3:=by
    have:=congrArg List.length a7;rw[Ug,US] at this;omega
   have j4:(bm xs).length=xs.length:=by simp[bm]
   have f3:Ex (bm xs) M=none:=by rw[CY];simpa[bm,UH,Function.comp_def] using b8
   have gC:∀f:Nm->V,Ex (xs.map fun x=>(x.1,f x.2)) M=none:=fun f=>by rw[CY];simpa[UH,Function.comp_def] using b8
   walk_at "w";refine Sw fun hd H4 n4 f4 S4=>?_;have e0:=S4 _ _ J.cu;walk_at "w";refine HU e0 (Uq (show(hm xs).length<=3 by simpa[hm] using d5) (by decide)) fun H5 f5 K5=>?_;rw[KI (m:=hm xs) (gC fun n=>V.ref n.hd)] at f5;have d7:GA a H5 x0 d0 (bm xs):=(J.bo.same S4).frL (l:=[C]) (GD.kp K5 (by simp)) (fun b B=>by rw[Um.mp B];exact J.cd.2.1) fun b B ys=>by rw[Um.mp B,e0];intro z;cases z
   obtain⟨⟨i8,h5⟩,j3,_⟩:=id d7;walk_at "w";refine En h5 (Le (by decide +kernel)) ?_;walk_at "w";refine⟨x0,d0,bm xs,M,rfl,i1,d7,by omega,(fun q e7=>by rw[f3] at e7;cases e7),fun _ S H6 e8 b7 K6=>?_⟩;obtain⟨n6,c7⟩:=b7.bin.st (M,⟨S,[],0,[],[],[]⟩) (by simp);dsimp only at c7;have a8:H5 D=some (.dK (DL (dm xs))):=K5 _ _ (S4 _ _ J.si) (Ne.symm J.cd.1);have c9:H5 hd=some (.dK (Ez [])):=K5 _ _ f4 fun z=>by rw[z,J.cu] at n4;cases n4
   have F:∀ {b o},H5 b=some o->b∉S.p::S.own:=fun e z=>by rw[e8 _ z] at e;cases e
   have d1:∀ {b o},H5 b=some o->b∉BL x0 d0 (bm xs)->H6 b=some o:=fun e Z=>K6 _ _ e fun z=>Z (by rw[z];exact Gn.mpr (.inr (.inl rfl)));have h9:hd∉BL x0 d0 (bm xs):=J.bo.fresh n4;have d2:=d1 a8 J.cd.2.2;have d8:=d1 f5 J.cd.2.1;have g0:=d1 c9 h9
   have l6:∀ {b},H6 b=none->H3 b=none:=fun {b} z=>by
    cases e:H3 b with
    |none=>rfl
    |some o=>
     have e4:=S4 _ _ e;by_cases c:b=C
     ·rw[c,d8] at z;cases z
     by_cases c2:b=d0
     ·rw[c2,b7.2.1] at z;cases z
     rw[K6 _ _ (K5 _ _ e4 c) c2] at z;cases z
   walk_at "w";refine Eg (by show 3<=sizeLine;decide) fun q7 H7 n7 f7 S7=>?_;walk_at "w";refine Lq fun v dv H8 n8 f8 S8=>?_;have e3:=c7.same S7;have h7:=e3.same S8;have av:v∉S.p::S.own:=e3.apart (l:=[v]) (fun b B=>by rw[Um.mp B];exact n8) v (by simp);refine⟨S,v,dv,q7,-6,4,3,n6,[],0,[],[],[],rfl,f8,h7,⟨S8 _ _ f7,by decide,by decide,by decide,⟨by decide,by decide⟩,⟨by decide,by decide⟩⟩,av,fun d9 H9 n9 f9 d6 K9=>⟨rfl,?_⟩⟩;have S68:=S7.trans S8;have b6:H6 v=none:=Bc S7 n8;have a9:∀ {b o},H6 b=some o->H9 b=some o:=fun {b o} e=>K9 _ _ (S68 _ _ e) fun z=>by rw[z,b6] at e;cases e
   obtain⟨j0,q9,i6,_,i5,_,i9,i4⟩:=id f9;walk_at "w";refine Eg (by show 0<=sizeLine;decide) fun bk H10 g3 d3 S10=>?_;walk_at "w";refine Eg (by show 3<=sizeLine;decide) fun hU H11 h6 g7 S11=>?_;walk_at "w";refine Eg (by show 3<=sizeLine;decide) fun sd H12 c8 g2 S12=>?_;have S912:=S10.trans (S11.trans S12);have a3:=S912 _ _ (a9 d2);walk_at "w";refine HU a3 (Uq (show(dm xs).length<=3 by simpa[dm] using d5) (by decide)) fun H13 e1 K13=>?_;rw[KI (m:=dm xs) (gC fun n=>V.ref n.sd)] at e1;have c4:=(d6.same S912).kpD K13 a3 fun z=>F a8 (by rw[z];simp[SA.own]);obtain⟨i2,i3,e9,_⟩:=id c4;walk_at "w";refine En e9 Du ?_;walk_at "w";refine Eg (by show 3<=sizeLine;decide) fun L H14 j5 g6 S14=>?_;have c3:=c4.same S14;have c0:∀ {b o},H12 b=some o->b≠D->H14 b=some o:=fun e Z=>S14 _ _ (K13 _ _ e Z);walk_at "w";refine⟨S,L,n6,-6,4,3,[],0,[],[],[],rfl,c3,⟨g6,by decide,by decide,by decide,⟨by decide,by decide⟩,⟨by decide,by decide⟩⟩,by decide,fun Y fs g4 H15 e6 f6 e2 F15=>?_⟩;obtain rfl:fs=[none,none,none]:=Fw (m:=[]) (m':=[]) (fun _=>Iff.rfl) List.nodup_nil f6 sE;walk_at "w";refine GV ?_;walk_at "w"
   -- what is new stands apart
   have O:∀ {b},H9 b=none->H6 b=none:=fun {b} z=>by
    cases e:H6 b with
    |none=>rfl
    |some o=>rw[a9 e] at z;cases z
   have a4:=O g3;have a6:H6 sd=none:=O (Bc S10 (Bc S11 c8));have c6:H6 d9=none:=Bc S68 n9;have a2:∀ {b},H6 b=none->b∉S.p::S.own:=fun e=>c7.apart (l:=[_]) (fun b B=>by rw[Um.mp B];exact e) _ (by simp);have a0:∀ {b},H6 b=none->b≠D:=fun e z=>by rw[z,d2] at e;cases e
   have b0:∀ {b o},H12 b=some o->b≠D->b∉S.p::S.own->H15 b=some o:=fun e n1 n2=>F15 _ _ (c0 e n1) fun z=>n2 (Uf _ z);have a5:∀ {b o},H6 b=some o->b≠D->b∉S.p::S.own->H15 b=some o:=fun e=>b0 (S912 _ _ (a9 e));have F9:GD (D::S.own) H9 H15:=fun b o e Z=>F15 _ _ (c0 (S912 _ _ e) fun z=>Z (by simp[z])) fun z=>Z (Uf _ z)
   have h8:∀b∈D::S.own,∀ys,H9 b≠some (.tup ys):=fun b B ys z=>by
    rcases Ud.mp B with rfl|B
    ·rw[a9 d2] at z;cases z
    ·exact d6.noTup b B ys z
   have eb:bm (xs ++ [(M,(⟨⟨S,[],0,[],[],[Y]⟩,hd,[],sd,v,d9,bk,-6,4,3,0,[],0,[],[],hU,[.non,.non,.non],[none,none,none],L,Y⟩:Nm))])=Gd (bm xs ++ [(M,⟨S,[],0,[],[],[]⟩)]) M ⟨S,[],0,[],[],[Y]⟩:=by
    rw[bV f3];simp[bm]
   have h4:D∉BL x0 d0 (bm xs ++ [(M,⟨S,[],0,[],[],[]⟩)]):=fun z=>by
    rcases Gn.mp z with z|z|⟨q,hq,z⟩
    ·exact J.cd.2.2 (Gn.mpr (.inl z))
    ·exact J.cd.2.2 (Gn.mpr (.inr (.inl z)))
    ·rcases Uu.mp hq with hq|hq
     ·exact J.cd.2.2 (Gn.mpr (.inr (.inr ⟨q,hq,z⟩)))
     ·rw[Um.mp hq] at z;exact F a8 z
   have g5:=(b7.same S68).frL (l:=[v]) (GD.kp K9 (by simp)) (fun b B=>by rw[Um.mp B];exact b7.fresh b6) fun b B ys=>by rw[Um.mp B,f8];intro z;cases z
   have c5:=((g5.same S912).frL (l:=[D]) (GD.kp K13 (by simp)) (fun b B=>by rw[Um.mp B];exact h4) fun b B ys=>by rw[Um.mp B,a3];intro z;cases z).same S14
   have g9:AU a H15 0 (⟨⟨S,[],0,[],[],[Y]⟩,hd,[],sd,v,d9,bk,-6,4,3,0,[],0,[],[],hU,[.non,.non,.non],[none,none,none],L,Y⟩:Nm):=by
    refine⟨rfl,?_,?_,?_,?_,(show Bv S H15 [] [] from .nil),?_,?_,.cons .non (.cons .non (.cons .non .nil)),e6,?_,UX _,?_⟩<;>dsimp only
    ·exact a5 g0 (fun z=>by rw[z,J.si] at n4;cases n4) (F c9)
    ·exact b0 g2 (a0 a6) (a2 a6)
    ·exact f9.frL F9 (fun z=>(Ud.mp z).elim (a0 b6) fun z=>av (Uf _ z)) (fun z=>(Ud.mp z).elim (a0 c6) fun z=>a2 c6 (Uf _ z)) h8
    ·exact b0 ((S11.trans S12) _ _ d3) (a0 a4) (a2 a4)
    ·exact⟨fun _=>Iff.rfl,List.nodup_nil,(fun q hq=>by cases hq),.nil,Ue _,Ue _,Ue _,Ue _,fun q hq=>by cases hq⟩
    ·have:=O (Bc S10 h6);exact b0 (S12 _ _ g7) (a0 this) (a2 this)
    ·exact fun z=>by rw[z,S11 _ _ d3] at c8;cases c8
    ·decide
   have c1:∀b,b∈Nm.ob (⟨⟨S,[],0,[],[],[Y]⟩,hd,[],sd,v,d9,bk,-6,4,3,0,[],0,[],[],hU,[.non,.non,.non],[none,none,none],L,Y⟩:Nm)->H6 b=none:=fun b B=>by
    simp only[Nm.ob,Ud,Us,or_false] at B;rcases B with rfl|rfl|rfl|rfl
    ·exact a6
    ·exact b6
    ·exact c6
    ·exact a4
   have b9:∀b,Nm.dc (⟨⟨S,[],0,[],[],[Y]⟩,hd,[],sd,v,d9,bk,-6,4,3,0,[],0,[],[],hU,[.non,.non,.non],[none,none,none],L,Y⟩:Nm) b->b=hd:=fun b B=>B.elim id fun z=>by cases z
   refine⟨⟨_,_,rfl⟩,xs ++ [(M,(⟨⟨S,[],0,[],[],[Y]⟩,hd,[],sd,v,d9,bk,-6,4,3,0,[],0,[],[],hU,[.non,.non,.non],[none,none,none],L,Y⟩:Nm))],J.more (fun b o e Z=>?_) ?_ ?_ ?_ g9 (fun b B=>?_) fun b B=>?_,?_⟩
   ·simp only[Ud,Us,or_false,not_or] at Z;have e5:=K5 _ _ (S4 _ _ e) Z.1;exact a5 (K6 _ _ e5 Z.2.1) Z.2.2 (F e5)
   ·rw[eb];exact c5.deedL (Gi c5.bin.nd (v:=⟨S,[],0,[],[],[]⟩) (Uv _ (Um.mpr rfl))) rfl ⟨g4,e2⟩ (fun b o e Z=>F15 _ _ e Z) (fun b B=>.inl B) c3.noTup
   ·rw[show hm (xs ++ [(M,(⟨⟨S,[],0,[],[],[Y]⟩,hd,[],sd,v,d9,bk,-6,4,3,0,[],0,[],[],hU,[.non,.non,.non],[none,none,none],L,Y⟩:Nm))])=hm xs ++ [(M,V.ref hd)] from by simp[hm]];exact a5 d8 J.cd.1 (F f5)
   ·rw[show dm (xs ++ [(M,(⟨⟨S,[],0,[],[],[Y]⟩,hd,[],sd,v,d9,bk,-6,4,3,0,[],0,[],[],hU,[.non,.non,.non],[none,none,none],L,Y⟩:Nm))])=dm xs ++ [(M,V.ref sd)] from by simp[dm]];exact F15 _ _ (S14 _ _ e1) fun z=>F a8 (Uf _ z)
   ·rcases B with B|B|B
    ·exact l6 (c1 b B)
    ·rw[b9 b B];exact n4
    ·have:=e8 b B
     cases e:H3 b with
     |none=>rfl
     |some o=>
      by_cases c:b=C
      ·rw[c,f5] at this;cases this
      ·rw[K5 _ _ (S4 _ _ e) c] at this;cases this
   ·rcases B with B|B
    ·exact a2 (c1 b B)
    ·rw[b9 b B];exact F c9
   ·rw[Uy,a7,UR,a1];rfl
  ·rintro U H3 ⟨⟨v4,v5,rfl⟩,xs,J,a7⟩;walk_at "w";refine Eg (by show 2<=sizeLine;decide) fun l4 H4 n4 f4 S4=>?_;refine k l4 C D xs H4 f4 (J.same S4) ?_;rw[a7,Ug,UP]
local macro_rules|`(tactic|walk_at "rd")=>`(tactic|walk_at " ZD,ZH,Ck")
def qx(K:W.Frag):Sp:=fun vs H Q _=>∃(s:Addr) (ns:List Int),vs=[.ref s]/\Eh K H s (ns.map V.int)/\ns.length<=63/\∀H',Q (.bl true) H'
theorem Wd.nms{a:Ad}{H0 H:Hp}{x0 d0 C D:Addr}{N:Nat}{xs:List (Str×Nm)}(h:Wd a H0 H x0 d0 C D N xs)(J:xs.map (·.1)=_M.nms):(∀x∈xs,BI x.1=true)/\xs.length=3/\(bm xs).length=3/\∀k∈_M.nms,∃y,(k,y)∈xs:=by
 have L:xs.length=3:=by
  have:=congrArg List.length J;simpa[_M.nms] using this
 refine⟨fun x F=>bW _ (by rw[<- J];exact Ur.mpr ⟨x,F,rfl⟩),L,by simpa[bm] using L,fun k B=>?_⟩;rw[<- J] at B;obtain⟨x,F,rfl⟩:=Ur.mp B;exact⟨x.2,F⟩
theorem Wd.gets{a:Ad}{H0 H:Hp}{x0 d0 C D:Addr}{N:Nat}{xs:List (Str×Nm)}(h:Wd a H0 H x0 d0 C D N xs){k:Str}{y:Nm}(B:(k,y)∈xs):Ex (hm xs) k=some (.ref y.hd)/\Ex (dm xs) k=some (.ref y.sd)/\Ex (bm xs) k=some y.q:=
 ⟨Gi (by simpa[hm,UH,Function.comp_def] using h.nd) (Ur.mpr ⟨_,B,rfl⟩),Gi (by simpa[dm,UH,Function.comp_def] using h.nd) (Ur.mpr ⟨_,B,rfl⟩),by rw[Xk,Gi h.nd B];rfl⟩
theorem Bh:Eo ["_law_script","_law_board","_law_names","_law_begun_here","_law_curves","_law_sides","_law_k","_law_purse_here","_law_name","_law_store","_law_view"] ["_law_script"] (EU AI):=Es
theorem sF(T:Txt K mg a):Ec P w K mg base Ew 11 a.OM a.OI ["_law_script"] (qx K):=by
 refine T.Px.ok Bh fun j9 A g8 s H vs Q E O h=>?_
 ·obtain⟨s,ns,rfl,hS,hn,k⟩:=h;have hu:=Dc O;have b7:=O.units;refine⟨_,QB.h (EQ (Gb (i:=1) Bh.nd (jl T.PV (Lz T) O.m rfl T.Ph T.Rj .nil GK)) (EQ (Gb (i:=2) Bh.nd (Dd (EN Bx (EN Bx (EN Bx EO))))) (EQ (Gb (i:=3) Bh.nd (GE (yK T) O T.Oq T.ML.kp T.Op (EN (qv 1) (EN (qv 2) EO)))) (EQ (GO (Ee (IV) (qv 3) Gk (Ej _)) (ES (Ea Fg)) GC) (EQ (DE (qv 3) (yu (n:=2) K rfl rfl (EY (GN (i:=4) Bh.nd) (EY (GN (i:=5) Bh.nd) GW)))) (EQ (DU PassesOwn.never rfl (Dm rfl T.ZJ (EN (Ey (Wu rfl) rfl T.Y4 IT (EN ER (EN (Ey (Wv rfl) rfl T.Y5 IU (EN (Ey (Cw K rfl) rfl T.Zf CO (EN (qv 0) EO)) (EN ER EO))) EO))) EO)) (GN (i:=6) Bh.nd) (EQ (Gb (i:=7) Bh.nd (GE (wS T) O.m T.Oc T.ME.kp T.OU (EN (GE (hZ T) O.m T.Oy T.NK.kp T.Oz (EN (qv 0) (EN (qv 6) EO))) (EN (qv 6) EO)))) (EQ (Gb (i:=8) Bh.nd (Ei (DH K rfl) (qv 2) (GE (Do T) O.m T.ZP T.ZK.kp T.ZO (EN (qv 7) (EN ER EO))))) (EQ (GO (By (BW (GE (bU T) O T.PK T.NE.kp T.PH (EN (qv 1) (EN (qv 4) (EN (DI hu (qv 5) (qv 8)) (EN (qv 8) (EN (qv 7) EO)))))))) (ES (Ea Fg)) GC) (ES (GO (QW.pt (CS (Ee (Dk) (Eb Cu (qv 6) ER) ER (Ej _)) (BX (By (BW (GE (Xl T) O.m T.MB T.Qk.kp T.MM (EN (qv 1) (EN (qv 4) (EN (GB (EN (AG Bw ER) (EN ER (EN ER EO)))) (EN (GB (EN (AG Bw ER) (EN ER (EN ER EO)))) EO)))))))))) (ES (Ea Fg)) GC)))))) (EQ (DU PassesOwn.never rfl (DX K rfl (qv 2)) (GN (i:=8) Bh.nd) (EQ (Gb (i:=9) Bh.nd (GQ (qv 1) T.Zq T.Yg (FB T) O.m T.YW .nil GK (EN (qv 8) EO))) (EQ (Gb (i:=10) Bh.nd (Ei (DH K rfl) (DI hu (qv 5) (qv 8)) ER)) (EQ (GO (Ee (Wx K rfl b7) (BB (qv 9) T.ZE T.NC (qh T) O.m T.NS .nil GK) (Gy (Dq K rfl) rfl T.ZI Dp (EN (SI rfl rfl T.ZV (DI hu (qv 4) (qv 8))) EO)) (Ej _)) (ES (Ea Fg)) GC) (ES (GO (Ee (Wx K rfl b7) (BB (qv 10) T.ZD T.QL (Ko T) O.m T.Qu .nil GK) (GE (Kc T) O.m T.Qc T.Y6.kp T.QR (EN (DI hu (qv 4) (qv 8)) (EN (Eu K rfl (qv 10)) EO))) (Ej _)) (ES (Ea Fg)) GC)))))) (EQ (Gb (i:=10) Bh.nd (Ei (DH K rfl) (DI hu (qv 5) Bx) ER)) (ES (Ea (GE (Xl T) O.m T.MB T.Qk.kp T.MM (EN (qv 1) (EN (qv 4) (EN (Eu K rfl (qv 10)) (EN (GB (EN (AG Bw ER) (EN ER (EN ER EO)))) EO))))))))))))))),?_⟩;walk_at "s";walk_at "w";refine Lq fun x0 dx H1 n1 f1 S1=>?_;refine⟨x0,dx,rfl,f1,fun d0 H2 n2 g0 K2=>⟨rfl,?_⟩⟩;walk_at "w";refine Eg (by show 3<=sizeLine;decide) fun nl H3 n3 f3 S3=>?_;have d8:=g0.same S3;have g5:=d8.2.1;have S03:ET H H3:=fun b o e=>S3 _ _ (K2 _ _ (S1 _ _ e) (GJ e n1));have i1:H d0=none:=Bc S1 n2;have a4:∀ {H':Hp},Kp d0 H3 H'->ET H H':=fun kk b o e=>kk _ _ (S03 _ _ e) (GJ e i1);have b9:nl≠d0:=fun z=>by rw[z,g5] at f3;cases f3
  walk_at "w";refine⟨x0,d0,nl,rfl,d8,f3,fun l C D h5 H4 f4 w4 g7=>?_⟩;walk_at "w";refine GV ?_;walk_at "w";refine uf (Eh.of f4) rfl ?_;have k5:=(a4 w4.s0).seq hS;walk_at "w";generalize hj:(if(if(24:Int)<((ns.map V.int).length:Int) then(24:Int) else((ns.map V.int).length:Int))>1 then(if(24:Int)<((ns.map V.int).length:Int) then(24:Int) else((ns.map V.int).length:Int)) else 1)=j;have j3:1<=j:=by rw[<- hj];split<;>omega
  have j5:j<=24:=by rw[<- hj];split<;>(try split)<;>omega
  refine CQ (by omega) (by omega) (IW (fun i U H'=>(∃v6 v7 v8 v9 M,U=[some (.ref s),some (.ref x0),some (.ref nl),some (.ref l),some (.ref C),some (.ref D),v6,v7,v8,v9,M])/\∃xs,Wd a H3 H' x0 d0 C D i xs/\xs.map (·.1)=_M.nms) ⟨⟨_,_,_,_,_,rfl⟩,h5,w4,g7⟩ ?_ ?_)
  ·rintro i U H5 hi ⟨⟨v6,v7,v8,v9,M,rfl⟩,xs,w5,a8⟩;have j6:(i:Int)<24:=by omega
   obtain⟨g1,g2,g3,g4⟩:=w5.nms a8;have g6:=w5.bo.2.1;walk_at "w";refine⟨s,ns,_,rfl,(a4 w5.s0).seq hS,by omega,?_⟩;walk_at "w";refine⟨_,_,rfl,by omega,by omega,fun p H6 n6 P6 S6=>?_⟩;have J:=w5.same S6;have np:p∉BL x0 d0 (bm xs):=w5.bo.fresh n6
   have n0:H3 p=none:=by
    cases e:H3 p with
    |none=>rfl
    |some o=>rw[w5.s0 _ _ e fun z=>by rw[z,g6] at n6;cases n6] at n6;cases n6
   walk_at "w";refine⟨p,_,rfl,P6,by decide,by decide,fun d7 H7 h7 k4 P7 K7=>?_⟩;have w7:=J.pur P6 np n0 K7;obtain⟨n7,rfl⟩:∃n:Nat,d7=(n:Int):=⟨d7.toNat,by omega⟩;have d6:n7<_M.nms.length:=by show n7<3;omega
   have c5:H7 nl=some (.lst (_M.nms.map V.str)):=w7.s0 _ _ f3 b9;walk_at "w";refine CP (v:=.str _M.nms[n7]) (Eh.of c5) (DS (by rw[UC,Ub d6];rfl)) ?_;have e1:=Vg d6;generalize _M.nms[n7]=kn at e1;obtain⟨y,B⟩:=g4 kn e1;walk_at "w";refine Di w7.si (w7.gets B).2.1 ?_;walk_at "w";refine⟨H3,x0,d0,C,D,p,i,xs,kn,y,rfl,w7,B,g1 _ B,by omega,by omega,P7,np,n0,fun c1 H8 w8 h4=>?_⟩;have a3:=h4.trans a8;obtain⟨q1,q2,q3,q4⟩:=w8.nms a3;walk_at "w";refine GV ?_;walk_at "w";rw[BQ];refine GL (fun _=>?_) (fun _=>?_)
   ·walk_at "w";refine Eg (by show 3<=sizeLine;decide) fun q9 H9 n9 f9 S9=>?_;walk_at "w";refine Eg (by show 3<=sizeLine;decide) fun i3 H10 e7 b8 S10=>?_;walk_at "w";refine⟨H3,x0,d0,C,D,q9,i3,i+1,c1,-9,6,3,-9,5,4,rfl,w8.same (S9.trans S10),q1,by omega,by omega,S10 _ _ f9,⟨by decide,by decide,by decide,by decide,by decide,by decide⟩,⟨b8,by unfold Bn;decide,by decide,by unfold Bn;decide,by decide,by decide⟩,by decide,fun H11 a0=>?_⟩;walk_at "w";refine GV ?_;walk_at "w";exact⟨⟨_,_,_,_,_,rfl⟩,c1,a0,a3⟩
   ·walk_at "w";refine GV ?_;walk_at "w";exact⟨⟨_,_,_,_,_,rfl⟩,c1,w8,a3⟩
  ·rintro U H5 ⟨⟨v6,v7,v8,v9,M,rfl⟩,h6,w5,a8⟩;have i7:=w5.s0 _ _ f3 b9;have f6:j.toNat<=24:=by omega
   generalize j.toNat=N at w5 f6;walk_at "w";refine AY (xs:=_M.nms.map V.str) (fun i U H'=>(∃v6 v7 v8 v9 M,U=[some (.ref s),some (.ref x0),some (.ref nl),some (.ref l),some (.ref C),some (.ref D),v6,v7,v8,v9,M])/\∃xs,Wd a H3 H' x0 d0 C D (N+i) xs/\xs.map (·.1)=_M.nms) ?_ ?_ ?_ ?_
   ·exact⟨⟨_,_,_,_,_,rfl⟩,h6,w5,a8⟩
   ·rintro i U H6 _ ⟨_,xs,J,_⟩;exact Eh.of (J.s0 _ _ f3 b9)
   ·rintro i xv U H6 c6 ⟨⟨v6,v7,v8,v9,M,rfl⟩,xs,J,a6⟩;rw[UC] at c6;obtain⟨kn,c8,rfl⟩:=Vn.mp c6;have j7:i<3:=(Ui.mp c8).1;obtain⟨g1,g2,g3,g4⟩:=J.nms a6;obtain⟨y,B⟩:=g4 kn (Ux c8);obtain⟨⟨l0,i0⟩,_⟩:=id J.bo;walk_at "w";refine En i0 (Le (by decide +kernel)) ?_;walk_at "w";refine⟨x0,d0,bm xs,kn,rfl,g1 _ B,J.bo,by omega,fun q c3 H7 S7=>?_,fun hn=>by rw[(J.gets B).2.2] at hn;cases hn⟩;rw[(J.gets B).2.2] at c3;obtain rfl:=Option.some.inj c3;have w7:=J.same S7;have L:=w7.ok _ B;obtain⟨n7,a7⟩:=w7.bo.bin.st _ (Ur.mpr ⟨_,B,rfl⟩);dsimp only at L a7;have k6:=L.ls.m;have k7:=L.ls.eqv.len a7.nd L.ls.nd;have k2:=L.ls.t;have a2:=L.vb;walk_at "w";refine Di w7.si (w7.gets B).2.1 ?_;walk_at "w";refine CP (Eh.of L.sd) (DS (j:=0) rfl) ?_;obtain⟨k1,k9,g9,_⟩:=id a7;walk_at "w";refine En g9 Du ?_;refine⟨y.q.S,n7,y.q.sm,y.q.c,y.q.ds,y.q.ts,y.q.ws,rfl,a7,by omega,fun t8 h8 H8 h9 f0 e9 S8=>?_⟩;have w8:=w7.same S8;have a5:=w8.ok _ B;dsimp only at a5;walk_at "w";refine Di w8.cu (w8.gets B).1 ?_;walk_at "w";refine SJ a5.hd a5.ls.nd (by omega) fun l9 H9 e5 n9 e4 e3 k8 S9=>?_;obtain⟨f5,f9,i2⟩:=e4;walk_at "w";refine BJ (Eh.of f9) fun tt H10 e7 b8 S10=>?_;have S810:=S9.trans S10
    have h3:h8=e5:=Xx f0 e3.1 fun r=>by
     obtain⟨r1,r2⟩:=r;rw[e9,e3.2,Ga a5.ls.nd];exact a5.ls.eqv _
    walk_at "w";refine kz (h9.same S810) ⟨f5,b8,i2.same S10⟩ ?_;rw[decide_eq_true h3];have b0:=w8.same S810;have Y:=b0.ok _ B;obtain⟨e0,a1⟩:=b0.bo.bin.st _ (Ur.mpr ⟨_,B,rfl⟩);dsimp only at Y a1;obtain⟨f8,qv,d4,d2,i6,_⟩:=id Y.vw;have k0:=d2.2.2.1;walk_at "w";refine GV ?_;walk_at "w";refine En d4 CB ?_;refine⟨y.q.S,y.v,y.d,y.b,y.y,y.w,y.j,e0,y.kvs,y.e,y.q.sm,y.q.c,y.q.ds,y.q.ts,y.q.ws,rfl,a1,Y.vw,by omega,by omega,fun u us fs i5 j2 n5 H11 f2 c7 c4 i9 d3 d9 i8 j0 F11=>?_⟩
    obtain⟨a0,b6,_⟩:=b0.view (pl:=[]) (N':=N+(i+1)) B (by omega) (by simp) (F11.mono fun b hb=>by
     simp only[Ud,Us,or_false] at hb
     rcases hb with rfl | rfl | rfl<;>simp[SA.own]) d9 d3 (Ue _) ⟨by push_cast at a2 ⊢;omega,by push_cast at a2 ⊢;omega,a2.2.2.1,a2.2.2.2.1,by have:=a2.2.2.2.2;omega⟩ (.inl rfl)
    have Z:=a0.ok _ b6;dsimp only at Z;obtain⟨i4,d1,d5,F,j1,_⟩:=id Z.vw;dsimp only at d5 F;walk_at "w";refine Di a0.cu (a0.gets b6).1 ?_;walk_at "w";refine⟨y.hd,d1,y.m,y.b,y.y,y.w,rfl,Z.hd,Z.ls.nd,by omega,⟨F.1,F.2.1,F.2.2.1,F.2.2.2.1⟩,fun u6 j4 j8 H12 e6 e2 c9 S12=>?_⟩;obtain rfl:=Fw Y.ls.eqv a1.nd c4 c9;walk_at "w";refine wI (S12 _ _ f2) (c7.same S12) e6 e2 ?_;rw[decide_eq_true rfl];walk_at "w";refine GV ?_;walk_at "w";exact⟨⟨_,_,_,_,_,rfl⟩,_,a0.same S12,(FR (Gi b0.nd B)).trans a6⟩
   ·rintro U H6 ⟨⟨v6,v7,v8,v9,M,rfl⟩,xs,J,a6⟩;obtain⟨g1,g2,g3,g4⟩:=J.nms a6;obtain⟨y,B⟩:=g4 "a" (by decide +kernel);have a9:=J.ok _ B;dsimp only at a9;have c2:=a9.vb;walk_at "w";refine Di J.si (J.gets B).2.1 ?_;walk_at "w";refine CP (Eh.of a9.sd) (DS (j:=0) rfl) ?_;obtain⟨f8,qv,k3,c0,_⟩:=id a9.vw;walk_at "w";refine Eg (by show 3<=sizeLine;decide) fun h7 H7 n7 f7 S7=>?_;walk_at "w";have e8:(_M.nms.map V.str).length=3:=rfl;rw[e8] at J c2;push_cast at c2;refine⟨H3,x0,d0,C,D,qv,h7,N+3,xs,y.b,y.y,y.w,-12,4,6,rfl,J.same S7,g1,by omega,by omega,S7 _ _ c0.1,⟨by omega,by omega,c0.2.1,by omega,c0.2.2.1,c2.2.2.2.1⟩,⟨f7,by unfold Bn;decide,by decide,by unfold Bn;decide,by decide,by decide⟩,by decide,fun H8 _=>k H8⟩
end
structure Gs(K:W.Frag)(x:Str)(st:Stmt)(f:Addr)(d:FuncData):Prop where
 a:W.nsIn K mainGlobals x=some (some (.ref f))
 F:Ev K x x st f d
structure Dy(K:W.Frag)(C:Addr)(x q:Str)(st:Stmt)(f:Addr)(d:FuncData):Prop where
 a:W.findIn K (.ref C) x=some (some (.ref f))
 i:W.isFn K (.ref f)=true
 F:Ev K x q st f d
open PySem.W in
theorem all_mk{l:OpenLaw}{w:World}{K:Frag}{h:Heap}{mg:Str->Option Value}{fa:Addr}(X:K.In h)(G:h.Ns mainGlobals mg)(z0:mg "law"=some (.ref fa))
 {ZB ZA ZG ZC Zg Zs ZT Zd Zr Z6:Addr}
 {f0 f1 f2 f3 f4 f5 f6 f7 f8 f9 i7 m4 j9 o7 m2 r5 o4 w7 v2 y3 i9 m3 n0 u0 k4 j1 l4 r9 v5 l0 m7 e1 t7 o5 u7 w4 n6 s2 g1 r8 m8 v4 x9 k6 p1 w9 q0 p6 v7 x7 t1 x5 u3 s8 u8 o6 x3 k5 y4 r4 s9 t9 y7 o1 w1 s3 x4 r2 q4 w8 k7 s1 u9 j6 p5 q8 r6 t0 m1 j2 u4 i8 i4 x2 j7 p3 i1:Addr} {d0 d1 d2 d3 d4 d5 d6 d7 d8 d9 v0 v6 q6 j5 o8 j3 n7 q2 t3 v9 y0 y1 k8 t4 j0 u1 l6 v3 i6 u5 n3 k2 r0 m0 w3 p8 l7 x8 w6 i5 w2 r1 u2 l5 n9 q3 q7 o3 o0 s0 t6 m5 m9 q9 l3 r3 y6 m6 k9 k3 p4 y2 w5 k1 p9 q5 n4 s6 r7 n2 l8 j4 s7 s4 t8 j8 n5 n8 q1 p0 u6 v1 v8 y5:FuncData}
 {p7 h5:Option Addr} {x1:Array (Option Value)} {t5 g4 g6 g8 e5 h3:Value}
 {e4:Addr} {i0:Option Addr} {h6:Array (Option Value)} {i2:Value} {w0:Nat}
 {o2 g3:Option Addr} {o9:Array (Option Value)} {x6 g5 h4 g9 g2 g7:Value}
 {e9:Addr} {h9:Option Addr} {i3:Array (Option Value)} {h7:Value} {l9:Nat}
 {s5 e7:Option Addr} {k0:Array (Option Value)} {t2 e6 e2 e8 c9 g0:Value}
 {a5:Tok}
 {a6:Tok}
 {b6:Tok}
 {a1:Tok}
 (L:zI K "NoColumn" Zg)
 (M:zI K "NotHalf" Zs)
 (B:zI K "OutOfTimes" ZT)
 (J:zI K "NoSample" Zd)
 (O:zI K "NoWatch" Zr)
 (Y:zI K "NoName" Z6)
 (a3:wO K "Tree" ZB)
 (c1:findIn K (.ref ZB) "looks"=some none)
 (b0:findIn K (.ref ZB) "samples"=some none)
 (a4:findIn K (.ref ZB) "kept_fours"=some none)
 (Z:wO K "Store" ZA)
 (c0:findIn K (.ref ZA) "tree"=some none)
 (b7:findIn K (.ref ZA) "deeds"=some none)
 (c3:findIn K (.ref ZA) "done"=some none)
 (a7:findIn K (.ref ZA) "watches"=some none)
 (a0:wO K "Board" ZG)
 (a9:findIn K (.ref ZG) "stores"=some none)
 (a2:wO K "View" ZC)
 (b8:findIn K (.ref ZC) "source"=some none)
 (b9:findIn K (.ref ZC) "window"=some none)
 (c2:findIn K (.ref ZC) "asked"=some none)
 (c4:findIn K (.ref ZC) "known"=some none)
 (c5:findIn K (.ref ZC) "seen"=some none)
 (F0:Gs K "_wall" vB f0 d0)
 (F1:Gs K "is_whole" XS f1 d1)
 (F2:Gs K "curve_of" Fm f2 d2)
 (F3:Gs K "part_of" LI f3 d3)
 (F4:Gs K "column_of" II f4 d4)
 (F5:Gs K "times_of" KL f5 d5)
 (F6:Gs K "columns_of" HV f6 d6)
 (F7:Gs K "moved" zJ f7 d7)
 (F8:Gs K "widened" LJ f8 d8)
 (F9:Gs K "narrowed" KM f9 d9)
 (F10:Gs K "with_columns" Ii i7 v0)
 (F11:Gs K "height_of" SR m4 v6)
 (F12:Gs K "four_of" zy j9 q6)
 (F13:Gs K "joined" WJ o7 j5)
 (F14:Gs K "kept_of" LK m2 o8)
 (F15:Gs K "dots_of" Hv r5 j3)
 (F16:Gs K "dots_by" zz o4 n7)
 (F17:Gs K "column_dots" FV w7 q2)
 (F18:Gs K "rows_met" Fn v2 t3)
 (F19:Gs K "row_at" WK y3 v9)
 (F20:Gs K "row_of" WL i9 y0)
 (F21:Gs K "layers_text" FW m3 y1)
 (F22:Gs K "line_text" IJ n0 k8)
 (F23:Gs K "sign_at" LL u0 t4)
 (F24:Gs K "has_dot" qA k4 j0)
 (F25:Gs K "is_border" SU j1 u1)
 (F26:Gs K "check_borders" Hw l4 l6)
 (F27:Gs K "check_time" LM r9 v3)
 (F28:Gs K "check_window" Ay v5 i6)
 (F29:Gs K "stretches" IK l0 u5)
 (F30:Gs K "longest" LN m7 n3)
 (z5:findIn K (.ref ZB) "__init__"=some (some (.ref e1))) (A1:isFn K (.ref e1)=true)
 (z6:K.lookup e1=some ⟨t5,p7,.func (fnOf "__init__" "Tree.__init__" (DG Gz) (Gv Gz) (EU Gz) (.ref e4) g4 g6 g8 h5 e5 h3),x1⟩) (z3:codeIn K e5 "Tree.__init__"=true) (z7:keepIn K (.ref e1)=true)
 (e0:K.lookup e4=some ⟨i2,i0,.seq #[.none] w0,h6⟩)
 (F32:Dy K ZB "put" "Tree.put" XT t7 k2)
 (F33:Dy K ZB "take" "Tree.take" SV o5 r0)
 (F34:Dy K ZB "renew" "Tree.renew" HW u7 m0)
 (F35:Dy K ZB "four" "Tree.four" IL w4 w3)
 (F36:Dy K ZB "fours" "Tree.fours" HX n6 p8)
 (F37:Dy K ZB "told" "Tree.told" SW s2 l7)
 (y9:findIn K (.ref ZA) "__init__"=some (some (.ref g1))) (A0:isFn K (.ref g1)=true)
 (z1:K.lookup g1=some ⟨x6,o2,.func (fnOf "__init__" "Store.__init__" (DG DF) (Gv DF) (EU DF) (.ref e9) g5 h4 g9 g3 g2 g7),o9⟩) (z4:codeIn K g2 "Store.__init__"=true) (z2:keepIn K (.ref g1)=true)
 (e3:K.lookup e9=some ⟨h7,h9,.seq #[.none] l9,i3⟩)
 (F39:Dy K ZA "put" "Store.put" SX r8 x8)
 (F40:Dy K ZA "take" "Store.take" LO m8 w6)
 (F41:Dy K ZA "height" "Store.height" Ij v4 i5)
 (F42:Dy K ZA "check_sample" "Store.check_sample" Ai x9 w2)
 (F43:Dy K ZA "do" "Store.do" KN k6 r1)
 (F44:Dy K ZA "bring" "Store.bring" Kf p1 u2)
 (F45:Dy K ZA "undo" "Store.undo" HY w9 l5)
 (F46:Dy K ZA "times" "Store.times" Kg q0 n9)
 (F47:Dy K ZA "four" "Store.four" LP p6 q3)
 (F48:Dy K ZA "fours" "Store.fours" Kh v7 q7)
 (F49:Dy K ZA "told" "Store.told" LQ x7 o3)
 (F50:Dy K ZA "watch" "Store.watch" Ki t1 o0)
 (F51:Dy K ZA "news" "Store.news" Aj x5 s0)
 (F52:Gs K "is_name" LR u3 t6)
 (F53:Dy K ZG "__init__" "Board.__init__" HZ s8 m5)
 (F54:Dy K ZG "store" "Board.store" Kj u8 m9)
 (F55:Dy K ZG "names" "Board.names" Kk o6 q9)
 (F56:Dy K ZG "picture" "Board.picture" CI x3 l3)
 (F57:Dy K ZG "kept" "Board.kept" LS k5 r3)
 (F58:Gs K "known_in" KO y4 y6)
 (F59:Dy K ZC "__init__" "View.__init__" Hx r4 m6)
 (F60:Dy K ZC "fours" "View.fours" Ak s9 k9)
 (F61:Dy K ZC "forget" "View.forget" FX t9 k3)
 (F62:Dy K ZC "on" "View.on" qB y7 p4)
 (F63:Dy K ZC "wide" "View.wide" SY o1 y2)
 (F64:Dy K ZC "narrow" "View.narrow" Kl w1 w5)
 (F65:Dy K ZC "columns" "View.columns" Ik s3 k1)
 (F66:Dy K ZC "step_to" "View.step_to" Il x4 p9)
 (F67:Gs K "_law_cell" xM r2 q5)
 (F68:Gs K "_law_purse" qC q4 n4)
 (F69:Gs K "_law_draw" WM w8 s6)
 (F70:Gs K "_law_less" xN k7 r7)
 (F71:Gs K "_law_height" KP s1 n2)
 (F72:Gs K "_law_met" Lu u9 l8)
 (F73:Gs K "_law_rows" Ha j6 j4)
 (F74:Gs K "_law_dots" Az p5 s7)
 (F75:Gs K "_law_first" LU q8 s4)
 (F76:Gs K "_law_fours" Hy r6 t8)
 (F77:Gs K "_law_stepped" IM t0 j8)
 (F78:Gs K "_law_time" WN m1 n5)
 (F79:Gs K "_law_done" WO j2 n8)
 (F80:Gs K "_law_sign" WP u4 q1)
 (F81:Gs K "_law_picture" FE i8 p0)
 (F82:Gs K "_law_news" KQ i4 u6)
 (F83:Gs K "_law_begun" LV x2 v1)
 (F84:Gs K "_law_goes" WQ j7 v8)
 (F85:Gs K "_law_drawn" qD p3 y5)
 (n1:nsIn K mainGlobals "law"=some (some (.ref i1)))
 (z8:K.lookup i1=some ⟨t2,s5,.func (fnOf "law" "law" (DG AI) (Gv AI) (EU AI) .none e6 e2 e8 e7 c9 g0),k0⟩) (y8:codeIn K c9 "law"=true) (z9:keepIn K (.ref i1)=true)
 (c7:nsIn K mainGlobals "TOP_LEVEL"=some (some (.int 40 a5)))
 (c6:nsIn K mainGlobals "TIMES_END"=some (some (.int 1099511627776 a6)))
 (c8:nsIn K mainGlobals "LETTERS"=some (some (.str "abcdefghijklmnopqrstuvwxyz" b6)))
 (a8:nsIn K mainGlobals "LONGEST_NAME"=some (some (.int 8 a1)))
 (Qo:nsIn K mainGlobals "ValueError"=some none)
 (OC:nsIn K mainGlobals "abs"=some none)
 (OJ:nsIn K mainGlobals "all"=some none)
 (Mm:nsIn K mainGlobals "bool"=some none)
 (TW:nsIn K mainGlobals "dict"=some none)
 (OP:nsIn K mainGlobals "int"=some none)
 (Zb:nsIn K mainGlobals "isinstance"=some none)
 (Zf:nsIn K mainGlobals "len"=some none)
 (NH:nsIn K mainGlobals "list"=some none)
 (Y4:nsIn K mainGlobals "max"=some none)
 (Y5:nsIn K mainGlobals "min"=some none)
 (ZJ:nsIn K mainGlobals "range"=some none)
 (ZV:nsIn K mainGlobals "sorted"=some none)
 (OL:nsIn K mainGlobals "str"=some none)
 (ZI:nsIn K mainGlobals "tuple"=some none)
 (Mi:nsIn K mainGlobals "zip"=some none)
   : ∃fd:FuncData,(∀(s:Shared) (v:Value),BindsTo s fd ⟨[v],[]⟩ [("_law_script",v)])/\∀base:Heap,K.In base->base.Ns mainGlobals mg->Ec l.prog w K mg base Ew 11 fa fd ["_law_script"] (qx K):=by
  have e:=z0.symm.trans (mg_of X G n1);cases e;have F31:=uw (st:=Gz) z6 z3 z7;have F38:=uw (st:=DF) z1 z4 z2;have F86:=fun_mk (st:=AI) z8 y8 z9;have T:Txt K mg ⟨f0,d0,f1,d1,f2,d2,f3,d3,f4,d4,f5,d5,f6,d6,f7,d7,f8,d8,f9,d9,i7,v0,m4,v6,j9,q6,o7,j5,m2,o8,r5,j3,o4,n7,w7,q2,v2,t3,y3,v9,i9,y0,m3,y1,n0,k8,u0,t4,k4,j0,j1,u1,l4,l6,r9,v3,v5,i6,l0,u5,m7,n3,e1,fnOf "__init__" "Tree.__init__" (DG Gz) (Gv Gz) (EU Gz) (.ref e4) g4 g6 g8 h5 e5 h3,t7,k2,o5,r0,u7,m0,w4,w3,n6,p8,s2,l7,g1,fnOf "__init__" "Store.__init__" (DG DF) (Gv DF) (EU DF) (.ref e9) g5 h4 g9 g3 g2 g7,r8,x8,m8,w6,v4,i5,x9,w2,k6,r1,p1,u2,w9,l5,q0,n9,p6,q3,v7,q7,x7,o3,t1,o0,x5,s0,u3,t6,s8,m5,u8,m9,o6,q9,x3,l3,k5,r3,y4,y6,r4,m6,s9,k9,t9,k3,y7,p4,o1,y2,w1,w5,s3,k1,x4,p9,r2,q5,q4,n4,w8,s6,k7,r7,s1,n2,u9,l8,j6,j4,p5,s7,q8,s4,r6,t8,t0,j8,m1,n5,j2,n8,u4,q1,i8,p0,i4,u6,x2,v1,j7,v8,p3,y5,fa,fnOf "law" "law" (DG AI) (Gv AI) (EU AI) .none e6 e2 e8 e7 c9 g0,ZB,ZA,ZG,ZC,Zg,Zs,ZT,Zd,Zr,Z6,a5,a6,b6,a1⟩:=⟨F0.F,(F0.F.b1 fun _ _ _ _ _ _ _=>rfl),(mg_of X G F0.a),F1.F,(F1.F.b1 fun _ _ _ _ _ _ _=>rfl),(mg_of X G F1.a),F2.F,(F2.F.b1 fun _ _ _ _ _ _ _=>rfl),(mg_of X G F2.a),F3.F,(F3.F.b3 fun _ _ _ _ _ _ _ _ _=>rfl),(mg_of X G F3.a),F4.F,(F4.F.b2 fun _ _ _ _ _ _ _ _=>rfl),(mg_of X G F4.a),F5.F,(F5.F.b2 fun _ _ _ _ _ _ _ _=>rfl),(mg_of X G F5.a),F6.F,(F6.F.b1 fun _ _ _ _ _ _ _=>rfl),(mg_of X G F6.a),F7.F,(F7.F.b2 fun _ _ _ _ _ _ _ _=>rfl),(mg_of X G F7.a),F8.F,(F8.F.b1 fun _ _ _ _ _ _ _=>rfl),(mg_of X G F8.a),F9.F,(F9.F.b1 fun _ _ _ _ _ _ _=>rfl),(mg_of X G F9.a),F10.F,(F10.F.b2 fun _ _ _ _ _ _ _ _=>rfl),(mg_of X G F10.a),F11.F,(F11.F.b1 fun _ _ _ _ _ _ _=>rfl),(mg_of X G F11.a),F12.F,(F12.F.b1 fun _ _ _ _ _ _ _=>rfl),(mg_of X G F12.a),F13.F,(F13.F.b2 fun _ _ _ _ _ _ _ _=>rfl),(mg_of X G F13.a),F14.F,(F14.F.b1 fun _ _ _ _ _ _ _=>rfl),(mg_of X G F14.a),F15.F,(F15.F.b3 fun _ _ _ _ _ _ _ _ _=>rfl),(mg_of X G F15.a),F16.F,(F16.F.b3 fun _ _ _ _ _ _ _ _ _=>rfl),(mg_of X G F16.a),F17.F,(F17.F.b3 fun _ _ _ _ _ _ _ _ _=>rfl),(mg_of X G F17.a),F18.F,(F18.F.b3 fun _ _ _ _ _ _ _ _ _=>rfl),(mg_of X G F18.a),F19.F,(F19.F.b4 fun _ _ _ _ _ _ _ _ _ _=>rfl),(mg_of X G F19.a),F20.F,(F20.F.b3 fun _ _ _ _ _ _ _ _ _=>rfl),(mg_of X G F20.a),F21.F,(F21.F.b3 fun _ _ _ _ _ _ _ _ _=>rfl),(mg_of X G F21.a),F22.F,(F22.F.b3 fun _ _ _ _ _ _ _ _ _=>rfl),(mg_of X G F22.a),F23.F,(F23.F.b3 fun _ _ _ _ _ _ _ _ _=>rfl),(mg_of X G F23.a),F24.F,(F24.F.b2 fun _ _ _ _ _ _ _ _=>rfl),(mg_of X G F24.a),F25.F,(F25.F.b1 fun _ _ _ _ _ _ _=>rfl),(mg_of X G F25.a),F26.F,(F26.F.b2 fun _ _ _ _ _ _ _ _=>rfl),(mg_of X G F26.a),F27.F,(F27.F.b1 fun _ _ _ _ _ _ _=>rfl),(mg_of X G F27.a),F28.F,(F28.F.b1 fun _ _ _ _ _ _ _=>rfl),(mg_of X G F28.a),F29.F,(F29.F.b2 fun _ _ _ _ _ _ _ _=>rfl),(mg_of X G F29.a),F30.F,(F30.F.b2 fun _ _ _ _ _ _ _ _=>rfl),(mg_of X G F30.a),F31,(fun s us hI hl=>by match us,hl with | [_,_],_=>exact binds_K hI rfl e0 rfl rfl rfl),(fun s us hI hl=>have h8:us.length=1:=(by simpa using hl);match us,h8 with | [_],_=>binds_K hI rfl e0 rfl rfl rfl),(fun s u v hI=>binds_K hI rfl e0 rfl rfl rfl),F32.F,(F32.F.b3 fun _ _ _ _ _ _ _ _ _=>rfl),⟨F32.a,F32.i,F32.F.kp⟩,F33.F,(F33.F.b2 fun _ _ _ _ _ _ _ _=>rfl),⟨F33.a,F33.i,F33.F.kp⟩,F34.F,(F34.F.b3 fun _ _ _ _ _ _ _ _ _=>rfl),⟨F34.a,F34.i,F34.F.kp⟩,F35.F,(F35.F.b3 fun _ _ _ _ _ _ _ _ _=>rfl),⟨F35.a,F35.i,F35.F.kp⟩,F36.F,(F36.F.b2 fun _ _ _ _ _ _ _ _=>rfl),⟨F36.a,F36.i,F36.F.kp⟩,F37.F,(F37.F.b1 fun _ _ _ _ _ _ _=>rfl),⟨F37.a,F37.i,F37.F.kp⟩,F38,(fun s us hI hl=>by match us,hl with | [_,_],_=>exact binds_K hI rfl e3 rfl rfl rfl),(fun s us hI hl=>have h8:us.length=1:=(by simpa using hl);match us,h8 with | [_],_=>binds_K hI rfl e3 rfl rfl rfl),(fun s u v hI=>binds_K hI rfl e3 rfl rfl rfl),F39.F,(F39.F.b3 fun _ _ _ _ _ _ _ _ _=>rfl),⟨F39.a,F39.i,F39.F.kp⟩,F40.F,(F40.F.b2 fun _ _ _ _ _ _ _ _=>rfl),⟨F40.a,F40.i,F40.F.kp⟩,F41.F,(F41.F.b2 fun _ _ _ _ _ _ _ _=>rfl),⟨F41.a,F41.i,F41.F.kp⟩,F42.F,(F42.F.b2 fun _ _ _ _ _ _ _ _=>rfl),⟨F42.a,F42.i,F42.F.kp⟩,F43.F,(F43.F.b3 fun _ _ _ _ _ _ _ _ _=>rfl),⟨F43.a,F43.i,F43.F.kp⟩,F44.F,(F44.F.b3 fun _ _ _ _ _ _ _ _ _=>rfl),⟨F44.a,F44.i,F44.F.kp⟩,F45.F,(F45.F.b1 fun _ _ _ _ _ _ _=>rfl),⟨F45.a,F45.i,F45.F.kp⟩,F46.F,(F46.F.b1 fun _ _ _ _ _ _ _=>rfl),⟨F46.a,F46.i,F46.F.kp⟩,F47.F,(F47.F.b3 fun _ _ _ _ _ _ _ _ _=>rfl),⟨F47.a,F47.i,F47.F.kp⟩,F48.F,(F48.F.b2 fun _ _ _ _ _ _ _ _=>rfl),⟨F48.a,F48.i,F48.F.kp⟩,F49.F,(F49.F.b1 fun _ _ _ _ _ _ _=>rfl),⟨F49.a,F49.i,F49.F.kp⟩,F50.F,(F50.F.b2 fun _ _ _ _ _ _ _ _=>rfl),⟨F50.a,F50.i,F50.F.kp⟩,F51.F,(F51.F.b2 fun _ _ _ _ _ _ _ _=>rfl),⟨F51.a,F51.i,F51.F.kp⟩,F52.F,(F52.F.b1 fun _ _ _ _ _ _ _=>rfl),(mg_of X G F52.a),F53.F,(F53.F.b1 fun _ _ _ _ _ _ _=>rfl),F54.F,(F54.F.b2 fun _ _ _ _ _ _ _ _=>rfl),⟨F54.a,F54.i,F54.F.kp⟩,F55.F,(F55.F.b1 fun _ _ _ _ _ _ _=>rfl),⟨F55.a,F55.i,F55.F.kp⟩,F56.F,(F56.F.b3 fun _ _ _ _ _ _ _ _ _=>rfl),⟨F56.a,F56.i,F56.F.kp⟩,F57.F,(F57.F.b2 fun _ _ _ _ _ _ _ _=>rfl),⟨F57.a,F57.i,F57.F.kp⟩,F58.F,(F58.F.b2 fun _ _ _ _ _ _ _ _=>rfl),(mg_of X G F58.a),F59.F,(F59.F.b3 fun _ _ _ _ _ _ _ _ _=>rfl),F60.F,(F60.F.b1 fun _ _ _ _ _ _ _=>rfl),⟨F60.a,F60.i,F60.F.kp⟩,F61.F,(F61.F.b1 fun _ _ _ _ _ _ _=>rfl),⟨F61.a,F61.i,F61.F.kp⟩,F62.F,(F62.F.b2 fun _ _ _ _ _ _ _ _=>rfl),⟨F62.a,F62.i,F62.F.kp⟩,F63.F,(F63.F.b1 fun _ _ _ _ _ _ _=>rfl),⟨F63.a,F63.i,F63.F.kp⟩,F64.F,(F64.F.b1 fun _ _ _ _ _ _ _=>rfl),⟨F64.a,F64.i,F64.F.kp⟩,F65.F,(F65.F.b2 fun _ _ _ _ _ _ _ _=>rfl),⟨F65.a,F65.i,F65.F.kp⟩,F66.F,(F66.F.b2 fun _ _ _ _ _ _ _ _=>rfl),⟨F66.a,F66.i,F66.F.kp⟩,F67.F,(F67.F.b2 fun _ _ _ _ _ _ _ _=>rfl),(mg_of X G F67.a),F68.F,(F68.F.b2 fun _ _ _ _ _ _ _ _=>rfl),(mg_of X G F68.a),F69.F,(F69.F.b2 fun _ _ _ _ _ _ _ _=>rfl),(mg_of X G F69.a),F70.F,(F70.F.b2 fun _ _ _ _ _ _ _ _=>rfl),(mg_of X G F70.a),F71.F,(F71.F.b3 fun _ _ _ _ _ _ _ _ _=>rfl),(mg_of X G F71.a),F72.F,(F72.F.b3 fun _ _ _ _ _ _ _ _ _=>rfl),(mg_of X G F72.a),F73.F,(F73.F.b2 fun _ _ _ _ _ _ _ _=>rfl),(mg_of X G F73.a),F74.F,(F74.F.b3 fun _ _ _ _ _ _ _ _ _=>rfl),(mg_of X G F74.a),F75.F,(F75.F.b2 fun _ _ _ _ _ _ _ _=>rfl),(mg_of X G F75.a),F76.F,(F76.F.b2 fun _ _ _ _ _ _ _ _=>rfl),(mg_of X G F76.a),F77.F,(F77.F.b2 fun _ _ _ _ _ _ _ _=>rfl),(mg_of X G F77.a),F78.F,(F78.F.b2 fun _ _ _ _ _ _ _ _=>rfl),(mg_of X G F78.a),F79.F,(F79.F.b4 fun _ _ _ _ _ _ _ _ _ _=>rfl),(mg_of X G F79.a),F80.F,(F80.F.b3 fun _ _ _ _ _ _ _ _ _=>rfl),(mg_of X G F80.a),F81.F,(F81.F.b3 fun _ _ _ _ _ _ _ _ _=>rfl),(mg_of X G F81.a),F82.F,(F82.F.b3 fun _ _ _ _ _ _ _ _ _=>rfl),(mg_of X G F82.a),F83.F,(F83.F.b2 fun _ _ _ _ _ _ _ _=>rfl),(mg_of X G F83.a),F84.F,(F84.F.b5 fun _ _ _ _ _ _ _ _ _ _ _=>rfl),(mg_of X G F84.a),F85.F,(F85.F.b4 fun _ _ _ _ _ _ _ _ _ _=>rfl),(mg_of X G F85.a),F86,(F86.b1 fun _ _ _ _ _ _ _=>rfl),(mg_of X G n1),⟨a3.pg,a3.hd,a3.po,a3.sa⟩,(mg_of X G a3.a),⟨a3.mi,z5,A1,a3.kc⟩,c1,b0,a4,⟨Z.pg,Z.hd,Z.po,Z.sa⟩,(mg_of X G Z.a),⟨Z.mi,y9,A0,Z.kc⟩,c0,b7,c3,a7,⟨a0.pg,a0.hd,a0.po,a0.sa⟩,(mg_of X G a0.a),⟨a0.mi,F53.a,F53.i,a0.kc⟩,a9,⟨a2.pg,a2.hd,a2.po,a2.sa⟩,(mg_of X G a2.a),⟨a2.mi,F59.a,F59.i,a2.kc⟩,b8,b9,c2,c4,c5,L.ex,⟨L.ga,L.gt,L.cl,L.ob,L.be⟩,(mg_of X G L.a),M.ex,⟨M.ga,M.gt,M.cl,M.ob,M.be⟩,(mg_of X G M.a),B.ex,⟨B.ga,B.gt,B.cl,B.ob,B.be⟩,(mg_of X G B.a),J.ex,⟨J.ga,J.gt,J.cl,J.ob,J.be⟩,(mg_of X G J.a),O.ex,⟨O.ga,O.gt,O.cl,O.ob,O.be⟩,(mg_of X G O.a),Y.ex,⟨Y.ga,Y.gt,Y.cl,Y.ob,Y.be⟩,(mg_of X G Y.a),(mg_of X G c7),(mg_of X G c6),(mg_of X G c8),(mg_of X G a8),(mg_none_of X G Qo),(mg_none_of X G OC),(mg_none_of X G OJ),(mg_none_of X G Mm),(mg_none_of X G TW),(mg_none_of X G OP),(mg_none_of X G Zb),(mg_none_of X G Zf),(mg_none_of X G NH),(mg_none_of X G Y4),(mg_none_of X G Y5),(mg_none_of X G ZJ),(mg_none_of X G ZV),(mg_none_of X G OL),(mg_none_of X G ZI),(mg_none_of X G Mi)⟩;exact⟨fnOf "law" "law" (DG AI) (Gv AI) (EU AI) .none e6 e2 e8 e7 c9 g0,fun s v=>.of_eq rfl,fun base _ _=>sF T⟩
theorem walk{l:W.OpenLaw}{q:Program}{B:List Str}{XP:(Str->Option Value)->Heap->Prop}{YP:World->Heap->Prop}{d:DefRec}{K:Params->W.Frag}(O:l.most=some 63)(J:d.params.defaults=[])
  (L:∀(w:World) (h:Heap),YP w h->(K w.params).In h)
  (F:∀(w:World) (mg:Str->Option Value) (fa:Addr) (h:Heap),(K w.params).In h->h.Ns mainGlobals mg->mg d.name=some (.ref fa) ->
   ∃fd:FuncData,(∀(s:Shared) (u:Value),BindsTo s fd ⟨[u],[]⟩ [("_law_script",u)])/\∀base:Heap,(K w.params).In base->base.Ns mainGlobals mg->Ec l.prog w (K w.params) mg base Ew 11 fa fd ["_law_script"] (qx (K w.params))) :
  W.WalkO q B XP YP l.row.toRowW d [] (fun f vs=>PySem.call f vs):=
 _L.walk_of (n:=63) (k:=11) (x:="_law_script") (CX:=fun _=>Ew) (sp:=fun w=>qx (K w.params)) O (by decide) J ⟨rfl,by decide,by decide,rfl⟩ L F (fun _ _ a Z M _ Y=>⟨a,Z,rfl,Y,M,fun _=>rfl⟩) fun _ _ _ _ _ z=>z
end _M
structure PySem.W.Fast:Prop where
 (tw13182873558759811456 tw16698340686795897026 tw3940836164519508196 tw10525744176749488996 tw11549506158411353610 tw17013331504285707275 tw12622832173924364075 tw5678801996997994702 tw12095374454412645775 tw9530238885752396687 tw14444223192694214896 tw12524107609312900913 tw5568784183306939762 tw6017682056976186803 tw8917057410423987540 tw8852696570243267637 tw8506309718152574423 tw2325072190133762170 tw5411897573660762906 tw9485174600483437596 tw2823650313199760669 tw3874491037053022398 tw17060176788770201695 tw5398009233159701533 tw7389009713957191959 tw8515106242192684825 tw2686071028889176571 tw3346676495395299024 tw15300002876760061664 tw18012395744438602561 tw11267257233191618379 tw6152139092138639148 tw13393525507978727522 tw17329152491122471329 tw4746950918758994394 tw17740887705303299209 tw2143329005528005616 tw11746429876219059051 tw7899162355029111186 tw3181488052803902482 tw321405795447108185 tw5038373169859215390 tw17082246890163912983 tw3466886071462239623 tw16273407257436171978 tw9037465723781253076 tw15682080708357463429 tw7353375440070682919 tw6524463926965639149 tw4492062591159972326 tw4805867350232705826 tw9452978239202376189 tw13304328812610077238 tw14451769965712578731 tw9547248965961118248 tw3505469376746536250 tw12806343008096173264 tw7244936286190309930 tw15592497466025773183 tw17232352030643338978 tw657571729098836890 tw1892480250300798463 tw2529851599578158982 tw16468547450651454141 tw6642446991140139672 tw1773286631194895645 tw1310405041262054890 tw17591981737637096633 tw8549196313778589340 tw18439833919271071340 tw11496823289821993033 tw2512412025846606349 tw8268612589975449038 tw17135591748895707274 tw16128757280907273115 tw7149223584670684070 tw5685532142697251742 tw2036994180208975500 tw9655268439746526137 tw16450668162008357998 tw16634992697324241093 tw5253665965137753486 tw955899773911947557 tw7144365783288334955 tw14045607626572186372 tw14822406838136049756 tw15950353136690715873 tw6253951060113846084 tw10026174098714016001 tw15351616933612014015 tw8057637169666040104 tw16784976556015556501 tw5755060565892995436 tw11729004553952086439 tw16925356062057557427 tw1518207241686424703 tw10924612406970067801 tw4249840139108156741 tw7791682348666070073 tw18371401479449436613 tw17987755009892745250 tw5187770244080321382 tw13784077718321758771 tw5093694757686508528 tw15414240711720024120 tw6497966446627378463 tw15989765141822239061 tw1681148546223234823 tw14884995896572837272 tw4938861619794177099 tw13052596132877192412 tw7364396361440189451 tw13829140326528139812 tw18123665684715296371 tw17179996418087997993 tw15377444452718831689 tw6186291829067570597 tw10378082762594512304 tw14871815097440454313 tw15500751601786634948 tw3842457516235760628 tw11001925103468571917 tw14938828512325319573 tw13818245426916687300 tw17584862578884077617 tw5743285338982125078 tw6417454370631876284 tw3962634337618498089 tw3169868741831981822 tw12031904075740303007 tw11960639996612316117 tw3296656544869200873 tw17605120382595630744 tw13246815615824335860 tw10401922177807844948 tw9343267173770996040 tw13123301223124471314 tw3278138377176404478 tw9215557260240189095 tw8712383949268264594 tw17881749064813240436 tw7708688463273145713 tw11210427681837044281 tw386912233668715749 tw15445183926635320629 tw11352504315660307502 tw10027536822128410637 tw2260280183699425713 tw13064578354104110362 tw10153253109420154441 tw3480523543434131255 tw17068586162120400184 tw4708823395975494739 tw3319718499250492041 tw15446525826814926825 tw12114843572463402031 tw10433379200942715327 tw6731935958874231470 tw8882005090151803951 tw3716740975948687354 tw5328417269169438448 tw4722507875726991632 tw1182858212906390721 tw9665006736977556264 tw3768830748849378477 tw13274428919764576448 tw1748194310247219260 tw14434925787770042502 tw2933421128586270687 tw435446831213021405 tw15686195122313667179 tw14729499482585492866 tw6975828997382416086 tw12175596931957473519 tw10850663489647055088 tw5772461215137560586 tw5226693315272112987 tw8232686108575035449 tw6174088694334747458 tw17691443481659668558 tw17979912329679284266 tw5481594923356885565 tw13185601688337090019 tw12260745673526518302 tw12563034216283380622 tw17704417198868127847 tw18059453228539662610 tw94122922041474874 tw1803931442772049580 tw345936074590245789 tw4427153586535803357 tw7837654551535186445 tw6829841529478143275 tw1063071172858947326 tw7056790968878281038 tw9812660630615356376 tw4124215330374386561 tw2511586024360943049 tw17548421189664064730 tw18308629514093986946 tw17885295930496666816 tw13587759322840216369 tw11266005263696323432 tw14012000871072707792 tw85539587594572260 tw17699753435612004244 tw16140307627809712814 tw278793476025147642 tw3966250274938084112 tw10455901537852544815 tw8088742245552110757 tw10273490852977601832 tw16967145853588250431 tw7496744628676226538 tw6213740604633917424 tw7025070993025268156 tw7034832164486429584 tw7289274562551896282 tw10637500485860633311 tw4058394506671911482 tw7062416063930577208 tw3597640067676309175 tw12629667260208901130 tw3863651480293100276 tw8819286430105699364 tw11053787802979573617 tw13819100346058862447 tw8060441812079004533 tw16340735457041149983 tw2740562624316913274 tw3508070841492429724 tw2075839488292856991 tw14816354853518542395 tw12152842440782464395 tw15453620180986309496 tw10554356453362836619 tw16475927940979466030 tw14679654028445869599 tw5830391573511954361 tw14437460306347025777 tw11454484132625985674 tw489957416649613292 tw6098488036889418197 tw15495424522055947507 tw837613088442588403 tw17751848964064574357 tw10098507819089478794 tw2989167356606394744 tw13545054783664343491 tw15674090760524435485 tw9672962255111481232 tw7098997046269569871 tw6716191407386097855 tw15370322144459892954 tw15898394786740335683 tw12407637893809658623 tw3954495486037648454 tw5116085469187962128 tw17538502770347814938 tw11506624685712797519 tw14019461931459589800 tw7421224591669076107 tw5236266861889490259 tw4663915645353811601 tw9532069424826798166 tw4988437825067570430 tw9751778053238873687 tw581603543368110377 tw11370638443407088562 tw10659151376572745137 tw10454625818360671751 tw3380691788063665563 tw15018807673377436380 tw11138533928255775087 tw14775772454382536306 tw5686657547578848640 tw16612663674866923201 tw10853028221398962693 tw146037099986076511 tw4655899628451936391 tw855911189250315592 tw2420122230827573758 tw15230217518076485214 tw10369542211234317336 tw4415979932641486504 tw15431834284099107585 tw4362550897995243044 tw7083826029894728062 tw5591530861979842661 tw7989094586649462276 tw12283175668235860941 tw17702756977448837555 tw13991601500742167278 tw15283521814582160022 tw13877107880794490724 tw17492593791192821112 tw562154555649507409 tw14278889696994351831 tw14656132586224846098 tw10242386609458632514 tw8324136480385173004 tw3981579499304694464 tw16948808729166575473 tw506529983357825927 tw797808272949603789 tw5452485416293392614 tw6457406871834490217 tw17669563167896193077 tw13524634817926560399 tw10714001231809211027 tw10323041298090725973 tw3055398390537480464 tw1634214480524178310 tw15545143606473761200 tw14340479952946205169 tw13409978491692743934 tw10561239443812784067 tw8239681623752690692 tw6510418510064171734 tw17552005009821956138 tw878973904152920118 tw4224711308828245009 tw17090964679666192096 tw450192707325821671 tw10502238563343575454 tw15924285439943106967 tw6361561732749166895 tw3958389920204876297 tw16436613780074714440 tw10522285489305841220 tw9364948057354522069 tw13503553431922482730 tw2875936138090259954 tw14182163650952652647 tw440645578566186265 tw4270986784510004347 tw16019250882226753811 tw1026484458917503537 tw8482218328289771086 tw3520822584099026967 tw13239425298413279948 tw14214974944926761491 tw17320453142416996708 tw12637471958623911402 tw15632588562587252593 tw10707521641093489246 tw1051270304647738280 tw9598303592219058100 tw246446597311662129 tw11033322439959238067 tw10440479588075952207 tw14553709298989769222 tw13892196144160254977 tw15352642200213104320 tw14439762678890161305 tw9900694320272751960 tw18142637719889652910 tw421653288919015726 tw13162313660667310408 tw10335220964100605827 tw8555452233259398884 tw4933115953042720553 tw16393814406287541645 tw13861888938259206799 tw506734111088917391 tw7486867431939992696 tw16506620972815208906 tw12332928757476236405 tw4759697179870345376 tw4725306693237503963 tw8491582270230845556 tw5229434799109367235 tw4068897595849143114 tw3299678955905814179 tw16883080186012497340 tw12206375012005167242 tw10350445031053986998 tw6711810352170599221 tw15522548948016865958 tw49058474820652260 tw13320005904727342417 tw1240438672787491230 tw8435181757680031679 tw17906403317529474922 tw12256974532528830850 tw849646018202370077 tw798000776170274405 tw7150905747083570032 tw1585418473242863901 tw10216897688437729609 tw2817191329139391007 tw827336264128187142 tw9330630314226499999 tw13067573944373481376 tw9413423014271902009 tw11484562999776587187 tw5546685493131573726 tw11366757742792230918 tw13921065889442045866 tw3153630992344635571 tw18031078780606625183 tw504158188353934420:True)
open PySem PySem.W PyProof.Rows
set_option maxRecDepth 100000 in
set_option maxHeartbeats 0 in
theorem PySem.Challenge.cw_fourpoints_k91_whole_deeds_by_the_script_holds : PySem.Challenge.rw_fourpoints_k91_whole_deeds_by_the_script.Holds := by
 w_on;o_law;k_head;(case hw=>w_witness2)
 k_fill
 refine _M.walk (l:=PySem.Challenge.rw_fourpoints_k91_whole_deeds_by_the_script) rfl rfl (fun w h Y=>PySem.W.kIn_of Y) ?F
 case F=>
  intro w mg fa h KX G B
  refine' _M.all_mk KX G B ?taa ?tab ?tac ?tad ?tae ?taf ?tag ?tah ?tai ?taj ?tak ?tal ?tam ?tan ?tao ?tap ?taq ?tar ?tas ?tat ?tau ?tav ?taw ?tax ?tay ?taz ?tba ?tbb ?tbc ?tbd ?tbe ?tbf ?tbg ?tbh ?tbi ?tbj ?tbk ?tbl ?tbm ?tbn ?tbo ?tbp ?tbq ?tbr ?tbs ?tbt ?tbu ?tbv ?tbw ?tbx ?tby ?tbz ?tca ?tcb ?tcc ?tcd ?tce ?tcf ?tcg ?tch ?tci ?tcj ?tck ?tcl ?tcm ?tcn ?tco ?tcp ?tcq ?tcr ?tcs ?tct ?tcu ?tcv ?tcw ?tcx ?tcy ?tcz ?tda ?tdb ?tdc ?tdd ?tde ?tdf ?tdg ?tdh ?tdi ?tdj ?tdk ?tdl ?tdm ?tdn ?tdo ?tdp ?tdq ?tdr ?tds ?tdt ?tdu ?tdv ?tdw ?tdx ?tdy ?tdz ?tea ?teb ?tec ?ted ?tee ?tef ?teg ?teh ?tei ?tej ?tek ?tel ?tem ?ten ?teo ?tep ?teq ?ter ?tes ?tet ?teu ?tev ?tew ?tex ?tey ?tez ?tfa ?tfb ?tfc ?tfd ?tfe ?tff ?tfg ?tfh ?tfi ?tfj ?tfk ?Ca ?tfm
  (case taa|tab|tac|tad|tae|taf=>(refine' ⟨?a,?b,?c,?d,?e,?f,?g⟩;(case a=>k_is);(case b=>k_exc);(case c=>k_is);(case d=>k_is);(case e=>k_is);(case f=>k_is);(case g=>k_is)))
  (case tag=>(refine' ⟨?a,?b,?c,?d,?e,?f,?g⟩;(case a=>k_is);(case b=>k_is);(case c=>k_is);(case d=>k_is);(case e=>k_is);(case f=>k_is);(case g=>k_is)))
  (case tah|tai|taj=>k_is)
  (case tak=>(refine' ⟨?a,?b,?c,?d,?e,?f,?g⟩;(case a=>k_is);(case b=>k_is);(case c=>k_is);(case d=>k_is);(case e=>k_is);(case f=>k_is);(case g=>k_is)))
  (case tal|tam|tan|tao=>k_is)
  (case tap=>(refine' ⟨?a,?b,?c,?d,?e,?f,?g⟩;(case a=>k_is);(case b=>k_is);(case c=>k_is);(case d=>k_is);(case e=>k_is);(case f=>k_is);(case g=>k_is)))
  (case taq=>k_is)
  (case tar=>(refine' ⟨?a,?b,?c,?d,?e,?f,?g⟩;(case a=>k_is);(case b=>k_is);(case c=>k_is);(case d=>k_is);(case e=>k_is);(case f=>k_is);(case g=>k_is)))
  (case tas|tat|tau|tav|taw=>k_is)
  (case tax|tay|taz|tba|tbb|tbc|tbd|tbe|tbf|tbg|tbh|tbi|tbj|tbk|tbl|tbm|tbn|tbo|tbp|tbq|tbr|tbs|tbt|tbu|tbv|tbw|tbx|tby|tbz|tca|tcb=>(refine' ⟨?a,_L.fun_mk ?b ?c ?d⟩;(case a=>k_is);(case b=>k_is);(case c=>k_is);(case d=>k_is)))
  (case tcc|tcd|tce|tcf|tcg|tch=>k_is)
  (case tci|tcj|tck|tcl|tcm|tcn=>(refine' ⟨?a,?b,_L.fun_mk ?c ?d ?e⟩;(case a=>k_is);(case b=>k_is);(case c=>k_is);(case d=>k_is);(case e=>k_is)))
  (case tco|tcp|tcq|tcr|tcs|tct=>k_is)
  (case tcu|tcv|tcw|tcx|tcy|tcz|tda|tdb|tdc|tdd|tde|tdf|tdg=>(refine' ⟨?a,?b,_L.fun_mk ?c ?d ?e⟩;(case a=>k_is);(case b=>k_is);(case c=>k_is);(case d=>k_is);(case e=>k_is)))
  (case tdh=>(refine' ⟨?a,_L.fun_mk ?b ?c ?d⟩;(case a=>k_is);(case b=>k_is);(case c=>k_is);(case d=>k_is)))
  (case tdi|tdj|tdk|tdl|tdm=>(refine' ⟨?a,?b,_L.fun_mk ?c ?d ?e⟩;(case a=>k_is);(case b=>k_is);(case c=>k_is);(case d=>k_is);(case e=>k_is)))
  (case tdn=>(refine' ⟨?a,_L.fun_mk ?b ?c ?d⟩;(case a=>k_is);(case b=>k_is);(case c=>k_is);(case d=>k_is)))
  (case tdo|tdp|tdq|tdr|tds|tdt|tdu|tdv=>(refine' ⟨?a,?b,_L.fun_mk ?c ?d ?e⟩;(case a=>k_is);(case b=>k_is);(case c=>k_is);(case d=>k_is);(case e=>k_is)))
  (case tdw|tdx|tdy|tdz|tea|teb|tec|ted|tee|tef|teg|teh|tei|tej|tek|tel|tem|ten|teo=>(refine' ⟨?a,_L.fun_mk ?b ?c ?d⟩;(case a=>k_is);(case b=>k_is);(case c=>k_is);(case d=>k_is)))
  (case tep|teq|ter|tes|tet|teu|tev|tew|tex|tey|tez|tfa|tfb|tfc|tfd|tfe|tff|tfg|tfh|tfi|tfj|tfk|Ca|tfm=>k_is)
