import PyProof.Rows.All
import Wide.All
import OpenK.AllK
import Wide.FinOn
import PyProof.EqAt
import PyProof.EqKinds
import PyProof.TupleCall
import KE.BitLaws
import PyProof.EnumStmt
import PyProof.Rows.CountFlat
import PyProof.ExcBaseAll.Exception
import PyProof.ExcAttrAll.Exception
import Open.SpecLaws
import KE.OsHead
import KE.OsGo
import PySem.Challenge.RW_measuretext_s04_show
open List (mem_cons_self mem_cons_of_mem mem_append_left mem_append_right size_toArray length_cons map_cons length_map append_nil of_mem_zip length_take getElem?_map mem_of_getElem? length_append length_drop all_cons any_cons reverse_cons length_singleton map_nil all_map lookup_cons mem_cons find?_cons drop_zero take_succ_cons drop_eq_getElem_cons append_assoc drop_drop take_of_length_le drop_length nil_append drop_left take_length length_nil getElem?_eq_getElem take_succ map_append takeWhile_cons dropWhile_cons takeWhile_append_of_pos headD_cons foldl_cons replicate_succ any_map drop_succ_cons map_map drop_eq_nil_of_le getElem?_reverse not_mem_nil cons_append mem_append reverse_append flatMap_append length_reverse flatMap_cons sum_cons)
open Nat (ne_of_gt zero_le lt_succ_self le_succ le_of_succ_le add_zero add_comm zero_add sub_zero mul_comm add_assoc add_sub_cancel_left)
open Bool (and_eq_true false_eq_true)
open Int (natCast_inj)
open Vaunid (factorText MOSTSIGNS measureText digitsValue fits numberText secondRow wordToken numberToken signToken token minusDigit Res fault tokens coreSigns isTaken Core coreTerm want wantName wantDigit Term coreForm formOne formTwo formThree readCore allTokens Leaf Two isName decimal Lit depths fitted answerText long)
open PySem.W (instObj lookIn plainGet hasDictIn isFn looks_clsIn emptyDict looks_findIn keepIn mroIn kitOne kia_one callWith_K fnOf codeIn clsIn)
set_option Elab.async false
set_option linter.all false
set_option maxRecDepth 100000
local macro_rules
 | `(tactic| omega) => `(tactic| lia)
namespace Internal
namespace L2
open PySem PySem.Spec PyProof.Rows
abbrev Key:=Sum Int Str
def i4_:Key->Value->Bool
 | .inl k,v=>Value.isInt k v
 | .inr x,v=>Value.isStrOf x v
noncomputable def keyH (w:World):Key->Int
 | .inl k=>hashInt k
 | .inr x=>hashStr w x
theorem a0_ : ∀ {k:Key}{v:Value},i4_ k v=true->(∃ i t,k=Sum.inl i/\v=Value.int i t)\/(∃ x t,k=Sum.inr x/\v=Value.str x t)
 | .inl i,v,h=>by
  obtain ⟨t,e⟩:=Value.isInt_shape (k:=i) (v:=v) h;exact .inl ⟨i,t,rfl,e⟩
 | .inr x,v,h=>by
  obtain ⟨t,e⟩:=Value.isStrOf_shape (x:=x) (v:=v) h;exact .inr ⟨x,t,rfl,e⟩
theorem kE_ (i:Int) (t:Tok):i4_ (.inl i) (.int i t)=true:=by simp [i4_,Value.isInt]
theorem kD_ (x:Str) (t:Tok):i4_ (.inr x) (.str x t)=true:=by simp [i4_,Value.isStrOf]
theorem oN_ (a b:Int):decide ((Sum.inl a:Key)=Sum.inl b)=(a == b):=by
 by_cases e:a=b
 ·subst e;simp
 have h : ¬ (Sum.inl a:Key)=Sum.inl b:=fun q=>e (Sum.inl.inj q);rw [decide_eq_false h];exact (beq_eq_false_iff_ne.mpr e).symm
theorem oK_ (a b:Str):decide ((Sum.inr a:Key)=Sum.inr b)=decide (a=b):=by
 by_cases e:a=b
 ·subst e;simp
 have h : ¬ (Sum.inr a:Key)=Sum.inr b:=fun q=>e (Sum.inr.inj q);rw [decide_eq_false h,decide_eq_false e]
theorem oM_ (a:Int) (b:Str):decide ((Sum.inl a:Key)=Sum.inr b)=false:=decide_eq_false (fun q=>nomatch q)
theorem oL_ (a:Str) (b:Int):decide ((Sum.inr a:Key)=Sum.inl b)=false:=decide_eq_false (fun q=>nomatch q)
noncomputable def bE_ (prog:Program) (w:World):PySem.KeyKind prog w Key where
 is:=i4_
 hash:=keyH w
 inj:=fun v a b ha hb=>by
  rcases a0_ ha with ⟨i,t,rfl,rfl⟩ | ⟨x,t,rfl,rfl⟩
  ·rcases a0_ hb with ⟨j,u,rfl,e⟩ | ⟨y,u,rfl,e⟩
   ·injection e with e1 _;rw [e1]
   exact nomatch e
  rcases a0_ hb with ⟨j,u,rfl,e⟩ | ⟨y,u,rfl,e⟩
  ·exact nomatch e
  injection e with e1 _;rw [e1]
 byValue:=fun k v h=>by
  rcases a0_ h with ⟨i,t,rfl,rfl⟩ | ⟨x,t,rfl,rfl⟩ <;> rfl
 pyHash:=fun hv h=>by
  rcases a0_ hv with ⟨i,t,rfl,rfl⟩ | ⟨x,t,rfl,rfl⟩
  ·exact wpAny_pyHash_int h
  exact wpAny_pyHash_str h
 eqBool:=fun hu hv h=>by
  rcases a0_ hu with ⟨i,t,rfl,rfl⟩ | ⟨x,t,rfl,rfl⟩
  ·rcases a0_ hv with ⟨j,u,rfl,rfl⟩ | ⟨y,u,rfl,rfl⟩
   ·rw [oN_] at h;exact wpAny_eqBool_int h
   rw [oM_] at h;exact SeqAt.EqAt.int_str i t y u _ _ _ _ h
  rcases a0_ hv with ⟨j,u,rfl,rfl⟩ | ⟨y,u,rfl,rfl⟩
  ·rw [oL_] at h;exact SeqAt.EqAt.str_int x t j u _ _ _ _ h
  rw [oK_] at h;exact wpAny_eqBool_str h
 «strs» := fun k x t v h=>by
  rcases a0_ h with ⟨i,u,rfl,e⟩ | ⟨y,u,rfl,e⟩
  ·exact nomatch e
  injection e with e1 _;subst e1;cases v <;> rfl
theorem hA_ (prog:Program) (w:World) (i:Int) (t:Tok):(bE_ prog w).is (.inl i) (.int i t)=true:=kE_ i t
theorem eF_ (prog:Program) (w:World) (x:Str) (t:Tok):(bE_ prog w).is (.inr x) (.str x t)=true:=kD_ x t
end L2
namespace L2
open PySem PySem.Spec PyProof.Rows
inductive V where
 | non | bl (b:Bool) | int (i:Int) | str (x:Str) | byt (b:Array UInt8) | flt (b:UInt64) | ref (a:Addr) | ty (n:String)
 deriving DecidableEq
def RelV:V->Value->Prop
 | .non,u=>u=Value.none
 | .bl b,u=>u=Value.bool b
 | .int i,u=>∃ t,u=Value.int i t
 | .str x,u=>∃ t,u=Value.str x t
 | .byt b,u=>∃ t,u=Value.bytes b t
 | .flt b,u=>∃ t,u=Value.float b t
 | .ref a,u=>u=Value.ref a
 | .ty n,u=>u=Value.type n
abbrev Vals:List V->List Value->Prop:=Paired RelV
theorem Vals.length {xs:List V}{us:List Value} (r:Vals xs us):xs.length=us.length:=Paired.length r
theorem Vals.get : ∀ {xs:List V}{us:List Value}{i:Nat}{x:V},Vals xs us->xs[i]? = some x->∃ u,us[i]? = some u/\RelV x u
 | _,_,_,_,.nil,e=>by simp at e
 | _,_,0,_,.cons r _,e=>by simp at e;subst e;exact ⟨_,rfl,r⟩
 | _,_,i+1,x,.cons _ t,e=>by
  obtain ⟨u,h1,h2⟩:=Vals.get (i:=i) (x:=x) t (by simpa using e);exact ⟨u,by simpa using h1,h2⟩
theorem Vals.set {x:V}{u:Value} (r:RelV x u) : ∀ {xs:List V}{us:List Value} (i:Nat),Vals xs us->Vals (xs.set i x) (us.set i u)
 | _,_,_,.nil => .nil
 | _,_,0,.cons _ t => .cons r t
 | _,_,i+1,.cons q t => .cons q (Vals.set r i t)
theorem Vals.append : ∀ {xs ys:List V}{us ws:List Value},Vals xs us->Vals ys ws->Vals (xs++ys) (us++ws)
 | _,_,_,_,.nil,s=>s
 | _,_,_,_,.cons r t,s => .cons r (Vals.append t s)
theorem Vals.take : ∀ {xs:List V}{us:List Value} (n:Nat),Vals xs us->Vals (xs.take n) (us.take n)
 | _,_,0,_ => .nil
 | _,_,_+1,.nil => .nil
 | _,_,n+1,.cons r t => .cons r (Vals.take n t)
theorem Vals.drop : ∀ {xs:List V}{us:List Value} (n:Nat),Vals xs us->Vals (xs.drop n) (us.drop n)
 | _,_,0,r=>r
 | _,_,_+1,.nil => .nil
 | _,_,n+1,.cons _ t=>Vals.drop n t
def RelO:Option V->Option Value->Prop
 | some v,some u=>RelV v u
 | none,none=>True
 | _,_=>False
def KV {κ:Type}:List (κ×V)->List (κ×Value)->Prop:=Paired fun (p:κ×V) (q:κ×Value)=>p.1=q.1/\RelV p.2 q.2
def kV:Key->V
 | .inl i => .int i
 | .inr x => .str x
inductive HO where
 | lst (xs:List V)
 | tup (xs:List V)
 | dK (kvs:List (Key×V)) | dT (kvs:List (List Key×V))
 | set (S:Int->Bool) (n:Nat)
 | ins (C dx:Addr) (fs:List (Str×V))
 | own (x:Addr)
 | xd (fs:List (Str×V))
 | met (f x:Addr)
 | rng (lo hi:Int)
 | frz (o:Obj) (u:HO)
 | tbl (ps:Array Value)
 | ext (φ:Heap->Prop)
abbrev Hp:=Addr->Option HO
noncomputable def upd (H:Hp) (a:Addr) (o:HO):Hp:=fun b=>if b=a then some o else H b
theorem ab_ {H:Hp}{a:Addr}{o:HO}:upd H a o a=some o:=by unfold upd;rw [if_pos rfl]
theorem al_ {H:Hp}{a b:Addr}{o:HO} (h:b≠a):upd H a o b=H b:=by unfold upd;rw [if_neg h]
theorem fH_ {H:Hp}{a:Addr}{o u:HO}:upd (upd H a o) a u=upd H a u:=by
 funext b;unfold upd;split <;> rfl
theorem bG_ {H:Hp}{a b:Addr}{o u:HO} (h:H a=some o) (h':H b=some u) (d:o≠u):a≠b:=by
 intro e;subst e;rw [h] at h';exact d (Option.some.inj h')
theorem ag_ {H:Hp}{a b:Addr}{o:HO} (h:H a=some o) (h':H b=none):a≠b:=by
 intro e;subst e;rw [h] at h';cases h'
section
variable (P:Program) (w:World)
def a8_ (H:Hp) (h:Heap) (a:Addr):HO->Prop
 | .lst xs=>xs.length<=sizeLine/\∃ (its:List Value) (n:Nat),Vals xs its/\h.get? a=some { cls := .type "list",data := .seq its.toArray n }
 | .tup xs=>xs.length<=sizeLine/\∃ its:List Value,Vals xs its/\IsTup h a its.toArray
 | .dK kvs=>kvs.length<=sizeLine/\(a == sysModules)=false/\∃ vs,KV kvs vs/\h.DictOf (bE_ P w) a vs
 | .dT kvs=>kvs.length<=sizeLine/\(a == sysModules)=false/\∃ xs:List (List Key×Addr×Value),
   Paired (fun (p:List Key×V) (q:List Key×Addr×Value)=>p.1=q.1/\H q.2.1=some (.tup (p.1.map kV))/\RelV p.2 q.2.2) kvs xs /\
   ∃ o es ep,h.get? a=some o/\o.ExactDict/\o.data = .dict es ep/\es.toList=xs.map (entryOfKey (tupleKind (bE_ P w)))/\(xs.map (·.1)).Nodup
 | .set S n=>h.SetOf (intKind P w) a S n
 | .ins C dx fs=>H dx=some (.own a)/\fs.length<=1000/\dx≠a/\h.get? a=some (instObj C dx) /\
   ∃ mA,h.Ns1 dx mA/\(∀ f,RelO (fs.lookup f) (mA f))/\PySem.Within mA (fs.map (·.1))
 | .own _=>∃ o,h.get? a=some o
 | .xd fs=>∃ mA,h.Ns1 a mA/\∀ f,RelO (fs.lookup f) (mA f)
 | .rng lo hi=>∃ t u v,h.get? a=some { cls := .type "range",data := .fields #[.int lo t,.int hi u,.int 1 v] }
 | .frz o u=>h.get? a=some o/\a8_ H h a u
 | .tbl ps=>h.get? a=some { cls := .none,data := .fields ps }
 | .met f x=>h.get? a=some (PySem.W.methodObj (.ref f) (.ref x))
 | .ext φ=>φ h/\(∃ o,h.get? a=some o)/\∀ h1 h2:Heap,φ h1->(∀ o,h1.get? a=some o->h2.get? a=some o)->φ h2
def HOk (H:Hp) (h:Heap):Prop:=∀ a o,H a=some o->a8_ P w H h a o
end
section
variable {P:Program}{w:World}{H H':Hp}{h h':Heap}{a:Addr}{o:HO}
theorem a8_.lt (x:a8_ P w H h a o):a<h.objs.size:=by
 cases o with
 | lst xs=>obtain ⟨_,_,_,_,e⟩:=x;exact Heap.lt_size e
 | tup xs=>obtain ⟨_,_,_,p⟩:=x;exact p.lt
 | dK kvs=>obtain ⟨_,_,_,_,o,_,_,e,_⟩:=x;exact Heap.lt_size e
 | dT kvs=>obtain ⟨_,_,_,_,o,_,_,e,_⟩:=x;exact Heap.lt_size e
 | set S n=>obtain ⟨o,_,_,_,e,_⟩:=x;exact Heap.lt_size e
 | ins C dx fs=>obtain ⟨_,_,_,e,_⟩:=x;exact Heap.lt_size e
 | own y=>obtain ⟨_,e⟩:=x;exact Heap.lt_size e
 | xd fs=>obtain ⟨_,⟨_,_,_,e,_⟩,_⟩:=x;exact Heap.lt_size e
 | rng lo hi=>obtain ⟨_,_,_,e⟩:=x;exact Heap.lt_size e
 | frz ob u=>obtain ⟨e,_⟩:=x;exact Heap.lt_size e
 | tbl ps=>exact Heap.lt_size (show h.get? a=some _ from x)
 | met f y=>exact Heap.lt_size (show h.get? a=some _ from x)
 | ext φ=>obtain ⟨_,⟨_,e⟩,_⟩:=x;exact Heap.lt_size e
theorem Paired.mapP {α β:Type}{F G:α->β->Prop} : ∀ {l₁:List α}{l₂:List β},Paired F l₁ l₂->(∀ a b,F a b->G a b)->Paired G l₁ l₂
 | _,_,.nil,_ => .nil
 | _,_,.cons r t,f => .cons (f _ _ r) (Paired.mapP t f)
theorem a8_.stay (x:a8_ P w H h a o) (k : ∀ b u,(b=a\/H b=some (.own a))->h.get? b=some u->h'.get? b=some u)
  (ho : ∀ b,H b=some (.own a)->H' b=some (.own a)) (ht : ∀ b xs,H b=some (.tup xs)->H' b=some (.tup xs)):a8_ P w H' h' a o:=by
 induction o with
 | lst xs=>obtain ⟨z,its,n,r,e⟩:=x;exact ⟨z,its,n,r,k _ _ (.inl rfl) e⟩
 | tup xs=>obtain ⟨z,its,r,ob,e,c⟩:=x;exact ⟨z,its,r,ob,k _ _ (.inl rfl) e,c⟩
 | dK kvs=>obtain ⟨z,y,vs,r,ob,es,ep,e,c⟩:=x;exact ⟨z,y,vs,r,ob,es,ep,k _ _ (.inl rfl) e,c⟩
 | dT kvs =>
  obtain ⟨z,y,xs,r,ob,es,ep,e,c⟩:=x;exact ⟨z,y,xs,Paired.mapP r fun p q z=>⟨z.1,ht _ _ z.2.1,z.2.2⟩,ob,es,ep,k _ _ (.inl rfl) e,c⟩
 | set S n=>obtain ⟨ob,es,ep,t,e,c⟩:=x;exact ⟨ob,es,ep,t,k _ _ (.inl rfl) e,c⟩
 | ins C dx fs =>
  obtain ⟨d,z,ne,e,mA,⟨od,es,ep,e2,c⟩,r⟩:=x;exact ⟨ho _ d,z,ne,k _ _ (.inl rfl) e,mA,⟨od,es,ep,k _ _ (.inr d) e2,c⟩,r⟩
 | own y=>obtain ⟨ob,e⟩:=x;exact ⟨ob,k _ _ (.inl rfl) e⟩
 | xd fs=>obtain ⟨mA,⟨od,es,ep,e,c⟩,r⟩:=x;exact ⟨mA,⟨od,es,ep,k _ _ (.inl rfl) e,c⟩,r⟩
 | rng lo hi=>obtain ⟨t,u,v,e⟩:=x;exact ⟨t,u,v,k _ _ (.inl rfl) e⟩
 | frz ob u ih=>obtain ⟨e,q⟩:=x;exact ⟨k _ _ (.inl rfl) e,ih q⟩
 | tbl ps =>
  have e:h.get? a=some { cls := .none,data := .fields ps }:=x;show h'.get? a=some { cls := .none,data := .fields ps };exact k a _ (.inl rfl) e
 | met f y =>
  have e:h.get? a=some (PySem.W.methodObj (.ref f) (.ref y)):=x;show h'.get? a=some (PySem.W.methodObj (.ref f) (.ref y));exact k a _ (.inl rfl) e
 | ext φ=>obtain ⟨p,⟨o,e⟩,st⟩:=x;exact ⟨st _ _ p fun o q=>k _ _ (.inl rfl) q,⟨o,k _ _ (.inl rfl) e⟩,st⟩
theorem HOk.lt (x:HOk P w H h) (e:H a=some o):a<h.objs.size:=(x a o e).lt
theorem HOk.fresh (x:HOk P w H h) (e:h.objs.size<=a):H a=none:=by
 cases q:H a with
 | none=>rfl
 | some u=>exact absurd (Nat.lt_of_lt_of_le (x.lt q) e) (Nat.lt_irrefl _)
theorem HOk.kept (x:HOk P w H h) (k : ∀ b u,h.get? b=some u->h'.get? b=some u):HOk P w H h':=fun a o e =>
 (x a o e).stay (fun b u _ q=>k b u q) (fun _ q=>q) fun _ _ q=>q
theorem HOk.laid (x:HOk P w H h) (k : ∀ b u,h.get? b=some u->h'.get? b=some u) (hp:h.objs.size<=a) (new:a8_ P w (upd H a o) h' a o):HOk P w (upd H a o) h':=fun b u e=>by
 have hn:=x.fresh hp;by_cases hb:b=a
 ·subst hb;rw [ab_] at e;cases e;exact new
 rw [al_ hb] at e;exact (x b u e).stay (fun c v _ q=>k c v q) (fun c q=>by rw [al_ (ag_ q hn)];exact q) fun c xs q=>by rw [al_ (ag_ q hn)];exact q
end
def Rd (H:Hp) (a:Addr) (u:HO):Prop:=H a=some u\/∃ o,H a=some (.frz o u)
theorem Rd.ok {P:Program}{w:World}{H:Hp}{h:Heap}{a:Addr}{u:HO} (r:Rd H a u) (x:HOk P w H h):a8_ P w H h a u:=by
 rcases r with r | ⟨o,r⟩
 ·exact x a u r
 obtain ⟨_,q⟩:=x a _ r;exact q
def Mut:Option HO->Prop
 | some (.lst _)=>True
 | some (.dK _)=>True
 | some (.dT _)=>True
 | some (.set _ _)=>True
 | some (.ins _ _ _)=>True
 | some (.ext _)=>True
 | _=>False
section
variable {P:Program}{w:World}{H:Hp}{h h':Heap}{x e:Addr}{o':HO}
theorem HOk.write (ok:HOk P w H h) (mu:Mut (H x)) (he:e=x\/H e=some (.own x)) (k : ∀ b u,b≠e->h.get? b=some u->h'.get? b=some u) (heo : ∃ u,h'.get? e=some u)
  (new:a8_ P w (upd H x o') h' x o'):HOk P w (upd H x o') h':=fun b u q=>by
 have nown : ∀ c y,H c=some (.own y)->c≠x:=fun c y r z=>by subst z;rw [r] at mu;exact mu
 have ntup : ∀ c xs,H c=some (.tup xs)->c≠x:=fun c xs r z=>by subst z;rw [r] at mu;exact mu
 by_cases hb:b=x
 ·subst hb;rw [ab_] at q;cases q;exact new
 rw [al_ hb] at q;by_cases hbe:b=e
 ·have q':H b=some (.own x):=by
   rcases he with z | z
   ·exact absurd (hbe.trans z) hb
   rw [hbe];exact z
  rw [q] at q';cases q';obtain ⟨v,hv⟩:=heo;exact ⟨v,by rw [hbe];exact hv⟩
 refine (ok b u q).stay (fun c v hc r=>k c v ?_ r) (fun c r=>by rw [al_ (nown c b r)];exact r) fun c xs r=>by rw [al_ (ntup c xs r)];exact r
 rcases hc with rfl | hc
 ·exact hbe
 rintro rfl
 rcases he with z | z
 ·exact nown c b hc z
 rw [hc] at z;cases z;exact hb rfl
end
structure Un (fs ex:List Addr) (H H':Hp) (h h':Heap):Prop where
 keep : ∀ b o,h.get? b=some o->H b=none->b∉fs->b∉ex->h'.get? b=some o
 slot : ∀ b o,h.get? b=some o->H b=none->b∈fs->b∉ex->∃ sl,h'.get? b=some { o with slots:=sl }
 free : ∀ b o,h.get? b=some o->H b=none->b∉ex->H' b=none
 there : ∀ b o,h.get? b=some o->b∉ex->∃ o',h'.get? b=some o'
 tups : ∀ b xs,H b=some (.tup xs)->H' b=some (.tup xs)
 frzs : ∀ b o u,H b=some (.frz o u)->H' b=some (.frz o u)
 tbls : ∀ b ps,H b=some (.tbl ps)->∃ more,H' b=some (.tbl (ps++more))
section
variable {fs fs' ex ex':List Addr}{H H1 H2:Hp}{h h1 h2 h':Heap}{a x e:Addr}{o:HO}
theorem Un.any (u:Un fs ex H H1 h h1) {b:Addr}{ob:Obj} (q:h.get? b=some ob) (n:H b=none) (hx:b∉ex) : ∃ sl,h1.get? b=some { ob with slots:=sl }:=by
 by_cases hb:b∈fs
 ·exact u.slot b ob q n hb hx
 exact ⟨ob.slots,u.keep b ob q n hb hx⟩
theorem Un.kept (k : ∀ b u,h.get? b=some u->h'.get? b=some u):Un fs ex H H h h' :=
 ⟨fun b ob q _ _ _=>k b ob q,fun b ob q _ _ _=>⟨ob.slots,k b ob q⟩,fun _ _ _ n _=>n,fun b ob q _=>⟨ob,k b ob q⟩,fun _ _ q=>q,fun _ _ _ q=>q,fun _ ps q=>⟨#[],by rw [q];simp⟩⟩
theorem Un.refl:Un fs ex H H h h:=Un.kept fun _ _ q=>q
theorem Un.laid (k : ∀ b u,h.get? b=some u->h'.get? b=some u) (hp:h.objs.size<=a) (hn:H a=none):Un fs ex H (upd H a o) h h' where
 keep:=fun b u q _ _ _=>k b u q
 slot:=fun b u q _ _ _=>⟨u.slots,k b u q⟩
 free:=fun b u q n _=>by rw [al_ (Nat.ne_of_lt (Nat.lt_of_lt_of_le (Heap.lt_size q) hp))];exact n
 there:=fun b u q _=>⟨u,k b u q⟩
 tups:=fun b xs q=>by rw [al_ (ag_ q hn)];exact q
 frzs:=fun b u xs q=>by rw [al_ (ag_ q hn)];exact q
 tbls:=fun b ps q=>⟨#[],by rw [al_ (ag_ q hn),q];simp⟩
theorem Un.write (mu:Mut (H x)) (he:e=x\/H e=some (.own x)) (k : ∀ b u,b≠e->h.get? b=some u->h'.get? b=some u) (heo : ∃ u,h'.get? e=some u):Un fs ex H (upd H x o) h h':=by
 have hx : ∀ b,H b=none->b≠x:=fun b n z=>by subst z;rw [n] at mu;exact mu
 have hb : ∀ b,H b=none->b≠e:=fun b n z=>by
  subst z;rcases he with r | r
  ·exact hx b n r
  rw [n] at r;cases r
 have hm : ∀ b u,H b=some u->¬ Mut (some u)->b≠x:=fun b u q nm z=>by subst z;rw [q] at mu;exact nm mu
 refine ⟨fun b u q n _ _=>k b u (hb b n) q,fun b u q n _ _=>⟨u.slots,k b u (hb b n) q⟩,fun b u q n _=>by rw [al_ (hx b n)];exact n,fun b u q _=>?_,
  fun b xs q=>by rw [al_ (hm b _ q fun z=>z)];exact q,fun b u xs q=>by rw [al_ (hm b _ q fun z=>z)];exact q,fun b ps q=>⟨#[],by rw [al_ (hm b _ q fun z=>z),q];simp⟩⟩
 by_cases hbe:b=e
 ·subst hbe;exact heo
 exact ⟨u,k b u hbe q⟩
end
def trk (h:Heap) (H:Hp):List Addr:=(List.range h.objs.size).filter fun a=>(H a).isSome
def hidT (h:Heap) (H:Hp):Heap:=PySem.W.hideAll h (trk h H)
theorem kJ_ (h:Heap) (H:Hp):(hidT h H).objs.size=h.objs.size:=PySem.W.hideAll_size _ _
theorem l0_ {h:Heap}{H:Hp}{b:Addr}{o:Obj} (e:h.get? b=some o) (n:H b=none):(hidT h H).get? b=some o :=
 PySem.W.hideAll_get _ e fun hm=>by
  have q:(H b).isSome=true:=(List.mem_filter.mp hm).2;rw [n] at q;simp at q
theorem nA_ {h:Heap}{H:Hp}{b:Addr}{o:Obj} (e:(hidT h H).get? b=some o):h.get? b=some o/\H b=none:=by
 have e':h.get? b=some o:=PySem.W.of_hideAll (trk h H) e;refine ⟨e',?_⟩;cases q:H b with
 | none=>rfl
 | some x =>
 have hm:b∈trk h H:=List.mem_filter.mpr ⟨List.mem_range.mpr (Heap.lt_size e'),by simp [q]⟩;have z:(hidT h H).get? b=none:=PySem.W.hideAll_none (trk h H) hm;rw [z] at e;cases e
def n0_ (g h:Heap) (L:Addr):List (Addr×Obj):=(List.range h.objs.size).filterMap fun a=>if a=L\/(g.get? a).isSome=true then none else (h.get? a).map fun o=>(a,o)
def rest (g h:Heap) (L d:Addr):List (Addr×Obj):=(n0_ g h L).filter fun p=>decide (p.1≠d)
end L2
namespace L2
open PySem PySem.Spec PyProof.Rows
structure Mod (K:PySem.W.Frag) (mg:Str->Option Value) (base:Heap):Prop where
 kin:K.In base
 glob:base.Ns mainGlobals mg
 blt : ∃ mb,base.Ns builtinsNs mb/\∀ x:Str,x≠"__name__"->mb x=bootBuiltins x
 nolimit:base.NoLimit
structure Cx where
 prog:Program
 w:World
 K:PySem.W.Frag
 mg:Str->Option Value
 base:Heap
 A:Around
 N:List Str
 s_0:Shared
 H_0:Hp
 env:Env
 outer:List Env
 stack:List Env
 ex:List Addr
 fn:Str->Bool
 calm:Bool
 pn:List (Addr×Obj)
 xe:Value->Shared->Prop
def frs (l:List Env):List Addr:=l.filterMap (·.frame)
abbrev Cx.fs (X:Cx):List Addr:=frs X.outer
def Vis (sc:Scope) (x:Str):Prop:=sc.names.lookup x=some .local\/sc.names.lookup x=some .cell\/sc.names.lookup x=some .free
def Loc (sc:Scope) (x:Str):Prop:=sc.names.lookup x=some .local\/sc.names.lookup x=some .cell
def Look (env:Env) (h:Heap) (m:Str->Option Value) (x:Str) (u:Value):Prop :=
 (env.kindOf x=some .local/\m x=some u)\/((env.kindOf x=some .cell\/env.kindOf x=some .free)/\∃ c,env.cells.lookup x=some c/\h.IsCell c (some u))
structure Cx.Ok (X:Cx):Prop where
 mod:Mod X.K X.mg X.base
 kind:X.env.scope.kind = .function
 glob:X.env.globals=mainGlobals
 blt:X.env.builtins=builtinsNs
 above:X.s_0.heap.objs.size<=X.env.locals
 inj : ∀ x y c,X.env.cells.lookup x=some c->X.env.cells.lookup y=some c->x=y
 has : ∀ x,(X.env.kindOf x=some .cell\/X.env.kindOf x=some .free)->∃ c,X.env.cells.lookup x=some c
 cab : ∀ x c,X.fn x=true->X.env.cells.lookup x=some c->X.s_0.heap.objs.size<=c
 hd:X.calm=true->X.A.handled=none
 frames:X.A.frames=some X.stack
 stk:X.stack=X.outer\/(X.stack=X.env::X.outer/\X.env.frame=some X.env.locals)
 exf : ∀ b∈X.ex,b≠X.env.locals/\∀ x c,X.env.cells.lookup x=some c->c≠b
 bs : ∀ b o,X.base.get? b=some o->X.s_0.heap.get? b=some o/\X.H_0 b=none
 bsz:X.base.objs.size<=X.s_0.heap.objs.size
 noex : ∀ b o,X.base.get? b=some o->b∉X.ex
 exfs : ∀ b∈X.ex,b∉X.fs
 funs:X.s_0.heap.FunFrames X.base X.outer
 frf : ∀ b∈X.fs,X.H_0 b=none
structure Inv (X:Cx) (pins:List (Addr×Obj)) (σ:List (Option V)) (H:Hp) (s:Shared):Prop where
 ok:X.Ok
 os:s.os=X.s_0.os
 bare:AllBare s.gens
 base:Un X.fs X.ex X.H_0 H X.s_0.heap s.heap
 loc : ∃ m,s.heap.Ns X.env.locals m/\∀ (i:Nat) (x:Str) (v:V),X.N[i]? = some x->σ[i]? = some (some v)->Vis X.env.scope x->∃ u,RelV v u/\Look X.env s.heap m x u
 cell : ∀ x c,X.env.cells.lookup x=some c->∃ v,s.heap.IsCell c v
 free:H X.env.locals=none
 freeC : ∀ x c,X.env.cells.lookup x=some c->H c=none
 pin : ∀ p∈X.pn++pins,s.heap.get? p.1=some p.2/\H p.1=none/\p.1≠X.env.locals/\p.1∉X.fs/\∀ v,p.2.data ≠ .cell v
 hok:HOk X.prog X.w H s.heap
 len:σ.length=X.N.length
section
variable {X:Cx}{pins:List (Addr×Obj)}{σ:List (Option V)}{H H':Hp}{s:Shared}{h':Heap}
theorem Cx.Ok.nofr (ok:X.Ok) {b:Addr}{o:Obj} (e:X.base.get? b=some o):b∉X.fs:=fun hb=>by
 have:=(ok.funs.mem hb).1;rw [e] at this;cases this
theorem Inv.bs (I:Inv X pins σ H s) : ∀ b o,X.base.get? b=some o->s.heap.get? b=some o/\H b=none:=fun b o e =>
 ⟨I.base.keep b o (I.ok.bs b o e).1 (I.ok.bs b o e).2 (I.ok.nofr e) (I.ok.noex b o e),I.base.free b o (I.ok.bs b o e).1 (I.ok.bs b o e).2 (I.ok.noex b o e)⟩
theorem Inv.bk (I:Inv X pins σ H s) : ∀ b o,X.base.get? b=some o->s.heap.get? b=some o:=fun b o e=>(I.bs b o e).1
theorem Inv.mod (I:Inv X pins σ H s):Mod X.K X.mg X.base:=I.ok.mod
theorem Inv.kIn (I:Inv X pins σ H s):X.K.In s.heap:=I.ok.mod.kin.keeps I.bk
theorem Inv.nolimit (I:Inv X pins σ H s):s.heap.NoLimit:=I.ok.mod.nolimit.keeps I.bk
theorem Inv.fr (I:Inv X pins σ H s) : ∃ m,Fr X.base X.env.locals s.heap m :=
 let ⟨m,hn,_⟩:=I.loc
 ⟨m,hn,I.bk,Nat.le_trans I.ok.bsz I.ok.above⟩
theorem Inv.lt (I:Inv X pins σ H s):X.env.locals<s.heap.objs.size:=let ⟨_,hn,_⟩:=I.loc;hn.lt
theorem Inv.sz (I:Inv X pins σ H s):X.s_0.heap.objs.size<=s.heap.objs.size:=Nat.le_trans I.ok.above (Nat.le_of_lt I.lt)
theorem Inv.nofs (I:Inv X pins σ H s) {a:Addr} (h:s.heap.objs.size<=a):a∉X.fs:=fun hb=>by
 obtain ⟨_,o,ho,_⟩:=I.ok.funs.mem hb;exact absurd (Nat.lt_of_lt_of_le (Heap.lt_size ho) (Nat.le_trans I.sz h)) (Nat.lt_irrefl _)
theorem Inv.cne (I:Inv X pins σ H s) : ∀ x c,X.env.cells.lookup x=some c->c≠X.env.locals:=fun x c e z=>by
 obtain ⟨v,o,ho,hd⟩:=I.cell x c e;obtain ⟨m,⟨o',es,ep,ho',hd',_⟩,_⟩:=I.loc;rw [z,ho'] at ho;cases ho;rw [hd'] at hd;cases hd
theorem Inv.funs (I:Inv X pins σ H s):s.heap.FunFrames X.base X.outer:=by
 have all : ∀ (l:List Env),(∀ b∈frs l,b∈X.fs)->X.s_0.heap.FunFrames X.base l->s.heap.FunFrames X.base l:=by
  intro l
  induction l with
  | nil=>intro _ _;trivial
  | cons env r ih =>
  intro hs hl;obtain ⟨hk,⟨L,o,hf,hn,ho,hd⟩,hr⟩:=hl;have hL:L∈X.fs:=hs L (by unfold frs;rw [List.filterMap_cons,hf];exact mem_cons_self);obtain ⟨sl,e⟩:=I.base.slot L o ho (I.ok.frf L hL) hL fun z=>I.ok.exfs L z hL;exact ⟨hk,⟨L,_,hf,hn,e,hd⟩,ih (fun b hb=>hs b (by unfold frs;rw [List.filterMap_cons,hf];exact mem_cons_of_mem _ hb)) hr⟩
 exact all X.outer (fun _ hb=>hb) I.ok.funs
theorem Inv.stack (I:Inv X pins σ H s):s.heap.FunFrames X.base X.stack:=by
 rcases I.ok.stk with e | ⟨e,hf⟩
 ·rw [e];exact I.funs
 rw [e];obtain ⟨m,hn,_⟩:=I.loc;refine .cons (by rw [I.ok.kind];decide) hf hn ?_ I.funs;exact Heap.get?_none_of_le (Nat.le_trans I.ok.bsz I.ok.above)
theorem Inv.stkSub (I:Inv X pins σ H s) : ∀ b∈frs X.stack,b∈X.env.locals::X.fs:=fun b hb=>by
 rcases I.ok.stk with e | ⟨e,hf⟩
 ·rw [e] at hb;exact mem_cons_of_mem _ hb
 rw [e] at hb;unfold frs at hb;rw [List.filterMap_cons,hf] at hb;exact hb
theorem Inv.stkFree (I:Inv X pins σ H s) : ∀ b∈frs X.stack,H b=none:=fun b hb=>by
 rcases List.mem_cons.mp (I.stkSub b hb) with e | hb
 ·rw [e];exact I.free
 obtain ⟨_,o,ho,_⟩:=I.ok.funs.mem hb;exact I.base.free b o ho (I.ok.frf b hb) fun z=>I.ok.exfs b z hb
theorem Inv.step {g':Array GenState}{t':Nat}{d':Drawn}{ch:List Addr} (I:Inv X pins σ H s)
  (hch : ∀ b∈ch,(b∈X.ex\/X.s_0.heap.objs.size<=b)/\b≠X.env.locals/\(∀ x c,X.env.cells.lookup x=some c->c≠b)/\∀ p∈X.pn++pins,p.1≠b)
  (keep : ∀ b o,b≠X.env.locals->b∉X.fs->b∉ch->s.heap.get? b=some o->H b=none->h'.get? b=some o)
  (slot : ∀ b o,b≠X.env.locals->b∈X.fs->b∉ch->s.heap.get? b=some o->H b=none->∃ sl,h'.get? b=some { o with slots:=sl }) (free : ∀ b o,b∉ch->s.heap.get? b=some o->H b=none->H' b=none)
  (there : ∀ b o,b∉ch->s.heap.get? b=some o->∃ o',h'.get? b=some o')
  (tups : ∀ b xs,H b=some (.tup xs)->H' b=some (.tup xs)) (frzs : ∀ b o u,H b=some (.frz o u)->H' b=some (.frz o u)) (tbls : ∀ b ps,H b=some (.tbl ps)->∃ more,H' b=some (.tbl (ps++more)))
  (ns : ∀ m,s.heap.Ns X.env.locals m->h'.Ns X.env.locals m) (hok:HOk X.prog X.w H' h') (hg:AllBare g') :
  Inv X pins σ H' { s with heap:=h',gens:=g',drawn:=d',toks:=t' }:=by
 have neL : ∀ b o,X.s_0.heap.get? b=some o->b≠X.env.locals:=fun b o e=>Nat.ne_of_lt (Nat.lt_of_lt_of_le (Heap.lt_size e) I.ok.above);have neC : ∀ b o,X.s_0.heap.get? b=some o->b∉X.ex->b∉ch:=fun b o e hx hb=>by
  rcases (hch b hb).1 with z | z
  ·exact hx z
  exact absurd (Nat.lt_of_lt_of_le (Heap.lt_size e) z) (Nat.lt_irrefl _)
 have cellK : ∀ x c,X.env.cells.lookup x=some c->∀ v,s.heap.IsCell c v->h'.IsCell c v:=fun x c e v ⟨o,ho,hd⟩=>by
  have nch:c∉ch:=fun z=>(hch c z).2.2.1 x c e rfl;by_cases hc:c∈X.fs
  ·obtain ⟨sl,q⟩:=slot c o (I.cne x c e) hc nch ho (I.freeC x c e)
   exact ⟨_,q,hd⟩
  exact ⟨o,keep c o (I.cne x c e) hc nch ho (I.freeC x c e),hd⟩
 refine ⟨I.ok,I.os,hg,⟨fun b o e n hb hx=>?_,fun b o e n hb hx=>?_,fun b o e n hx=>?_,fun b o e hx=>?_,fun b xs e=>tups b xs (I.base.tups b xs e),fun b o xs e=>frzs b o xs (I.base.frzs b o xs e),fun b ps e=>?_⟩,?_,fun x c e=>?_,?_,fun x c e=>?_,fun p hp=>?_,hok,I.len⟩
 ·exact keep b o (neL b o e) hb (neC b o e hx) (I.base.keep b o e n hb hx) (I.base.free b o e n hx)
 ·obtain ⟨sl,e1⟩:=I.base.slot b o e n hb hx
  obtain ⟨sl',e2⟩:=slot b _ (neL b o e) hb (neC b o e hx) e1 (I.base.free b o e n hx);exact ⟨sl',e2⟩
 ·obtain ⟨o',e1⟩:=I.base.there b o e hx
  exact free b o' (neC b o e hx) e1 (I.base.free b o e n hx)
 ·obtain ⟨o',e1⟩:=I.base.there b o e hx
  exact there b o' (neC b o e hx) e1
 ·obtain ⟨m1,e1⟩:=I.base.tbls b ps e
  obtain ⟨m2,e2⟩:=tbls b _ e1;exact ⟨m1++m2,by rw [e2,Array.append_assoc]⟩
 ·obtain ⟨m,hn,hl⟩:=I.loc
  refine ⟨m,ns m hn,fun i x v e1 e2 e3=>?_⟩;obtain ⟨u,r,l⟩:=hl i x v e1 e2 e3;refine ⟨u,r,?_⟩;rcases l with l | ⟨k,c,e,z⟩
  ·exact .inl l
  exact .inr ⟨k,c,e,cellK x c e _ z⟩
 ·obtain ⟨v,z⟩:=I.cell x c e
  exact ⟨v,cellK x c e v z⟩
 ·obtain ⟨m,⟨o,_,_,ho,_⟩,_⟩:=I.loc
  exact free _ o (fun z=>(hch _ z).2.1 rfl) ho I.free
 ·obtain ⟨v,o,ho,hd⟩:=I.cell x c e
  exact free c o (fun z=>(hch c z).2.2.1 x c e rfl) ho (I.freeC x c e)
 obtain ⟨e,n,ne,nf,d⟩:=I.pin p hp;have nch:p.1∉ch:=fun z=>(hch p.1 z).2.2.2 p hp rfl;exact ⟨keep p.1 p.2 ne nf nch e n,free p.1 p.2 nch e n,ne,nf,d⟩
theorem Inv.un {t':Nat} (I:Inv X pins σ H s) (u:Un X.fs [] H H' s.heap h') (hok:HOk X.prog X.w H' h'):Inv X pins σ H' { s with heap:=h',toks:=t' }:=by
 obtain ⟨m,⟨o,es,ep,ho,r⟩,_⟩:=id I.loc;obtain ⟨sl,hL⟩:=u.any ho I.free (by simp);exact I.step (g':=s.gens) (d':=s.drawn) (ch:=[]) (fun _ z=>nomatch z) (fun b o _ hb _ e n=>u.keep b o e n hb (by simp)) (fun b o _ hb _ e n=>u.slot b o e n hb (by simp)) (fun b o _ e n=>u.free b o e n (by simp)) (fun b o _ e=>u.there b o e (by simp)) u.tups u.frzs u.tbls (fun m' hm=>by
  obtain ⟨o',es',ep',ho',r'⟩:=hm;rw [ho] at ho';cases ho';exact ⟨_,es',ep',hL,r'⟩) hok I.bare
theorem Inv.call {g':Array GenState}{t':Nat}{d':Drawn}{ch:List Addr} (I:Inv X pins σ H s) (u:Un (frs X.stack) ch H H' s.heap h') (hok:HOk X.prog X.w H' h') (hg:AllBare g')
  (hch : ∀ b∈ch,(b∈X.ex\/X.s_0.heap.objs.size<=b)/\b≠X.env.locals/\(∀ x c,X.env.cells.lookup x=some c->c≠b)/\∀ p∈X.pn++pins,p.1≠b) :
  Inv X pins σ H' { s with heap:=h',gens:=g',drawn:=d',toks:=t' }:=by
 obtain ⟨m,⟨o,es,ep,ho,r⟩,_⟩:=id I.loc;obtain ⟨sl,hL⟩:=u.any ho I.free fun z=>(hch _ z).2.1 rfl;exact I.step (ch:=ch) hch (fun b o hL hb hc e n=>u.keep b o e n (fun z=>(List.mem_cons.mp (I.stkSub b z)).elim hL hb) hc) (fun b o _ _ hc e n=>u.any e n hc) (fun b o hc e n=>u.free b o e n hc) (fun b o hc e=>u.there b o e hc) u.tups u.frzs u.tbls (fun m' hm=>by
  obtain ⟨o',es',ep',ho',r'⟩:=hm;rw [ho] at ho';cases ho';exact ⟨_,es',ep',hL,r'⟩) hok hg
theorem Inv.turned {t':Nat}{it:Addr} (I:Inv X pins σ H s) (k : ∀ b o,b≠it->s.heap.get? b=some o->h'.get? b=some o) (hn:H it=none) (hL:it≠X.env.locals)
  (h1:it∈X.ex\/X.s_0.heap.objs.size<=it) (h2 : ∀ x c,X.env.cells.lookup x=some c->c≠it) (h3 : ∀ p∈X.pn++pins,p.1≠it):Inv X pins σ H { s with heap:=h',toks:=t' }:=by
 have nit : ∀ b u,H b=some u->b≠it:=fun b u e z=>by rw [z,hn] at e;cases e
 refine I.step (g':=s.gens) (d':=s.drawn) (ch:=[it]) (fun b hb=>?_) (fun b o _ _ hc e _=>k b o (fun z=>hc (by simp [z])) e) (fun b o _ _ hc e _=>⟨o.slots,k b o (fun z=>hc (by simp [z])) e⟩) (fun _ _ _ _ n=>n)
  (fun b o hc e=>⟨o,k b o (fun z=>hc (by simp [z])) e⟩) (fun _ _ e=>e) (fun _ _ _ e=>e) (fun b ps e=>⟨#[],by rw [e];simp⟩) (fun m hm=>?_) (fun b u e=>?_) I.bare
 ·have e:b=it:=by simpa using hb
  subst e;exact ⟨h1,hL,h2,h3⟩
 ·obtain ⟨o,es,ep,ho,r⟩:=hm
  exact ⟨o,es,ep,k _ o (Ne.symm hL) ho,r⟩
 refine (I.hok b u e).stay (fun c v hc q=>k c v ?_ q) (fun _ q=>q) fun _ _ q=>q;rcases hc with z | z
 ·rw [z];exact nit b u e
 exact nit c _ z
theorem Inv.tok (I:Inv X pins σ H s) (t:Nat):Inv X pins σ H { s with toks:=t }:=I.un (h':=s.heap) (t':=t) Un.refl I.hok
theorem Inv.kept {t':Nat} (I:Inv X pins σ H s) (k : ∀ b u,s.heap.get? b=some u->h'.get? b=some u):Inv X pins σ H { s with heap:=h',toks:=t' }:=I.un (Un.kept k) (I.hok.kept k)
theorem Inv.laid {a:Addr}{o:HO}{t':Nat} (I:Inv X pins σ H s) (k : ∀ b u,s.heap.get? b=some u->h'.get? b=some u) (hp:s.heap.objs.size<=a) (new:a8_ X.prog X.w (upd H a o) h' a o) :
  Inv X pins σ (upd H a o) { s with heap:=h',toks:=t' }:=I.un (Un.laid k hp (I.hok.fresh hp)) (I.hok.laid k hp new)
theorem Inv.write {x e:Addr}{o:HO}{t':Nat} (I:Inv X pins σ H s) (mu:Mut (H x)) (he:e=x\/H e=some (.own x)) (k : ∀ b u,b≠e->s.heap.get? b=some u->h'.get? b=some u) (heo : ∃ u,h'.get? e=some u)
  (new:a8_ X.prog X.w (upd H x o) h' x o):Inv X pins σ (upd H x o) { s with heap:=h',toks:=t' }:=I.un (Un.write mu he k heo) (I.hok.write mu he k heo new)
theorem Inv.weak {σ':List (Option V)} (I:Inv X pins σ H s) (hl:σ'.length=σ.length) (w : ∀ (i:Nat) v,σ'[i]? = some (some v)->σ[i]? = some (some v)):Inv X pins σ' H s :=
 ⟨I.ok,I.os,I.bare,I.base,let ⟨m,hn,hl'⟩:=I.loc;⟨m,hn,fun i x v e1 e2 e3=>hl' i x v e1 (w i v e2) e3⟩,I.cell,I.free,I.freeC,I.pin,I.hok,hl.trans I.len⟩
theorem Inv.pins_of {pins':List (Addr×Obj)} (I:Inv X pins σ H s) (h : ∀ p∈pins',s.heap.get? p.1=some p.2/\H p.1=none/\p.1≠X.env.locals/\p.1∉X.fs/\∀ v,p.2.data ≠ .cell v):Inv X pins' σ H s :=
 ⟨I.ok,I.os,I.bare,I.base,I.loc,I.cell,I.free,I.freeC,fun p hp=>(List.mem_append.mp hp).elim (fun z=>I.pin p (mem_append_left _ z)) (h p),I.hok,I.len⟩
theorem f0_ {N:List Str} (hN:N.Nodup) {i j:Nat}{x:Str} (a:N[i]? = some x) (b:N[j]? = some x):i=j:=by
 obtain ⟨h1,e1⟩:=List.getElem?_eq_some_iff.mp a;obtain ⟨h2,e2⟩:=List.getElem?_eq_some_iff.mp b;exact (List.getElem_inj hN).mp (e1.trans e2.symm)
theorem gq_ {M:Model}{A:Around}{E:Value->Shared->Prop}{i:Nat}{x:Str}{v:V}{u:Value}{Q:Unit->Shared->Prop} (I:Inv X pins σ H s) (hN:X.N.Nodup) (hi:X.N[i]? = some x) (hx:Loc X.env.scope x) (r:RelV v u)
  (h : ∀ s',Inv X pins (σ.set i (some v)) H s'->(∃ a,Heap.SameBut a s.heap s'.heap/\(a=X.env.locals\/X.env.cells.lookup x=some a))->Q () s') (hf:X.fn x=true\/X.env.scope.names.lookup x=some .local:=by first | exact .inl rfl | exact .inr rfl | assumption):wpAny M A (storeName X.env x u) Q E s:=by
 obtain ⟨m,hn,hl⟩:=id I.loc;have hcls:(X.env.scope.kind == .class || (X.env.scope.kind == .module && X.env.locals != X.env.globals))=false:=by rw [I.ok.kind];rfl
 have hiσ:i<σ.length:=by rw [I.len];exact (List.getElem?_eq_some_iff.mp hi).1
 have cne:=I.cne;have tracked : ∀ {a:Addr}{h':Heap},(∃ o,s.heap.get? a=some o/\H a=none)->Heap.SameBut a s.heap h'->HOk X.prog X.w H h':=fun {a h'} ha hs b ob e=>by
  obtain ⟨_,_,hfree⟩:=ha;refine (I.hok b ob e).stay (fun c w' hc q=>(hs.2 c ?_).trans q) (fun _ q=>q) fun _ _ q=>q
  rintro rfl
  rcases hc with rfl | hc
  ·rw [hfree] at e;cases e
  rw [hfree] at hc;cases hc
 rcases hx with hk | hk
 ·refine wpAny_storeName_local hk hn (fun h' hn' hs=>?_) hcls
  obtain ⟨oL,_,_,hoL,_⟩:=id hn;refine h _ ⟨I.ok,I.os,I.bare,⟨fun b o e n hb hx=>?_,fun b o e n hb hx=>?_,I.base.free,fun b o e hx=>?_,I.base.tups,I.base.frzs,I.base.tbls⟩,⟨_,hn',fun j y v' e1 e2 e3=>?_⟩,fun y c e=>?_,I.free,I.freeC,fun p hp=>?_,tracked ⟨oL,hoL,I.free⟩ hs,by simpa using I.len⟩ ⟨_,hs,.inl rfl⟩
  ·exact (hs.2 b (Nat.ne_of_lt (Nat.lt_of_lt_of_le (Heap.lt_size e) I.ok.above))).trans (I.base.keep b o e n hb hx)
  ·obtain ⟨sl,e1⟩:=I.base.slot b o e n hb hx
   exact ⟨sl,(hs.2 b (Nat.ne_of_lt (Nat.lt_of_lt_of_le (Heap.lt_size e) I.ok.above))).trans e1⟩
  ·obtain ⟨o',e1⟩:=I.base.there b o e hx
   exact ⟨o',(hs.2 b (Nat.ne_of_lt (Nat.lt_of_lt_of_le (Heap.lt_size e) I.ok.above))).trans e1⟩
  ·by_cases hj:j=i
   ·subst hj
    rw [hi] at e1;cases e1;rw [List.getElem?_set_self hiσ] at e2;cases e2;exact ⟨u,r,.inl ⟨hk,by simp⟩⟩
   rw [List.getElem?_set_ne (Ne.symm hj)] at e2;obtain ⟨u',r',q⟩:=hl j y v' e1 e2 e3;refine ⟨u',r',?_⟩;rcases q with ⟨k,e⟩ | ⟨k,c,e,z⟩
   ·refine .inl ⟨k,?_⟩
    have:y≠x:=fun e=>hj (f0_ hN e1 (e ▸ hi));simp [this,e]
   exact .inr ⟨k,c,e,z.sameBut hs (cne y c e)⟩
  ·obtain ⟨w',z⟩:=I.cell y c e
   exact ⟨w',z.sameBut hs (cne y c e)⟩
  obtain ⟨e,n,ne,nf,d⟩:=I.pin p hp;exact ⟨(hs.2 p.1 ne).trans e,n,ne,nf,d⟩
 have hfn:X.fn x=true:=by
  rcases hf with z | z
  ·exact z
  rw [z] at hk;cases hk
 obtain ⟨c,hc⟩:=I.ok.has x (.inl hk);obtain ⟨w',z⟩:=I.cell x c hc;refine wpAny_storeName_cell I.ok.kind hk hc z (fun h' hc' hs=>?_);obtain ⟨oc,hoc,hocd⟩:=id z;refine h { s with heap:=h' } ⟨I.ok,I.os,I.bare,⟨fun b o e n hb hx=>?_,fun b o e n hb hx=>?_,I.base.free,fun b o e hx=>?_,I.base.tups,I.base.frzs,I.base.tbls⟩,⟨m,hn.sameBut hs (Ne.symm (cne x c hc)),fun j y v' e1 e2 e3=>?_⟩,fun y c' e=>?_,I.free,I.freeC,fun p hp=>?_,tracked ⟨oc,hoc,I.freeC x c hc⟩ hs,by simpa using I.len⟩ ⟨c,hs,.inr hc⟩
 ·exact (hs.2 b (Nat.ne_of_lt (Nat.lt_of_lt_of_le (Heap.lt_size e) (I.ok.cab x c hfn hc)))).trans (I.base.keep b o e n hb hx)
 ·obtain ⟨sl,e1⟩:=I.base.slot b o e n hb hx
  exact ⟨sl,(hs.2 b (Nat.ne_of_lt (Nat.lt_of_lt_of_le (Heap.lt_size e) (I.ok.cab x c hfn hc)))).trans e1⟩
 ·obtain ⟨o',e1⟩:=I.base.there b o e hx
  exact ⟨o',(hs.2 b (Nat.ne_of_lt (Nat.lt_of_lt_of_le (Heap.lt_size e) (I.ok.cab x c hfn hc)))).trans e1⟩
 ·by_cases hj:j=i
  ·subst hj
   rw [hi] at e1;cases e1;rw [List.getElem?_set_self hiσ] at e2;cases e2;exact ⟨u,r,.inr ⟨.inl hk,c,hc,hc'⟩⟩
  rw [List.getElem?_set_ne (Ne.symm hj)] at e2;obtain ⟨u',r',q⟩:=hl j y v' e1 e2 e3;refine ⟨u',r',?_⟩;rcases q with q | ⟨k,c',e,z'⟩
  ·exact .inl q
  refine .inr ⟨k,c',e,z'.sameBut hs ?_⟩
  rintro rfl
  exact hj (f0_ hN e1 (I.ok.inj _ _ _ e hc ▸ hi))
 ·by_cases hcc:c'=c
  ·subst hcc;exact ⟨_,hc'⟩
  obtain ⟨w2,z2⟩:=I.cell y c' e;exact ⟨w2,z2.sameBut hs hcc⟩
 obtain ⟨e,n,ne,nf,d⟩:=I.pin p hp;refine ⟨(hs.2 p.1 ?_).trans e,n,ne,nf,d⟩;intro q;rw [q,hoc] at e;have q':oc=p.2:=Option.some.inj e;exact d w' (by rw [<- q'];exact hocd)
theorem d1_ {M:Model}{A:Around}{E:Value->Shared->Prop}{i:Nat}{x:Str}{v:V}{u:Value}{Q:Unit->Shared->Prop} (I:Inv X pins σ H s) (hN:X.N.Nodup) (hi:X.N[i]? = some x) (hx:Loc X.env.scope x) (r:RelV v u)
  (h : ∀ s',Inv X pins (σ.set i (some v)) H s'->Q () s') (hf:X.fn x=true\/X.env.scope.names.lookup x=some .local:=by first | exact .inl rfl | exact .inr rfl | assumption):wpAny M A (storeName X.env x u) Q E s :=
 gq_ I hN hi hx r (fun s' I' _=>h s' I') hf
theorem Inv.call' {s':Shared}{ch:List Addr} (I:Inv X pins σ H s) (ho:s'.os=s.os) (u:Un (frs X.stack) ch H H' s.heap s'.heap) (hok:HOk X.prog X.w H' s'.heap) (hg:AllBare s'.gens)
  (hch : ∀ b∈ch,(b∈X.ex\/X.s_0.heap.objs.size<=b)/\b≠X.env.locals/\(∀ x c,X.env.cells.lookup x=some c->c≠b)/\∀ p∈X.pn++pins,p.1≠b):Inv X pins σ H' s':=by
 obtain ⟨h',g',d',t',o'⟩:=s';have e:o'=s.os:=ho;subst e;exact I.call (g':=g') (t':=t') (d':=d') u hok hg hch
end
abbrev XK:=Value->Option Addr->Hp->Prop
abbrev St:=List (Option V)
abbrev VK:=V->Hp->Prop
abbrev TE:=St->Hp->VK->Prop
abbrev TT:=St->Hp->(Bool->Hp->Prop)->Prop
abbrev TA:=St->Hp->(List V->Hp->Prop)->Prop
structure Ends where
 nx:St->Hp->Prop
 rt:VK
 bk:St->Hp->Prop:=fun _ _=>False
 ct:St->Hp->Prop:=fun _ _=>False
abbrev TS:=Ends->St->Hp->Prop
def EP (X:Cx) (pins:List (Addr×Obj)) (σ:St) (Q:VK) (u:Value) (s':Shared):Prop:=∃ v H',Inv X pins σ H' s'/\RelV v u/\Q v H'
def TP (X:Cx) (pins:List (Addr×Obj)) (σ:St) (Q:Bool->Hp->Prop) (b:Bool) (s':Shared):Prop:=∃ H',Inv X pins σ H' s'/\Q b H'
def AP (X:Cx) (pins:List (Addr×Obj)) (σ:St) (Q:List V->Hp->Prop) (us:List Value) (s':Shared):Prop:=∃ vs H',Inv X pins σ H' s'/\Vals vs us/\Q vs H'
def SP (X:Cx) (pins:List (Addr×Obj)) (D:Ends) (f:Flow) (s':Shared):Prop :=
 match f with
 | .next=>∃ σ' H',Inv X pins σ' H' s'/\D.nx σ' H'
 | .brk=>∃ σ' H',Inv X pins σ' H' s'/\D.bk σ' H'
 | .cont=>∃ σ' H',Inv X pins σ' H' s'/\D.ct σ' H'
 | .ret u=>∃ v σ' H',Inv X pins σ' H' s'/\RelV v u/\D.rt v H'
def PE (X:Cx) (e:Expr) (t:TE):Prop :=
 ∀ (pins:List (Addr×Obj)) (s:Shared) (σ:St) (H:Hp) (Q:VK),Inv X pins σ H s->t σ H Q->wpAny (model X.prog X.w) X.A (eval e X.env) (EP X pins σ Q) X.xe s
def PT (X:Cx) (e:Expr) (t:TT):Prop :=
 ∀ (pins:List (Addr×Obj)) (s:Shared) (σ:St) (H:Hp) (Q:Bool->Hp->Prop),Inv X pins σ H s->t σ H Q->wpAny (model X.prog X.w) X.A (isTrue e X.env (eval e X.env)) (TP X pins σ Q) X.xe s
def PW (X:Cx) (e:Expr) (t:TT):Prop :=
 ∀ (whole:Sem Value) (pins:List (Addr×Obj)) (s:Shared) (σ:St) (H:Hp) (Q:Bool->Hp->Prop),Inv X pins σ H s->t σ H Q->wpAny (model X.prog X.w) X.A (isTrue e X.env whole) (TP X pins σ Q) X.xe s
theorem PW.pt {X:Cx}{e:Expr}{t:TT} (h:PW X e t):PT X e t:=h _
def PA (X:Cx) (es:List Expr) (t:TA):Prop :=
 ∀ (pos:Pos) (pins:List (Addr×Obj)) (s:Shared) (σ:St) (H:Hp) (Q:List V->Hp->Prop),Inv X pins σ H s->t σ H Q->wpAny (model X.prog X.w) X.A (spliced (backTo pos (starEach es X.env))) (AP X pins σ Q) X.xe s
def PS (X:Cx) (st:Stmt) (t:TS):Prop :=
 ∀ (pins:List (Addr×Obj)) (s:Shared) (σ:St) (H:Hp) (D:Ends),Inv X pins σ H s->t D σ H->wpAny (model X.prog X.w) X.A (exec st X.env) (SP X pins D) X.xe s
def PSs (X:Cx) (st:List Stmt) (t:TS):Prop :=
 ∀ (pins:List (Addr×Obj)) (s:Shared) (σ:St) (H:Hp) (D:Ends),Inv X pins σ H s->t D σ H->wpAny (model X.prog X.w) X.A (execs st X.env) (SP X pins D) X.xe s
theorem thn {α:Type}{t:Sem α}{Q Q':α->Shared->Prop}{M:Model}{A:Around}{E:Value->Shared->Prop}{s:Shared} (h:wpAny M A t Q E s) (hQ : ∀ a s,Q a s->Q' a s):wpAny M A t Q' E s:=wpAny_mono h hQ fun _ _ x=>x
end L2
namespace L2
open PySem PySem.Spec PyProof.Rows
section
variable {X:Cx}
def tVar (i:Nat):TE:=fun σ H Q=>match σ[i]? with
 | some (some v)=>Q v H
 | _=>False
theorem m4_ {i:Nat}{σ:St}{H:Hp}{Q:VK} (h:tVar i σ H Q) : ∃ v,σ[i]? = some (some v)/\Q v H:=by
 unfold tVar at h;split at h
 ·rename_i v e
  exact ⟨v,e,h⟩
 exact h.elim
def tC (v:V):TE:=fun _ H Q=>Q v H
theorem ox_ {i:Nat}{x:Str}{pos:Pos} (hN:X.N[i]? = some x) (hv:Vis X.env.scope x) (hd:(x == ("__debug__":Str))=false:=by decide) (hcd:(x == ("__classdict__":Str))=false:=by decide):PE X (.Name x pos) (tVar i):=by
 intro pins s σ H Q I h;obtain ⟨v,e,h⟩:=m4_ h;obtain ⟨m,hn,hl⟩:=I.loc;obtain ⟨u,r,l⟩:=hl i x v hN e hv;have fin:EP X pins σ Q u s:=⟨v,H,I,r,h⟩;rcases l with ⟨hk,hm⟩ | ⟨hk,c,hc,hcell⟩
 ·exact wpAny_Name (wpAny_loadName_local I.ok.kind hk hn hm fin) hd
 rcases hk with hk | hk
 ·exact wpAny_Name (wpAny_loadName_cell I.ok.kind hk hc hcell fin) hd
 exact wpAny_Name (wpAny_loadName_free I.ok.kind hk hc hcell fin hcd) hd
theorem ai_ {i j pos}:PE X (.Constant (.int i) j pos) (tC (.int i)):=fun _ _ _ H _ I h=>wpAny_Constant_int ⟨.int i,H,I.tok _,⟨_,rfl⟩,h⟩
theorem kg_ {b j pos}:PE X (.Constant (.bool b) j pos) (tC (.bl b)):=fun _ _ _ H _ I h=>Constant_bool ⟨.bl b,H,I,rfl,h⟩
theorem j9_ {j pos}:PE X (.Constant .none j pos) (tC .non):=fun _ _ _ H _ I h=>Constant_none ⟨.non,H,I,rfl,h⟩
theorem ak_ {x j pos}:PE X (.Constant (.str x) j pos) (tC (.str x)):=fun _ _ _ H _ I h=>Calls.Constant_str ⟨.str x,H,I.tok _,⟨_,rfl⟩,h⟩
def Gl (X:Cx) (x:Str):Prop:=X.env.kindOf x=some .globalImplicit
theorem dw_ {E:Value->Shared->Prop}{pins:List (Addr×Obj)}{s:Shared}{σ:St}{H:Hp}{x:Str}{u:Value}{pos:Pos}{Q:Value->Shared->Prop} (I:Inv X pins σ H s) (hg:Gl X x) (hm:X.mg x=some u) (h:Q u s)
  (hd:(x == ("__debug__":Str))=false:=by decide):wpAny (model X.prog X.w) X.A (eval (.Name x pos) X.env) Q E s :=
 Calls.Name_function_global I.ok.kind hg (Calls.loadGlobal_global (by rw [I.ok.glob];exact I.mod.glob.keeps I.bk) hm h) hd
theorem dN_ {E:Value->Shared->Prop}{pins:List (Addr×Obj)}{s:Shared}{σ:St}{H:Hp}{x:Str}{u:Value}{pos:Pos}{Q:Value->Shared->Prop} (I:Inv X pins σ H s) (hg:Gl X x) (hm:X.mg x=none) (hv:bootBuiltins x=some u) (h:Q u s)
  (hn:x≠"__name__":=by decide) (hd:(x == ("__debug__":Str))=false:=by decide):wpAny (model X.prog X.w) X.A (eval (.Name x pos) X.env) Q E s:=by
 obtain ⟨mb,h1,h2⟩:=I.mod.blt;exact Calls.Name_function_global I.ok.kind hg (Calls.loadGlobal_builtin (by rw [I.ok.glob];exact I.mod.glob.keeps I.bk) hm (by rw [I.ok.blt];exact h1.keeps I.bk) ((h2 x hn).trans hv) h) hd
theorem kd_ {x:Str}{v:V}{u:Value}{pos:Pos} (hg:Gl X x) (hm:X.mg x=some u) (r:RelV v u) (hd:(x == ("__debug__":Str))=false:=by decide):PE X (.Name x pos) (tC v) :=
 fun _ _ _ H _ I h=>dw_ I hg hm ⟨v,H,I,r,h⟩ hd
variable {a b:Expr}{ta tb:TE}{pos:Pos}
def PC (X:Cx) (op:CmpOp) (a b:Expr) (t:TE):Prop :=
 ∀ (pins:List (Addr×Obj)) (s:Shared) (σ:St) (H:Hp) (Q:VK),Inv X pins σ H s->t σ H Q ->
  wpAny (model X.prog X.w) X.A (eval a X.env) (fun v s₁=>wpAny (model X.prog X.w) X.A (eval b X.env) (fun u s₂=>wpAny (model X.prog X.w) X.A (compareOp op v u) (EP X pins σ Q) X.xe s₂) X.xe s₁) X.xe s
theorem lR_ (b:Expr) {op:CmpOp} (h:op ≠ .In) (h2:op ≠ .NotIn):behindInMarks op b=false:=by
 have e1:(op == CmpOp.In)=false:=by cases op <;> first | rfl | exact absurd rfl h
 have e2:(op == CmpOp.NotIn)=false:=by cases op <;> first | rfl | exact absurd rfl h2
 cases b <;> simp [behindInMarks,e1,e2]
def tIsN (ta:TE):TE:=fun σ H Q=>ta σ H fun x H1=>Q (.bl (decide (x = .non))) H1
def pd_ (ta:TE):TE:=fun σ H Q=>ta σ H fun x H1=>Q (.bl (!decide (x = .non))) H1
theorem RelV.none_iff {x:V}{v:Value} (r:RelV x v):(v == Value.none)=decide (x = .non):=by
 cases x with
 | non=>cases r;rfl
 | bl _=>cases r;rfl
 | int _=>obtain ⟨t,rfl⟩:=r;rfl
 | str _=>obtain ⟨t,rfl⟩:=r;rfl
 | byt _=>obtain ⟨t,rfl⟩:=r;rfl
 | flt _=>obtain ⟨t,rfl⟩:=r;rfl
 | ref _=>cases r;rfl
 | ty _=>cases r;rfl
theorem oB_ {j pos'} (ha:PE X a ta):PC X .Is a (.Constant .none j pos') (tIsN ta):=by
 intro pins s σ H Q I h;refine thn (ha pins s σ H _ I h) fun v s1 zq=>?_;obtain ⟨x,H1,I1,r1,q1⟩:=zq;exact Constant_none (is_none_gen ⟨.bl _,H1,I1,by rw [r1.none_iff];rfl,q1⟩)
def tB (t:TE):TT:=fun σ H Q=>t σ H fun x H1=>∃ c,x = .bl c/\Q c H1
theorem mF_ {op:CmpOp}{t:TE} (h:PC X op a b t) (h1:behindInMarks op b=false:=by first | exact lR_ _ (by decide) (by decide) | rfl):PT X (.Compare a [op] [b] pos) (tB t):=by
 intro pins s σ H Q I hw;refine wpAny_isTrue_Compare1 (thn (h pins s σ H _ I hw) fun v s1 h1=>thn h1 fun u s2 h2=>thn h2 fun c s3 zq=>?_) h1;obtain ⟨x,H1,I1,r1,q1⟩:=zq;obtain ⟨d,rfl,q⟩:=q1;cases r1;exact wpAny_truthy_bool ⟨H1,I1,q⟩
theorem bR_ {e:Expr}{t:TE} (h:PE X e t) (he : ∀ whole,isTrue e X.env whole=(do let v <- whole;standAt e.pos;holding [v] (truthy v)):=by intro _;rfl):PT X e (tB t):=by
 intro pins s σ H Q I hw;refine isTrue_plain (thn (h pins s σ H _ I hw) fun v s1 zq=>?_) (he _);obtain ⟨x,H1,I1,r1,q1⟩:=zq;obtain ⟨d,rfl,q⟩:=q1;cases r1;exact wpAny_truthy_bool ⟨H1,I1,q⟩
variable {tA tB':TT}{rest:List Expr}
def tAnd (t u:TT):TT:=fun σ H Q=>t σ H fun c H1=>if c=true then u σ H1 Q else Q false H1
def tOr (t u:TT):TT:=fun σ H Q=>t σ H fun c H1=>if c=true then Q true H1 else u σ H1 Q
def tNot (t:TT):TT:=fun σ H Q=>t σ H fun c H1=>Q (!c) H1
theorem pw_and1 (ha:PT X a tA):PW X (.BoolOp .And [a] pos) tA:=by
 intro wh pins s σ H Q I h;refine isTrue_and (thn (ha pins s σ H Q I h) fun c s1 e=>?_);cases c with
 | true=>exact isTrue_and_nil e
 | false=>exact e
theorem pw_or1 (ha:PT X a tA):PW X (.BoolOp .Or [a] pos) tA:=by
 intro wh pins s σ H Q I h;refine isTrue_or (thn (ha pins s σ H Q I h) fun c s1 e=>?_);cases c with
 | false=>exact isTrue_or_nil e
 | true=>exact e
theorem pw_and (ha:PT X a tA) (hb:PW X (.BoolOp .And (b::rest) pos) tB'):PW X (.BoolOp .And (a::b::rest) pos) (tAnd tA tB'):=by
 intro wh pins s σ H Q I h;refine isTrue_and (thn (ha pins s σ H _ I h) fun c s1 ⟨H1,I1,q1⟩=>?_);cases c with
 | true=>exact hb wh pins s1 σ H1 Q I1 q1
 | false=>exact ⟨H1,I1,q1⟩
theorem pw_or (ha:PT X a tA) (hb:PW X (.BoolOp .Or (b::rest) pos) tB'):PW X (.BoolOp .Or (a::b::rest) pos) (tOr tA tB'):=by
 intro wh pins s σ H Q I h;refine isTrue_or (thn (ha pins s σ H _ I h) fun c s1 ⟨H1,I1,q1⟩=>?_);cases c with
 | true=>exact ⟨H1,I1,q1⟩
 | false=>exact hb wh pins s1 σ H1 Q I1 q1
theorem j1_ (ha:PT X a tA):PT X (.UnaryOp .Not a pos) (tNot tA):=by
 intro pins s σ H Q I h;exact isTrue_not (ha pins s σ H (fun c H1=>Q (!c) H1) I h)
def oc_ (ta tb:TE):TE:=fun σ H Q=>ta σ H fun x H1=>∃ c,x = .bl c/\if c=true then tb σ H1 Q else Q (.bl false) H1
def tOrV (ta tb:TE):TE:=fun σ H Q=>ta σ H fun x H1=>∃ c,x = .bl c/\if c=true then Q (.bl true) H1 else tb σ H1 Q
def pc_ (ta:TE):TE:=fun σ H Q=>ta σ H fun x H1=>∃ c,x = .bl c/\Q (.bl (!c)) H1
theorem mH_ {op}{t:TE} (h:PE X a t):PE X (.BoolOp op [a] pos) t:=fun pins s σ H Q I hw=>BoolOp_one (h pins s σ H Q I hw)
theorem oA_ (ha:PE X a ta) (hb:PE X (.BoolOp .And (b::rest) pos) tb):PE X (.BoolOp .And (a::b::rest) pos) (oc_ ta tb):=by
 intro pins s σ H Q I h;refine BoolOp_and (thn (ha pins s σ H _ I h) fun v s1 zq=>?_);obtain ⟨x,H1,I1,r1,q1⟩:=zq;obtain ⟨c,rfl,q1⟩:=q1;cases r1;refine wpAny_truthy_bool ?_;cases c with
 | true=>exact hb pins s1 σ H1 Q I1 q1
 | false=>exact ⟨.bl false,H1,I1,rfl,q1⟩
theorem oy_ (ha:PE X a ta) (hb:PE X (.BoolOp .Or (b::rest) pos) tb):PE X (.BoolOp .Or (a::b::rest) pos) (tOrV ta tb):=by
 intro pins s σ H Q I h;refine BoolOp_or (thn (ha pins s σ H _ I h) fun v s1 zq=>?_);obtain ⟨x,H1,I1,r1,q1⟩:=zq;obtain ⟨c,rfl,q1⟩:=q1;cases r1;refine wpAny_truthy_bool ?_;cases c with
 | false=>exact hb pins s1 σ H1 Q I1 q1
 | true=>exact ⟨.bl true,H1,I1,rfl,q1⟩
def tIf (t:TT) (ta tb:TE):TE:=fun σ H Q=>t σ H fun c H1=>if c=true then ta σ H1 Q else tb σ H1 Q
theorem b3_ {c:Expr} (hc:PT X c tA) (ha:PE X a ta) (hb:PE X b tb):PE X (.IfExp c a b pos) (tIf tA ta tb):=by
 intro pins s σ H Q I h;refine wpAny_IfExp (thn (hc pins s σ H _ I h) fun d s1 ⟨H1,I1,q1⟩=>?_);cases d with
 | true=>exact ha pins s1 σ H1 Q I1 q1
 | false=>exact hb pins s1 σ H1 Q I1 q1
end
end L2
namespace L2
open PySem PySem.Spec PyProof.Rows
def SqL (K:PySem.W.Frag) (H:Hp) (a:Addr) (xs:List V):Prop :=
 Rd H a (.lst xs) \/
  ∃ (o:Obj) (its:Array Value) (n:Nat),K.lookup a=some o/\o.cls = .type "list"/\o.dict=none/\o.data = .seq its n/\its.size<=sizeLine/\Vals xs its.toList
def SqT (K:PySem.W.Frag) (H:Hp) (a:Addr) (xs:List V):Prop :=
 Rd H a (.tup xs) \/
  ∃ (o:Obj) (its:Array Value) (n:Nat),K.lookup a=some o/\o.cls = .type "tuple"/\o.data = .seq its n/\its.size<=sizeLine/\Vals xs its.toList
noncomputable def absV:Value->Option V
 | .none=>some .non
 | .bool b=>some (.bl b)
 | .int i _=>some (.int i)
 | .str x _=>some (.str x)
 | .bytes b _=>some (.byt b)
 | .float b _=>some (.flt b)
 | .ref a=>some (.ref a)
 | .type n=>some (.ty n)
 | _=>none
theorem RelV.abs {x:V}{u:Value} (r:RelV x u):absV u=some x:=by
 cases x with
 | non=>cases r;rfl
 | bl _=>cases r;rfl
 | int _=>obtain ⟨t,rfl⟩:=r;rfl
 | str _=>obtain ⟨t,rfl⟩:=r;rfl
 | byt _=>obtain ⟨t,rfl⟩:=r;rfl
 | flt _=>obtain ⟨t,rfl⟩:=r;rfl
 | ref _=>cases r;rfl
 | ty _=>cases r;rfl
theorem RelV.inj {x y:V}{u:Value} (r:RelV x u) (q:RelV y u):x=y:=Option.some.inj (r.abs.symm.trans q.abs)
theorem Vals.inj : ∀ {xs ys:List V}{us:List Value},Vals xs us->Vals ys us->xs=ys
 | _,_,_,.nil,.nil=>rfl
 | _,_,_,.cons r t,.cons r' t'=>by rw [r.inj r',Vals.inj t t']
section
variable {X:Cx}{pins:List (Addr×Obj)}{σ:St}{H:Hp}{s:Shared}{a:Addr}{xs ys:List V}
theorem SqL.of {K:PySem.W.Frag} (h:H a=some (.lst xs)):SqL K H a xs := .inl (.inl h)
theorem SqT.of {K:PySem.W.Frag} (h:H a=some (.tup xs)):SqT K H a xs := .inl (.inl h)
theorem Inv.list (I:Inv X pins σ H s) (h:SqL X.K H a xs) : ∃ its:List Value,Vals xs its/\PlainL s.heap a its.toArray/\xs.length<=sizeLine:=by
 rcases h with h | ⟨o,its,n,hk,hc,hd,hs,hz,r⟩
 ·obtain ⟨z,its,n,r,e⟩:=h.ok I.hok
  exact ⟨its,r,⟨_,n,e,rfl,rfl,rfl⟩,z⟩
 refine ⟨its.toList,r,⟨o,n,I.kIn a o hk,hc,hd,by simpa using hs⟩,?_⟩;have e:=r.length;simp only [Array.length_toList] at e;omega
theorem Inv.tuple (I:Inv X pins σ H s) (h:SqT X.K H a xs) : ∃ its:List Value,Vals xs its/\IsTup s.heap a its.toArray/\xs.length<=sizeLine:=by
 rcases h with h | ⟨o,its,n,hk,hc,hs,hz,r⟩
 ·obtain ⟨z,its,r,p⟩:=h.ok I.hok
  exact ⟨its,r,p,z⟩
 refine ⟨its.toList,r,⟨o,I.kIn a o hk,hc,n,by simpa using hs⟩,?_⟩;have e:=r.length;simp only [Array.length_toList] at e;omega
theorem Inv.list_inj (I:Inv X pins σ H s) (h:SqL X.K H a xs) (h':SqL X.K H a ys):xs=ys:=by
 obtain ⟨its,r,⟨o,n,e,_,_,d⟩,_⟩:=I.list h;obtain ⟨its',r',⟨o',n',e',_,_,d'⟩,_⟩:=I.list h';rw [e] at e';cases e';rw [d] at d';injection d' with d1 _;have:its=its':=by simpa using congrArg Array.toList d1
 subst this;exact r.inj r'
theorem Inv.tuple_inj (I:Inv X pins σ H s) (h:SqT X.K H a xs) (h':SqT X.K H a ys):xs=ys:=by
 obtain ⟨its,r,⟨o,e,_,n,d⟩,_⟩:=I.tuple h;obtain ⟨its',r',⟨o',e',_,n',d'⟩,_⟩:=I.tuple h';rw [e] at e';cases e';rw [d] at d';injection d' with d1 _;have:its=its':=by simpa using congrArg Array.toList d1
 subst this;exact r.inj r'
end
abbrev Cx.wish (X:Cx) (E:Value->Shared->Prop):Cx:={ X with xe:=E }
abbrev Cx.nox (X:Cx):Cx:=X.wish fun _ _=>False
theorem Cx.Ok.wish {X:Cx} (ok:X.Ok) (E:Value->Shared->Prop):(X.wish E).Ok :=
 ⟨ok.mod,ok.kind,ok.glob,ok.blt,ok.above,ok.inj,ok.has,ok.cab,ok.hd,ok.frames,ok.stk,ok.exf,ok.bs,ok.bsz,ok.noex,ok.exfs,ok.funs,ok.frf⟩
theorem Cx.Ok.unwish {X:Cx}{E:Value->Shared->Prop} (ok:(X.wish E).Ok):X.Ok :=
 ⟨ok.mod,ok.kind,ok.glob,ok.blt,ok.above,ok.inj,ok.has,ok.cab,ok.hd,ok.frames,ok.stk,ok.exf,ok.bs,ok.bsz,ok.noex,ok.exfs,ok.funs,ok.frf⟩
section
variable {X:Cx}{pins:List (Addr×Obj)}{σ:St}{H:Hp}{s:Shared}{E:Value->Shared->Prop}
theorem Inv.wish (I:Inv X pins σ H s) (E:Value->Shared->Prop):Inv (X.wish E) pins σ H s:=⟨I.ok.wish E,I.os,I.bare,I.base,I.loc,I.cell,I.free,I.freeC,I.pin,I.hok,I.len⟩
theorem Inv.unwish (I:Inv (X.wish E) pins σ H s):Inv X pins σ H s:=⟨I.ok.unwish,I.os,I.bare,I.base,I.loc,I.cell,I.free,I.freeC,I.pin,I.hok,I.len⟩
theorem SP.unwish {D:Ends}{f:Flow}{s':Shared} (h:SP (X.wish E) pins D f s'):SP X pins D f s':=by
 cases f with
 | next=>obtain ⟨σ',H',I,q⟩:=h;exact ⟨σ',H',I.unwish,q⟩
 | brk=>obtain ⟨σ',H',I,q⟩:=h;exact ⟨σ',H',I.unwish,q⟩
 | cont=>obtain ⟨σ',H',I,q⟩:=h;exact ⟨σ',H',I.unwish,q⟩
 | ret u=>obtain ⟨v,σ',H',I,r,q⟩:=h;exact ⟨v,σ',H',I.unwish,r,q⟩
theorem PSs.nox {st:List Stmt}{t:TS} (h:PSs X.nox st t):PSs X st t:=fun pins s σ H D I hw =>
 wpAny_mono (h pins s σ H D (I.wish _) hw) (fun _ _ q=>q.unwish) fun _ _ z=>False.elim z
end
section
variable {X:Cx}{st:Stmt}{rest:List Stmt}{t u:TS}{e:Expr}{te:TE}{pos:Pos}
def oa_:TS:=fun D σ H=>D.nx σ H
def tSeq (t u:TS):TS:=fun D σ H=>t { D with nx:=u D } σ H
theorem atz_:PSs X [] oa_:=fun _ _ σ H _ I h=>wpAny_execs_nil ⟨σ,H,I,h⟩
theorem ad_ (h1:PS X st t) (h2:PSs X rest u):PSs X (st::rest) (tSeq t u):=by
 intro pins s σ H D I h;refine wpAny_execs_cons (thn (h1 pins s σ H { D with nx:=u D } I h) fun f s1 q=>?_);cases f with
 | next =>
  obtain ⟨σ',H',I',q⟩:=q;exact h2 pins s1 σ' H' D I' q
 | ret v=>exact q
 | brk=>exact q
 | cont=>exact q
theorem ae_ (h1:PS X st t):PSs X [st] t:=by
 intro pins s σ H D I h;refine wpAny_execs_cons (thn (h1 pins s σ H D I h) fun f s1 q=>?_);cases f with
 | next=>exact wpAny_execs_nil q
 | ret v=>exact q
 | brk=>exact q
 | cont=>exact q
theorem Inv.quiet {pins:List (Addr×Obj)}{σ:St}{H:Hp}{s:Shared} (I:Inv X pins σ H s):interactive X.env=false:=by simp [interactive,I.ok.kind]
def ob_ (te:TE):TS:=fun D σ H=>te σ H fun _ H1=>D.nx σ H1
theorem a2_ (he:PE X e te) (hs:swapsWith e none pos.line X.env=pure false:=by rfl):PS X (.Expr e pos) (ob_ te):=by
 intro pins s σ H D I h;exact wpAny_Expr_any (thn (he pins s σ H _ I h) fun v s1 ⟨x,H1,I1,r1,q1⟩=>⟨σ,H1,I1,q1⟩) I.quiet hs
def tRet (te:TE):TS:=fun D σ H=>te σ H D.rt
theorem aj_ (he:PE X e te):PS X (.Return (some e) pos) (tRet te):=by
 intro pins s σ H D I h;exact wpAny_Return_some (thn (he pins s σ H _ I h) fun v s1 ⟨x,H1,I1,r1,q1⟩=>⟨x,σ,H1,I1,r1,q1⟩)
def pb_:TS:=fun D _ H=>D.rt .non H
def tIfS (c:TT) (t u:TS):TS:=fun D σ H=>c σ H fun b H1=>if b=true then t D σ H1 else u D σ H1
theorem aT_ {c:Expr}{a b:List Stmt}{tc:TT} (hc:PT X c tc) (ha:PSs X a t) (hb:PSs X b u):PS X (.If c a b pos) (tIfS tc t u):=by
 intro pins s σ H D I h;refine wpAny_If (thn (hc pins s σ H _ I h) fun d s1 ⟨H1,I1,q1⟩=>?_);cases d with
 | true=>exact ha pins s1 σ H1 D I1 q1
 | false=>exact hb pins s1 σ H1 D I1 q1
end
abbrev TG:=V->St->Hp->(St->Hp->Prop)->Prop
abbrev TGs:=List V->St->Hp->(St->Hp->Prop)->Prop
def PG (X:Cx) (target:Expr) (t:TG):Prop :=
 ∀ (pins:List (Addr×Obj)) (s:Shared) (σ:St) (H:Hp) (v:V) (u:Value) (Q:St->Hp->Prop),Inv X pins σ H s->RelV v u->t v σ H Q ->
  wpAny (model X.prog X.w) X.A (assign target X.env u) (fun _ s'=>∃ σ' H',Inv X pins σ' H' s'/\Q σ' H') X.xe s
def PGs (X:Cx) (ts:List Expr) (t:TGs):Prop :=
 ∀ (pins:List (Addr×Obj)) (s:Shared) (σ:St) (H:Hp) (vs:List V) (us:List Value) (Q:St->Hp->Prop),Inv X pins σ H s->Vals vs us->t vs σ H Q ->
  wpAny (model X.prog X.w) X.A (assignInOrder ((assignEach ts X.env).map (·.2)) us) (fun _ s'=>∃ σ' H',Inv X pins σ' H' s'/\Q σ' H') X.xe s
abbrev TIp:=V->V->Hp->VK->Prop
def PIp (X:Cx) (op:Operator) (t:TIp):Prop :=
 ∀ (pins:List (Addr×Obj)) (s:Shared) (σ:St) (H:Hp) (x y:V) (v u:Value) (Q:VK),Inv X pins σ H s->RelV x v->RelV y u->t x y H Q ->
  wpAny (model X.prog X.w) X.A (inplaceOp op v u) (EP X pins σ Q) X.xe s
section
variable {X:Cx}{pos:Pos}
def dz_ (i:Nat):TG:=fun v σ H Q=>Q (σ.set i (some v)) H
theorem j8_ {i:Nat}{x:Str} (hN:X.N.Nodup) (hi:X.N[i]? = some x) (hx:Loc X.env.scope x) (hf:X.fn x=true\/X.env.scope.names.lookup x=some .local:=by first | exact .inl rfl | exact .inr rfl | assumption):PG X (.Name x pos) (dz_ i):=by
 intro pins s σ H v u Q I r h;exact wpAny_assign_Name (d1_ I hN hi hx r (fun s' I'=>⟨_,H,I',h⟩) hf)
def gNil:TGs:=fun vs σ H Q=>vs=[]/\Q σ H
def oU_ (t:TG) (u:TGs):TGs:=fun vs σ H Q=>∃ v r,vs=v::r/\t v σ H fun σ' H'=>u r σ' H' Q
theorem nr_:PGs X [] gNil:=by
 intro pins s σ H vs us Q I r h;obtain ⟨e,h⟩:=h;subst e;cases r;exact assignInOrder_nil ⟨σ,H,I,h⟩
theorem ik_ {e:Expr}{es:List Expr}{t:TG}{u:TGs} (h1:PG X e t) (h2:PGs X es u)
  (hs:(assignEach (e::es) X.env).map (·.2)=assign e X.env::(assignEach es X.env).map (·.2):=by rfl):PGs X (e::es) (oU_ t u):=by
 intro pins s σ H vs us Q I r h;obtain ⟨v,vr,e1,h⟩:=h;subst e1;cases r with
 | cons r rr =>
 rw [hs];refine assignInOrder_cons (thn (h1 pins s σ H _ _ _ I r h) fun _ s1 ⟨σ1,H1,I1,q1⟩=>?_);exact h2 pins s1 σ1 H1 _ _ Q I1 rr q1
def gTup (K:PySem.W.Frag) (n:Nat) (t:TGs):TG:=fun v σ H Q=>∃ a xs,v = .ref a/\SqT K H a xs/\xs.length=n/\t xs σ H Q
theorem ow_ {es:List Expr}{k:Nat}{t:TGs}{n:Nat} (hc:X.calm=true) (h:PGs X es t)
  (hn:(assignEach es X.env).length=n:=by rfl) (hst:(assignEach es X.env).findIdx? (·.1)=none:=by rfl):PG X (.Tuple es k pos) (gTup X.K n t):=by
 intro pins s σ H v u Q I r hw;obtain ⟨a,xs,e1,hq,hl,hw⟩:=hw;subst e1;cases r;obtain ⟨its,rv,ht,hz⟩:=I.tuple hq;refine assign_Tuple_tuple (I.ok.hd hc) ht (by simp [hn,<- hl,rv.length]) hst fun h' hx=>?_;have I1:Inv X pins σ H { s with heap:=h' }:=I.kept (t':=s.toks) fun b o e=>hx b o (Nat.ne_of_lt (Heap.lt_size e)) e;exact h pins _ σ H xs _ Q I1 (by simpa using rv) hw
def tAsg (te:TE) (g:TG):TS:=fun D σ H=>te σ H fun x H1=>g x σ H1 D.nx
theorem ie_ {i:Nat}{x:Str}{e:Expr}{te:TE}{pos':Pos} (hN:X.N.Nodup) (hi:X.N[i]? = some x) (hx:Loc X.env.scope x) (he:PE X e te) (hs:swapsWith e (some (.Name x pos')) pos.line X.env=pure false:=by rfl) (hf:X.fn x=true\/X.env.scope.names.lookup x=some .local:=by first | exact .inl rfl | exact .inr rfl | assumption) :
  PS X (.Assign [.Name x pos'] e pos) (tAsg te (dz_ i)):=by
 intro pins s σ H D I h;refine wpAny_Assign_Name (thn (he pins s σ H _ I h) fun v s1 zq=>?_) hs;obtain ⟨y,H1,I1,r1,q1⟩:=zq;exact d1_ I1 hN hi hx r1 (fun s2 I2=>⟨_,H1,I2,q1⟩) hf
def tAug (i:Nat) (te:TE) (ti:TIp):TS:=fun D σ H=>∃ x,σ[i]? = some (some x)/\te σ H fun y H1=>ti x y H1 fun z H2=>D.nx (σ.set i (some z)) H2
theorem ou_ {i:Nat}{x:Str}{e:Expr}{te:TE}{op:Operator}{ti:TIp}{pos':Pos} (hN:X.N.Nodup) (hi:X.N[i]? = some x) (hx:Loc X.env.scope x) (he:PE X e te) (ho:PIp X op ti) (hf:X.fn x=true\/X.env.scope.names.lookup x=some .local:=by first | exact .inl rfl | exact .inr rfl | assumption) :
  PS X (.AugAssign (.Name x pos') op e pos) (tAug i te ti):=by
 intro pins s σ H D I h;obtain ⟨v,e1,h⟩:=h;obtain ⟨m,hn,hl⟩:=I.loc;have vis:Vis X.env.scope x:=by rcases hx with k | k;exact .inl k;exact .inr (.inl k)
 obtain ⟨u,r,l⟩:=hl i x v hi e1 vis;refine wpAny_AugAssign_Name ?_;have go:wpAny (model X.prog X.w) X.A (eval e X.env) (fun w s₂=>wpAny (model X.prog X.w) X.A (inplaceOp op u w) (fun r s₃=>wpAny (model X.prog X.w) X.A (storeName X.env x r) (fun _=>SP X pins D .next) X.xe s₃) X.xe s₂) X.xe s:=by
  refine thn (he pins s σ H _ I h) fun w s1 zq=>?_;obtain ⟨y,H1,I1,r1,q1⟩:=zq;refine thn (ho pins s1 σ H1 v y u w _ I1 r r1 q1) fun z s2 zq=>?_;obtain ⟨zv,H2,I2,r2,q2⟩:=zq;exact d1_ I2 hN hi hx r2 (fun s3 I3=>⟨_,H2,I3,q2⟩) hf
 rcases l with ⟨hk,hm⟩ | ⟨hk,c,hc,hcell⟩
 ·exact wpAny_loadName_local I.ok.kind hk hn hm go
 rcases hk with hk | hk
 ·exact wpAny_loadName_cell I.ok.kind hk hc hcell go
 rcases hx with k | k
 ·have:X.env.scope.names.lookup x=some .free:=hk
  rw [k] at this;cases this
 have:X.env.scope.names.lookup x=some .free:=hk;rw [k] at this;cases this
def ipI (f:Int->Int->Int):TIp:=fun x y H Q=>∃ i j,x = .int i/\y = .int j/\Q (.int (f i j)) H
theorem oP_:PIp X .Add (ipI fun i j=>i+j):=by
 intro pins s σ H x y v u Q I r1 r2 h;obtain ⟨i,j,e1,e2,q⟩:=h;subst e1;subst e2;obtain ⟨t,rfl⟩:=r1;obtain ⟨t',rfl⟩:=r2;exact iadd_int ⟨.int _,H,I.tok _,⟨_,rfl⟩,q⟩
end
section
variable {X:Cx}{pos:Pos}
def mp_ (c:TT) (tb:TS):TS:=fun D σ H=>∃ W:Nat->St->Hp->Prop,(∃ m,W m σ H)/\∀ m σ H,W m σ H ->
 c σ H fun b H1=>if b=true then ∃ N:St->Hp->Prop,(∀ σ' H',N σ' H'->∃ m',m'<m/\W m' σ' H')/\tb { D with nx:=N,ct:=N,bk:=D.nx } σ H1 else D.nx σ H1
theorem bq_ {c:Expr}{body:List Stmt}{tc:TT}{tb:TS} (hp:PassesOwn (model X.prog X.w) X.A X.env X.xe) (hc:PT X c tc) (hb:PSs X body tb):PS X (.While c body [] pos) (mp_ tc tb):=by
 intro pins s σ H D I h;obtain ⟨W,⟨m0,w0⟩,turn⟩:=h;refine wpAny_While (codeAny_whileLoop (fun n s'=>∃ σ' H',Inv X pins σ' H' s'/\W n σ' H') ?_ m0 ⟨σ,H,I,w0⟩)
 rintro n s1 ⟨σ1,H1,I1,w1⟩
 refine wpAny_passesOwn hp (thn (hc pins s1 σ1 H1 _ I1 (turn n σ1 H1 w1)) fun b s2 ⟨H2,I2,q2⟩=>?_);cases b with
 | true =>
  obtain ⟨N,hN,q2⟩:=q2;rw [if_pos rfl];refine wpAny_passesOwn hp (thn (hb pins s2 σ1 H2 _ I2 q2) fun f s3 q3=>?_);cases f with
  | next =>
   obtain ⟨σ3,H3,I3,n3⟩:=q3;obtain ⟨m',hm,w3⟩:=hN σ3 H3 n3;exact ⟨m',hm,σ3,H3,I3,w3⟩
  | cont =>
   obtain ⟨σ3,H3,I3,n3⟩:=q3;obtain ⟨m',hm,w3⟩:=hN σ3 H3 n3;exact ⟨m',hm,σ3,H3,I3,w3⟩
  | brk=>exact q3
  | ret v=>exact q3
 | false =>
 rw [if_neg Bool.false_ne_true];exact wpAny_execs_nil ⟨σ1,H2,I2,q2⟩
end
structure It where
 go:Nat->Hp->Prop
 yld:Nat->Hp->V->Hp->Prop
 stop:Nat->Hp->Prop
def FpOk (X:Cx) (pins:List (Addr×Obj)) (H:Hp) (b:Addr):Prop :=
 H b=none/\b≠X.env.locals/\b∉X.fs/\(b∈X.ex\/X.s_0.heap.objs.size<=b)/\(∀ x c,X.env.cells.lookup x=some c->c≠b)/\∀ p∈X.pn++pins,p.1≠b
theorem Inv.fpOk {X:Cx}{pins:List (Addr×Obj)}{σ:St}{H H':Hp}{s:Shared}{b:Addr} (I:Inv X pins σ H s) (hb:s.heap.objs.size<=b) (hn:H' b=none):FpOk X pins H' b:=by
 refine ⟨hn,ne_of_gt (Nat.lt_of_lt_of_le I.lt hb),I.nofs hb,.inr (Nat.le_trans I.sz hb),fun x c e z=>?_,fun p hp z=>?_⟩
 ·obtain ⟨v,q⟩:=I.cell x c e
  exact absurd (Nat.lt_of_lt_of_le q.lt (by rw [z];exact hb)) (Nat.lt_irrefl _)
 exact absurd (Nat.lt_of_lt_of_le (Heap.lt_size (I.pin p hp).1) (by rw [z];exact hb)) (Nat.lt_irrefl _)
structure Turn (P:Program) (w:World) (K:PySem.W.Frag) (tg:Expr) (J:It) (fp:List Addr) (it:Addr) (tn:Nat->Heap->Prop):Prop where
 mem:it∈fp
 obj : ∀ i h,tn i h->∀ b∈fp,∃ o,h.get? b=some o/\∀ v,o.data ≠ .cell v
 keep : ∀ i h h',tn i h->(∀ b∈fp,∀ o,h.get? b=some o->h'.get? b=some o)->tn i h'
 item : ∀ (X:Cx),X.prog=P->X.w=w->X.K=K->X.calm=true->∀ (i:Nat) (pins:List (Addr×Obj)) (s:Shared) (σ:St) (H:Hp) (E:Value->Shared->Prop),Inv X pins σ H s->(∀ b∈fp,FpOk X pins H b)->tn i s.heap->J.go i H ->
  wpAny (model P w) X.A (pyNext (.ref it)) (fun r s1=>∃ u,r=some u /\
   wpAny (model P w) X.A (letOwnedTupleGo tg (.ref it) u) (fun _ s2=>∃ x H',Inv X pins σ H' s2/\RelV x u/\J.yld i H x H'/\tn (i+1) s2.heap/\∀ b∈fp,H' b=none) E s1) E s
 done : ∀ (X:Cx),X.prog=P->X.w=w->X.K=K->X.calm=true->∀ (i:Nat) (pins:List (Addr×Obj)) (s:Shared) (σ:St) (H:Hp) (E:Value->Shared->Prop),Inv X pins σ H s->(∀ b∈fp,FpOk X pins H b)->tn i s.heap->J.stop i H ->
  wpAny (model P w) X.A (pyNext (.ref it)) (fun r s1=>r=none/\Inv X pins σ H s1) E s
 self : ∀ (A:Around) (i:Nat) (s:Shared) (Q:Value->Shared->Prop) (E:Value->Shared->Prop),tn i s.heap->Q (.ref it) s->wpAny (model P w) A (pyIter (.ref it)) Q E s
abbrev TI:=St->Hp->(It->Hp->Prop)->Prop
def PIE (X:Cx) (pins:List (Addr×Obj)) (σ:St) (tg:Expr) (R:It->Hp->Prop) (itv:Value) (s2:Shared):Prop :=
 ∃ (it:Addr) (fp:List Addr) (tn:Nat->Heap->Prop) (J:It) (H':Hp),itv = .ref it/\Inv X pins σ H' s2/\Turn X.prog X.w X.K tg J fp it tn/\tn 0 s2.heap/\(∀ b∈fp,FpOk X pins H' b)/\R J H'
def PI (X:Cx) (tg iter:Expr) (wi:TI):Prop :=
 ∀ (pins:List (Addr×Obj)) (s:Shared) (σ:St) (H:Hp) (R:It->Hp->Prop),Inv X pins σ H s->wi σ H R ->
  wpAny (model X.prog X.w) X.A (eval iter X.env) (fun v s1=>wpAny (model X.prog X.w) X.A (pyIter v) (PIE X pins σ tg R) X.xe s1) X.xe s
theorem l2_ {M:Model}{A:Around}{E:Value->Shared->Prop}{s:Shared}{tg:Expr}{it:Addr}{u:Value}{o:Obj}{n:String}{vs:Array Value}{Q:Unit->Shared->Prop} (ho:s.heap.get? it=some o) (hc:o.cls = .type n) (hd:o.data = .fields vs)
  (hn:["enumerate","zip","dict_itemiterator","dict_reverseitemiterator","odict_iterator","itertools.zip_longest","itertools.pairwise"].contains n=false) (hQ:Q () s):wpAny M A (letOwnedTupleGo tg (.ref it) u) Q E s:=by
 unfold letOwnedTupleGo;cases tg <;> first
  | exact wpAny_pure hQ
  | (cases u <;> first
    | exact wpAny_pure hQ
    | (refine wpAny_bind (wpAny_load ho ?_)
       rw [hc,hd];show wpAny M A (if (["enumerate","zip","dict_itemiterator","dict_reverseitemiterator","odict_iterator","itertools.zip_longest","itertools.pairwise"].contains n && vs[0]? == some (rawInt _))=true then _ else _) Q E s;rw [if_neg (by intro h;rw [hn,Bool.false_and] at h;cases h)];exact wpAny_pure hQ))
def Itl (K:PySem.W.Frag) (a:Addr):It :=
 ⟨fun i H=>∃ xs x,SqL K H a xs/\xs[i]? = some x,fun i H x H'=>H'=H/\∀ xs,SqL K H a xs->xs[i]? = some x,fun i H=>∃ xs,SqL K H a xs/\xs.length<=i⟩
def Itt (K:PySem.W.Frag) (a:Addr):It :=
 ⟨fun i H=>∃ xs x,SqT K H a xs/\xs[i]? = some x,fun i H x H'=>H'=H/\∀ xs,SqT K H a xs->xs[i]? = some x,fun i H=>∃ xs,SqT K H a xs/\xs.length<=i⟩
theorem gm_ {P:Program}{w:World}{K:PySem.W.Frag}{tg:Expr} (a it:Addr):Turn P w K tg (Itl K a) [it] it (fun i h=>h.IsListIter it a i) where
 mem:=by simp
 obj:=fun i h st b hb=>by
  have e:b=it:=by simpa using hb
  subst e;obtain ⟨o,e,c,d⟩:=st;exact ⟨o,e,fun v z=>by rw [d] at z;cases z⟩
 keep:=fun i h h' st k=>st.at fun o e=>k it (by simp) o e
 item:=by
  intro X hP hw hK hc i pins s σ H E I hf st hg;subst hP hw hK;obtain ⟨xs,x,hq,hx⟩:=hg;obtain ⟨its,rv,p,hz⟩:=I.list hq;obtain ⟨u,hu,ru⟩:=rv.get hx;obtain ⟨f0,f1,f2,f3,f4,f5⟩:=hf it (by simp);refine wpAny_pyNext_list_item st p.isList (x:=u) (by simpa using hu) fun h' st' sb=>?_;have I1:Inv X pins σ H { s with heap:=h' }:=I.turned (t':=s.toks) (fun b o hb e=>(sb.2 b hb).trans e) f0 f1 f3 f4 f5;obtain ⟨o,e,c,d⟩:=id st';exact ⟨u,rfl,l2_ (s:={ s with heap:=h' }) e c d (by decide) ⟨x,H,I1,ru,⟨rfl,fun ys hy=>by rw [I.list_inj hy hq];exact hx⟩,st',fun b hb=>(hf b hb).1⟩⟩
 done:=by
  intro X hP hw hK hc i pins s σ H E I hf st hg;subst hP hw hK;obtain ⟨xs,hq,hx⟩:=hg;obtain ⟨its,rv,p,hz⟩:=I.list hq;obtain ⟨f0,f1,f2,f3,f4,f5⟩:=hf it (by simp);have hl:=rv.length;exact wpAny_pyNext_list_end (I.ok.hd hc) st p.isList (by simp;omega) fun h' eb=>⟨rfl,I.turned (t':=s.toks) (fun b o hb e=>eb b o hb e) f0 f1 f3 f4 f5⟩
 self:=fun _ _ _ _ _ st h=>wpAny_pyIter_listiter st h
end L2
namespace L2
open PySem PySem.Spec PyProof.Rows
section
variable {X:Cx}{tg:Expr}
def lZ_ (K:PySem.W.Frag) (tl:TE):TI:=fun σ H R=>tl σ H fun x H1=>∃ a,x = .ref a/\(∃ xs,SqL K H1 a xs)/\R (Itl K a) H1
def iTup (K:PySem.W.Frag) (tl:TE):TI:=fun σ H R=>tl σ H fun x H1=>∃ a,x = .ref a/\(∃ xs,SqT K H1 a xs)/\R (Itt K a) H1
theorem eA_ {l:Expr}{tl:TE} (hl:PE X l tl):PI X tg l (lZ_ X.K tl):=by
 intro pins s σ H R I h;refine thn (hl pins s σ H _ I h) fun v s1 zq=>?_;obtain ⟨x,H1,I1,r1,q1⟩:=zq;obtain ⟨a,e,⟨xs,hq⟩,q⟩:=q1;subst e;cases r1;obtain ⟨its,rv,p,hz⟩:=I1.list hq;refine wpAny_pyIter_list p.isList ?_;refine ⟨s1.heap.objs.size,[s1.heap.objs.size],_,_,H1,rfl,I1.kept (t':=s1.toks) fun b o e=>Heap.get?_push_of_some _ e,gm_ a _,⟨_,Heap.get?_push_size _ rfl,rfl,rfl⟩,fun b hb=>?_,q⟩;have e:b=s1.heap.objs.size:=by simpa using hb
 subst e;exact I1.fpOk (Nat.le_refl _) (I1.hok.fresh (Nat.le_refl _))
def tFor (wi:TI) (g:TG) (tb:TS):TS:=fun D σ H=>wi σ H fun J H1=>∃ W:Nat->Nat->St->Hp->Prop,(∃ m,W 0 m σ H1)/\∀ i m σ H,W i m σ H ->
 (J.stop i H/\D.nx σ H)\/(J.go i H/\∃ N:St->Hp->Prop,(∀ σ' H',N σ' H'->∃ m',m'<m/\W (i+1) m' σ' H')/\∀ x H',J.yld i H x H'->g x σ H' fun σ2 H2=>tb { D with nx:=N,ct:=N,bk:=D.nx } σ2 H2)
noncomputable def fh_ (fp:List Addr) (h:Heap):List (Addr×Obj):=fp.filterMap fun b=>(h.get? b).map fun o=>(b,o)
theorem bS_ {fp:List Addr}{h:Heap}{b:Addr}{o:Obj} (hb:b∈fp) (e:h.get? b=some o):(b,o)∈fh_ fp h:=List.mem_filterMap.mpr ⟨b,hb,by rw [e];rfl⟩
theorem kn_ {fp:List Addr}{h:Heap}{p:Addr×Obj} (hp:p∈fh_ fp h):p.1∈fp/\h.get? p.1=some p.2:=by
 obtain ⟨b,hb,e⟩:=List.mem_filterMap.mp hp;cases q:h.get? b with
 | none=>rw [q] at e;cases e
 | some o =>
 rw [q] at e;have e':(b,o)=p:=Option.some.inj e;subst e';exact ⟨hb,q⟩
theorem Inv.pinned {pins:List (Addr×Obj)}{σ:St}{H:Hp}{s:Shared}{fp:List Addr} (I:Inv X pins σ H s) (hf : ∀ b∈fp,FpOk X pins H b) (ho : ∀ b∈fp,∃ o,s.heap.get? b=some o/\∀ v,o.data ≠ .cell v):Inv X (pins++fh_ fp s.heap) σ H s :=
 I.pins_of fun p hp=>(List.mem_append.mp hp).elim (fun z=>I.pin p (mem_append_right _ z)) fun z=>by
  obtain ⟨hb,e⟩:=kn_ z;obtain ⟨f0,f1,f2,_⟩:=hf p.1 hb;obtain ⟨o,e',d⟩:=ho p.1 hb;rw [e] at e';cases e';exact ⟨e,f0,f1,f2,d⟩
theorem Inv.unpinned {pins pl:List (Addr×Obj)}{σ:St}{H:Hp}{s:Shared} (I:Inv X (pins++pl) σ H s):Inv X pins σ H s:=I.pins_of fun p hp=>I.pin p (mem_append_right _ (mem_append_left _ hp))
theorem ff_ {iter:Expr}{body:List Stmt}{wi:TI}{g:TG}{tb:TS}{pos:Pos} (hp:PassesOwn (model X.prog X.w) X.A X.env X.xe) (hc:X.calm=true) (hi:PI X tg iter wi) (hg:PG X tg g) (hb:PSs X body tb)
  (hs : ∀ x,foldedSetIterable iter X.env x=pure x:=by intro _;rfl):PS X (.For tg iter body [] pos) (tFor wi g tb):=by
 intro pins s σ H D I h;refine wpAny_For (thn (hi pins s σ H _ I h) fun v s1 h1=>thn h1 fun itv s2 h2=>?_) hs;obtain ⟨it,fp,tn,J,H2,e,I2,T,st2,f2,W,⟨m0,w0⟩,turn⟩:=h2;subst e;have stat : ∀ {H':Hp},(∀ b∈fp,H' b=none)->∀ b∈fp,FpOk X pins H' b:=fun hn b hb=>⟨hn b hb,(f2 b hb).2⟩;refine codeAny_forLoop_any (fun n s'=>∃ i σ' H',Inv X pins σ' H' s'/\tn i s'.heap/\(∀ b∈fp,H' b=none)/\W i n σ' H') ?_ m0 ⟨0,σ,H2,I2,st2,fun b hb=>(f2 b hb).1,w0⟩
 rintro n s3 ⟨i,σ3,H3,I3,st3,fr3,w3⟩
 rcases turn i n σ3 H3 w3 with ⟨stop,qn⟩ | ⟨go,N,hN,step⟩
 ·refine wpAny_passesOwn hp (thn (T.done X rfl rfl rfl hc i pins s3 σ3 H3 X.xe I3 (stat fr3) st3 stop) fun r s4 ⟨hr,I4⟩=>?_)
  subst hr;exact wpAny_execs_nil ⟨σ3,H3,I4,qn⟩
 refine wpAny_passesOwn hp (thn (T.item X rfl rfl rfl hc i pins s3 σ3 H3 X.xe I3 (stat fr3) st3 go) fun r s4 ⟨u,hr,h4⟩=>?_);subst hr;refine wpAny_passesOwn hp (thn h4 fun _ s5 zq=>?_);obtain ⟨x,H5,I5,r5,y5,st5,fr5⟩:=zq;have I5':=I5.pinned (stat fr5) (T.obj _ _ st5);refine wpAny_passesOwn hp (thn (hg _ s5 σ3 H5 x u _ I5' r5 (step x H5 y5)) fun _ s6 ⟨σ6,H6,I6,q6⟩=>?_);refine wpAny_passesOwn hp (thn (hb _ s6 σ6 H6 _ I6 q6) fun f s7 q7=>?_);have again : ∀ {σ7:St}{H7:Hp},Inv X (pins++fh_ fp s5.heap) σ7 H7 s7->N σ7 H7->∃ m,m<n/\∃ i σ' H',Inv X pins σ' H' s7/\tn i s7.heap/\(∀ b∈fp,H' b=none)/\W i m σ' H':=fun {σ7 H7} I7 n7=>by
  obtain ⟨m',hm,w7⟩:=hN σ7 H7 n7;refine ⟨m',hm,i+1,σ7,H7,I7.unpinned,T.keep _ _ _ st5 fun b hb o e=>(I7.pin (b,o) (mem_append_right _ (mem_append_right _ (bS_ hb e)))).1,fun b hb=>?_,w7⟩;obtain ⟨o,e,d⟩:=T.obj _ _ st5 b hb;exact (I7.pin (b,o) (mem_append_right _ (mem_append_right _ (bS_ hb e)))).2.1
 cases f with
 | next=>obtain ⟨σ7,H7,I7,n7⟩:=q7;exact again I7 n7
 | cont=>obtain ⟨σ7,H7,I7,n7⟩:=q7;exact again I7 n7
 | brk=>obtain ⟨σ7,H7,I7,q7⟩:=q7;exact ⟨σ7,H7,I7.unpinned,q7⟩
 | ret v=>obtain ⟨x7,σ7,H7,I7,r7,q7⟩:=q7;exact ⟨x7,σ7,H7,I7.unpinned,r7,q7⟩
end
theorem l9_ {K:PySem.W.Frag}{a:Addr}{xs:List V}{g:TG}{tb:TS}{D:Ends}{σ:St}{H:Hp} (Pv:Nat->St->Hp->Prop) (h0:Pv 0 σ H) (hl : ∀ i σ H,i<=xs.length->Pv i σ H->SqL K H a xs)
  (hs : ∀ i x σ H,xs[i]? = some x->Pv i σ H->g x σ H fun σ2 H2=>tb { D with nx:=Pv (i+1),ct:=Pv (i+1),bk:=D.nx } σ2 H2) (hd : ∀ σ H,Pv xs.length σ H->D.nx σ H) :
  ∃ W:Nat->Nat->St->Hp->Prop,(∃ m,W 0 m σ H)/\∀ i m σ H,W i m σ H ->
   ((Itl K a).stop i H/\D.nx σ H)\/((Itl K a).go i H/\∃ N:St->Hp->Prop,(∀ σ' H',N σ' H'->∃ m',m'<m/\W (i+1) m' σ' H')/\∀ x H',(Itl K a).yld i H x H'->g x σ H' fun σ2 H2=>tb { D with nx:=N,ct:=N,bk:=D.nx } σ2 H2):=by
 refine ⟨fun i m σ H=>m=xs.length - i/\i<=xs.length/\Pv i σ H,⟨xs.length,by simp,zero_le _,h0⟩,?_⟩
 rintro i m σ H ⟨rfl,hi,p⟩
 have q:=hl i σ H hi p;by_cases hlt:i<xs.length
 ·refine .inr ⟨⟨xs,xs[i],q,by simp [hlt]⟩,Pv (i+1),fun σ' H' p'=>⟨xs.length - (i+1),by omega,rfl,hlt,p'⟩,fun x H' y=>?_⟩
  obtain ⟨e,y⟩:=y;subst e;exact hs i x σ _ (y xs q) p
 have e:i=xs.length:=by omega
 subst e;exact .inl ⟨⟨xs,q,Nat.le_refl _⟩,hd σ H p⟩
end L2
namespace L2
open PySem PySem.Spec PyProof.Rows
abbrev R2:=V->V->Hp->VK->Prop
def OpR (X:Cx) (f:Value->Value->Sem Value) (r:R2):Prop :=
 ∀ (pins:List (Addr×Obj)) (s:Shared) (σ:St) (H:Hp) (x y:V) (v u:Value) (Q:VK),Inv X pins σ H s->RelV x v->RelV y u->r x y H Q ->
  wpAny (model X.prog X.w) X.A (f v u) (EP X pins σ Q) X.xe s
def UnR (X:Cx) (f:Value->Sem Value) (r:V->Hp->VK->Prop):Prop :=
 ∀ (pins:List (Addr×Obj)) (s:Shared) (σ:St) (H:Hp) (x:V) (v:Value) (Q:VK),Inv X pins σ H s->RelV x v->r x H Q ->
  wpAny (model X.prog X.w) X.A (f v) (EP X pins σ Q) X.xe s
def dG_ (X:Cx) (f:Value) (r:List V->Hp->VK->Prop):Prop :=
 ∀ (pins:List (Addr×Obj)) (s:Shared) (σ:St) (H:Hp) (xs:List V) (us:List Value) (Q:VK),Inv X pins σ H s->Vals xs us->r xs H Q ->
  wpAny (model X.prog X.w) X.A (call f us) (EP X pins σ Q) X.xe s
def TruR (X:Cx) (r:V->Hp->(Bool->Hp->Prop)->Prop):Prop :=
 ∀ (pins:List (Addr×Obj)) (s:Shared) (σ:St) (H:Hp) (x:V) (v:Value) (Q:Bool->Hp->Prop),Inv X pins σ H s->RelV x v->r x H Q ->
  wpAny (model X.prog X.w) X.A (truthy v) (TP X pins σ Q) X.xe s
def tOp (r:R2) (ta tb:TE):TE:=fun σ H Q=>ta σ H fun x H1=>tb σ H1 fun y H2=>r x y H2 Q
def tUn (r:V->Hp->VK->Prop) (ta:TE):TE:=fun σ H Q=>ta σ H fun x H1=>r x H1 Q
def rI (C:Int->Int->Prop) (g:Int->Int->V):R2:=fun x y H Q=>∃ i j,x = .int i/\y = .int j/\C i j/\Q (g i j) H
def rI0 (g:Int->Int->V):R2:=fun x y H Q=>∃ i j,x = .int i/\y = .int j/\Q (g i j) H
def rU (g:Int->V):V->Hp->VK->Prop:=fun x H Q=>∃ i,x = .int i/\Q (g i) H
section
variable {X:Cx}{a b c:Expr}{ta tb tc:TE}{pos:Pos}
theorem binT (ha:PE X a ta) (hb:PE X b tb) {pins:List (Addr×Obj)}{s:Shared}{σ:St}{H:Hp}{R:V->V->Hp->Prop} (I:Inv X pins σ H s)
  (h:ta σ H fun x H1=>tb σ H1 fun y H2=>R x y H2) {Q:Value->Shared->Prop}{f:Value->Value->Sem Value}
  (hf : ∀ v u s2 x y H2,Inv X pins σ H2 s2->RelV x v->RelV y u->R x y H2->wpAny (model X.prog X.w) X.A (f v u) Q X.xe s2) :
  wpAny (model X.prog X.w) X.A (eval a X.env) (fun v s₁=>wpAny (model X.prog X.w) X.A (eval b X.env) (fun u s₂=>wpAny (model X.prog X.w) X.A (f v u) Q X.xe s₂) X.xe s₁) X.xe s:=by
 refine thn (ha pins s σ H _ I h) fun v s1 zq=>?_;obtain ⟨x,H1,I1,r1,q1⟩:=zq;refine thn (hb pins s1 σ H1 _ I1 q1) fun u s2 zq=>?_;obtain ⟨y,H2,I2,r2,q2⟩:=zq;exact hf v u s2 x y H2 I2 r1 r2 q2
theorem aI_ {op:Operator}{r:R2} (ho:OpR X (binaryOp op) r) (ha:PE X a ta) (hb:PE X b tb):PE X (.BinOp a op b pos) (tOp r ta tb):=by
 intro pins s σ H Q I h;exact wpAny_BinOp (binT ha hb I h fun v u s2 x y H2 I2 rx ry q=>ho pins s2 σ H2 x y v u Q I2 rx ry q)
theorem pe_ {op:UnaryOp}{r:V->Hp->VK->Prop} (ho:UnR X (unaryOp op) r) (ha:PE X a ta):PE X (.UnaryOp op a pos) (tUn r ta):=by
 intro pins s σ H Q I h;exact UnaryOp_ (thn (ha pins s σ H _ I h) fun v s1 ⟨x,H1,I1,r1,q1⟩=>ho pins s1 σ H1 x v Q I1 r1 q1)
theorem opI {f:Value->Value->Sem Value}{C:Int->Int->Prop}{g:Int->Int->Int}
  (rule : ∀ (i j:Int) (t u:Tok) (s:Shared) (Q:Value->Shared->Prop) (E:Value->Shared->Prop),C i j->Q (.int (g i j) s.toks) { s with toks:=s.toks+1 }->wpAny (model X.prog X.w) X.A (f (.int i t) (.int j u)) Q E s) :
  OpR X f (rI C fun i j => .int (g i j)):=by
 intro pins s σ H x y v u Q I rx ry h;obtain ⟨i,j,rfl,rfl,hc,q⟩:=h;obtain ⟨t,rfl⟩:=rx;obtain ⟨t',rfl⟩:=ry;exact rule i j t t' s _ _ hc ⟨.int (g i j),H,I.tok _,⟨_,rfl⟩,q⟩
theorem opI0 {f:Value->Value->Sem Value}{g:Int->Int->Int}
  (rule : ∀ (i j:Int) (t u:Tok) (s:Shared) (Q:Value->Shared->Prop) (E:Value->Shared->Prop),Q (.int (g i j) s.toks) { s with toks:=s.toks+1 }->wpAny (model X.prog X.w) X.A (f (.int i t) (.int j u)) Q E s) :
  OpR X f (rI0 fun i j => .int (g i j)):=by
 intro pins s σ H x y v u Q I rx ry h;obtain ⟨i,j,rfl,rfl,q⟩:=h;obtain ⟨t,rfl⟩:=rx;obtain ⟨t',rfl⟩:=ry;exact rule i j t t' s _ _ ⟨.int (g i j),H,I.tok _,⟨_,rfl⟩,q⟩
theorem opB0 {f:Value->Value->Sem Value}{g:Int->Int->Bool}
  (rule : ∀ (i j:Int) (t u:Tok) (s:Shared) (Q:Value->Shared->Prop) (E:Value->Shared->Prop),Q (.bool (g i j)) s->wpAny (model X.prog X.w) X.A (f (.int i t) (.int j u)) Q E s) :
  OpR X f (rI0 fun i j => .bl (g i j)):=by
 intro pins s σ H x y v u Q I rx ry h;obtain ⟨i,j,rfl,rfl,q⟩:=h;obtain ⟨t,rfl⟩:=rx;obtain ⟨t',rfl⟩:=ry;exact rule i j t t' s _ _ ⟨.bl (g i j),H,I,rfl,q⟩
theorem cc_:OpR X (binaryOp .Add) (rI0 fun i j => .int (i+j)):=opI0 fun _ _ _ _ _ _ _ q=>add_int q
theorem kl_:OpR X (binaryOp .Sub) (rI0 fun i j => .int (i - j)):=opI0 fun _ _ _ _ _ _ _ q=>sub_int q
theorem oC_:OpR X (binaryOp .Mod) (rI (fun _ j=>0<j) fun i j => .int (i % j)):=opI fun i j _ _ _ _ _ hc q=>by
 have h1:(0:Int)<j:=hc;exact mod_int' (by omega) (by rw [Int.fmod_eq_emod_of_nonneg i (by omega)];exact q)
theorem unI {f:Value->Sem Value}{g:Int->Int}
  (rule : ∀ (i:Int) (t:Tok) (s:Shared) (Q:Value->Shared->Prop) (E:Value->Shared->Prop),Q (.int (g i) s.toks) { s with toks:=s.toks+1 }->wpAny (model X.prog X.w) X.A (f (.int i t)) Q E s) :
  UnR X f (rU fun i => .int (g i)):=by
 intro pins s σ H x v Q I rx h;obtain ⟨i,rfl,q⟩:=h;obtain ⟨t,rfl⟩:=rx;exact rule i t s _ _ ⟨.int (g i),H,I.tok _,⟨_,rfl⟩,q⟩
theorem n5_:UnR X (unaryOp .USub) (rU fun i => .int (-i)):=unI fun _ _ _ _ _ q=>neg_int q
end
noncomputable def scal:V->V->Bool
 | .non,.non=>true | .non,.int _=>true | .int _,.non=>true | .non,.bl _=>true | .bl _,.non=>true | .non,.str _=>true | .str _,.non=>true
 | .int _,.int _=>true | .bl _,.bl _=>true | .str _,.str _=>true | .byt _,.byt _=>true
 | .int _,.str _=>true | .str _,.int _=>true | .bl _,.str _=>true | .str _,.bl _=>true
 | _,_=>false
def rEq:R2:=fun x y H Q=>scal x y=true/\Q (.bl (decide (x=y))) H
def rNe:R2:=fun x y H Q=>scal x y=true/\Q (.bl (!decide (x=y))) H
theorem k0_ {i j:Int}:decide (V.int i=V.int j)=(i == j):=by
 rw [Bool.eq_iff_iff];simp
theorem mO_ {i j:Bool}:decide (V.bl i=V.bl j)=(i == j):=by
 rw [Bool.eq_iff_iff];simp
theorem kZ_ {i j:Str}:decide (V.str i=V.str j)=(i == j):=by
 rw [Bool.eq_iff_iff];simp
theorem k1_ {i j:Array UInt8}:decide (V.byt i=V.byt j)=(i.toList == j.toList):=by
 rw [Bool.eq_iff_iff];cases i;cases j;simp
section
variable {X:Cx}{a b c:Expr}{ta tb tc:TE}{pos:Pos}
theorem aL_ {pins:List (Addr×Obj)}{σ:St}{H:Hp}{s:Shared}{Q:VK}{k k':Bool} (I:Inv X pins σ H s) (q:Q (.bl k) H) (e:k=k'):EP X pins σ Q (.bool k') s:=by
 subst e;exact ⟨.bl k,H,I,rfl,q⟩
theorem bn_:OpR X (compareOp .Eq) rEq:=by
 intro pins s σ H x y v u Q I rx ry h;obtain ⟨hs,q⟩:=h;cases x with
 | non =>
  cases rx;cases y with
  | non=>cases ry;exact PySem.EqNone.eq_none_none (aL_ I q (by simp))
  | bl j=>cases ry;exact PySem.EqNone.eq_none_bool (aL_ I q (by simp))
  | int j=>obtain ⟨t',rfl⟩:=ry;exact PySem.EqNone.eq_none_int (aL_ I q (by simp))
  | str j=>obtain ⟨t',rfl⟩:=ry;exact PySem.EqNone.eq_none_str (aL_ I q (by simp))
  | _=>exact absurd (show false=true from hs) Bool.false_ne_true
 | bl i =>
  cases rx;cases y with
  | non=>cases ry;exact PySem.EqNone.eq_bool_none (aL_ I q (by simp))
  | bl j=>cases ry;exact eq_bool (aL_ I q mO_)
  | str j=>obtain ⟨t',rfl⟩:=ry;exact PySem.EqMixed.eq_bool_str (aL_ I q (by simp))
  | _=>exact absurd (show false=true from hs) Bool.false_ne_true
 | int i =>
  obtain ⟨t,rfl⟩:=rx;cases y with
  | non=>cases ry;exact PySem.EqNone.eq_int_none (aL_ I q (by simp))
  | int j=>obtain ⟨t',rfl⟩:=ry;exact eq_int (aL_ I q k0_)
  | str j=>obtain ⟨t',rfl⟩:=ry;exact PySem.EqMixed.eq_int_str (aL_ I q (by simp))
  | _=>exact absurd (show false=true from hs) Bool.false_ne_true
 | str i =>
  obtain ⟨t,rfl⟩:=rx;cases y with
  | non=>cases ry;exact PySem.EqNone.eq_str_none (aL_ I q (by simp))
  | bl j=>cases ry;exact PySem.EqMixed.eq_str_bool (aL_ I q (by simp))
  | int j=>obtain ⟨t',rfl⟩:=ry;exact PySem.EqMixed.eq_str_int (aL_ I q (by simp))
  | str j=>obtain ⟨t',rfl⟩:=ry;exact eq_str (aL_ I q kZ_)
  | _=>exact absurd (show false=true from hs) Bool.false_ne_true
 | byt i =>
  obtain ⟨t,rfl⟩:=rx;cases y with
  | byt j=>obtain ⟨t',rfl⟩:=ry;exact PySem.W.eq_bytes (aL_ I q k1_)
  | _=>exact absurd (show false=true from hs) Bool.false_ne_true
 | _=>cases y <;> exact absurd (show false=true from hs) Bool.false_ne_true
theorem km_:OpR X (compareOp .NotEq) rNe:=by
 intro pins s σ H x y v u Q I rx ry h;obtain ⟨hs,q⟩:=h;cases x with
 | non =>
  cases rx;cases y with
  | non=>cases ry;exact PySem.EqNone.ne_none_none (aL_ I q (by simp))
  | bl j=>cases ry;exact PySem.EqNone.ne_none_bool (aL_ I q (by simp))
  | int j=>obtain ⟨t',rfl⟩:=ry;exact PySem.EqNone.ne_none_int (aL_ I q (by simp))
  | str j=>obtain ⟨t',rfl⟩:=ry;exact PySem.EqNone.ne_none_str (aL_ I q (by simp))
  | _=>exact absurd (show false=true from hs) Bool.false_ne_true
 | bl i =>
  cases rx;cases y with
  | non=>cases ry;exact PySem.EqNone.ne_bool_none (aL_ I q (by simp))
  | bl j=>cases ry;exact ne_bool (aL_ I q (congrArg not mO_))
  | str j=>obtain ⟨t',rfl⟩:=ry;exact PySem.EqMixed.ne_bool_str (aL_ I q (by simp))
  | _=>exact absurd (show false=true from hs) Bool.false_ne_true
 | int i =>
  obtain ⟨t,rfl⟩:=rx;cases y with
  | non=>cases ry;exact PySem.EqNone.ne_int_none (aL_ I q (by simp))
  | int j=>obtain ⟨t',rfl⟩:=ry;exact ne_int (aL_ I q (congrArg not k0_))
  | str j=>obtain ⟨t',rfl⟩:=ry;exact PySem.EqMixed.ne_int_str (aL_ I q (by simp))
  | _=>exact absurd (show false=true from hs) Bool.false_ne_true
 | str i =>
  obtain ⟨t,rfl⟩:=rx;cases y with
  | non=>cases ry;exact PySem.EqNone.ne_str_none (aL_ I q (by simp))
  | bl j=>cases ry;exact PySem.EqMixed.ne_str_bool (aL_ I q (by simp))
  | int j=>obtain ⟨t',rfl⟩:=ry;exact PySem.EqMixed.ne_str_int (aL_ I q (by simp))
  | str j=>obtain ⟨t',rfl⟩:=ry;exact ne_str (aL_ I q (congrArg not kZ_))
  | _=>exact absurd (show false=true from hs) Bool.false_ne_true
 | byt i =>
  obtain ⟨t,rfl⟩:=rx;cases y with
  | byt j=>obtain ⟨t',rfl⟩:=ry;exact PySem.W.ne_bytes (aL_ I q (congrArg not k1_))
  | _=>exact absurd (show false=true from hs) Bool.false_ne_true
 | _=>cases y <;> exact absurd (show false=true from hs) Bool.false_ne_true
theorem hw_:OpR X (compareOp .Lt) (rI0 fun i j => .bl (decide (i<j))):=opB0 fun _ _ _ _ _ _ _ q=>lt_int q
theorem iX_:OpR X (compareOp .LtE) (rI0 fun i j => .bl (decide (i<=j))):=opB0 fun _ _ _ _ _ _ _ q=>le_int q
theorem hx_:OpR X (compareOp .Gt) (rI0 fun i j => .bl (decide (j<i))):=opB0 fun _ _ _ _ _ _ _ q=>gt_int q
theorem oD_:OpR X (compareOp .GtE) (rI0 fun i j => .bl (decide (j<=i))):=opB0 fun _ _ _ _ _ _ _ q=>ge_int q
theorem OpR.or {f:Value->Value->Sem Value}{r r':R2} (h:OpR X f r) (h':OpR X f r'):OpR X f (fun x y H Q=>r x y H Q\/r' x y H Q):=by
 intro pins s σ H x y v u Q I rx ry q;rcases q with q | q
 ·exact h pins s σ H x y v u Q I rx ry q
 exact h' pins s σ H x y v u Q I rx ry q
theorem au_ (b:Expr) {op:CmpOp} (h:op ≠ .In:=by decide) (h2:op ≠ .NotIn:=by decide):behindInMarks op b=false:=by
 have e1:(op == CmpOp.In)=false:=by cases op <;> first | rfl | exact absurd rfl h
 have e2:(op == CmpOp.NotIn)=false:=by cases op <;> first | rfl | exact absurd rfl h2
 cases b <;> simp [behindInMarks,e1,e2]
theorem eB_ {op:CmpOp}{r:R2} (ho:OpR X (compareOp op) r) (ha:PE X a ta) (hb:PE X b tb) (hm:behindInMarks op b=false):PE X (.Compare a [op] [b] pos) (tOp r ta tb):=by
 intro pins s σ H Q I h;exact wpAny_Compare1 (binT ha hb I h fun v u s2 x y H2 I2 rx ry q=>ho pins s2 σ H2 x y v u Q I2 rx ry q) hm
def isB (x:V) (R:Bool->Prop):Prop:=match x with
 | .bl k=>R k
 | _=>False
theorem kH_ {x:V}{R:Bool->Prop} (h:isB x R) : ∃ k,x = .bl k/\R k:=by
 cases x with
 | bl k=>exact ⟨k,rfl,h⟩
 | _=>exact h.elim
def lp_ (t:TE):TT:=fun σ H Q=>t σ H fun x H'=>isB x fun k=>Q k H'
theorem am_ {op:CmpOp}{r:R2} (ho:OpR X (compareOp op) r) (ha:PE X a ta) (hb:PE X b tb) (hm:behindInMarks op b=false):PT X (.Compare a [op] [b] pos) (lp_ (tOp r ta tb)):=by
 intro pins s σ H Q I h;refine wpAny_isTrue_Compare1 (thn (ha pins s σ H _ I h) fun v s1 ⟨x,H1,I1,r1,q1⟩=>thn (hb pins s1 σ H1 _ I1 q1) fun u s2 ⟨y,H2,I2,r2,q2⟩ =>
  thn (ho pins s2 σ H2 x y v u _ I2 r1 r2 q2) fun c s3 ⟨z,H3,I3,r3,q3⟩=>?_) hm
 obtain ⟨k,e,q3⟩:=kH_ q3;subst e;cases r3;exact wpAny_truthy_bool ⟨H3,I3,q3⟩
def jE_ (r r':R2) (ta tb tc:TE):TE:=fun σ H Q=>ta σ H fun x H1=>tb σ H1 fun y H2=>r x y H2 fun z H3=>∃ k,z = .bl k /\
 (if k=true then tc σ H3 fun w' H4=>r' y w' H4 Q else Q (.bl false) H3)
theorem im_ {op op':CmpOp}{r r':R2} (ho:OpR X (compareOp op) r) (ho':OpR X (compareOp op') r') (ha:PE X a ta) (hb:PE X b tb) (hc:PE X c tc)
  (hm:lastMarks [op,op'] [b,c]=false:=by with_unfolding_all rfl):PE X (.Compare a [op,op'] [b,c] pos) (jE_ r r' ta tb tc):=by
 intro pins s σ H Q I h;refine Compare_chain (thn (ha pins s σ H _ I h) fun v s1 ⟨x,H1,I1,r1,q1⟩=>chain_link (thn (hb pins s1 σ H1 _ I1 q1) fun u s2 ⟨y,H2,I2,r2,q2⟩ =>
  thn (ho pins s2 σ H2 x y v u _ I2 r1 r2 q2) fun d s3 ⟨z,H3,I3,r3,k,e,q3⟩=>?_)) hm
 subst e;cases r3;refine wpAny_truthy_bool ?_;cases k with
 | false=>exact ite_ff ⟨.bl false,H3,I3,rfl,q3⟩
 | true=>exact ite_tt (chain_last (thn (hc pins s3 σ H3 _ I3 q3) fun w' s4 ⟨z',H4,I4,r4,q4⟩=>ho' pins s4 σ H4 y z' u w' Q I4 r2 r4 q4))
theorem lD_ {op op':CmpOp}{r r':R2} (ho:OpR X (compareOp op) r) (ho':OpR X (compareOp op') r') (ha:PE X a ta) (hb:PE X b tb) (hc:PE X c tc)
  (hm:lastMarks [op,op'] [b,c]=false:=by with_unfolding_all rfl):PT X (.Compare a [op,op'] [b,c] pos) (lp_ (jE_ r r' ta tb tc)):=by
 intro pins s σ H Q I h;refine isTrue_chain (thn (ha pins s σ H _ I h) fun v s1 ⟨x,H1,I1,r1,q1⟩=>test_link (thn (hb pins s1 σ H1 _ I1 q1) fun u s2 ⟨y,H2,I2,r2,q2⟩ =>
  thn (ho pins s2 σ H2 x y v u _ I2 r1 r2 q2) fun d s3 ⟨z,H3,I3,r3,k,e,q3⟩=>?_)) hm
 subst e;cases r3;refine wpAny_truthy_bool ?_;cases k with
 | false =>
  exact ite_ff ⟨H3,I3,q3⟩
 | true =>
 refine ite_tt (test_last (thn (hc pins s3 σ H3 _ I3 q3) fun w' s4 ⟨z',H4,I4,r4,q4⟩=>thn (ho' pins s4 σ H4 y z' u w' _ I4 r2 r4 q4) fun d' s5 zq=>?_));obtain ⟨z2,H5,I5,r5,q5⟩:=zq;obtain ⟨k2,e2,q5⟩:=kH_ q5;subst e2;cases r5;exact wpAny_truthy_bool ⟨H5,I5,q5⟩
def TruV (K:PySem.W.Frag) (x:V) (H:Hp) (k:Bool):Prop :=
 match x with
 | .non=>k=false
 | .bl b=>k=b
 | .int i=>k=(i != 0)
 | .str y=>y.length<=sizeLine/\k=((y.length:Int) != 0)
 | .byt y=>y.size<=sizeLine/\k=((y.size:Int) != 0)
 | .ref p=>(∃ xs,SqL K H p xs/\k = !xs.isEmpty)\/(∃ xs,SqT K H p xs/\k = !xs.isEmpty)\/∃ kvs,H p=some (.dK kvs)/\k = !kvs.isEmpty
 | _=>False
theorem i7_ {κ:Type}{kvs:List (κ×V)}{vs:List (κ×Value)} (r:KV kvs vs):(!vs.isEmpty) = !kvs.isEmpty:=by
 cases r <;> rfl
theorem fn_ {xs:List V}{its:List Value} (r:Vals xs its):(!its.toArray.isEmpty) = !xs.isEmpty:=by
 cases r <;> simp
theorem db_:(sizeLine:Nat)<2 ^ 63:=by rw [sizeLine_eq];decide
theorem n6_:TruR X (fun x H Q=>∃ k,TruV X.K x H k/\Q k H):=by
 intro pins s σ H x v Q I rx h;obtain ⟨k,e,q⟩:=h;have hl:=db_;have hs:sizeLine=16777216:=sizeLine_eq;cases x with
 | non =>
  cases rx;have e':k=false:=e;subst e';exact truthy_none ⟨H,I,q⟩
 | bl b =>
  cases rx;have e':k=b:=e;subst e';exact wpAny_truthy_bool ⟨H,I,q⟩
 | int i =>
  obtain ⟨t,rfl⟩:=rx;have e':k=(i != 0):=e;subst e';exact PySem.P.truthy_int ⟨H,I,q⟩
 | str y =>
  obtain ⟨t,rfl⟩:=rx;obtain ⟨hy,e'⟩:y.length<=sizeLine/\k=((y.length:Int) != 0):=e;subst e';exact PySem.P.truthy_str (by omega) ⟨H,I.tok _,q⟩
 | byt y =>
  obtain ⟨t,rfl⟩:=rx;obtain ⟨hy,e'⟩:y.size<=sizeLine/\k=((y.size:Int) != 0):=e;subst e';exact PySem.W.truthy_bytes (by omega) ⟨H,I.tok _,q⟩
 | ref p =>
  cases rx;have e':(∃ xs,SqL X.K H p xs/\k = !xs.isEmpty)\/(∃ xs,SqT X.K H p xs/\k = !xs.isEmpty)\/∃ kvs,H p=some (.dK kvs)/\k = !kvs.isEmpty:=e;rcases e' with ⟨xs,hx,e'⟩ | ⟨xs,hx,e'⟩ | ⟨kvs,hx,e'⟩
  ·subst e'
   obtain ⟨its,r,pl,hz⟩:=I.list hx;have hlen:=r.length;exact wpAny_truthy_list pl.isList (by simp only [size_toArray];omega) ⟨H,I.tok _,by rw [fn_ r];exact q⟩
  ·subst e'
   obtain ⟨its,r,pl,hz⟩:=I.tuple hx;have hlen:=r.length;exact truthy_tuple pl (by simp only [size_toArray];omega) ⟨H,I.tok _,by rw [fn_ r];exact q⟩
  subst e';obtain ⟨hz,hS,vs,r,m⟩:kvs.length<=sizeLine/\(p == sysModules)=false/\∃ vs,KV kvs vs/\s.heap.DictOf (bE_ X.prog X.w) p vs:=I.hok p _ hx;have hlen:kvs.length=vs.length:=Paired.length r;exact wpAny_truthy_dict hS m (by omega) ⟨H,I.tok _,by rw [i7_ r];exact q⟩
 | _=>exact (show False from e).elim
theorem fR_ (ha:PE X a ta) (he : ∀ whole,isTrue a X.env whole=(do let v <- whole;standAt a.pos;holding [v] (truthy v))) :
  PT X a (fun σ H Q=>ta σ H fun x H'=>∃ k,TruV X.K x H' k/\Q k H'):=by
 intro pins s σ H Q I h;exact isTrue_plain (thn (ha pins s σ H _ I h) fun v s1 ⟨x,H1,I1,r1,q1⟩=>n6_ pins s1 σ H1 x v Q I1 r1 q1) (he _)
theorem aB_:OpR X (binaryOp .Add) (fun x y H Q=>∃ i j,x = .str i/\y = .str j/\i.length+j.length<=sizeLine/\Q (.str (i++j)) H):=by
 intro pins s σ H x y v u Q I rx ry h;obtain ⟨i,j,rfl,rfl,hz,q⟩:=h;obtain ⟨t,rfl⟩:=rx;obtain ⟨t',rfl⟩:=ry;exact add_str (fun t' tk=>⟨.str (i++j),H,I.tok _,⟨_,rfl⟩,q⟩) hz
theorem jw_ {x:V}{us:List Value} (r:Vals [x] us) : ∃ u,us=[u]/\RelV x u:=by
 cases r with
 | cons r1 r2=>cases r2;exact ⟨_,rfl,r1⟩
theorem dR_:dG_ X (.type "str") (fun xs H Q=>∃ i,xs=[.int i]/\i.natAbs.log2<1920/\Q (.str (toString i)) H):=by
 intro pins s σ H xs us Q I r h;obtain ⟨i,rfl,hz,q⟩:=h;obtain ⟨u,rfl,t,rfl⟩:=jw_ r;exact PySem.P.str_of_int hz ⟨.str _,H,I.tok _,⟨_,rfl⟩,q⟩
theorem ec_:dG_ X (.builtin "ord") (fun xs H Q=>∃ x,xs=[.str x]/\x.length=1/\Q (.int (x.cps.getD 0 0:Nat)) H):=by
 intro pins s σ H xs us Q I r h;obtain ⟨x,rfl,hz,q⟩:=h;obtain ⟨u,rfl,t,rfl⟩:=jw_ r;exact ord_of_one hz ⟨.int _,H,I.tok _,⟨_,rfl⟩,q⟩
end
end L2
namespace L2
open PySem PySem.Spec PyProof.Rows
structure ObjM (h:Heap) (x dx C:Addr) (mA:Str->Option Value):Prop where
 obj:h.get? x=some (instObj C dx)
 ns:h.Ns1 dx mA
 ne:dx≠x
theorem gS_ {h:Heap}{dx:Addr}{mA:Str->Option Value} (n:h.Ns1 dx mA) : ∃ od,h.get? dx=some od/\∀ name,lookIn name od=some (mA name):=by
 obtain ⟨o,es,ep,ho,hd,hk,_,hm⟩:=n;refine ⟨o,ho,fun name=>?_⟩;have e:=hm name;unfold nsFind findBy at e;rw [<- Array.find?_toList] at e;unfold lookIn;rw [hd];dsimp only;split
 ·rename_i y q
  rw [q] at e;exact congrArg some e
 rename_i q;rw [q] at e;have a:es.toList.any (·.refKey)=false:=by
  rw [List.any_eq_false];intro y hy;obtain ⟨z,t,hkey⟩:=hk y (Array.mem_toList_iff.mp hy);simp [DictEntry.refKey,hkey]
 have a' : ¬ es.toList.any (·.refKey)=true:=by rw [a];exact Bool.false_ne_true
 rw [if_neg a'];exact congrArg some e
theorem ObjM.look {h:Heap}{x dx C:Addr}{mA:Str->Option Value} (I:ObjM h x dx C mA) : ∃ od,PySem.W.InstAt h x (instObj C dx) C (some od)/\∀ name,lookIn name od=some (mA name) :=
 let ⟨od,ho,hl⟩:=gS_ I.ns
 ⟨od,⟨I.obj,rfl,rfl,ho⟩,hl⟩
section
variable {prog:Program}{w:World}{A:Around}{E:Value->Shared->Prop}{s:Shared}{K:PySem.W.Frag}{x dx C f:Addr}{mA:Str->Option Value}{name:Str}{v:Value}
theorem nN_ {expr:Bool}{Q:Value->Shared->Prop} (X:K.In s.heap) (I:ObjM s.heap x dx C mA) (hg:plainGet K C name=true) (hh:hasDictIn K C=true)
  (ha:PySem.W.findIn K (.ref C) name=some none) (hv:mA name=some v) (hv':PySem.W.handedIn v=true) (h:Q v { s with toks:=s.toks+1 }) :
  wpAny (model prog w) A (getAttr (.ref x) name expr) Q E s:=by
 obtain ⟨od,J,hl⟩:=I.look;exact PySem.W.get_value X J (PySem.W.plainGet_of hg).1 (PySem.W.findObj_own hh ha rfl (by rw [hl,hv])) hv' h
theorem l4_ {pl:Sem Bool}{Q:Value×List Value->Shared->Prop} (X:K.In s.heap) (I:ObjM s.heap x dx C mA) (hg:plainGet K C name=true)
  (hf:PySem.W.findIn K (.ref C) name=some (some (.ref f))) (ht:isFn K (.ref f)=true) (hv:mA name=none) (h:Q (.ref f,[.ref x]) s) :
  wpAny (model prog w) A (getMethod (.ref x) name pl) Q E s:=by
 obtain ⟨od,J,hl⟩:=I.look;exact PySem.W.method_fn X J (PySem.W.plainGet_of hg).1 (PySem.W.plainGet_of hg).2 hf (beq_iff_eq.mp ht) (by show (lookIn name od).map (·.isSome)=some false;rw [hl,hv];rfl) h
theorem ng_ {ns:List Str}{Q:Unit->Shared->Prop} (X:K.In s.heap) (I:ObjM s.heap x dx C mA)
  (hs:PySem.W.findIn K (.ref C) "__setattr__"=some (some (.builtin "object.__setattr__"))) (hp:PySem.W.plainOver K C=true) (ht:PySem.W.takerIn K C name=some none) (hh:hasDictIn K C=true)
  (hw:PySem.Within mA ns) (hsz:ns.length<=sizeLine)
  (h : ∀ h',ObjM h' x dx C (fun y=>if y=name then some v else mA y)->Heap.SameBut dx s.heap h'->Q () { s with heap:=h',toks:=s.toks+2 }) :
  wpAny (model prog w) A (setAttr (.ref x) name v) Q E s:=by
 obtain ⟨od,J,hl⟩:=I.look;refine PySem.W.set_plain X J hs (PySem.W.osa_open (s:={ s with toks:=s.toks+1 }) (r:=none) X J hp ht fun b=>?_);obtain ⟨cd,hc,hd'⟩:=PySem.W.any_some hh;have hx:s.heap.get? x=some ⟨.ref C,some dx,.plain,#[]⟩:=I.obj;refine wpAny_bind (wpAny_pure (wpAny_bind (wpAny_bind (wpAny_loadPart hx (wpAny_bind (PySem.W.Looks.here (s:={ s with toks:=s.toks+1 }) (looks_clsIn X hc) ?_))))));rw [hd'];refine wpAny_pure (a:=some dx) (wpAny_bind (wpAny_pure (wpAny_bind ?_)));refine wpAny_nsSet1 (s:={ s with toks:=s.toks+1 }) I.ns fun h' hn2 hs2=>?_;obtain ⟨oD,esD,epD,hoD,hdD,hcD⟩:=hn2.count (PySem.Within.cons name v hw);refine wpAny_bind (wpAny_lookBehind hoD (by rw [hdD];exact pastItsLine_dict (Nat.le_trans hcD (by rw [length_cons];omega))) ?_);exact wpAny_pure (h _ ⟨(hs2.2 _ (Ne.symm I.ne)).trans I.obj,hn2,I.ne⟩ hs2)
theorem lU_ {R:Result->Shared->Prop}{vs:List Value}{kw:List (Str×Value)} (X:K.In s.heap) (hm:PySem.W.makesIn K C=true)
  (hi:PySem.W.findIn K (.ref C) "__init__"=some (some (.ref f))) (hf:PySem.W.typeIn K (.ref f)=some (.type "function"))
  (h:codeAny (model prog w) (A.under (.builtin "type.__call__" ⟨.ref C::vs,kw⟩)) (.call (.ref f) ⟨.ref (s.heap.objs.size+1)::vs,kw⟩) (PySem.W.InitBack (s.heap.objs.size+1) R)
   { s with heap:=(s.heap.push emptyDict).push (instObj C s.heap.objs.size) }) :
  codeAny (model prog w) A (.call (.ref C) ⟨vs,kw⟩) R s:=by
 obtain ⟨hh,g,d,t,os⟩:=s;exact PySem.W.make_core (PySem.W.makes_of X hm) (looks_findIn X hi) (fun self=>PySem.W.bind_fn X self hf) (.inl rfl) h
end
def putF (f:Str) (v:V):List (Str×V)->List (Str×V)
 | []=>[(f,v)]
 | (g,x)::r=>if g=f then (g,v)::r else (g,x)::putF f v r
theorem cN_ (f g:Str) (v:V) : ∀ fs:List (Str×V),(putF f v fs).lookup g=if g=f then some v else fs.lookup g
 | []=>by
  show List.lookup g [(f,v)]=_;by_cases h:g=f
  ·have hb:(g == f)=true:=beq_iff_eq.mpr h
   simp only [List.lookup,hb,if_pos h]
  have hb:(g == f)=false:=beq_eq_false_iff_ne.mpr h;simp only [List.lookup,hb,if_neg h]
 | (k,x)::r=>by
  have ih:=cN_ f g v r;rw [show putF f v ((k,x)::r)=(if k=f then (k,v)::r else (k,x)::putF f v r) from rfl];by_cases hk:k=f
  ·rw [if_pos hk]
   by_cases h:g=k
   ·have hb:(g == k)=true:=beq_iff_eq.mpr h
    simp only [List.lookup,hb,if_pos (h.trans hk)]
   have hb:(g == k)=false:=beq_eq_false_iff_ne.mpr h;simp only [List.lookup,hb,if_neg (fun e:g=f=>h (e.trans hk.symm))]
  rw [if_neg hk];by_cases h:g=k
  ·have hb:(g == k)=true:=beq_iff_eq.mpr h
   simp only [List.lookup,hb,if_neg (fun e:g=f=>hk (h.symm.trans e))]
  have hb:(g == k)=false:=beq_eq_false_iff_ne.mpr h;simp only [List.lookup,hb];exact ih
theorem cl_ (f:Str) (v:V) : ∀ fs:List (Str×V),f∈(putF f v fs).map (·.1)/\∀ g,g∈fs.map (·.1)->g∈(putF f v fs).map (·.1)
 | []=>⟨by simp [putF],fun g h=>by simp at h⟩
 | (k,x)::r=>by
  obtain ⟨i1,i2⟩:=cl_ f v r;rw [show putF f v ((k,x)::r)=(if k=f then (k,v)::r else (k,x)::putF f v r) from rfl];by_cases hk:k=f
  ·rw [if_pos hk]
   subst hk;exact ⟨by simp,fun g h=>by simpa using h⟩
  rw [if_neg hk];refine ⟨?_,fun g h=>?_⟩
  ·rw [map_cons]
   exact mem_cons_of_mem _ i1
  rw [map_cons] at h ⊢;rcases List.mem_cons.mp h with e | e
  ·exact List.mem_cons.mpr (.inl e)
  exact mem_cons_of_mem _ (i2 g e)
theorem b5_ (f:Str) (v:V) : ∀ fs:List (Str×V),(putF f v fs).length<=fs.length+1
 | []=>by simp [putF]
 | (k,x)::r=>by
  have ih:=b5_ f v r;rw [show putF f v ((k,x)::r)=(if k=f then (k,v)::r else (k,x)::putF f v r) from rfl];by_cases hk:k=f
  ·rw [if_pos hk,length_cons,length_cons];omega
  rw [if_neg hk,length_cons,length_cons];omega
theorem RelO.some_of {v:V}{o:Option Value} (r:RelO (some v) o) : ∃ u,o=some u/\RelV v u:=by
 cases o with
 | none=>exact (show False from r).elim
 | some u=>exact ⟨u,rfl,r⟩
theorem RelO.none_of {o:Option Value} (r:RelO none o):o=none:=by
 cases o with
 | none=>rfl
 | some u=>exact (show False from r).elim
theorem gZ_ {v:V}{u:Value} (r:RelV v u):PySem.W.handedIn u=true:=by
 cases v with
 | non=>cases (show u=Value.none from r);rfl
 | bl b=>cases (show u=Value.bool b from r);rfl
 | int i=>obtain ⟨t,e⟩:=(show ∃ t,u=Value.int i t from r);cases e;rfl
 | str x=>obtain ⟨t,e⟩:=(show ∃ t,u=Value.str x t from r);cases e;rfl
 | byt b=>obtain ⟨t,e⟩:=(show ∃ t,u=Value.bytes b t from r);cases e;rfl
 | flt b=>obtain ⟨t,e⟩:=(show ∃ t,u=Value.float b t from r);cases e;rfl
 | ref a=>cases (show u=Value.ref a from r);rfl
 | ty n=>cases (show u=Value.type n from r);rfl
section
variable {P:Program}{w:World}{H H':Hp}{h h':Heap}{a C dx:Addr}{fs fs':List (Str×V)}
theorem f2_ (hok:HOk P w H h) (e:H a=some (.ins C dx fs)) : ∃ mA,ObjM h a dx C mA/\(∀ f,RelO (fs.lookup f) (mA f))/\PySem.Within mA (fs.map (·.1))/\fs.length<=1000/\H dx=some (.own a):=by
 obtain ⟨d,z,ne,ob,mA,n,r,q⟩:=(show a8_ P w H h a (.ins C dx fs) from hok a _ e);exact ⟨mA,⟨ob,n,ne⟩,r,q,z,d⟩
end
structure Cls (K:PySem.W.Frag) (C:Addr):Prop where
 pg:plainGet K C Str.empty=true
 hd:hasDictIn K C=true
 po:PySem.W.plainOver K C=true
 sa:PySem.W.findIn K (.ref C) "__setattr__"=some (some (.builtin "object.__setattr__"))
theorem Cls.get {K:PySem.W.Frag}{C:Addr} (c:Cls K C) (f:Str):plainGet K C f=true:=c.pg
def aD_ (K:PySem.W.Frag) (C:Addr) (f:Str):Prop:=PySem.W.findIn K (.ref C) f=some none
theorem aD_.taker {K:PySem.W.Frag}{C:Addr}{f:Str} (n:aD_ K C f):PySem.W.takerIn K C f=some none:=by
 unfold PySem.W.takerIn;rw [show PySem.W.findIn K (.ref C) f=some none from n];rfl
structure Meth (K:PySem.W.Frag) (C:Addr) (m:Str) (f:Addr):Prop where
 at_:PySem.W.findIn K (.ref C) m=some (some (.ref f))
 fn:isFn K (.ref f)=true
 kp:keepIn K (.ref f)=true
section
variable {X:Cx}{pins:List (Addr×Obj)}{σ:St}{H:Hp}{s:Shared}{a C dx:Addr}{fs:List (Str×V)}{f:Str}{v:V}{A:Around}{E:Value->Shared->Prop}
theorem fp_ {b:Bool}{Q:Value->Shared->Prop} (I:Inv X pins σ H s) (e:H a=some (.ins C dx fs)) (c:Cls X.K C) (n:aD_ X.K C f) (l:fs.lookup f=some v)
  (h : ∀ u s',Inv X pins σ H s'->RelV v u->Q u s'):wpAny (model X.prog X.w) A (getAttr (.ref a) f b) Q E s:=by
 obtain ⟨mA,O,r,_,_,_⟩:=f2_ I.hok e;obtain ⟨u,hu,ru⟩:=RelO.some_of (v:=v) (o:=mA f) (by rw [<- l];exact r f);exact nN_ I.kIn O (c.get f) c.hd n hu (gZ_ ru) (h u _ (I.tok _) ru)
theorem fo_ {m:Str}{g:Addr}{pl:Sem Bool}{Q:Value×List Value->Shared->Prop} (I:Inv X pins σ H s) (e:H a=some (.ins C dx fs)) (c:Cls X.K C) (k:Meth X.K C m g) (l:fs.lookup m=none)
  (h:Q (.ref g,[.ref a]) s):wpAny (model X.prog X.w) A (getMethod (.ref a) m pl) Q E s:=by
 obtain ⟨mA,O,r,_,_,_⟩:=f2_ I.hok e;have hn:mA m=none:=RelO.none_of (by rw [<- l];exact r m);exact l4_ I.kIn O (c.get m) k.at_ k.fn hn h
theorem fe_ {y:V}{u:Value}{Q:Unit->Shared->Prop} (I:Inv X pins σ H s) (e:H a=some (.ins C dx fs)) (c:Cls X.K C) (n:aD_ X.K C f) (hl:fs.length<1000) (ry:RelV y u)
  (h : ∀ s',Inv X pins σ (upd H a (.ins C dx (putF f y fs))) s'->Q () s'):wpAny (model X.prog X.w) A (setAttr (.ref a) f u) Q E s:=by
 obtain ⟨mA,O,r,wi,_,ho⟩:=f2_ I.hok e;have hz:(fs.map (·.1)).length<=sizeLine:=by rw [length_map,sizeLine_eq];omega
 refine ng_ I.kIn O c.sa c.po n.taker c.hd wi hz fun h' O' sb=>h _ ?_;have hd : ∃ o,h'.get? dx=some o:=let ⟨o,_,_,e',_⟩:=O'.ns;⟨o,e'⟩;refine I.write (x:=a) (e:=dx) (by rw [e];exact True.intro) (.inr ho) (fun b q hb z=>(sb.2 b hb).trans z) hd ?_;refine ⟨by rw [al_ O.ne];exact ho,?_,O.ne,O'.obj,_,O'.ns,fun g=>?_,fun g hg=>?_⟩
 ·have:=b5_ f y fs;omega
 ·show RelO ((putF f y fs).lookup g) (if g=f then some u else mA g)
  rw [cN_];by_cases q:g=f
  ·rw [if_pos q,if_pos q];exact ry
  rw [if_neg q,if_neg q];exact r g
 by_cases q:g=f
 ·rw [q];exact (cl_ f y fs).1
 refine (cl_ f y fs).2 g (wi g fun z=>hg ?_);show (if g=f then some u else mA g)=none;rw [if_neg q];exact z
theorem Inv.made (I:Inv X pins σ H s):Inv X pins σ (upd (upd H s.heap.objs.size (.own (s.heap.objs.size+1))) (s.heap.objs.size+1) (.ins C s.heap.objs.size []))
  { s with heap:=(s.heap.push emptyDict).push (instObj C s.heap.objs.size) }:=by
 have e1:(s.heap.push emptyDict).get? s.heap.objs.size=some emptyDict:=Heap.get?_push_size s.heap rfl;have e2:((s.heap.push emptyDict).push (instObj C s.heap.objs.size)).get? (s.heap.objs.size+1)=some (instObj C s.heap.objs.size):=by
  have:=Heap.get?_push_size (s.heap.push emptyDict) (o:=instObj C s.heap.objs.size) rfl;rwa [Heap.size_push] at this
 have e3:(s.heap.push emptyDict).Ns s.heap.objs.size (fun _=>none):=⟨emptyDict,#[],_,e1,rfl,(fun e he=>absurd he (by simp)),fun _=>rfl⟩;have I1:=I.laid (a:=s.heap.objs.size) (o := .own (s.heap.objs.size+1)) (h':=s.heap.push emptyDict) (t':=s.toks) (fun b u q=>Heap.get?_push_of_some _ q) (Nat.le_refl _) ⟨_,e1⟩;refine I1.laid (a:=s.heap.objs.size+1) (o := .ins C s.heap.objs.size []) (t':=s.toks) (fun b u q=>Heap.get?_push_of_some _ q) (Nat.le_of_eq (Heap.size_push _ _)) ?_;have ne:s.heap.objs.size≠s.heap.objs.size+1:=Nat.ne_of_lt (lt_succ_self _);refine ⟨by rw [al_ ne,ab_],zero_le _,ne,e2,fun _=>none,(Heap.Ns1.of_empty e3).at fun o q=>Heap.get?_push_of_some _ q,fun _=>True.intro,fun y hy=>absurd rfl hy⟩
theorem lb_ {prog:Program}{w:World}{env:Env}{e:Expr}{f:Str}{pos:Pos}{s:Shared}{Q:Value->Shared->Prop} (hb:attributeBase e f env (eval e env)=eval e env)
  (h:wpAny (model prog w) A (eval e env) (fun o s₁=>wpAny (model prog w) A (getAttr o f true) Q E s₁) E s):wpAny (model prog w) A (eval (.Attribute e f pos) env) Q E s :=
 Attribute_any_ h (by rw [arm_eval_Attribute,hb])
end
def tFld (K:PySem.W.Frag) (ta:TE) (f:Str):TE:=fun σ H Q=>ta σ H fun x H1=>∃ a C dx fs v,x = .ref a/\H1 a=some (.ins C dx fs)/\Cls K C/\aD_ K C f/\fs.lookup f=some v/\Q v H1
def sFld (K:PySem.W.Frag) (ta tv:TE) (f:Str):TS:=fun D σ H=>tv σ H fun y H1=>ta σ H1 fun x H2=>∃ a C dx fs,x = .ref a/\H2 a=some (.ins C dx fs)/\Cls K C/\aD_ K C f/\fs.length<1000 /\
 D.nx σ (upd H2 a (.ins C dx (putF f y fs)))
def InOp (X:Cx) (op:Operator) (rd:V->V->Hp->VK->Prop):Prop :=
 ∀ (pins:List (Addr×Obj)) (s:Shared) (σ:St) (H:Hp) (x y:V) (u v:Value) (Q:VK),Inv X pins σ H s->RelV x u->RelV y v->rd x y H Q->wpAny (model X.prog X.w) X.A (inplaceOp op u v) (EP X pins σ Q) X.xe s
def jZ_ (K:PySem.W.Frag) (ta tv:TE) (rd:V->V->Hp->VK->Prop) (f:Str):TS:=fun D σ H=>ta σ H fun x H1=>∃ a C dx fs v,x = .ref a/\H1 a=some (.ins C dx fs)/\Cls K C/\aD_ K C f/\fs.lookup f=some v /\
 tv σ H1 fun y H2=>rd v y H2 fun z H3=>∃ dx' fs',H3 a=some (.ins C dx' fs')/\fs'.length<1000/\D.nx σ (upd H3 a (.ins C dx' (putF f z fs')))
section
variable {X:Cx}{o e value:Expr}{f:Str}{pos pos' tpos:Pos}{ta tv:TE}
theorem ah_ (he:PE X e ta) (hb:attributeBase e f X.env (eval e X.env)=eval e X.env):PE X (.Attribute e f pos) (tFld X.K ta f):=by
 intro pins s σ H Q I h;refine lb_ hb (thn (he pins s σ H _ I h) fun u s1 zq=>?_);obtain ⟨x,H1,I1,rx,a,C,dx,fs,v,ex,ea,c,n,l,q⟩:=zq;subst ex;obtain rfl:u=Value.ref a:=rx;exact fp_ I1 ea c n l fun u' s2 I2 ru=>⟨v,H1,I2,ru,q⟩
theorem bj_ (ha:PE X o ta) (hv:PE X value tv) (hs:swapsWith value (some (.Attribute o f pos')) pos.line X.env=pure false):PS X (.Assign [.Attribute o f pos'] value pos) (sFld X.K ta tv f):=by
 intro pins s σ H D I h;refine plainObj_wpAny_Assign_Attribute (thn (hv pins s σ H _ I h) fun u s1 ⟨y,H1,I1,ry,q⟩=>thn (ha pins s1 σ H1 _ I1 q) fun ov s2 zq=>?_) hs;obtain ⟨x,H2,I2,rx,a,C,dx,fs,ex,ea,c,n,l,q2⟩:=zq;subst ex;obtain rfl:ov=Value.ref a:=rx;exact fe_ I2 ea c n l ry fun s3 I3=>⟨σ,_,I3,q2⟩
theorem j3_ {op:Operator}{rd:V->V->Hp->VK->Prop} (ha:PE X o ta) (hv:PE X value tv) (hop:InOp X op rd):PS X (.AugAssign (.Attribute o f tpos) op value pos) (jZ_ X.K ta tv rd f):=by
 intro pins s σ H D I h;refine wpAny_AugAssign_AttributeAny (thn (ha pins s σ H _ I h) fun ov s1 zq=>?_);obtain ⟨x,H1,I1,rx,a,C,dx,fs,v,ex,ea,c,n,l,q⟩:=zq;subst ex;obtain rfl:ov=Value.ref a:=rx;refine fp_ I1 ea c n l fun u s2 I2 ru=>thn (hv pins s2 σ H1 _ I2 q) fun w3 s3 ⟨y,H2,I3,ry,q3⟩=>thn (hop pins s3 σ H2 v y u w3 _ I3 ru ry q3) fun w4 s4 zq=>?_;obtain ⟨z,H3,I4,rz,dx',fs',ea',l',q4⟩:=zq;exact fe_ I4 ea' c n l' rz fun s5 I5=>⟨σ,_,I5,q4⟩
def rAdd:V->V->Hp->VK->Prop:=fun x y H Q=>∃ i j,x = .int i/\y = .int j/\Q (.int (i+j)) H
theorem oQ_:InOp X .Add rAdd:=by
 rintro pins s σ H x y u v Q I rx ry ⟨i,j,rfl,rfl,q⟩
 obtain ⟨t,rfl⟩:=(show ∃ t,u=Value.int i t from rx);obtain ⟨t',rfl⟩:=(show ∃ t',v=Value.int j t' from ry);exact PyProof.Rows.iadd_int ⟨.int (i+j),H,I.tok _,⟨_,rfl⟩,q⟩
end
section
variable {X:Cx}{pins:List (Addr×Obj)}{σ:St}{H:Hp}{s:Shared}{A:Around}{E:Value->Shared->Prop}{Q:Value->Shared->Prop}{c:Value}{b:Bool}
inductive TyOf (K:PySem.W.Frag) (H:Hp):V->Value->Prop where
 | non:TyOf K H .non (.type "NoneType")
 | bl (x:Bool):TyOf K H (.bl x) (.type "bool")
 | int (i:Int):TyOf K H (.int i) (.type "int")
 | str (x:Str):TyOf K H (.str x) (.type "str")
 | flt (x:UInt64):TyOf K H (.flt x) (.type "float")
 | lst {a:Addr}{xs:List V} (e:H a=some (.lst xs)):TyOf K H (.ref a) (.type "list")
 | frz {a:Addr}{o:Obj}{xs:List V} (e:H a=some (.frz o (.lst xs))):TyOf K H (.ref a) (.type "list")
 | tup {a:Addr}{xs:List V} (e:H a=some (.tup xs)):TyOf K H (.ref a) (.type "tuple")
 | dK {a:Addr}{kvs:List (Key×V)} (e:H a=some (.dK kvs)):TyOf K H (.ref a) (.type "dict")
 | dT {a:Addr}{kvs:List (List Key×V)} (e:H a=some (.dT kvs)):TyOf K H (.ref a) (.type "dict")
 | ins {a C dx:Addr}{fs:List (Str×V)} (e:H a=some (.ins C dx fs)) (cl:Cls K C) (ha:PySem.W.findIn K (.ref C) "__class__"=some (some (.builtin "object.__class__")))
   (hn:PySem.W.specialIn K (.builtin "object.__class__") "__get__"=some (some (.builtin "getset_descriptor.__get__"))) (htk:PySem.W.takesIn K (.builtin "object.__class__")=some true)
   (hm:mroIn K C (.type "object")=some true):TyOf K H (.ref a) (.ref C)
theorem kG_ {x:V}{u t:Value} (I:Inv X pins σ H s) (rx:RelV x u) (ty:TyOf X.K H x t) (e:kitOne X.K t c=some b) (h : ∀ tk,Q (.bool b) { s with toks:=tk }) :
  wpAny (model X.prog X.w) A (call (.builtin "isinstance") [u,c]) Q E s:=by
 cases ty with
 | non=>cases (show u=Value.none from rx);exact kia_one PySem.W.kitx_none I.kIn True.intro e (fun z=>nomatch z) h
 | bl y=>cases (show u=Value.bool y from rx);exact kia_one PySem.W.kitx_bool I.kIn True.intro e (fun z=>nomatch z) h
 | int i=>obtain ⟨t,q⟩:=(show ∃ t,u=Value.int i t from rx);cases q;exact kia_one PySem.W.kitx_int I.kIn True.intro e (fun z=>nomatch z) h
 | str y=>obtain ⟨t,q⟩:=(show ∃ t,u=Value.str y t from rx);cases q;exact kia_one PySem.W.kitx_str I.kIn True.intro e (fun z=>nomatch z) h
 | flt y=>obtain ⟨t,q⟩:=(show ∃ t,u=Value.float y t from rx);cases q;exact kia_one PySem.W.kitx_float I.kIn True.intro e (fun z=>nomatch z) h
 | @lst a xs ea =>
  cases (show u=Value.ref a from rx);obtain ⟨_,_,n,_,h1⟩:=(show a8_ X.prog X.w H s.heap a (.lst xs) from I.hok a _ ea);exact kia_one PySem.W.kitx_list I.kIn ⟨_,h1,rfl⟩ e (fun z=>nomatch z) h
 | @frz a ob xs ea =>
  cases (show u=Value.ref a from rx);obtain ⟨_,_,_,n,_,h1⟩:=(show a8_ X.prog X.w H s.heap a (.frz ob (.lst xs)) from I.hok a _ ea);exact kia_one PySem.W.kitx_list I.kIn ⟨_,h1,rfl⟩ e (fun z=>nomatch z) h
 | @tup a xs ea =>
  cases (show u=Value.ref a from rx);obtain ⟨_,_,_,p⟩:=(show a8_ X.prog X.w H s.heap a (.tup xs) from I.hok a _ ea);obtain ⟨o,h1,h2,_⟩:=p;exact kia_one PySem.W.kitx_tuple I.kIn ⟨o,h1,h2⟩ e (fun z=>nomatch z) h
 | @dK a kvs ea =>
  cases (show u=Value.ref a from rx);obtain ⟨_,_,vs,_,p⟩:=(show a8_ X.prog X.w H s.heap a (.dK kvs) from I.hok a _ ea);obtain ⟨o,es,ep,h1,h2,_⟩:=p;exact kia_one PySem.W.kitx_dict I.kIn ⟨o,h1,h2.1⟩ e (fun z=>nomatch z) h
 | @dT a kvs ea =>
  cases (show u=Value.ref a from rx);obtain ⟨_,_,xs,_,o,es,ep,h1,h2,_⟩:=(show a8_ X.prog X.w H s.heap a (.dT kvs) from I.hok a _ ea);exact kia_one PySem.W.kitx_dict I.kIn ⟨o,h1,h2.1⟩ e (fun z=>nomatch z) h
 | @ins a C dx fs ea cl ha hn htk hm =>
 cases (show u=Value.ref a from rx);obtain ⟨mA,O,_⟩:=f2_ I.hok ea;obtain ⟨od,J,_⟩:=O.look;exact kia_one (PySem.W.kitx_own (cl.get _) cl.hd ha hn htk hm) I.kIn J e (fun z=>nomatch z) h
end
end L2
namespace L2
open PySem PySem.Spec PyProof.Rows
structure Room (k:Nat) (A:Around):Prop where
 hd:A.handled=none
 dp:A.depth+3 * k+5<recursionLimit
 un:A.units+16 * k+200<cLine
theorem Room.mono {j k:Nat}{A:Around} (r:Room k A) (h:j<=k):Room j A:=⟨r.hd,by have:=r.dp;omega,by have:=r.un;omega⟩
theorem Room.deeper {k:Nat}{A:Around} (r:Room (k+1) A) (env:Env):Room k (A.deeper env) :=
 ⟨r.hd,by have:=r.dp;show A.depth+1+3 * k+5<_;omega,by have:=r.un;show A.units+3+16 * k+200<_;omega⟩
theorem Room.in1 {k:Nat}{A:Around} (r:Room (k+1) A):Room k A.in1 :=
 ⟨r.hd,by have:=r.dp;show A.depth+3 * k+5<_;omega,by have:=r.un;show A.units+1+16 * k+200<_;omega⟩
theorem i1_ {A:Around}{C:Addr}{us:List Value}{kw:List (Str×Value)}:(A.under (.builtin "type.__call__" ⟨.ref C::us,kw⟩)).depth=A.depth+1:=by
 first | rfl | simp [Around.under,Code.weight,Code.isCreation,Code.isGuard,Code.isCaller,Code.frames,Code.isFrame,guardIds]
theorem i0_ {A:Around}{C:Addr}{us:List Value}{kw:List (Str×Value)}:(A.under (.builtin "type.__call__" ⟨.ref C::us,kw⟩)).units=A.units+1:=by
 first | rfl | simp [Around.under,Code.cUnits,Code.frames,Code.isFrame]
theorem Room.make {k:Nat}{A:Around} (r:Room (k+1) A) (C:Addr) (us:List Value) (kw:List (Str×Value)):Room k (A.under (.builtin "type.__call__" ⟨.ref C::us,kw⟩)) :=
 ⟨r.hd,by have:=r.dp;rw [i1_];omega,by have:=r.un;rw [i0_];omega⟩
theorem Room.depth {k:Nat}{A:Around} (r:Room k A):A.depth<recursionLimit:=by have:=r.dp;omega
theorem Room.units {k:Nat}{A:Around} (r:Room k A):A.units+64<cLine:=by have:=r.un;omega
def tNil:TA:=fun _ H Q=>Q [] H
def fK_ (ta:TE) (tr:TA):TA:=fun σ H Q=>ta σ H fun x H1=>tr σ H1 fun xs H2=>Q (x::xs) H2
section
variable {X:Cx}{e:Expr}{es:List Expr}{te:TE}{t:TA}{pos:Pos}
theorem ac_:PA X [] tNil:=fun _ _ _ _ H Q I h=>Calls.spliced_nil ⟨[],H,I,.nil,h⟩
theorem aa_ (ha:PE X e te) (hr:PA X es t) (hs:starEach (e::es) X.env=(false,eval e X.env)::starEach es X.env:=by rfl):PA X (e::es) (fK_ te t):=by
 intro pos pins s σ H Q I h;rw [hs];show wpAny _ _ (spliced ((false,eval e X.env)::backTo pos (starEach es X.env))) _ _ s;refine Calls.spliced_cons (thn (ha pins s σ H _ I h) fun u s1 zq=>?_);obtain ⟨x,H1,I1,r1,q1⟩:=zq;exact thn (hr pos pins s1 σ H1 _ I1 q1) fun us s2 ⟨xs,H2,I2,r2,q2⟩=>⟨x::xs,H2,I2,.cons r1 r2,q2⟩
def tTup (t:TA):TE:=fun σ H Q=>t σ H fun xs H1=>xs.length<=sizeLine/\∀ p,H1 p=none->Q (.ref p) (upd H1 p (.tup xs))
def tLst (t:TA):TE:=fun σ H Q=>t σ H fun xs H1=>xs.length<=sizeLine/\∀ p,H1 p=none->Q (.ref p) (upd H1 p (.lst xs))
theorem bk_ {x1} (h:PA X es t):PE X (.Tuple es x1 pos) (tTup t):=by
 intro pins s σ H Q I hq;refine wpAny_Tuple_spliced (thn (h pos pins s σ H _ I hq) fun us s1 ⟨xs,H1,I1,r,z,q⟩=>⟨by rw [<- r.length];exact z,?_⟩);have hf:H1 s1.heap.objs.size=none:=I1.hok.fresh (Nat.le_refl _);refine ⟨.ref s1.heap.objs.size,upd H1 s1.heap.objs.size (.tup xs),I1.laid (t':=s1.toks) (fun b u e=>Heap.get?_push_of_some _ e) (Nat.le_refl _) ?_,rfl,q _ hf⟩;exact ⟨z,us,r,⟨_,Heap.get?_push_size _ rfl,rfl,_,rfl⟩⟩
theorem ax_ (h:PA X es t):PE X (.List es pos) (tLst t):=by
 intro pins s σ H Q I hq;refine wpAny_List_spliced (thn (h pos pins s σ H _ I hq) fun us s1 ⟨xs,H1,I1,r,z,q⟩=>⟨by rw [<- r.length];exact z,?_⟩);have hf:H1 s1.heap.objs.size=none:=I1.hok.fresh (Nat.le_refl _);refine ⟨.ref s1.heap.objs.size,upd H1 s1.heap.objs.size (.lst xs),I1.laid (t':=s1.toks) (fun b u e=>Heap.get?_push_of_some _ e) (Nat.le_refl _) ?_,rfl,q _ hf⟩;exact ⟨z,us,0,r,Heap.get?_push_size _ rfl⟩
end
abbrev Sp:=List V->Hp->VK->XK->Prop
abbrev CXT:=List Env->Hp->Shared->XK->Value->Shared->Prop
structure Env0 (P:Program) (w:World) (K:PySem.W.Frag) (mg:Str->Option Value) (base:Heap) (A:Around) (outer:List Env) (s:Shared) (H:Hp):Prop where
 frames:A.frames=some outer
 mod:Mod K mg base
 bs : ∀ b o,base.get? b=some o->s.heap.get? b=some o/\H b=none
 bsz:base.objs.size<=s.heap.objs.size
 funs:s.heap.FunFrames base outer
 frf : ∀ b∈frs outer,H b=none
 hok:HOk P w H s.heap
 bare:AllBare s.gens
def CE (outer:List Env) (P:Program) (w:World) (H:Hp) (s:Shared) (Q:VK) (u:Value) (s':Shared):Prop :=
 ∃ v H',s'.os=s.os/\AllBare s'.gens/\Un (frs outer) [] H H' s.heap s'.heap/\HOk P w H' s'.heap/\RelV v u/\Q v H'
def CR (CX:CXT) (outer:List Env) (P:Program) (w:World) (H:Hp) (s:Shared) (Q:VK) (E:XK) (r:Result) (s':Shared):Prop :=
 match r with
 | .ok (.ret u)=>CE outer P w H s Q u s'
 | .ok _=>False
 | .error e=>CX outer H s E e s'
structure FnOk (P:Program) (w:World) (K:PySem.W.Frag) (mg:Str->Option Value) (base:Heap) (CX:CXT) (k:Nat) (f:Addr) (fd:FuncData) (ps:List Str) (sp:Sp):Prop where
 len : ∀ vs H Q E,sp vs H Q E->vs.length=ps.length
 run : ∀ (A:Around) (outer:List Env) (s:Shared) (H:Hp) (args:Args) (us:List Value) (vs:List V) (Q:VK) (E:XK),Room k A->Env0 P w K mg base A outer s H->BindsTo s fd args (ps.zip us)->Vals vs us->sp vs H Q E ->
  codeAny (model P w) A (.call (.ref f) args) (CR CX outer P w H s Q E) s
theorem FnOk.mono {P:Program}{w:World}{K:PySem.W.Frag}{mg:Str->Option Value}{base:Heap}{CX:CXT}{j k:Nat}{f:Addr}{fd:FuncData}{ps:List Str}{sp:Sp} (F:FnOk P w K mg base CX j f fd ps sp) (h:j<=k) :
  FnOk P w K mg base CX k f fd ps sp:=⟨F.len,fun A outer s H args us vs Q E hr=>F.run A outer s H args us vs Q E (hr.mono h)⟩
theorem FnOk.imp {P:Program}{w:World}{K:PySem.W.Frag}{mg:Str->Option Value}{base:Heap}{CX:CXT}{k:Nat}{f:Addr}{fd:FuncData}{ps:List Str}{sp sp':Sp} (F:FnOk P w K mg base CX k f fd ps sp)
  (h : ∀ vs H Q E,sp' vs H Q E->sp vs H Q E):FnOk P w K mg base CX k f fd ps sp' :=
 ⟨fun vs H Q E q=>F.len vs H Q E (h _ _ _ _ q),fun A outer s H args us vs Q E hr he hb hv hs=>F.run A outer s H args us vs Q E hr he hb hv (h _ _ _ _ hs)⟩
theorem Env0.make {P:Program}{w:World}{K:PySem.W.Frag}{mg:Str->Option Value}{base:Heap}{A:Around}{outer:List Env}{s:Shared}{H:Hp} (e:Env0 P w K mg base A outer s H) (C:Addr) (us:List Value) (kw:List (Str×Value)) :
  Env0 P w K mg base (A.under (.builtin "type.__call__" ⟨.ref C::us,kw⟩)) outer s H:=⟨by first | exact e.frames | (simpa [Around.under,Code.envs,Code.isFrame,pushEnvs] using e.frames),e.mod,e.bs,e.bsz,e.funs,e.frf,e.hok,e.bare⟩
theorem Env0.in1 {P:Program}{w:World}{K:PySem.W.Frag}{mg:Str->Option Value}{base:Heap}{A:Around}{outer:List Env}{s:Shared}{H:Hp} (e:Env0 P w K mg base A outer s H) :
  Env0 P w K mg base A.in1 outer s H:=⟨e.frames,e.mod,e.bs,e.bsz,e.funs,e.frf,e.hok,e.bare⟩
section
variable {X:Cx}{pins:List (Addr×Obj)}{σ:St}{H:Hp}{s s':Shared}
theorem Inv.env0 (I:Inv X pins σ H s):Env0 X.prog X.w X.K X.mg X.base X.A X.stack s H :=
 ⟨I.ok.frames,I.ok.mod,I.bs,Nat.le_trans I.ok.bsz I.sz,I.stack,I.stkFree,I.hok,I.bare⟩
theorem Inv.after {Q:VK}{u:Value} (I:Inv X pins σ H s) (h:CE X.stack X.prog X.w H s Q u s'):EP X pins σ Q u s':=by
 obtain ⟨v,H',os,bare,un,hok,r,q⟩:=h;obtain ⟨hh,g,d,t,os'⟩:=s';obtain rfl:os'=s.os:=os;exact ⟨v,H',I.call (h':=hh) (g':=g) (d':=d) (t':=t) (ch:=[]) un hok bare (fun b z=>absurd z (by simp)),r,q⟩
end
def iP_ (sp:Sp) (dvs:List V) (E:XK) (t:TA):TE:=fun σ H Q=>t σ H fun vs H1=>sp (vs++dvs) H1 Q E
def hk_ (C:Addr) (m:Str) (sp:Sp) (dvs:List V) (E:XK) (ta:TE) (t:TA):TE:=fun σ H Q=>ta σ H fun x H1=>∃ a dx fs,x = .ref a/\H1 a=some (.ins C dx fs)/\fs.lookup m=none /\
 t σ H1 fun vs H2=>sp (x::(vs++dvs)) H2 Q E
def cg_ (C:Addr) (sp:Sp) (dvs:List V) (E:XK) (t:TA):TE:=fun σ H Q=>t σ H fun vs H1=>∀ x dx,H1 x=none->H1 dx=none->dx≠x ->
 sp (.ref x::(vs++dvs)) (upd (upd H1 dx (.own x)) x (.ins C dx [])) (fun v H2=>v = .non/\Q (.ref x) H2) E
def a9_ (K:PySem.W.Frag) (fd:FuncData) (ps:List Str) (ds:List Value):Prop :=
 ∀ (s:Shared) (us:List Value),K.In s.heap->(us++ds).length=ps.length->BindsTo s fd ⟨us,[]⟩ (ps.zip (us++ds))
theorem a9_.all {K:PySem.W.Frag}{fd:FuncData}{ps:List Str} (h : ∀ us:List Value,us.length=ps.length->bindArgs fd ⟨us,[]⟩=pure (ps.zip us)):a9_ K fd ps []:=fun s us _ hl=>by
 rw [append_nil] at hl ⊢;exact .of_eq (h us hl)
def bK_ (CX:CXT) (X:Cx) (E:XK):Prop:=∀ (pins:List (Addr×Obj)) (σ:St) (H:Hp) (s:Shared) (e:Value) (s':Shared),Inv X pins σ H s->CX X.stack H s E e s'->X.xe e s'
section
variable {X:Cx}{CX:CXT}{k:Nat}{f C:Addr}{fd:FuncData}{ps:List Str}{sp:Sp}{dvs:List V}{ds:List Value}{E:XK}{x m:Str}{p pos apos:Pos}{e o:Expr}{es:List Expr}{ta:TE}{t:TA}
theorem ic_ {pins:List (Addr×Obj)}{σ:St}{H:Hp}{s:Shared}{Q:VK}{us:List Value}{vs:List V} (F:FnOk X.prog X.w X.K X.mg X.base CX k f fd ps sp) (hr:Room k X.A) (hb:a9_ X.K fd ps ds) (hd:Vals dvs ds) (hx:bK_ CX X E)
  (I:Inv X pins σ H s) (r:Vals vs us) (h:sp (vs++dvs) H Q E):wpAny (model X.prog X.w) X.A (call (.ref f) us) (EP X pins σ Q) X.xe s:=by
 have r2:Vals (vs++dvs) (us++ds):=r.append hd;have hl:(us++ds).length=ps.length:=by rw [<- r2.length];exact F.len _ _ _ _ h
 refine wpAny_call (codeAny_mono (F.run X.A X.stack s H ⟨us,[]⟩ (us++ds) (vs++dvs) Q E hr I.env0 (hb s us I.kIn hl) r2 h) fun r s' hq=>?_);cases r with
 | error e=>exact hx pins σ H s e s' I hq
 | ok fl =>
 cases fl with
 | ret u=>exact I.after hq
 | next=>exact False.elim hq
 | brk=>exact False.elim hq
 | cont=>exact False.elim hq
theorem fT_ (F:FnOk X.prog X.w X.K X.mg X.base CX k f fd ps sp) (hr:Room k X.A) (hg:Gl X x) (hm:X.mg x=some (.ref f)) (hk:keepIn X.K (.ref f)=true) (hb:a9_ X.K fd ps ds) (hd:Vals dvs ds) (hx:bK_ CX X E)
  (ha:PA X (e::es) t) (hdb:(x == ("__debug__":Str))=false:=by decide) (he:starEach (e::es) X.env=(false,eval e X.env)::starEach es X.env:=by rfl) (hpl:(backTo pos (starEach es X.env)).any (·.1)=false:=by rfl) :
  PE X (.Call (.Name x p) (e::es) [] pos) (iP_ sp dvs E t):=by
 intro pins s σ H Q I h;refine wpAny_Call_Name_kw (dw_ I hg hm ?_ hdb);refine callWith_K (h₀:=X.base) I.ok.mod.kin hk (thn (ha pos pins s σ H _ I h) fun us s1 ⟨vs,H1,I1,r,q⟩=>⟨I1.kIn,?_⟩) he hpl;exact ic_ F hr hb hd hx I1 r q
theorem hu_ {pl:Sem Bool} (he:PE X o ta) (c:Cls X.K C) (hm:Meth X.K C m f) (F:FnOk X.prog X.w X.K X.mg X.base CX k f fd ps sp) (hr:Room k X.A) (hb:a9_ X.K fd ps ds) (hd:Vals dvs ds) (hx:bK_ CX X E) (ha:PA X (e::es) t)
  (hst:starEach (e::es) X.env=(false,eval e X.env)::starEach es X.env:=by rfl) (hpl:(backTo pos (starEach es X.env)).any (·.1)=false:=by rfl)
  (ht:eval (.Call (.Attribute o m apos) (e::es) [] pos) X.env=(do
   let ov <- eval o X.env
   standAt apos.atName
   let (f,first) <- holding [ov] (getMethod ov m pl)
   callWith pos f first (backTo pos (starEach (e::es) X.env)) (backToKw pos (keywordEach [] X.env))):=by rfl) :
  PE X (.Call (.Attribute o m apos) (e::es) [] pos) (hk_ C m sp dvs E ta t):=by
 intro pins s σ H Q I h;refine PySem.W.methodCall_KW (pl:=pl) (thn (he pins s σ H _ I h) fun u s1 zq=>?_) ht;obtain ⟨x,H1,I1,rx,a,dx,fs,ex,ea,l,q⟩:=zq;subst ex;obtain rfl:u=Value.ref a:=rx;refine fo_ I1 ea c hm l ?_;refine callWith_K (first:=[.ref a]) (h₀:=X.base) I.ok.mod.kin hm.kp (thn (ha pos pins s1 σ H1 _ I1 q) fun us s2 ⟨vs,H2,I2,r,q2⟩=>⟨I2.kIn,?_⟩) hst hpl;exact ic_ (us := .ref a::us) (vs := .ref a::vs) F hr hb hd hx I2 (.cons rfl r) q2
theorem bl_ {pl:Sem Bool} (he:PE X o ta) (c:Cls X.K C) (hm:Meth X.K C m f) (F:FnOk X.prog X.w X.K X.mg X.base CX k f fd ps sp) (hr:Room k X.A) (hb:a9_ X.K fd ps ds) (hd:Vals dvs ds) (hx:bK_ CX X E)
  (ht:eval (.Call (.Attribute o m apos) [] [] pos) X.env=(do
   let ov <- eval o X.env
   standAt apos.atName
   let (f,first) <- holding [ov] (getMethod ov m pl)
   callWith pos f first (backTo pos (starEach [] X.env)) (backToKw pos (keywordEach [] X.env))):=by rfl) :
  PE X (.Call (.Attribute o m apos) [] [] pos) (hk_ C m sp dvs E ta tNil):=by
 intro pins s σ H Q I h;refine PySem.W.methodCall_KW (pl:=pl) (thn (he pins s σ H _ I h) fun u s1 zq=>?_) ht;obtain ⟨x,H1,I1,rx,a,dx,fs,ex,ea,l,q⟩:=zq;subst ex;obtain rfl:u=Value.ref a:=rx;refine fo_ I1 ea c hm l ?_;exact PySem.W.callWith_K0 (first:=[.ref a]) I1.kIn hm.kp (ic_ (us:=[.ref a]) (vs:=[.ref a]) F hr hb hd hx I1 (.cons rfl .nil) q)
structure Mk (K:PySem.W.Frag) (C f:Addr):Prop where
 makes:PySem.W.makesIn K C=true
 init:PySem.W.findIn K (.ref C) "__init__"=some (some (.ref f))
 fn:isFn K (.ref f)=true
 kp:keepIn K (.ref C)=true
theorem lB_ {pins:List (Addr×Obj)}{σ:St}{H:Hp}{s:Shared}{Q:VK}{us:List Value}{vs:List V} (M:Mk X.K C f) (F:FnOk X.prog X.w X.K X.mg X.base CX k f fd ps sp) (hr:Room (k+1) X.A) (hb:a9_ X.K fd ps ds) (hd:Vals dvs ds)
  (hx:bK_ CX X E) (I:Inv X pins σ H s) (r:Vals vs us)
  (h : ∀ x dx,H x=none->H dx=none->dx≠x->sp (.ref x::(vs++dvs)) (upd (upd H dx (.own x)) x (.ins C dx [])) (fun v H2=>v = .non/\Q (.ref x) H2) E) :
  wpAny (model X.prog X.w) X.A (call (.ref C) us) (EP X pins σ Q) X.xe s:=by
 have hq:=h (s.heap.objs.size+1) s.heap.objs.size (I.hok.fresh (le_succ _)) (I.hok.fresh (Nat.le_refl _)) (Nat.ne_of_lt (lt_succ_self _));have I2:=Inv.made (C:=C) I;have r2:Vals (V.ref (s.heap.objs.size+1)::(vs++dvs)) (Value.ref (s.heap.objs.size+1)::(us++ds)) := .cons rfl (r.append hd);have hl:(Value.ref (s.heap.objs.size+1)::us++ds).length=ps.length:=by
  have e:=r2.length;rw [F.len _ _ _ _ hq] at e;exact e.symm
 refine wpAny_call (lU_ (f:=f) I.kIn M.makes M.init (beq_iff_eq.mp M.fn) (codeAny_mono (F.run _ X.stack _ _ ⟨Value.ref (s.heap.objs.size+1)::us,[]⟩ (Value.ref (s.heap.objs.size+1)::(us++ds)) _ _ E (hr.make C us [])
  (I2.env0.make C us []) (hb _ (Value.ref (s.heap.objs.size+1)::us) I2.kIn hl) r2 hq) fun r s' hq'=>?_))
 cases r with
 | error e=>exact hx pins σ _ _ e s' I2 hq'
 | ok fl =>
 cases fl with
 | ret u =>
  obtain ⟨v,H',I3,rv,ev,q3⟩:=I2.after hq';subst ev;exact ⟨rv,⟨V.ref (s.heap.objs.size+1),H',I3,rfl,q3⟩⟩
 | next=>exact False.elim hq'
 | brk=>exact False.elim hq'
 | cont=>exact False.elim hq'
theorem a5_ (M:Mk X.K C f) (F:FnOk X.prog X.w X.K X.mg X.base CX k f fd ps sp) (hr:Room (k+1) X.A) (hg:Gl X x) (hm:X.mg x=some (.ref C)) (hb:a9_ X.K fd ps ds) (hd:Vals dvs ds) (hx:bK_ CX X E)
  (ha:PA X (e::es) t) (hdb:(x == ("__debug__":Str))=false:=by decide) (he:starEach (e::es) X.env=(false,eval e X.env)::starEach es X.env:=by rfl) (hpl:(backTo pos (starEach es X.env)).any (·.1)=false:=by rfl) :
  PE X (.Call (.Name x p) (e::es) [] pos) (cg_ C sp dvs E t):=by
 intro pins s σ H Q I h;refine wpAny_Call_Name_kw (dw_ I hg hm ?_ hdb);refine callWith_K (h₀:=X.base) I.ok.mod.kin M.kp (thn (ha pos pins s σ H _ I h) fun us s1 ⟨vs,H1,I1,r,q⟩=>⟨I1.kIn,?_⟩) he hpl;exact lB_ M F hr hb hd hx I1 r q
end
section
variable {X:Cx}{CX:CXT}{k:Nat}{f C:Addr}{fd:FuncData}{ps ks:List Str}{sp:Sp}{E:XK}{x m:Str}{p pos apos kpos:Pos}{e o:Expr}{es:List Expr}{kws:List Keyword}{te ta:TE}{t tk:TA}{nm:Option Str}
variable {g:List Value->List Value->List Value}{gV:List V->List V->List V}
end
structure FnScope (N P:List Str) (sc:Scope):Prop where
 kind:sc.kind = .function
 co:sc.isCoroutine=false
 gen:sc.isGenerator=false
 nd:N.Nodup
 pre:N.take P.length=P
 par : ∀ x∈P,sc.names.lookup x=some .local\/sc.names.lookup x=some .cell
 nofree : ∀ y∈sc.names,y.2 ≠ .free
theorem g9_ {kindOf:Str->Option NameKind}{x:Str} : ∀ {binds:List (Str×Value)}{m:Str->Option Value},(∀ v,(x,v)∉binds)->bindL kindOf binds m x=m x
 | [],_,_=>rfl
 | (n,v)::r,m,h=>by
  unfold bindL;rw [g9_ fun w hw=>h w (mem_cons_of_mem _ hw)];split
  ·have:x≠n:=by rintro rfl;exact h v mem_cons_self
   simp [this]
  rfl
theorem hb_ {kindOf:Str->Option NameKind}{x:Str} : ∀ {binds:List (Str×Value)}{m:Str->Option Value},(∀ v,(x,v)∉binds)->bindC kindOf binds m x=m x
 | [],_,_=>rfl
 | (n,v)::r,m,h=>by
  unfold bindC;rw [hb_ fun w hw=>h w (mem_cons_of_mem _ hw)];split
  ·rfl
  have:x≠n:=by rintro rfl;exact h v mem_cons_self
  simp [this]
theorem ha_ {kindOf:Str->Option NameKind}{x:Str}{v:Value} : ∀ {P:List Str}{vs:List Value}{i:Nat}{m:Str->Option Value},P.Nodup->P[i]? = some x->vs[i]? = some v->kindOf x=some .local ->
  bindL kindOf (P.zip vs) m x=some v
 | [],_,_,_,_,h,_,_=>by simp at h
 | _::_,[],_,_,_,_,h,_=>by simp at h
 | p::P,w::vs,0,m,nd,h1,h2,hk=>by
  simp at h1 h2;subst h1;subst h2;show bindL kindOf ((p,w)::P.zip vs) m p=_;unfold bindL;rw [g9_ fun v hv=>(List.nodup_cons.mp nd).1 (of_mem_zip hv).1,if_pos hk];simp
 | p::P,w::vs,i+1,m,nd,h1,h2,hk=>by
  show bindL kindOf ((p,w)::P.zip vs) m x=_;unfold bindL;exact ha_ (i:=i) (List.nodup_cons.mp nd).2 (by simpa using h1) (by simpa using h2) hk
theorem hc_ {kindOf:Str->Option NameKind}{x:Str}{v:Value} : ∀ {P:List Str}{vs:List Value}{i:Nat}{m:Str->Option Value},P.Nodup->P[i]? = some x->vs[i]? = some v->kindOf x≠some .local ->
  bindC kindOf (P.zip vs) m x=some v
 | [],_,_,_,_,h,_,_=>by simp at h
 | _::_,[],_,_,_,_,h,_=>by simp at h
 | p::P,w::vs,0,m,nd,h1,h2,hk=>by
  simp at h1 h2;subst h1;subst h2;show bindC kindOf ((p,w)::P.zip vs) m p=_;unfold bindC;rw [hb_ fun v hv=>(List.nodup_cons.mp nd).1 (of_mem_zip hv).1,if_neg hk];simp
 | p::P,w::vs,i+1,m,nd,h1,h2,hk=>by
  show bindC kindOf ((p,w)::P.zip vs) m x=_;unfold bindC;exact hc_ (i:=i) (List.nodup_cons.mp nd).2 (by simpa using h1) (by simpa using h2) hk
def start (N:List Str) (vs:List V):St:=vs.map some++List.replicate (N.length - vs.length) none
noncomputable def cxOf (CX:CXT) (P:Program) (w:World) (K:PySem.W.Frag) (mg:Str->Option Value) (base:Heap) (N:List Str) (qual:Str) (scope:Scope) (f:Addr) (cd:Value) (A:Around) (outer:List Env) (s:Shared) (H:Hp) (E:XK):Cx where
 prog:=P
 w:=w
 K:=K
 mg:=mg
 base:=base
 A:=A.deeper (envOfC qual scope s.heap.objs.size f cd)
 N:=N
 s_0:=s
 H_0:=H
 env:=envOfC qual scope s.heap.objs.size f cd
 outer:=outer
 stack:=envOfC qual scope s.heap.objs.size f cd::outer
 ex:=[]
 calm:=true
 fn:=fun _=>true
 pn:=[]
 xe:=fun e s'=>wpAny (model P w) (A.deeper (envOfC qual scope s.heap.objs.size f cd)) (leaving (envOfC qual scope s.heap.objs.size f cd) e) (fun _ s''=>CX outer H s E e s'') (fun e' s''=>CX outer H s E e' s'') s'
theorem iJ_ {sc:Scope}{n:Nat}{x:Str} (h:sc.names.lookup x=some .cell) : ∃ c,(cellsFrom n sc.names []).lookup x=some c:=by
 have q:=PySem.W.cellsFrom_some sc.names n [] (.inl h);exact Option.isSome_iff_exists.mp q
theorem gW_ {CX:CXT}{P:Program}{w:World}{K:PySem.W.Frag}{mg:Str->Option Value}{base:Heap}{N ps:List Str}{qual:Str}{scope:Scope}{f:Addr}{cd:Value}{A:Around}{outer:List Env}{s s1:Shared}{H:Hp}{E:XK}{us:List Value}{vs:List V}
  (S:FnScope N ps scope) (hd:A.handled=none) (e0:Env0 P w K mg base A outer s H) (hl:vs.length=ps.length) (r:Vals vs us)
  (x:InCallC s s.heap.objs.size (bindL (envOfC qual scope s.heap.objs.size f cd).kindOf (ps.zip us) fun _=>none) (cellsFrom (s.heap.objs.size+1) scope.names []) (bindC (envOfC qual scope s.heap.objs.size f cd).kindOf (ps.zip us) fun _=>none) s1) :
  Inv (cxOf CX P w K mg base N qual scope f cd A outer s H E) [] (start N vs) H s1:=by
 have hpl:ps.length<=N.length:=by have:=congrArg List.length S.pre;rw [length_take] at this;omega
 obtain ⟨h1,tk,rfl,hk⟩:=x.done;have noA : ∀ b:Addr,b∉(cxOf CX P w K mg base N qual scope f cd A outer s H E).ex:=fun b z=>absurd (show b∈([]:List Addr) from z) (by simp);refine ⟨⟨e0.mod,S.kind,rfl,rfl,Nat.le_refl _,fun y z c h1 h2=>?_,fun y hy=>?_,fun y c _ h=>?_,fun _=>hd,Around.frames_deeper e0.frames,.inr ⟨rfl,rfl⟩,fun b z=>absurd z (noA b),e0.bs,e0.bsz,fun b _ _=>noA b,fun b z=>absurd z (noA b),e0.funs,e0.frf⟩,
  rfl,e0.bare,Un.kept hk,⟨_,x.toInCall.ns,fun i y v h1 h2 h3=>?_⟩,fun y c h=>⟨_,x.cell y c h⟩,e0.hok.fresh (Nat.le_refl _),fun y c h=>?_,fun p hp=>absurd (show p∈([]:List (Addr×Obj)) from hp) (by simp),e0.hok.kept hk,?_⟩
 ·exact name_of_addr x.apart (PySem.mem_of_lookup h1) (PySem.mem_of_lookup h2)
 ·have hy:scope.names.lookup y=some .cell\/scope.names.lookup y=some .free:=hy
  rcases hy with hy | hy
  ·exact iJ_ hy
  exact absurd rfl (S.nofree _ (PySem.mem_of_lookup hy))
 ·exact Nat.le_of_lt (x.above y c (PySem.mem_of_lookup h))
 ·have hi:i<vs.length:=by
   unfold start at h2;by_cases hi:i<vs.length
   ·exact hi
   rw [List.getElem?_append_right (by simpa using hi)] at h2;rw [List.getElem?_replicate] at h2;split at h2 <;> cases h2
  have ha:vs[i]? = some v:=by
   unfold start at h2;rw [List.getElem?_append_left (by simpa using hi),getElem?_map] at h2;cases e:vs[i]? with
   | none=>rw [e] at h2;cases h2
   | some a=>rw [e] at h2;cases h2;rfl
  obtain ⟨u,hu,rv⟩:=r.get ha;have hp:ps[i]? = some y:=by
   rw [<- S.pre,List.getElem?_take_of_lt (by omega)];exact h1
  have ndP:ps.Nodup:=by rw [<- S.pre];exact S.nd.sublist (List.take_sublist _ _)
  refine ⟨u,rv,?_⟩;rcases S.par y (mem_of_getElem? hp) with k | k
  ·exact .inl ⟨k,ha_ ndP hp hu k⟩
  obtain ⟨c,e⟩:=iJ_ (n:=s.heap.objs.size+1) k;refine .inr ⟨.inl k,c,e,?_⟩;have q:=x.cell y c e;rw [hc_ ndP hp hu (by show scope.names.lookup y≠_;rw [k];decide)] at q;exact q
 ·exact e0.hok.fresh (Nat.le_of_lt (x.above y c (PySem.mem_of_lookup h)))
 unfold start;show _=N.length;rw [length_append,length_map,List.length_replicate];omega
theorem oX_ {CX:CXT}{P:Program}{w:World}{K:PySem.W.Frag}{mg:Str->Option Value}{base:Heap}{k:Nat}{f:Addr}{name qual:Str}{params:Arguments}{body:List Stmt}{scope:Scope}{dV kV doc pm cdv ct oc:Value}{an od:Option Addr}
  {osl:Array (Option Value)}{N ps:List Str}{sp:Sp} (lk:K.lookup f=some ⟨oc,od,.func (fnOf name qual params body scope dV kV doc pm an cdv ct),osl⟩) (hcd:codeIn K cdv qual=true) (S:FnScope N ps scope)
  (len : ∀ vs H Q E,sp vs H Q E->vs.length=ps.length)
  (hbody : ∀ (A:Around) (outer:List Env) (s:Shared) (H:Hp) (vs:List V) (Q:VK) (E:XK),Room k (A.deeper (envOfC qual scope s.heap.objs.size f cdv))->sp vs H Q E ->
   ∃ t,PSs (cxOf CX P w K mg base N qual scope f cdv A outer s H E) body t/\t { nx:=fun _ H'=>Q .non H',rt:=Q } (start N vs) H) :
  FnOk P w K mg base CX (k+1) f (fnOf name qual params body scope dV kV doc pm an cdv ct) ps sp:=by
 refine ⟨len,fun A outer s H args us vs Q E hr e0 hb r hsp=>?_⟩;have hl:=len _ _ _ _ hsp;have KX:K.In s.heap:=e0.mod.kin.keeps fun b o e=>(e0.bs b o e).1;have lim:s.heap.NoLimit:=e0.mod.nolimit.keeps fun b o e=>(e0.bs b o e).1;have hkind : ∀ y∈ps.zip us,scope.names.lookup y.1=some .local\/(scope.names.lookup y.1=some .cell/\((cellsFrom (s.heap.objs.size+1) scope.names []).lookup y.1).isSome=true):=fun ⟨n,v⟩ hy=>by
  rcases S.par n (of_mem_zip hy).1 with q | q
  ·exact .inl q
  exact .inr ⟨q,PySem.W.cellsFrom_some _ _ _ (.inl q)⟩
 refine codeAny_call_function hr.depth (KX _ _ lk) rfl S.co S.gen rfl (PySem.W.codeRec_of KX hcd) (hb _ _ _ _ ?_);refine wpAny_newFunctionEnv_cells S.kind hkind fun env he s1 x=>?_;subst he;refine ⟨lim.keeps x.toInCall.keep,codeAny_func ?_⟩;obtain ⟨t,ht,hq⟩:=hbody A outer s H vs Q E (hr.deeper _) hsp;have I:Inv (cxOf CX P w K mg base N qual scope f cdv A outer s H E) [] (start N vs) H s1:=gW_ S hr.hd e0 hl r x;refine wpAny_mono (ht [] s1 (start N vs) H _ I hq) (fun fl s' hs=>?_) fun e s' hs=>hs;have fin : ∀ {σ':St}{H':Hp}{v:V}{u:Value},Inv (cxOf CX P w K mg base N qual scope f cdv A outer s H E) [] σ' H' s'->RelV v u->Q v H'->CE outer P w H s Q u s' :=
  fun {σ' H' v u} J rv q=>⟨v,H',J.os,J.bare,J.base,J.hok,rv,q⟩
 cases fl with
 | ret u =>
  obtain ⟨v,σ',H',J,rv,q⟩:=hs;exact fin J rv q
 | next =>
  obtain ⟨σ',H',J,q⟩:=hs;exact fin (v:=V.non) (u:=Value.none) J rfl q
 | brk =>
  obtain ⟨_,_,_,q⟩:=hs;exact False.elim q
 | cont =>
 obtain ⟨_,_,_,q⟩:=hs;exact False.elim q
end L2
namespace L2
open PySem PySem.Spec PyProof.Rows
section
variable {X:Cx}{x:Str}{p pos:Pos}{e:Expr}{es:List Expr}{t:TA}{id T:String}{r:List V->Hp->VK->Prop}
def tCB (r:List V->Hp->VK->Prop) (t:TA):TE:=fun σ H Q=>t σ H fun vs H1=>r vs H1 Q
theorem aG_ (hc:dG_ X (.builtin id) r) (hg:Gl X x) (hm:X.mg x=none) (hv:bootBuiltins x=some (.builtin id)) (ha:PA X (e::es) t) (hn:x≠"__name__":=by decide) (hdb:(x == ("__debug__":Str))=false:=by decide)
  (he:starEach (e::es) X.env=(false,eval e X.env)::starEach es X.env:=by rfl) (hpl:(backTo pos (starEach es X.env)).any (·.1)=false:=by rfl):PE X (.Call (.Name x p) (e::es) [] pos) (tCB r t):=by
 intro pins s σ H Q I h;refine wpAny_Call_Name_kw (dN_ I hg hm hv ?_ hn hdb);exact PyProof.Rows.callWith_builtin1 (thn (ha pos pins s σ H _ I h) fun us s1 ⟨vs,H1,I1,r1,q1⟩=>hc pins s1 σ H1 vs us Q I1 r1 q1) he hpl
theorem bC_ (hc:dG_ X (.type T) r) (hg:Gl X x) (hm:X.mg x=none) (hv:bootBuiltins x=some (.type T)) (ha:PA X (e::es) t) (hn:x≠"__name__":=by decide) (hdb:(x == ("__debug__":Str))=false:=by decide)
  (he:starEach (e::es) X.env=(false,eval e X.env)::starEach es X.env:=by rfl) (hpl:(backTo pos (starEach es X.env)).any (·.1)=false:=by rfl):PE X (.Call (.Name x p) (e::es) [] pos) (tCB r t):=by
 intro pins s σ H Q I h;refine wpAny_Call_Name_kw (dN_ I hg hm hv ?_ hn hdb);exact PyProof.Rows.callWith_type1 (thn (ha pos pins s σ H _ I h) fun us s1 ⟨vs,H1,I1,r1,q1⟩=>hc pins s1 σ H1 vs us Q I1 r1 q1) he hpl
end
end L2
namespace HT
open PySem PyProof.Rows
section
open PySem.SeqAt
open PySem.AutoSeq1 (wpAny_loadPart')
open PySem.MeetsSeq PySem.MeetsSeq2 PySem.MeetsSeq3
end
section
variable {prog:Program}{w:World}{A:Around}{E:Value->Shared->Prop}{s:Shared}
def sIx (n d:Nat):Option Int->Nat
 | none=>d
 | some v=>if v<0 then (v+(n:Int)).toNat else min v.toNat n
theorem sIx_none (n d:Nat):sIx n d none=d:=rfl
theorem sIx_nat (n d k:Nat):sIx n d (some (k:Int))=min k n:=by
 show (if (k:Int)<0 then ((k:Int)+(n:Int)).toNat else min (k:Int).toNat n)=min k n;rw [if_neg (by omega),Int.toNat_natCast]
theorem sIx_le (n d:Nat) (hd:d<=n) (o:Option Int):sIx n d o<=n:=by
 cases o with
 | none=>exact hd
 | some v =>
 show (if v<0 then (v+(n:Int)).toNat else min v.toNat n)<=n;by_cases hv:v<0
 ·rw [if_pos hv];omega
 rw [if_neg hv];exact Nat.min_le_right _ _
end
end HT
namespace L2
open PySem PySem.Spec PyProof.Rows
abbrev TO:=St->Hp->(Option Int->Hp->Prop)->Prop
def PO (X:Cx) (e:Option Expr) (t:TO):Prop :=
 ∀ (pins:List (Addr×Obj)) (s:Shared) (σ:St) (H:Hp) (Q:Option Int->Hp->Prop),Inv X pins σ H s->t σ H Q ->
  wpAny (model X.prog X.w) X.A (evalPart e X.env) (fun u s'=>∃ o H',Inv X pins σ H' s'/\IsPart u o/\Q o H') X.xe s
def jD_:TO:=fun _ H Q=>Q none H
def n9_ (t:TE):TO:=fun σ H Q=>t σ H fun x H1=>∃ i,x = .int i/\Q (some i) H1
section
variable {X:Cx}{e:Expr}{te:TE}{lo hi:Option Expr}{tl th:TO}{pos p2:Pos}
theorem hs_:PO X none jD_:=by
 intro pins s σ H Q I h;rw [evalPart_none];exact wpAny_pure ⟨none,H,I,.none,h⟩
theorem bB_ (h:PE X e te):PO X (some e) (n9_ te):=by
 intro pins s σ H Q I hw;rw [evalPart_some];refine thn (h pins s σ H _ I hw) fun u s1 zq=>?_;obtain ⟨x,H1,I1,r1,q1⟩:=zq;obtain ⟨i,rfl,q⟩:=q1;obtain ⟨t,rfl⟩:=r1;exact ⟨some i,H1,I1,.int i t,q⟩
def SlR (X:Cx) (r:V->Option Int->Option Int->Hp->VK->Prop):Prop :=
 ∀ (pins:List (Addr×Obj)) (s:Shared) (σ:St) (H:Hp) (x:V) (v vl vu:Value) (lo hi:Option Int) (sl:Addr) (Q:VK),Inv X pins σ H s->RelV x v->s.heap.IsSliceOf sl vl vu .none->IsPart vl lo->IsPart vu hi->r x lo hi H Q ->
  ∃ T id,typeLookup (.type T) "__getitem__"=pure (some (.builtin id))/\s.TypeIs v T/\wpAny (model X.prog X.w) X.A (getItem v (.ref sl)) (EP X pins σ Q) X.xe s
theorem SlR.or {r r':V->Option Int->Option Int->Hp->VK->Prop} (h:SlR X r) (h':SlR X r'):SlR X (fun x lo hi H Q=>r x lo hi H Q\/r' x lo hi H Q):=by
 intro pins s σ H x v vl vu lo hi sl Q I rx hs pl pu q;rcases q with q | q
 ·exact h pins s σ H x v vl vu lo hi sl Q I rx hs pl pu q
 exact h' pins s σ H x v vl vu lo hi sl Q I rx hs pl pu q
def tSl (r:V->Option Int->Option Int->Hp->VK->Prop) (te:TE) (tl th:TO):TE:=fun σ H Q=>te σ H fun x H1=>tl σ H1 fun l H2=>th σ H2 fun u H3=>r x l u H3 Q
theorem b2_ {r:V->Option Int->Option Int->Hp->VK->Prop} (hr:SlR X r) (he:PE X e te) (hl:PO X lo tl) (hu:PO X hi th):PE X (.Subscript e (.Slice lo hi none p2) pos) (tSl r te tl th):=by
 intro pins s σ H Q I h;refine Subscript_ (thn (he pins s σ H _ I h) fun v s1 zq=>?_);obtain ⟨x,H1,I1,r1,q1⟩:=zq;refine wpAny_Slice (thn (hl pins s1 σ H1 _ I1 q1) fun vl s2 ⟨l,H2,I2,pl,q2⟩=>thn (hu pins s2 σ H2 _ I2 q2) fun vu s3 zq=>?_);obtain ⟨u,H3,I3,pu,q3⟩:=zq;rw [evalPart_none];refine wpAny_pure ?_;have I4:Inv X pins σ H3 { s3 with heap:=s3.heap.push { cls := .type "slice",data := .fields #[vl,vu,.none] } }:=I3.kept (t':=s3.toks) fun b ob q=>Heap.get?_push_of_some _ q;obtain ⟨T,id,hT,ht,hg⟩:=hr pins { s3 with heap:=s3.heap.push { cls := .type "slice",data := .fields #[vl,vu,.none] } } σ H3 x v vl vu l u s3.heap.objs.size Q I4 r1 (Heap.IsSliceOf.new ..) pl pu q3;show wpAny (model X.prog X.w) X.A (subscriptTail e (.Slice lo hi none p2) v (.ref s3.heap.objs.size)) (EP X pins σ Q) X.xe { s3 with heap:=s3.heap.push { cls := .type "slice",data := .fields #[vl,vu,.none] } };exact tail_any (ops:=[.ref s3.heap.objs.size,v]) ht hT hg (by with_unfolding_all rfl)
def cutV (xs:List V) (lo hi:Option Int):List V:=(xs.drop (HT.sIx xs.length 0 lo)).take (HT.sIx xs.length xs.length hi - HT.sIx xs.length 0 lo)
theorem hR_ (xs:List V) (lo hi:Option Int):(cutV xs lo hi).length<=xs.length:=by
 unfold cutV;rw [length_take,length_drop];omega
end
end L2
namespace L2
open PySem PySem.Spec PyProof.Rows
def ixN (n:Nat) (i:Int):Option Nat:=if 0<=i then (if i<n then some i.toNat else none) else if -(n:Int)<=i then some (i+n).toNat else none
def atI {α:Type} (xs:List α) (i:Int):Option α:=(ixN xs.length i).bind fun j=>xs[j]?
theorem nH_ {n:Nat}{i:Int}{j:Nat} (h:ixN n i=some j):seqIndex? i n=some j/\j<n /\ -(n:Int)<=i/\i<n:=by
 unfold ixN at h;by_cases h0:0<=i
 ·rw [if_pos h0] at h
  by_cases h1:i<n
  ·rw [if_pos h1] at h
   have e:i.toNat=j:=Option.some.inj h;exact ⟨by rw [seqIndex_of h0 h1,e],by omega,by omega,h1⟩
  rw [if_neg h1] at h;cases h
 rw [if_neg h0] at h;by_cases h1 : -(n:Int)<=i
 ·rw [if_pos h1] at h
  have e:(i+n).toNat=j:=Option.some.inj h;exact ⟨by rw [seqIndex_neg (by omega) h1,e],by omega,h1,by omega⟩
 rw [if_neg h1] at h;cases h
theorem hW_ {α:Type}{xs:List α}{i:Int}{v:α} (h:atI xs i=some v) : ∃ j,seqIndex? i xs.length=some j/\xs[j]? = some v/\j<xs.length /\ -(xs.length:Int)<=i/\i<xs.length:=by
 unfold atI at h;cases e:ixN xs.length i with
 | none=>rw [e] at h;cases h
 | some j =>
 rw [e] at h;obtain ⟨h1,h2,h3,h4⟩:=nH_ e;exact ⟨j,h1,h,h2,h3,h4⟩
theorem bv_ {α:Type}{xs:List α}{j:Nat}{v:α} (h:xs[j]? = some v):atI xs (j:Int)=some v:=by
 have hj:j<xs.length:=(List.getElem?_eq_some_iff.mp h).1;have e:ixN xs.length (j:Int)=some j:=by
  unfold ixN;rw [if_pos (by omega),if_pos (by omega)];simp
 unfold atI;rw [e];exact h
def n2_ (b:Expr):Prop:=∀ o i,subscripted b false o i=operate [o,i] (getItem o i)
def IxR (X:Cx) (r:R2):Prop :=
 ∀ (value slice:Expr) (pins:List (Addr×Obj)) (s:Shared) (σ:St) (H:Hp) (x y:V) (v u:Value) (Q:VK),Inv X pins σ H s->RelV x v->RelV y u->r x y H Q ->
  subscripted slice false v u=operate [v,u] (getItem v u)->wpAny (model X.prog X.w) X.A (subscriptTail value slice v u) (EP X pins σ Q) X.xe s
def MtR (X:Cx) (id:String) (r:V->List V->Hp->VK->Prop):Prop :=
 ∀ (pins:List (Addr×Obj)) (s:Shared) (σ:St) (H:Hp) (x:V) (xs:List V) (v:Value) (us:List Value) (Q:VK),Inv X pins σ H s->RelV x v->Vals xs us->r x xs H Q ->
  wpAny (model X.prog X.w) X.A (call (.builtin id) (v::us)) (EP X pins σ Q) X.xe s
section
variable {X:Cx}{a b:Expr}{ta tb:TE}{pos:Pos}
theorem IxR.or {r r':R2} (h:IxR X r) (h':IxR X r'):IxR X (fun x y H Q=>r x y H Q\/r' x y H Q):=by
 intro value slice pins s σ H x y v u Q I rx ry q hs;rcases q with q | q
 ·exact h value slice pins s σ H x y v u Q I rx ry q hs
 exact h' value slice pins s σ H x y v u Q I rx ry q hs
theorem MtR.or {id:String}{r r':V->List V->Hp->VK->Prop} (h:MtR X id r) (h':MtR X id r'):MtR X id (fun x xs H Q=>r x xs H Q\/r' x xs H Q):=by
 intro pins s σ H x xs v us Q I rx rs q;rcases q with q | q
 ·exact h pins s σ H x xs v us Q I rx rs q
 exact h' pins s σ H x xs v us Q I rx rs q
theorem aC_ {r:R2} (hr:IxR X r) (ha:PE X a ta) (hb:PE X b tb) (hs:n2_ b):PE X (.Subscript a b pos) (tOp r ta tb):=by
 intro pins s σ H Q I h;exact Subscript_ (binT ha hb I h fun v u s2 x y H2 I2 rx ry q=>hr a b pins s2 σ H2 x y v u Q I2 rx ry q (hs _ _))
def rIxL (K:PySem.W.Frag):R2:=fun x y H Q=>∃ p xs i v,x = .ref p/\y = .int i/\SqL K H p xs/\atI xs i=some v/\Q v H
def rIxT (K:PySem.W.Frag):R2:=fun x y H Q=>∃ p xs i v,x = .ref p/\y = .int i/\SqT K H p xs/\atI xs i=some v/\Q v H
def rIxS:R2:=fun x y H Q=>∃ z i c,x = .str z/\y = .int i/\z.length<=sizeLine/\atI z.cps.toList i=some c/\Q (.str ⟨#[c]⟩) H
theorem ao_:IxR X (rIxL X.K):=by
 intro value slice pins s σ H x y v u Q I rx ry h hs;obtain ⟨p,xs,i,z,rfl,rfl,hq,he,q⟩:=h;cases rx;obtain ⟨t,rfl⟩:=ry;obtain ⟨its,r,pl,hz⟩:=I.list hq;obtain ⟨j,h1,h2,h3,h4,h5⟩:=hW_ he;obtain ⟨w,ew,rw'⟩:=r.get h2;have hl:=r.length;have hn:=db_;have fin:EP X pins σ Q w s:=⟨z,H,I,rw',q⟩;by_cases h0:0<=i
 ·have hj:i.toNat=j:=by
   rw [seqIndex_of h0 h5] at h1;exact Option.some.inj h1
  exact item_listR pl.isList h0 (by omega) (by rw [hj];simpa using ew) fin hs
 have hj:(i+(its.toArray.size:Int)).toNat=j:=by
  rw [seqIndex_neg (by omega) h4] at h1;rw [size_toArray,<- hl];exact Option.some.inj h1
 exact subscriptTail_builtinR (x:=w) pl.isList.typeIs slot_list_getitem.lookup
  (wpAny_getItem_list_neg (Q:=fun r s'=>r=w/\EP X pins σ Q r s') pl.isList (by omega) (by rw [size_toArray] <;> omega) (by omega) (by rw [hj];simpa using ew) ⟨rfl,fin⟩) hs
theorem cn_:IxR X (rIxT X.K):=by
 intro value slice pins s σ H x y v u Q I rx ry h hs;obtain ⟨p,xs,i,z,rfl,rfl,hq,he,q⟩:=h;cases rx;obtain ⟨t,rfl⟩:=ry;obtain ⟨its,r,pl,hz⟩:=I.tuple hq;obtain ⟨j,h1,h2,h3,h4,h5⟩:=hW_ he;obtain ⟨w,ew,rw'⟩:=r.get h2;have hl:=r.length;have hn:=db_;have fin:EP X pins σ Q w s:=⟨z,H,I,rw',q⟩;exact subscriptTail_builtinR (x:=w) pl.typeIs slot_tuple_getitem.lookup
  (getItem_tuple (j:=j) (Q:=fun r s'=>r=w/\EP X pins σ Q r s') pl (by omega) (by omega) (by rw [size_toArray,<- hl];exact h1) (by simpa using ew) ⟨rfl,fin⟩) hs
theorem mJ_:IxR X rIxS:=by
 intro value slice pins s σ H x y v u Q I rx ry h hs;obtain ⟨z,i,c,rfl,rfl,hz,he,q⟩:=h;obtain ⟨t,rfl⟩:=rx;obtain ⟨t',rfl⟩:=ry;obtain ⟨j,h1,h2,h3,h4,h5⟩:=hW_ he;have hl:z.cps.toList.length=z.length:=by simp [Str.length]
 rw [hl] at h1 h4 h5;have hn:=db_;exact tail_any (typeIs_str s z t) slot_str_getitem.lookup (getItem_str (c:=c) (by
  have e1:decide (i < -(2 ^ 63:Int))=false:=decide_eq_false (by omega);have e2:decide (i≥2 ^ 63)=false:=decide_eq_false (by omega);rw [e1,e2,Bool.or_false]) (by rw [h1];simpa using h2) ⟨.str ⟨#[c]⟩,H,I.tok _,⟨_,rfl⟩,q⟩) hs
theorem gB_ (lo hi:Option Int) (n:Nat):(sliceBounds lo hi none n).1=((HT.sIx n 0 lo:Nat):Int)/\(sliceBounds lo hi none n).2.1=((HT.sIx n n hi:Nat):Int)/\(sliceBounds lo hi none n).2.2=1:=by
 refine ⟨?_,?_,rfl⟩
 ·cases lo with
  | none=>simp [sliceBounds,HT.sIx]
  | some i =>
   simp only [sliceBounds,HT.sIx,Option.getD_none,show (1:Int) > 0 by decide,if_true];by_cases h:i<0
   ·simp only [h,if_true] <;> omega
   simp only [h,if_false] <;> omega
 cases hi with
 | none=>simp [sliceBounds,HT.sIx]
 | some i =>
 simp only [sliceBounds,HT.sIx,Option.getD_none,show (1:Int) > 0 by decide,if_true];by_cases h:i<0
 ·simp only [h,if_true] <;> omega
 simp only [h,if_false] <;> omega
theorem fP_ (its:List Value) (lo hi:Option Int):slicePick its.toArray lo hi none=((its.drop (HT.sIx its.length 0 lo)).take (HT.sIx its.length its.length hi - HT.sIx its.length 0 lo)).toArray:=by
 obtain ⟨h1,h2,h3⟩:=gB_ lo hi its.toArray.size;unfold slicePick;rw [h1,h2,h3];simp only [sliceRange_one,pick_run,size_toArray] <;> rfl
def rSlL (K:PySem.W.Frag):V->Option Int->Option Int->Hp->VK->Prop:=fun x lo hi H Q=>∃ a xs,x = .ref a/\SqL K H a xs/\∀ p,H p=none->Q (.ref p) (upd H p (.lst (cutV xs lo hi)))
theorem ew_:SlR X (rSlL X.K):=by
 intro pins s σ H x v vl vu lo hi sl Q I rx hs pl pu h;obtain ⟨a,xs,rfl,hx,q⟩:=h;cases rx;obtain ⟨its,r,ht,hz⟩:=I.list hx;have hlen:=r.length;refine ⟨"list",_,slot_list_getitem.lookup,ht.isList.typeIs,?_⟩;refine wpAny_getItem_list_slice ht.isList hs pl pu .none (by simp) ?_ (by rw [size_toArray] <;> omega)
 rw [fP_,<- hlen];refine ⟨.ref s.heap.objs.size,_,I.laid (t':=s.toks) (o := .lst (cutV xs lo hi)) (fun b ob q=>Heap.get?_push_of_some _ q) (Nat.le_refl _) ?_,rfl,q _ (I.hok.fresh (Nat.le_refl _))⟩;exact ⟨Nat.le_trans (hR_ xs lo hi) hz,_,0,(r.drop (HT.sIx xs.length 0 lo)).take (HT.sIx xs.length xs.length hi - HT.sIx xs.length 0 lo),Heap.get?_push_size _ rfl⟩
def f5_:V->Bool
 | .non=>true
 | .bl _=>true
 | .int _=>true
 | .str _=>true
 | _=>false
noncomputable def eqV:V->V->Bool
 | .non,.non=>true
 | .bl a,.bl b=>a == b
 | .bl a,.int b=>(if a then 1 else 0) == b
 | .int a,.bl b=>a == (if b then 1 else 0)
 | .int a,.int b=>a == b
 | .str a,.str b=>a == b
 | _,_=>false
theorem oY_ {A:Around}{s:Shared}{y x:V}{u v:Value} (ry:RelV y u) (rx:RelV x v) (fy:f5_ y=true) (fx:f5_ x=true):SeqAt.EqAt A s u v (eqV y x):=by
 cases y with
 | non =>
  cases ry;cases x with
  | non=>cases rx;exact SeqAt.EqAt.same _
  | bl b=>cases rx;exact SeqAt.EqAt.none_bool b
  | int b=>obtain ⟨t,rfl⟩:=rx;exact SeqAt.EqAt.none_int b t
  | str b=>obtain ⟨t,rfl⟩:=rx;exact SeqAt.EqAt.none_str b t
  | _=>exact absurd (show false=true from fx) Bool.false_ne_true
 | bl a =>
  cases ry;cases x with
  | non=>cases rx;exact SeqAt.EqAt.bool_none a
  | bl b=>cases rx;exact SeqAt.EqAt.bool_bool a b
  | int b=>obtain ⟨t,rfl⟩:=rx;exact SeqAt.EqAt.bool_int a b t
  | str b=>obtain ⟨t,rfl⟩:=rx;exact SeqAt.EqAt.bool_str a b t
  | _=>exact absurd (show false=true from fx) Bool.false_ne_true
 | int a =>
  obtain ⟨t',rfl⟩:=ry;cases x with
  | non=>cases rx;exact SeqAt.EqAt.int_none a t'
  | bl b=>cases rx;exact SeqAt.EqAt.int_bool a t' b
  | int b=>obtain ⟨t,rfl⟩:=rx;exact SeqAt.EqAt.int_int a t' b t
  | str b=>obtain ⟨t,rfl⟩:=rx;exact SeqAt.EqAt.int_str a t' b t
  | _=>exact absurd (show false=true from fx) Bool.false_ne_true
 | str a =>
  obtain ⟨t',rfl⟩:=ry;cases x with
  | non=>cases rx;exact SeqAt.EqAt.str_none a t'
  | bl b=>cases rx;exact SeqAt.EqAt.str_bool a t' b
  | int b=>obtain ⟨t,rfl⟩:=rx;exact SeqAt.EqAt.str_int a t' b t
  | str b=>obtain ⟨t,rfl⟩:=rx;exact SeqAt.EqAt.str_str a t' b t
  | _=>exact absurd (show false=true from fx) Bool.false_ne_true
 | _=>exact absurd (show false=true from fy) Bool.false_ne_true
noncomputable def eqU (x:V) (u:Value):Bool:=match u with
 | .none=>eqV .non x
 | .bool b=>eqV (.bl b) x
 | .int i _=>eqV (.int i) x
 | .str z _=>eqV (.str z) x
 | _=>false
theorem mL_ {x y:V}{u:Value} (r:RelV y u) (f:f5_ y=true):eqU x u=eqV y x:=by
 cases y with
 | non=>cases r;rfl
 | bl b=>cases r;rfl
 | int i=>obtain ⟨t,rfl⟩:=r;rfl
 | str z=>obtain ⟨t,rfl⟩:=r;rfl
 | _=>exact absurd (show false=true from f) Bool.false_ne_true
theorem e1_ {x:V} : ∀ {xs:List V}{us:List Value},Vals xs us->xs.all f5_=true->us.any (eqU x)=xs.any fun y=>eqV y x
 | _,_,.nil,_=>rfl
 | y::xs,u::us,.cons r t,f=>by
  rw [all_cons,and_eq_true] at f;rw [any_cons,any_cons,mL_ r f.1,e1_ t f.2]
theorem da_ {A:Around}{s:Shared}{x:V}{v:Value} (rx:RelV x v) (fx:f5_ x=true) : ∀ {xs:List V}{us:List Value},Vals xs us->xs.all f5_=true->∀ u∈us,SeqAt.EqAt A s u v (eqU x u)
 | _,_,.nil,_=>fun u hu=>by cases hu
 | y::xs,u::us,.cons r t,f=>fun u' hu=>by
  rw [all_cons,and_eq_true] at f;rcases List.mem_cons.mp hu with rfl | hu
  ·rw [mL_ r f.1];exact oY_ r rx f.1 fx
  exact da_ rx fx t f.2 u' hu
noncomputable def inV (x:V) (xs:List V):Bool:=xs.any fun y=>eqV y x
def rIn (K:PySem.W.Frag) (neg:Bool):R2:=fun x y H Q=>∃ p xs,y = .ref p/\(SqL K H p xs\/SqT K H p xs)/\f5_ x=true/\xs.all f5_=true/\Q (.bl (if neg then !inV x xs else inV x xs)) H
theorem c7_:OpR X (compareOp .In) (rIn X.K false):=by
 intro pins s σ H x y v u Q I rx ry h;obtain ⟨p,xs,rfl,hq,fx,fs,q⟩:=h;cases ry;rcases hq with hq | hq
 ·obtain ⟨its,r,pl,hz⟩:=I.list hq
  refine SeqAt.in_listAt (eqU x) pl.isList (fun w hw=>da_ rx fx r fs w (by simpa using hw)) ⟨.bl _,H,I,rfl,?_⟩;rw [show its.toArray.any (eqU x)=its.any (eqU x) by simp,e1_ r fs];exact q
 obtain ⟨its,r,pl,hz⟩:=I.tuple hq;refine SeqAt.in_tupleAt (eqU x) pl (fun w hw=>da_ rx fx r fs w (by simpa using hw)) ⟨.bl _,H,I,rfl,?_⟩;rw [show its.toArray.any (eqU x)=its.any (eqU x) by simp,e1_ r fs];exact q
theorem dM_:OpR X (compareOp .NotIn) (rIn X.K true):=by
 intro pins s σ H x y v u Q I rx ry h;obtain ⟨p,xs,rfl,hq,fx,fs,q⟩:=h;cases ry;rcases hq with hq | hq
 ·obtain ⟨its,r,pl,hz⟩:=I.list hq
  refine SeqAt.notIn_listAt (eqU x) pl.isList (fun w hw=>da_ rx fx r fs w (by simpa using hw)) ⟨.bl _,H,I,rfl,?_⟩;rw [show its.toArray.any (eqU x)=its.any (eqU x) by simp,e1_ r fs];exact q
 obtain ⟨its,r,pl,hz⟩:=I.tuple hq;refine SeqAt.notIn_tupleAt (eqU x) pl (fun w hw=>da_ rx fx r fs w (by simpa using hw)) ⟨.bl _,H,I,rfl,?_⟩;rw [show its.toArray.any (eqU x)=its.any (eqU x) by simp,e1_ r fs];exact q
theorem aZ_:dG_ X (.builtin "len") (fun xs H Q=>∃ p ys,xs=[.ref p]/\(SqL X.K H p ys\/SqT X.K H p ys)/\Q (.int ys.length) H):=by
 intro pins s σ H xs us Q I r h;obtain ⟨p,ys,rfl,hq,q⟩:=h;obtain ⟨u,rfl,rx⟩:=jw_ r;cases rx;have hn:=db_;rcases hq with hq | hq
 ·obtain ⟨its,r',pl,hz⟩:=I.list hq
  have hlen:=r'.length;exact Calls.call_len_list pl.isList (by simp only [size_toArray] <;> omega) ⟨.int ys.length,H,I.tok _,⟨s.toks+1,by rw [size_toArray,hlen]⟩,q⟩
 obtain ⟨its,r',pl,hz⟩:=I.tuple hq;have hlen:=r'.length;exact len_tuple pl (by simp only [size_toArray] <;> omega) ⟨.int ys.length,H,I.tok _,⟨s.toks+1,by rw [size_toArray,hlen]⟩,q⟩
theorem aS_:dG_ X (.builtin "len") (fun xs H Q=>∃ z,xs=[.str z]/\z.length<=sizeLine/\Q (.int z.length) H):=by
 intro pins s σ H xs us Q I r h;obtain ⟨z,rfl,hz,q⟩:=h;obtain ⟨u,rfl,t,rfl⟩:=jw_ r;have hn:=db_;exact len_str (by omega) ⟨.int z.length,H,I.tok _,⟨_,rfl⟩,q⟩
theorem dG_.or {f:Value}{r r':List V->Hp->VK->Prop} (h:dG_ X f r) (h':dG_ X f r'):dG_ X f (fun xs H Q=>r xs H Q\/r' xs H Q):=by
 intro pins s σ H xs us Q I rs q;rcases q with q | q
 ·exact h pins s σ H xs us Q I rs q
 exact h' pins s σ H xs us Q I rs q
def tyV (K:PySem.W.Frag) (T:String) (x:V) (H:Hp):Prop:=match x with
 | .str _=>T="str"
 | .int _=>T="int"
 | .ref p=>(T="list"/\∃ xs,SqL K H p xs)\/(T="tuple"/\∃ o,K.lookup p=some o/\o.cls = .type "tuple"/\o.dict=none) \/
   (T="dict"/\((∃ kvs,H p=some (.dK kvs))\/∃ kvs,H p=some (.dT kvs)))\/(T="set"/\∃ S n,H p=some (.set S n))
 | _=>False
theorem mn_ {pins:List (Addr×Obj)}{σ:St}{H:Hp}{s:Shared}{T:String}{x:V}{v:Value} (I:Inv X pins σ H s) (r:RelV x v) (ty:tyV X.K T x H) :
  s.TypeIs v T/\∀ a,v = .ref a->∃ ob,s.heap.get? a=some ob/\ob.dict=none:=by
 cases x with
 | str z =>
  obtain ⟨t,rfl⟩:=r;cases (show T="str" from ty);exact ⟨typeIs_str s z t,fun _ e=>nomatch e⟩
 | int i =>
  obtain ⟨t,rfl⟩:=r;cases (show T="int" from ty);exact ⟨typeIs_int s i t,fun _ e=>nomatch e⟩
 | ref p =>
  cases r;rcases ty with ⟨rfl,xs,hq⟩ | ⟨rfl,o,hk,hc,hd⟩ | ⟨rfl,hk⟩ | ⟨rfl,S,n,hk⟩
  ·obtain ⟨its,_,pl,_⟩:=I.list hq
   refine ⟨pl.isList.typeIs,fun a e=>?_⟩;cases e;obtain ⟨o,n,e,c,hd,_⟩:=pl;exact ⟨o,e,hd⟩
  ·refine ⟨⟨o,I.kIn p o hk,hc⟩,fun a e=>?_⟩
   cases e;exact ⟨o,I.kIn _ o hk,hd⟩
  ·have z : ∃ o,s.heap.get? p=some o/\o.ExactDict:=by
    rcases hk with ⟨kvs,hk⟩ | ⟨kvs,hk⟩
    ·obtain ⟨_,_,_,_,o,_,_,e,ex,_⟩:=I.hok p _ hk
     exact ⟨o,e,ex⟩
    obtain ⟨_,_,_,_,o,_,_,e,ex,_⟩:=I.hok p _ hk;exact ⟨o,e,ex⟩
   obtain ⟨o,e,ex⟩:=z;refine ⟨⟨o,e,ex.1⟩,fun a e2=>?_⟩;cases e2;exact ⟨o,e,ex.2.1⟩
  obtain ⟨o,_,_,_,e,ex,_⟩:=I.hok p _ hk;refine ⟨⟨o,e,ex.1⟩,fun a e2=>?_⟩;cases e2;exact ⟨o,e,ex.2.1⟩
 | _=>exact False.elim ty
def tBM0 (K:PySem.W.Frag) (T:String) (r:V->List V->Hp->VK->Prop) (to:TE):TE:=fun σ H Q=>to σ H fun x H1=>tyV K T x H1/\r x [] H1 Q
def tBM (K:PySem.W.Frag) (T:String) (r:V->List V->Hp->VK->Prop) (to:TE) (t:TA):TE:=fun σ H Q=>to σ H fun x H1=>tyV K T x H1/\t σ H1 fun xs H2=>r x xs H2 Q
variable {o e:Expr}{es:List Expr}{to:TE}{t:TA}{name:Str}{apos cpos:Pos}{T id:String}{r:V->List V->Hp->VK->Prop}
theorem kf_ (pa:PlainAttrs T) (slot:Slot T name id) (hty:typeOf (.builtin id)=pure (.type "method_descriptor")) (hm:MtR X id r) (ho:PE X o to)
  (hbase:attributeBase o name X.env (eval o X.env)=eval o X.env:=by rfl) (hline:(apos.endLine == cpos.line)=true:=by rfl):PE X (.Call (.Attribute o name apos) [] [] cpos) (tBM0 X.K T r to):=by
 intro pins s σ H Q I h;refine wpAny_Call_method0_late hbase hline (thn (ho pins s σ H _ I h) fun v s1 zq=>?_);obtain ⟨x,H1,I1,r1,ty,q1⟩:=zq;obtain ⟨h1,h2⟩:=mn_ I1 r1 ty;exact ⟨T,id,pa,slot,hty,h1,h2,Calls.callWith_builtin rfl (PySem.evalArgs_none (hm pins s1 σ H1 x [] v [] Q I1 r1 .nil q1))⟩
theorem c5_ (pa:PlainAttrs T) (slot:Slot T name id) (hty:typeOf (.builtin id)=pure (.type "method_descriptor")) (hm:MtR X id r) (ho:PE X o to) (ha:PA X (e::es) t)
  (hbase:attributeBase o name X.env (eval o X.env)=eval o X.env:=by rfl)
  (hfew:((backTo cpos (starEach (e::es) X.env)).all (fun x => !x.1) && (backToKw cpos (keywordEach [] X.env)).all (fun x=>x.1.isSome)
   && decide ((e::es).length+([]:List Keyword).length+(if ([]:List Keyword).isEmpty then 0 else 1)<30))=true:=by rfl)
  (hline:(apos.endLine == cpos.line)=true:=by rfl) (hs:starEach (e::es) X.env=(false,eval e X.env)::starEach es X.env:=by rfl) (hplain:(backTo cpos (starEach es X.env)).any (·.1)=false:=by rfl) :
  PE X (.Call (.Attribute o name apos) (e::es) [] cpos) (tBM X.K T r to t):=by
 intro pins s σ H Q I h;refine wpAny_Call_method_late hbase hfew hline rfl (thn (ho pins s σ H _ I h) fun v s1 zq=>?_);obtain ⟨x,H1,I1,r1,ty,q1⟩:=zq;obtain ⟨h1,h2⟩:=mn_ I1 r1 ty;refine ⟨T,id,pa,slot,hty,h1,h2,?_⟩;have hA:=ha cpos pins s1 σ H1 _ I1 q1;rw [hs] at hA ⊢;refine Calls.callWith_builtin (by show (false || (backTo cpos (starEach es X.env)).any (·.1))=false;rw [hplain] <;> rfl) (Calls.evalArgs_plain ?_)
 exact thn hA fun us s2 ⟨vs,H2,I2,r2,q2⟩=>hm pins s2 σ H2 x vs v us Q I2 r1 r2 q2
end
end L2
namespace L2
open PySem PySem.Spec PyProof.Rows
def MtM (X:Cx) (id:String) (r:V->List V->Hp->VK->Prop):Prop :=
 ∀ (pins:List (Addr×Obj)) (s:Shared) (σ:St) (H:Hp) (x:V) (xs:List V) (v:Value) (us:List Value) (Q:VK),Inv X pins σ H s->RelV x v->Vals xs us->r x xs H Q ->
  wpAny (model X.prog X.w) X.A (call (.builtin id) (v::us)) (EP X pins σ Q) X.xe s
theorem Vals.one {x:V}{us:List Value} (h:Vals [x] us) : ∃ u,us=[u]/\RelV x u:=by
 cases h with
 | cons r t=>cases t;exact ⟨_,rfl,r⟩
theorem Vals.two {x y:V}{us:List Value} (h:Vals [x,y] us) : ∃ u v,us=[u,v]/\RelV x u/\RelV y v:=by
 cases h with
 | cons r t =>
 obtain ⟨v,rfl,q⟩:=Vals.one t;exact ⟨_,_,rfl,r,q⟩
theorem Vals.zero : ∀ {us:List Value},Vals [] us->us=[]
 | _,.nil=>rfl
theorem Vals.dropLast {xs:List V}{us:List Value} (h:Vals xs us):Vals xs.dropLast us.dropLast:=by
 induction h with
 | nil=>exact .nil
 | cons r t ih =>
 cases t with
 | nil=>exact .nil
 | cons q t'=>exact .cons r ih
theorem Vals.eraseIdx : ∀ {xs:List V}{us:List Value} (i:Nat),Vals xs us->Vals (xs.eraseIdx i) (us.eraseIdx i)
 | _,_,_,.nil => .nil
 | _,_,0,.cons _ t=>t
 | _,_,i+1,.cons r t => .cons r (Vals.eraseIdx i t)
theorem Vals.reverse {xs:List V}{us:List Value} (h:Vals xs us):Vals xs.reverse us.reverse:=by
 induction h with
 | nil=>exact .nil
 | cons r t ih=>rw [reverse_cons,reverse_cons];exact Vals.append ih (.cons r .nil)
theorem jm_ {α:Type} (l:List α):l.eraseIdx (l.length - 1)=l.dropLast:=by
 induction l with
 | nil=>rfl
 | cons a r ih =>
 cases r with
 | nil=>rfl
 | cons b r =>
 have e:(a::b::r).length - 1=((b::r).length - 1)+1:=by
  have h1:(a::b::r).length=r.length+2:=rfl;have h2:(b::r).length=r.length+1:=rfl;omega
 rw [e,List.eraseIdx_cons_succ,ih]
 all_goals rfl
section
variable {X:Cx}{pins:List (Addr×Obj)}{σ:St}{H:Hp}{s:Shared}{l b:Addr}{xs ys zs:List V}
theorem Inv.lset {its its':List Value}{n:Nat}{f:Array Value->Array Value}{t':Nat} (I:Inv X pins σ H s) (hH:H l=some (.lst xs))
  (e:s.heap.get? l=some { cls := .type "list",data := .seq its.toArray n }) (hf:f its.toArray=its'.toArray) (hv:Vals ys its') (hz:ys.length<=sizeLine) :
  Inv X pins σ (upd H l (.lst ys)) { s with heap:=s.heap.update l (Obj.mapSeq f),toks:=t' }:=by
 have q:=PySem.IsL.update e f;rw [hf] at q;refine I.write (x:=l) (e:=l) (by rw [hH];exact trivial) (.inl rfl) (fun b' u hb hu=>(Heap.get?_update_other s.heap (Obj.mapSeq f) (Ne.symm hb)).trans hu) ⟨_,q⟩ ?_;exact ⟨hz,its',_,hv,q⟩
theorem Inv.lnew {its:List Value}{t':Nat} (I:Inv X pins σ H s) (hv:Vals ys its) (hz:ys.length<=sizeLine) :
  Inv X pins σ (upd H s.heap.objs.size (.lst ys)) { s with heap:=s.heap.push { cls := .type "list",data := .seq its.toArray },toks:=t' } :=
 I.laid (fun _ _ q=>Heap.get?_push_of_some _ q) (Nat.le_refl _) ⟨hz,its,0,hv,Heap.get?_push_size _ rfl⟩
theorem Inv.fresh (I:Inv X pins σ H s):H s.heap.objs.size=none:=I.hok.fresh (Nat.le_refl _)
theorem Inv.lstM (I:Inv X pins σ H s) (hH:H l=some (.lst xs)):xs.length<=sizeLine/\∃ (its:List Value) (n:Nat),Vals xs its/\xs.length=its.length/\s.heap.get? l=some { cls := .type "list",data := .seq its.toArray n }:=by
 obtain ⟨z,its,n,r,e⟩:=I.hok l _ hH;exact ⟨z,its,n,r,r.length,e⟩
end
section
variable {X:Cx}
def bc_:V->List V->Hp->VK->Prop:=fun x vs H Q=>∃ l xs y,x = .ref l/\vs=[y]/\H l=some (.lst xs)/\xs.length<sizeLine/\Q .non (upd H l (.lst (xs++[y])))
theorem aR_:MtM X "list.append" bc_:=by
 intro pins s σ H x vs v us Q I rx rv h;obtain ⟨l,xs,y,rfl,rfl,hH,hz,q⟩:=h;cases rx;obtain ⟨u,rfl,ru⟩:=rv.one;obtain ⟨z,its,n,r,hl,e⟩:=I.lstM hH;refine call_meets F.slot_list_append ⟨_,e,rfl⟩ F.entry_list_append (F.args_list_append_2 _ _) (PySem.list_append l its.toArray n u (by rw [size_toArray];omega)) ⟨e,?_⟩;refine ⟨.non,_,I.lset (its':=its++[u]) hH e (by simp) (r.append (.cons ru .nil)) ?_,rfl,q⟩;rw [length_append,length_singleton];omega
def rPop:V->List V->Hp->VK->Prop:=fun x vs H Q=>∃ l xs y,x = .ref l/\vs=[]/\H l=some (.lst xs)/\xs[xs.length - 1]? = some y/\Q y (upd H l (.lst xs.dropLast))
theorem kt_:MtM X "list.pop" rPop:=by
 intro pins s σ H x vs v us Q I rx rv h;obtain ⟨l,xs,y,rfl,rfl,hH,hy,q⟩:=h;cases rx;have hus:=rv.zero;subst hus;obtain ⟨z,its,n,r,hl,e⟩:=I.lstM hH;obtain ⟨u,hu,ru⟩:=r.get hy;have hy':its.toArray[its.toArray.size - 1]? = some u:=by
  show its.toArray[its.length - 1]? = some u;rw [<- Array.getElem?_toList,<- hl];exact hu
 refine call_meets F.slot_list_pop ⟨_,e,rfl⟩ F.entry_list_pop (F.args_list_pop_1 _) (MeetsSeq.list_pop_last l its.toArray n u hy' (by rw [size_toArray];omega)) ⟨e,?_⟩;refine ⟨y,_,I.lset (its':=its.dropLast) hH e ?_ r.dropLast ?_,ru,q⟩
 ·show its.toArray.eraseIdxIfInBounds (its.toArray.size - 1)=its.dropLast.toArray
  rw [size_toArray,List.eraseIdxIfInBounds_toArray,jm_]
 rw [List.length_dropLast];omega
def rCat:R2:=fun x y H Q=>∃ l b xs zs,x = .ref l/\y = .ref b/\H l=some (.lst xs)/\H b=some (.lst zs)/\xs.length+zs.length<=sizeLine/\∀ p,H p=none->Q (.ref p) (upd H p (.lst (xs++zs)))
theorem bw_:OpR X (binaryOp .Add) rCat:=by
 intro pins s σ H x y v u Q I rx ry h;obtain ⟨l,b,xs,zs,rfl,rfl,hH,hB,hz,q⟩:=h;cases rx;cases ry;obtain ⟨z,its,n,r,hl,e⟩:=I.lstM hH;obtain ⟨z2,its2,n2,r2,hl2,e2⟩:=I.lstM hB;refine PySem.P.add_list e e2 ?_ (by rw [size_toArray,size_toArray];omega);have ea:its.toArray++its2.toArray=(its++its2).toArray:=by simp
 rw [ea];exact ⟨.ref _,_,I.lnew (t':=s.toks) (r.append r2) (by rw [length_append];omega),rfl,q _ I.fresh⟩
end
section
variable {prog:Program}{w:World}{A:Around}{E:Value->Shared->Prop}{s:Shared}
end
section
variable {X:Cx}
end
end L2
namespace L2
open PySem PySem.Spec PyProof.Rows
theorem Vals.ints : ∀ {ns:List Int}{us:List Value},Vals (ns.map V.int) us->IntsAre us ns
 | [],us,h=>by
  rw [map_nil] at h;cases h;exact IntsAre.nil
 | n::ns,us,h=>by
  rw [map_cons] at h;cases h with
  | cons r t =>
  obtain ⟨k,rfl⟩:=r;exact IntsAre.cons n k (Vals.ints t)
theorem Vals.strs : ∀ {xs:List Str}{us:List Value},Vals (xs.map V.str) us->StrsAre us xs
 | [],us,h=>by
  rw [map_nil] at h;cases h;exact StrsAre.nil
 | x::xs,us,h=>by
  rw [map_cons] at h;cases h with
  | cons r t =>
  obtain ⟨k,rfl⟩:=r;exact StrsAre.cons x k (Vals.strs t)
theorem Vals.bls : ∀ {bs:List Bool}{us:List Value},Vals (bs.map V.bl) us->us=bs.map Value.bool
 | [],us,h=>by
  rw [map_nil] at h;cases h;rfl
 | b::bs,us,h=>by
  rw [map_cons] at h;cases h with
  | cons r t =>
  cases r;rw [Vals.bls t,map_cons]
theorem Vals.ref1 {a:Addr}{us:List Value} (r:Vals [V.ref a] us):us=[Value.ref a]:=by
 cases r with
 | cons r t =>
 cases t;cases r;rfl
section
variable {prog:Program}{w:World}{A:Around}{E:Value->Shared->Prop}{s:Shared}{l:Addr}{its:List Value}{ns:List Int}{Q:Value->Shared->Prop}
theorem nF_ (hh:A.handled=none) (hl:s.heap.IsList l its.toArray) (hi:IntsAre its ns) (hne:0<ns.length)
  (h : ∀ h' tk M t',(∀ b o,s.heap.get? b=some o->h'.get? b=some o)->M∈ns->(∀ a,a∈ns->a<=M)->Q (.int M t') { s with heap:=h',toks:=tk }):wpAny (model prog w) A (call (.builtin "max") [.ref l]) Q E s:=by
 obtain ⟨xs,e⟩:=hi.allInts.items;have hn:numsOf (intItems xs).toList=ns:=by rw [<- e];exact hi.numsOf
 rw [nums_intItems] at hn;subst hn;rw [e] at hl;have hsz:0<xs.size:=by simpa using hne
 refine PySem.max_intList hh hl hsz fun v h' tk hv hk=>?_;obtain ⟨t,rfl⟩:=intItems_at hv;obtain ⟨h1,h2⟩:=argBest_gt (numAt xs) (xs.size - 1);refine h h' tk _ t hk ?_ fun a ha=>?_
 ·rw [numAt_eq];exact PySem.getD_mem (by rw [length_map,Array.length_toList];omega)
 obtain ⟨j,hj,rfl⟩:=mem_getD ha;rw [length_map,Array.length_toList] at hj;rw [<- numAt_eq];exact h2 j (by omega)
end
section
variable {X:Cx}
def rSum (K:PySem.W.Frag):List V->Hp->VK->Prop:=fun vs H Q=>∃ (a:Addr) (ns:List Int),vs=[V.ref a]/\SqL K H a (ns.map V.int)/\Q (.int ns.sum) H
def rMax (K:PySem.W.Frag):List V->Hp->VK->Prop:=fun vs H Q=>∃ (a:Addr) (ns:List Int),vs=[V.ref a]/\SqL K H a (ns.map V.int)/\0<ns.length/\∀ m,m∈ns->(∀ y,y∈ns->y<=m)->Q (.int m) H
theorem o3_ (hc:X.calm=true):dG_ X (.builtin "max") (rMax X.K):=by
 intro pins s σ H vs us Q I r h;obtain ⟨a,ns,rfl,hs,hne,q⟩:=h;obtain ⟨its,rv,hl,_⟩:=I.list hs;rw [Vals.ref1 r];exact nF_ (I.ok.hd hc) hl.isList rv.ints hne fun h' tk m t' hk h1 h2=>⟨.int _,H,I.kept hk,⟨_,rfl⟩,q m h1 h2⟩
end
section
variable {X:Cx}
end
section
variable {X:Cx}
end
theorem lX_ {prog:Program}{w:World}{A:Around}{E:Value->Shared->Prop}{s:Shared}{l:Addr}{items:Array Value}{Q:Value->Shared->Prop} (hl:s.heap.IsList l items)
  (h : ∀ s₂:Shared,s₂={ s with heap:=s.heap.push { cls := .type "list_iterator",data := .fields #[.ref l,.int 0 0] } } ->
   (s₂.heap.IsListIter s.heap.objs.size l 0/\s₂.heap.IsList l items)->l≠s.heap.objs.size->Q (.ref s.heap.objs.size) s₂):wpAny (model prog w) A (pyIter (.ref l)) Q E s:=by
 have hlt:l<s.heap.objs.size:=by obtain ⟨_,e,_⟩:=hl;exact Heap.lt_size e
 exact wpAny_pyIter_list hl (h _ rfl ⟨⟨_,Heap.get?_push_size _ rfl,rfl,rfl⟩,hl.push _⟩ (Nat.ne_of_lt hlt))
theorem hh_ {prog:Program}{w:World}{A:Around}{bs:List Bool}{its:List Value} (e:its=bs.map Value.bool) :
  TruthOf prog w A (fun i v=>its.toArray[i]? = some v) (fun i=>bs.getD i false):=fun i v s Q E hv hq=>by
 have hv':its[i]? = some v:=by simpa using hv
 rw [e,getElem?_map] at hv';obtain ⟨b,hb,rfl⟩:=Option.map_eq_some_iff.mp hv';have hg:bs.getD i false=b:=by rw [List.getD_eq_getElem?_getD,hb] <;> rfl
 have hq':Q (bs.getD i false) s:=hq;rw [hg] at hq';exact wpAny_truthy_bool hq'
theorem hd_ : ∀ bs:List Bool,(List.range bs.length).all (fun i=>bs.getD i false)=bs.all id
 | []=>rfl
 | b::bs=>by
  rw [length_cons,List.range_succ_eq_map,all_cons,all_map,all_cons,<- hd_ bs]
  all_goals rfl
section
variable {X:Cx}
def rAll (K:PySem.W.Frag):List V->Hp->VK->Prop:=fun vs H Q=>∃ (a:Addr) (bs:List Bool),vs=[V.ref a]/\SqL K H a (bs.map V.bl)/\Q (.bl (bs.all id)) H
theorem mP_ (hc:X.calm=true):dG_ X (.builtin "all") (rAll X.K):=by
 intro pins s σ H vs us Q I r h;obtain ⟨a,bs,rfl,hs,q⟩:=h;obtain ⟨its,rv,hl,_⟩:=I.list hs;rw [Vals.ref1 r];have hb:=rv.bls;refine call_all_walk (lX_ hl.isList fun s₂ e2 st hne=>?_);subst e2;refine ⟨_,_,_,_,_,_,_,rfl,Walks.list (A:=X.A.in1) (I.ok.hd hc) _ a hne its.toArray,st,hh_ hb,fun h' tk hk=>?_⟩;refine ⟨.bl _,H,I.kept fun b o eo=>hk b o (fun hmem=>?_) (Heap.get?_push_of_some _ eo),?_,q⟩
 ·rcases List.mem_cons.mp hmem with e1 | hmem
  ·exact absurd (e1 ▸ Heap.lt_size eo) (Nat.lt_irrefl _)
  cases hmem
 show Value.bool _=Value.bool _;rw [<- hd_,hb,size_toArray,length_map]
end
section
variable {X:Cx}{pins:List (Addr×Obj)}{σ:St}{H:Hp}{s:Shared}
end
section
variable {X:Cx}
end
end L2
namespace L2
open PySem PySem.Spec PyProof.Rows
abbrev mU_ (h:Heap) (c:Addr) (v:Option Value):Prop:=h.IsCell c v
def relS (scope sc:Scope):Scope :=
 { scope with names:=scope.names.map fun (n,k)=>if (k == .free && sc.kind == .function && sc.names.lookup n == some .cell) then (n,.cell) else (n,k) }
def aU_ (cells:List (Str×Addr)):List (Str×NameKind)->List (Str×Addr)->List (Str×Addr)
 | [],acc=>acc
 | (n,k)::r,acc=>if k == .free then aU_ cells r ((n,(cells.lookup n).getD 0)::acc) else aU_ cells r acc
theorem dQ_ (env:Env) (f:Str×NameKind->List (Str×Addr)->Sem (ForInStep (List (Str×Addr))))
  (hf : ∀ n k c,f (n,k) c=if k == .free then (do let a <- cellOf env n;pure (.yield ((n,a)::c))) else pure (.yield c)) :
  ∀ (names:List (Str×NameKind)) (acc:List (Str×Addr)),(∀ y∈names,y.2 = .free->∃ c,env.cells.lookup y.1=some c)->forIn names acc f=pure (aU_ env.cells names acc)
 | [],acc,_=>by rw [List.forIn_nil];rfl
 | (n,k)::r,acc,h=>by
  rw [List.forIn_cons,hf];have ih:=fun acc=>dQ_ env f hf r acc fun y hy=>h y (mem_cons_of_mem _ hy);unfold aU_;by_cases hk:(k == NameKind.free)=true
  ·rw [if_pos hk,if_pos hk]
   obtain ⟨c,hc⟩:=h (n,k) mem_cons_self (by simpa using hk);have e:cellOf env n=pure c:=by unfold cellOf;rw [hc]
   rw [e];have e2:(env.cells.lookup n).getD 0=c:=by rw [hc];rfl
   rw [e2];exact ih _
  rw [if_neg hk,if_neg hk];exact ih _
theorem jr_ {scope:Scope}{env:Env} (h : ∀ y∈scope.names,y.2 = .free->∃ c,env.cells.lookup y.1=some c):closureFor scope env=pure (aU_ env.cells scope.names []):=by
 simp only [closureFor];rw [dQ_ env _ (fun n k c=>rfl) scope.names [] h];rfl
theorem du_ {α:Type} : ∀ {l:List (Str×α)}{n:Str}{c:α},(n,c)∈l->∃ c',l.lookup n=some c'
 | (k,v)::r,n,c,h=>by
  rw [lookup_cons];cases hb:n == k with
  | true=>exact ⟨_,rfl⟩
  | false =>
  rcases List.mem_cons.mp h with e | h
  ·cases e;simp at hb
  exact du_ h
theorem b9_ {cells:List (Str×Addr)} : ∀ {names:List (Str×NameKind)}{acc:List (Str×Addr)}{n:Str}{c:Addr},(n,c)∈aU_ cells names acc->(n,c)∈acc\/((n,.free)∈names/\c=(cells.lookup n).getD 0)
 | [],_,_,_,h => .inl h
 | (m,k)::r,acc,n,c,h=>by
  unfold aU_ at h;split at h
  ·rename_i hk
   have hk:k = .free:=by simpa using hk
   rcases b9_ h with h | ⟨h1,h2⟩
   ·rcases List.mem_cons.mp h with e | h
    ·cases e;exact .inr ⟨hk ▸ mem_cons_self,rfl⟩
    exact .inl h
   exact .inr ⟨mem_cons_of_mem _ h1,h2⟩
  rcases b9_ h with h | ⟨h1,h2⟩
  ·exact .inl h
  exact .inr ⟨mem_cons_of_mem _ h1,h2⟩
theorem cU_ {cells:List (Str×Addr)} : ∀ {names:List (Str×NameKind)}{acc:List (Str×Addr)}{p:Str×Addr},p∈acc->p∈aU_ cells names acc
 | [],_,_,h=>h
 | (m,k)::r,acc,p,h=>by
  unfold aU_;split
  ·exact cU_ (mem_cons_of_mem _ h)
  exact cU_ h
theorem cT_ {cells:List (Str×Addr)} : ∀ {names:List (Str×NameKind)}{acc:List (Str×Addr)}{n:Str},(n,.free)∈names->(n,(cells.lookup n).getD 0)∈aU_ cells names acc
 | (m,k)::r,acc,n,h=>by
  unfold aU_;rcases List.mem_cons.mp h with e | h
  ·cases e
   exact cU_ mem_cons_self
  split
  ·exact cT_ h
  exact cT_ h
theorem cq_ : ∀ {names:List (Str×NameKind)}{h:Heap}{acc:List (Str×Addr)}{x:Str}{c:Addr},(x,c)∈cellsFrom h.objs.size names acc ->
  (x,c)∈acc\/((x,.cell)∈names/\h.objs.size<=c/\mU_ (pushCells h names) c none)
 | [],_,_,_,_,h => .inl h
 | (n,k)::r,h,acc,x,c,hm=>by
  unfold cellsFrom at hm;unfold pushCells;split at hm
  ·rename_i hk
   rw [if_pos hk];have hk:k = .cell:=by simpa using hk
   rw [<- Heap.size_push h { cls := .type "cell",data := .cell none }] at hm;rcases cq_ hm with hm | ⟨h1,h2,h3⟩
   ·rcases List.mem_cons.mp hm with e | hm
    ·cases e
     exact .inr ⟨hk ▸ mem_cons_self,Nat.le_refl _,_,pushCells_keeps r _ _ _ (Heap.get?_push_size _ rfl),rfl⟩
    exact .inl hm
   rw [Heap.size_push] at h2;exact .inr ⟨mem_cons_of_mem _ h1,le_of_succ_le h2,h3⟩
  rename_i hk;rw [if_neg hk];rcases cq_ hm with hm | ⟨h1,h2,h3⟩
  ·exact .inl hm
  exact .inr ⟨mem_cons_of_mem _ h1,h2,h3⟩
theorem dk_ : ∀ {names:List (Str×NameKind)}{n:Nat}{acc:List (Str×Addr)}{p:Str×Addr},p∈acc->p∈cellsFrom n names acc
 | [],_,_,_,h=>h
 | (m,k)::r,n,acc,p,h=>by
  unfold cellsFrom;split
  ·exact dk_ (mem_cons_of_mem _ h)
  exact dk_ h
theorem eV_ : ∀ {names:List (Str×NameKind)}{n:Nat}{acc:List (Str×Addr)}{x:Str},(x,.cell)∈names->∃ c,(x,c)∈cellsFrom n names acc
 | (m,k)::r,n,acc,x,h=>by
  unfold cellsFrom;rcases List.mem_cons.mp h with e | h
  ·cases e
   exact ⟨n,dk_ mem_cons_self⟩
  split
  ·exact eV_ h
  exact eV_ h
theorem eU_ : ∀ {names:List (Str×NameKind)}{h:Heap}{acc:List (Str×Addr)}{x y:Str}{c:Addr},(∀ p∈acc,p.2<h.objs.size)->(∀ x y c,(x,c)∈acc->(y,c)∈acc->x=y) ->
  (x,c)∈cellsFrom h.objs.size names acc->(y,c)∈cellsFrom h.objs.size names acc->x=y
 | [],_,_,_,_,_,_,hi,h1,h2=>hi _ _ _ h1 h2
 | (n,k)::r,h,acc,x,y,c,hl,hi,h1,h2=>by
  unfold cellsFrom at h1 h2;split at h1
  ·rename_i hk
   rw [if_pos hk] at h2;rw [<- Heap.size_push h { cls := .type "cell",data := .cell none }] at h1 h2;refine eU_ (h:=h.push _) (fun p hp=>?_) (fun x y c a b=>?_) h1 h2
   ·rw [Heap.size_push]
    rcases List.mem_cons.mp hp with rfl | hp
    ·exact lt_succ_self _
    exact Nat.lt_succ_of_lt (hl p hp)
   rcases List.mem_cons.mp a with e | a <;> rcases List.mem_cons.mp b with e' | b
   ·cases e;cases e';rfl
   ·cases e;exact absurd (hl _ b) (Nat.lt_irrefl _)
   ·cases e';exact absurd (hl _ a) (Nat.lt_irrefl _)
   exact hi _ _ _ a b
  rename_i hk;rw [if_neg hk] at h2;exact eU_ hl hi h1 h2
theorem hz_ {M:Model}{A:Around}{E:Value->Shared->Prop}{s:Shared}{scope:Scope}{globals:Addr}{closure:List (Str×Addr)}{qual:Str}{func:Option Addr}{code:Value}{around:Env}{builtins:Addr}{Q:Env->Shared->Prop}
  (h:Q (newEnv scope s.heap.objs.size globals (cellsFrom (s.heap.objs.size+1) scope.names closure) qual func code (some around) builtins)
   { s with heap:=pushCells (s.heap.push { cls := .type "dict",data := .dict #[] }) scope.names }) :
  wpAny M A (newFunctionEnv scope globals closure [] qual func code (some around) builtins) Q E s:=by
 simp only [newFunctionEnv,Option.isSome_some,if_true];refine wpAny_bind (wpAny_alloc ?_);refine wpAny_bind (wpAny_layCells _ (fun n k c=>rfl) scope.names closure _ _ ?_);rw [show ({ s with heap:=s.heap.push { cls := .type "dict",data := .dict #[] } }:Shared).heap.objs.size=s.heap.objs.size+1 from Heap.size_push ..];rw [List.forIn_nil];exact wpAny_bind (wpAny_pure (wpAny_pure h))
theorem cM_ {sc:Scope} : ∀ {names:List (Str×NameKind)}{x:Str}{k:NameKind},
  (names.map fun (n,k)=>if (k == NameKind.free && sc.kind == .function && sc.names.lookup n == some .cell) then (n,NameKind.cell) else (n,k)).lookup x=some k ->
  ∃ k',names.lookup x=some k'/\(k=k'\/(k' = .free/\k = .cell))
 | [],_,_,h=>by simp at h
 | (n,k₀)::r,x,k,h=>by
  have ih := @cM_ sc r x k;have h':List.lookup x ((if (k₀ == NameKind.free && sc.kind == .function && sc.names.lookup n == some .cell)=true then (n,NameKind.cell) else (n,k₀))::(r.map _))=some k:=h;cases hx:x == n with
  | true =>
   simp only [lookup_cons,hx];by_cases hc:(k₀ == NameKind.free && sc.kind == .function && sc.names.lookup n == some .cell)=true
   ·rw [if_pos hc] at h'
    simp only [lookup_cons,hx] at h';cases h';simp only [and_eq_true,beq_iff_eq] at hc;exact ⟨k₀,rfl,.inr ⟨hc.1.1,rfl⟩⟩
   rw [if_neg hc] at h';simp only [lookup_cons,hx] at h';cases h';exact ⟨_,rfl,.inl rfl⟩
  | false =>
  simp only [lookup_cons,hx];by_cases hc:(k₀ == NameKind.free && sc.kind == .function && sc.names.lookup n == some .cell)=true
  ·rw [if_pos hc] at h'
   simp only [lookup_cons,hx] at h';exact ih h'
  rw [if_neg hc] at h';simp only [lookup_cons,hx] at h';exact ih h'
structure BlkOk (N:List Str) (sc scope:Scope) (own:List (Str×Nat)):Prop where
 kind:scope.kind = .function
 uniq : ∀ y∈scope.names,scope.names.lookup y.1=some y.2
 ix : ∀ p∈own,N[p.2]? = some p.1
 free : ∀ y∈scope.names,y.2 = .free->sc.names.lookup y.1=some .cell\/sc.names.lookup y.1=some .free
 own : ∀ y∈scope.names,y.2 = .local\/y.2 = .cell->y.1∈own.map (·.1)\/y.1∉N
def wipe (σ:St):List Nat->St
 | []=>σ
 | v::vs=>(wipe σ vs).set v none
theorem cI_ (σ:St) : ∀ vs:List Nat,(wipe σ vs).length=σ.length
 | []=>rfl
 | v::vs=>by unfold wipe;rw [List.length_set,cI_ σ vs]
theorem eh_ {σ:St}{i:Nat}{x:V} : ∀ {vs:List Nat},(wipe σ vs)[i]? = some (some x)->σ[i]? = some (some x)/\i∉vs
 | [],h=>⟨h,by simp⟩
 | v::vs,h=>by
  unfold wipe at h;by_cases hi:v=i
  ·subst hi
   by_cases hv:v<(wipe σ vs).length
   ·rw [List.getElem?_set_self hv] at h;cases h
   rw [List.getElem?_eq_none (by simpa using hv)] at h;cases h
  rw [List.getElem?_set_ne hi] at h;obtain ⟨h1,h2⟩:=eh_ h;exact ⟨h1,by simp only [mem_cons,not_or];exact ⟨fun e=>hi e.symm,h2⟩⟩
noncomputable abbrev Cx.blk (X:Cx) (s:Shared) (H:Hp) (scope:Scope) (cenv:Env) (fp:List Addr):Cx:={ X with s_0:=s,H_0:=H,env:=cenv,outer:=X.stack,ex:=fp,fn:=fun x=>scope.names.lookup x == some .cell,pn:=[],xe:=fun _ _=>False }
section
variable {X:Cx}{pins:List (Addr×Obj)}{σ:St}{H:Hp}{s:Shared}
theorem hT_ {scope:Scope}{own:List (Str×Nat)}{fp:List Addr} (I:Inv X pins σ H s) (ok:BlkOk X.N X.env.scope scope own) (hN:X.N.Nodup) (hfp : ∀ b∈fp,FpOk X pins H b/\b<s.heap.objs.size) :
  Inv (X.blk s H scope (compEnvC scope (cellsFrom (s.heap.objs.size+1) scope.names (aU_ X.env.cells scope.names [])) s.heap.objs.size X.env) fp) [] (wipe σ (own.map (·.2))) H { s with heap:=pushCells (s.heap.push { cls := .type "dict",data := .dict #[] }) scope.names }:=by
 have hfree : ∀ y∈scope.names,y.2 = .free->∃ c,X.env.cells.lookup y.1=some c:=fun y hy e=>by
  rcases ok.free y hy e with k | k
  ·exact I.ok.has _ (.inl k)
  exact I.ok.has _ (.inr k)
 generalize hcenv:compEnvC scope (cellsFrom (s.heap.objs.size+1) scope.names (aU_ X.env.cells scope.names [])) s.heap.objs.size X.env=cenv;have kp : ∀ b o,s.heap.get? b=some o->(pushCells (s.heap.push { cls := .type "dict",data := .dict #[] }) scope.names).get? b=some o:=fun b o e=>pushCells_keeps _ _ _ _ (Heap.get?_push_of_some _ e);have hL:cenv.locals=s.heap.objs.size:=by rw [<- hcenv];rfl
 have hcl:cenv.cells=cellsFrom (s.heap.objs.size+1) scope.names (aU_ X.env.cells scope.names []):=by rw [<- hcenv];rfl
 have hsc:cenv.scope=relS scope X.env.scope:=by rw [<- hcenv];rfl
 rw [<- Heap.size_push s.heap { cls := .type "dict",data := .dict #[] }] at hcl;have cm : ∀ {y c},(y,c)∈aU_ X.env.cells scope.names []->X.env.cells.lookup y=some c/\c<s.heap.objs.size:=fun {y c} hm=>by
  rcases b9_ hm with hm | ⟨h1,rfl⟩
  ·cases hm
  obtain ⟨c,hc⟩:=hfree _ h1 rfl;rw [hc];obtain ⟨w,z⟩:=I.cell _ _ hc;exact ⟨rfl,z.lt⟩
 have mem : ∀ {y c},cenv.cells.lookup y=some c->(X.env.cells.lookup y=some c/\c<s.heap.objs.size)\/(s.heap.objs.size+1<=c/\mU_ (pushCells (s.heap.push { cls := .type "dict",data := .dict #[] }) scope.names) c none):=fun {y c} e=>by
  rw [hcl] at e;rcases cq_ (PySem.mem_of_lookup e) with hm | ⟨_,h2,h3⟩
  ·exact .inl (cm hm)
  rw [Heap.size_push] at h2;exact .inr ⟨h2,h3⟩
 have look : ∀ {y},scope.names.lookup y=some .free->∃ c,cenv.cells.lookup y=some c/\X.env.cells.lookup y=some c:=fun {y} hl=>by
  have hy:(y,NameKind.free)∈scope.names:=PySem.mem_of_lookup hl;obtain ⟨c',e'⟩:=du_ (dk_ (names:=scope.names) (n:=(s.heap.push { cls := .type "dict",data := .dict #[] }).objs.size) (cT_ (cells:=X.env.cells) (acc:=[]) hy));rw [<- hcl] at e';refine ⟨c',e',?_⟩;rw [hcl] at e';rcases cq_ (PySem.mem_of_lookup e') with hm | ⟨h1,_,_⟩
  ·exact (cm hm).1
  have:=ok.uniq _ h1;rw [hl] at this;cases this
 have okB:(X.blk s H scope cenv fp).Ok:=by
  refine ⟨I.ok.mod,by show cenv.scope.kind=_;rw [hsc];exact ok.kind,by show cenv.globals=_;rw [<- hcenv];exact I.ok.glob,by show cenv.builtins=_;rw [<- hcenv];exact I.ok.blt,by show s.heap.objs.size<=cenv.locals;rw [hL];exact Nat.le_refl _,
   fun y z c e1 e2=>?_,fun y hy=>?_,fun y c z e=>?_,I.ok.hd,I.ok.frames,.inl rfl,fun b hb=>⟨?_,fun y c e z=>?_⟩,I.bs,Nat.le_trans I.ok.bsz I.sz,fun b o e hb=>?_,fun b hb z=>?_,I.stack,I.stkFree⟩
  ·have e1:cenv.cells.lookup y=some c:=e1
   have e2:cenv.cells.lookup z=some c:=e2;rw [hcl] at e1 e2;refine eU_ (fun p hp=>?_) (fun y z c a b=>I.ok.inj y z c (cm a).1 (cm b).1) (PySem.mem_of_lookup e1) (PySem.mem_of_lookup e2);rw [Heap.size_push];exact Nat.lt_succ_of_lt (cm (y:=p.1) (c:=p.2) hp).2
  ·show ∃ c,cenv.cells.lookup y=some c
   have key : ∀ k,cenv.kindOf y=some k->(k = .cell\/k = .free)->∃ c,cenv.cells.lookup y=some c:=fun k hk hk'=>by
    unfold Env.kindOf at hk;rw [hsc] at hk;obtain ⟨k',e,r⟩:=cM_ hk;have:k' = .cell\/k' = .free:=by
     rcases r with rfl | ⟨rfl,_⟩
     ·exact hk'
     exact .inr rfl
    rcases this with rfl | rfl
    ·obtain ⟨c,hm⟩:=eV_ (n:=(s.heap.push { cls := .type "dict",data := .dict #[] }).objs.size) (acc:=aU_ X.env.cells scope.names []) (PySem.mem_of_lookup e)
     obtain ⟨c',e'⟩:=du_ hm;exact ⟨c',by rw [hcl];exact e'⟩
    obtain ⟨c,h1,_⟩:=look e;exact ⟨c,h1⟩
   rcases hy with hy | hy
   ·exact key _ hy (.inl rfl)
   exact key _ hy (.inr rfl)
  ·have z:(scope.names.lookup y == some NameKind.cell)=true:=z
   have z:scope.names.lookup y=some .cell:=by simpa using z
   have e:cenv.cells.lookup y=some c:=e;rw [hcl] at e;rcases cq_ (PySem.mem_of_lookup e) with hm | ⟨_,h2,_⟩
   ·rcases b9_ hm with hm | ⟨h1,_⟩
    ·cases hm
    have q:=ok.uniq _ h1;rw [z] at q;cases q
   rw [Heap.size_push] at h2;exact le_of_succ_le h2
  ·show b≠cenv.locals
   rw [hL];exact Nat.ne_of_lt (hfp b hb).2
  ·have e:cenv.cells.lookup y=some c:=e
   rcases mem e with ⟨h1,_⟩ | ⟨h1,_⟩
   ·exact (hfp b hb).1.2.2.2.2.1 y c h1 z
   have h2:s.heap.objs.size+1<=b:=by rw [<- z];exact h1
   exact absurd (Nat.lt_of_lt_of_le (hfp b hb).2 (le_of_succ_le h2)) (Nat.lt_irrefl _)
  ·rcases (hfp b hb).1.2.2.2.1 with z | z
   ·exact I.ok.noex b o e z
   exact absurd (Nat.lt_of_lt_of_le (Heap.lt_size e) (Nat.le_trans I.ok.bsz z)) (Nat.lt_irrefl _)
  rcases List.mem_cons.mp (I.stkSub b z) with z | z
  ·exact (hfp b hb).1.2.1 z
  exact (hfp b hb).1.2.2.1 z
 refine ⟨okB,rfl,I.bare,Un.kept kp,⟨fun _=>none,?_,fun i y av e1 e2 e3=>?_⟩,fun y c e=>?_,?_,fun y c e=>?_,fun p hp=>?_,I.hok.kept kp,by rw [cI_];exact I.len⟩
 ·show Heap.Ns _ cenv.locals _
  rw [hL];exact Heap.Ns.keeps (Heap.Ns.new ..) fun b o e=>pushCells_keeps _ _ _ _ e
 ·obtain ⟨e2,hne⟩:=eh_ e2
  have hfr:scope.names.lookup y=some .free/\(cenv.kindOf y=some .cell\/cenv.kindOf y=some .free):=by
   have key : ∀ k,cenv.scope.names.lookup y=some k->k = .local\/k = .cell\/k = .free->scope.names.lookup y=some .free/\(cenv.kindOf y=some .cell\/cenv.kindOf y=some .free):=fun k hk hk'=>by
    have hk0:=hk;rw [hsc] at hk;obtain ⟨k',e,r⟩:=cM_ hk;have no : ¬ (k' = .local\/k' = .cell):=fun hh=>by
     rcases ok.own _ (PySem.mem_of_lookup e) hh with e' | e'
     ·obtain ⟨p,hp,hpy⟩:=List.mem_map.mp e'
      have e3:=ok.ix p hp;have:p.1=y:=hpy;rw [this] at e3;exact hne (List.mem_map.mpr ⟨p,hp,f0_ hN e3 e1⟩)
     exact e' (mem_of_getElem? e1)
    rcases r with rfl | ⟨rfl,rfl⟩
    ·rcases hk' with rfl | rfl | rfl
     ·exact absurd (.inl rfl) no
     ·exact absurd (.inr rfl) no
     exact ⟨e,.inr hk0⟩
    exact ⟨e,.inl hk0⟩
   have e3:Vis cenv.scope y:=e3;rcases e3 with e3 | e3 | e3
   ·exact key _ e3 (.inl rfl)
   ·exact key _ e3 (.inr (.inl rfl))
   exact key _ e3 (.inr (.inr rfl))
  obtain ⟨m,hn,hl⟩:=I.loc;have hvis:Vis X.env.scope y:=(ok.free _ (PySem.mem_of_lookup hfr.1) rfl).elim (fun k => .inr (.inl k)) (fun k => .inr (.inr k));obtain ⟨w,r,q⟩:=hl i y av e1 e2 hvis;refine ⟨w,r,.inr ⟨hfr.2,?_⟩⟩;obtain ⟨c,h1,h2⟩:=look hfr.1;rcases q with ⟨k,_⟩ | ⟨_,c',e',z⟩
  ·have k:X.env.scope.names.lookup y=some .local:=k
   rcases ok.free _ (PySem.mem_of_lookup hfr.1) rfl with k' | k' <;> rw [show X.env.scope.names.lookup y=_ from k'] at k <;> cases k
  rw [h2] at e';cases e';exact ⟨c,h1,z.keeps kp⟩
 ·have e:cenv.cells.lookup y=some c:=e
  rcases mem e with ⟨h1,_⟩ | ⟨_,z⟩
  ·obtain ⟨w,z⟩:=I.cell y c h1
   exact ⟨w,z.keeps kp⟩
  exact ⟨_,z⟩
 ·show H cenv.locals=none
  rw [hL];exact I.hok.fresh (Nat.le_refl _)
 ·have e:cenv.cells.lookup y=some c:=e
  rcases mem e with ⟨h1,_⟩ | ⟨h1,_⟩
  ·exact I.freeC y c h1
  exact I.hok.fresh (le_of_succ_le h1)
 exact absurd (show p∈([]:List (Addr×Obj))++[] from hp) (by simp)
theorem o4_ {E:Value->Shared->Prop}{D:Addr}{xs:List V}{y:V}{v:Value}{Q:Value->Shared->Prop} (I:Inv X pins σ H s) (hD:H D=some (.lst xs)) (hz:xs.length<sizeLine) (r:RelV y v)
  (h : ∀ s',Inv X pins σ (upd H D (.lst (xs++[y]))) s'->Q .none s'):wpAny (model X.prog X.w) X.A (call (.builtin "list.append") [.ref D,v]) Q E s:=by
 obtain ⟨hz',its,n,ri,e⟩:=I.hok D _ hD;have hl:=ri.length;refine append_at (hsz:=by rw [size_toArray];omega) e fun h' sb ho'=>?_;refine h { s with heap:=h' } (I.write (t':=s.toks) (by rw [hD];trivial) (.inl rfl) (fun b u hb q=>(sb.2 b hb).trans q) ⟨_,ho'⟩ ⟨by rw [length_append];exact hz,its++[v],n+1,ri.append (.cons r .nil),?_⟩);rw [ho'];simp
def PTs (X:Cx) (ifs:List Expr) (t:TT):Prop :=
 ∀ (pins:List (Addr×Obj)) (s:Shared) (σ:St) (H:Hp) (Q:Bool->Hp->Prop),Inv X pins σ H s->t σ H Q ->
  wpAny (model X.prog X.w) X.A (forIn ifs true fun c r=>if r=true then do let ok <- isTrue c X.env (eval c X.env);pure (ForInStep.yield ok) else pure (ForInStep.yield r)) (TP X pins σ Q) X.xe s
def tYes:TT:=fun _ H Q=>Q true H
theorem ds_:PTs X [] tYes:=fun _ _ _ H _ I h=>wpAny_tests_nil ⟨H,I,h⟩
end
theorem thnF {α:Type}{t:Sem α}{Q Q':α->Shared->Prop}{M:Model}{A:Around}{E:Value->Shared->Prop}{s:Shared} (h:wpAny M A t Q (fun _ _=>False) s) (hQ : ∀ a s,Q a s->Q' a s):wpAny M A t Q' E s:=wpAny_mono h hQ fun _ _ z=>False.elim z
theorem g7_ {prog:Program}{w:World}{A:Around}{R:Result->Shared->Prop}{s:Shared}{elt target iter:Expr}{ifs:List Expr}{scope:Scope}{pos:Pos}{it acc:Value}{env:Env} (I:Nat->Shared->Prop)
  (turn : ∀ n s,I n s->wpAny (model prog w) A (pyNext it) (fun r s₁=>match r with
   | none=>R (.ok .next) s₁
   | some v=>wpAny (model prog w) A (letOwnedTupleGo target it v) (fun _ s₁'=>wpAny (model prog w) A (assign target env v) (fun _ s₂ =>
     wpAny (model prog w) A (forIn ifs true fun c r=>if r=true then do let ok <- isTrue c env (eval c env);pure (ForInStep.yield ok) else pure (ForInStep.yield r)) (fun ok s₃ =>
      if ok=true then wpAny (model prog w) A (eval elt env) (fun x s₄ =>
       wpAny (model prog w) A (call (.builtin "list.append") [acc,x]) (fun _ s₅=>∃ m,m<n/\I m s₅) (notedBy (model prog w) A env fun e s'=>R (.error e) s') s₄) (notedBy (model prog w) A env fun e s'=>R (.error e) s') s₃
      else ∃ m,m<n/\I m s₃) (notedBy (model prog w) A env fun e s'=>R (.error e) s') s₂) (notedBy (model prog w) A env fun e s'=>R (.error e) s') s₁') (notedBy (model prog w) A env fun e s'=>R (.error e) s') s₁) (notedBy (model prog w) A env fun e s'=>R (.error e) s') s)
  (n:Nat) (h:I n s) :
  codeAny (model prog w) A (.compLoop (.ListComp elt [⟨target,iter,ifs,0⟩] scope pos) 0 it acc env) R s:=by
 refine codeAny_loop rfl I (fun n s hI=>?_) n h;show wpAny _ A ((compTurn (.ListComp elt [⟨target,iter,ifs,0⟩] scope pos) 0 it acc env).onRaise (fun x=>do noteFrame x env;theTreesLotGoes x)) _ _ s;refine wpAny_noted ?_;rw [compTurn_list];refine wpAny_bind (wpAny_standAt (wpAny_bind (wpAny_mono (turn n s hI) (fun r s₁ h₁=>?_) fun _ _ h'=>h')));cases r with
 | none=>exact wpAny_pure h₁
 | some v =>
 refine wpAny_bind (wpAny_mono h₁ (fun _ s₁' h₁'=>?_) fun _ _ h'=>h');refine wpAny_bind (wpAny_mono h₁' (fun _ s₂ h₂=>wpAny_bind (wpAny_mono h₂ (fun ok s₃ h₃=>?_) fun _ _ h'=>h')) fun _ _ h'=>h');cases ok with
 | false=>exact wpAny_pure ⟨rfl,h₃⟩
 | true =>
 exact wpAny_bind (wpAny_bind (wpAny_mono h₃ (fun x s₄ h₄=>wpAny_bind (wpAny_mono h₄ (fun _ s₅ h₅=>wpAny_pure (wpAny_pure ⟨rfl,h₅⟩)) fun _ _ h'=>h')) fun _ _ h'=>h'))
section
variable {X:Cx}
def tLc (wi:TI) (g:TG) (tt:TT) (te:TE) (vs:List Nat):TE:=fun σ H Q=>wi σ H fun J H1=>∀ D,H1 D=none->∃ W:Nat->Nat->Hp->Prop,(∃ m,W 0 m (upd H1 D (.lst [])))/\∀ i m H,W i m H ->
 (J.stop i H/\Q (.ref D) H)\/(J.go i H/\∃ Nx:Hp->Prop,(∀ H',Nx H'->∃ m',m'<m/\W (i+1) m' H')/\∀ x H',J.yld i H x H'->g x (wipe σ vs) H' fun σ2 H2=>wipe σ2 vs=wipe σ vs/\tt σ2 H2 fun b H3 =>
  if b=true then te σ2 H3 fun y H4=>∃ acc,H4 D=some (.lst acc)/\acc.length<sizeLine/\Nx (upd H4 D (.lst (acc++[y]))) else Nx H3)
theorem kB_ {pins:List (Addr×Obj)}{s:Shared}{σ:St}{H:Hp}{Q:VK}{elt tg iter:Expr}{ifs:List Expr}{scope:Scope}{own:List (Str×Nat)}{pos pos':Pos}{wi:TI}{g:TG}{tt:TT}{te:TE}{use:Option (Value->Sem Unit)}{Qf:Value->Shared->Prop}
  (hc:X.calm=true) (hN:X.N.Nodup) (I:Inv X pins σ H s) (hi:PI X tg iter wi) (ok:BlkOk X.N X.env.scope scope own)
  (hg : ∀ (s:Shared) (H:Hp) (C:Addr) (cl:List (Str×Addr)) (fp:List Addr),PG (X.blk s H scope (compEnvC scope cl C X.env) fp) tg g) (ht : ∀ (s:Shared) (H:Hp) (C:Addr) (cl:List (Str×Addr)) (fp:List Addr),PTs (X.blk s H scope (compEnvC scope cl C X.env) fp) ifs tt)
  (he : ∀ (s:Shared) (H:Hp) (C:Addr) (cl:List (Str×Addr)) (fp:List Addr),PE (X.blk s H scope (compEnvC scope cl C X.env) fp) elt te) (hs : ∀ x,foldedSetIterable iter X.env x=pure x)
  (h:tLc wi g tt te (own.map (·.2)) σ H Q)
  (hRR : ∀ D C s' m H',Inv X pins σ H' s'->Q (.ref D) H'->s'.heap.Ns C m->FpOk X pins H' C->compPost (model X.prog X.w) X.A X.xe use Qf (.ref D) C (.ok .next) s') :
  wpAny (model X.prog X.w) X.A (comprehension (.ListComp elt [⟨tg,iter,ifs,0⟩] scope pos) scope X.env pos' (newList []) false (eval iter X.env) use) Qf X.xe s:=by
 have hfree : ∀ y∈scope.names,y.2 = .free->∃ c,X.env.cells.lookup y.1=some c:=fun y hy e=>by
  rcases ok.free y hy e with k | k
  ·exact I.ok.has _ (.inl k)
  exact I.ok.has _ (.inr k)
 refine wpAny_comprehension_free (use:=use) rfl hs (jr_ hfree) ok.kind (fun y hy e=>by rw [ok.uniq y hy,e])
  (thn (hi pins s σ H _ I h) fun xv s1 hx=>thn hx fun itv s2 h2=>?_)
 obtain ⟨it,fp,tn,J,H2,e,I2,T,st2,f2,q⟩:=h2;subst e;refine wpAny_newObj_type (hz_ ?_) (by show 0<=sizeLine;decide);generalize hD:s2.heap.objs.size=D;have hDn:H2 D=none:=I2.hok.fresh (Nat.le_of_eq hD);obtain ⟨W,⟨m0,w0⟩,turn⟩:=q D hDn;generalize hs3:({ s2 with heap:=s2.heap.push { cls := .type "list",data := .seq ([]:List Value).toArray } }:Shared)=s3;have I3:Inv X pins σ (upd H2 D (.lst [])) s3:=by
  rw [<- hs3];refine I2.laid (t':=s2.toks) (fun b o e=>Heap.get?_push_of_some _ e) (Nat.le_of_eq hD) ⟨zero_le _,[],0,.nil,?_⟩;rw [<- hD];exact Heap.get?_push_size _ rfl
 have h3:s3.heap=s2.heap.push { cls := .type "list",data := .seq ([]:List Value).toArray }:=by rw [<- hs3]
 have sz : ∀ b∈fp,b<s2.heap.objs.size:=fun b hb=>by
  obtain ⟨o,e,_⟩:=T.obj _ _ st2 b hb;exact Heap.lt_size e
 have f3 : ∀ b∈fp,FpOk X pins (upd H2 D (.lst [])) b/\b<s3.heap.objs.size:=fun b hb=>by
  have hlt:=sz b hb;refine ⟨⟨?_,(f2 b hb).2⟩,by rw [h3,Heap.size_push];exact Nat.lt_succ_of_lt hlt⟩;rw [al_ (by rw [<- hD];exact Nat.ne_of_lt hlt)];exact (f2 b hb).1
 have st3:tn 0 s3.heap:=T.keep _ _ _ st2 fun b _ o e=>by rw [h3];exact Heap.get?_push_of_some _ e
 have I4:=hT_ I3 ok hN f3;have pg:=hg s3 (upd H2 D (.lst [])) s3.heap.objs.size (cellsFrom (s3.heap.objs.size+1) scope.names (aU_ X.env.cells scope.names [])) fp;have pt:=ht s3 (upd H2 D (.lst [])) s3.heap.objs.size (cellsFrom (s3.heap.objs.size+1) scope.names (aU_ X.env.cells scope.names [])) fp;have pe:=he s3 (upd H2 D (.lst [])) s3.heap.objs.size (cellsFrom (s3.heap.objs.size+1) scope.names (aU_ X.env.cells scope.names [])) fp;show codeAny _ _ (.compStart (.ListComp elt [⟨tg,iter,ifs,0⟩] scope pos) 0 (.ref it) (.ref D) (compEnvC scope (cellsFrom (s3.heap.objs.size+1) scope.names (aU_ X.env.cells scope.names [])) s3.heap.objs.size X.env)) (compPost (model X.prog X.w) X.A X.xe use Qf (.ref D) s3.heap.objs.size) { s3 with heap:=pushCells (s3.heap.push { cls := .type "dict",data := .dict #[] }) scope.names };have nfp : ∀ b∈fp,(upd H2 D (.lst [])) b=none:=fun b hb=>(f3 b hb).1.1;generalize hce:compEnvC scope (cellsFrom (s3.heap.objs.size+1) scope.names (aU_ X.env.cells scope.names [])) s3.heap.objs.size X.env=ce at I4 pg pt pe ⊢;have cL:ce.locals=s3.heap.objs.size:=by subst hce;rfl
 generalize hH3:upd H2 D (.lst [])=H3 at I3 I4 pg pt pe w0 nfp f3;generalize hs4:({ s3 with heap:=pushCells (s3.heap.push { cls := .type "dict",data := .dict #[] }) scope.names }:Shared)=s4 at I4 ⊢;have st4:tn 0 s4.heap:=T.keep _ _ _ st3 fun b _ o e=>by rw [<- hs4];exact pushCells_keeps _ _ _ _ (Heap.get?_push_of_some _ e)
 have stat : ∀ {σ':St}{H':Hp}{s':Shared},Inv (X.blk s3 H3 scope ce fp) [] σ' H' s'->(∀ b∈fp,H' b=none)->∀ b∈fp,FpOk (X.blk s3 H3 scope ce fp) [] H' b:=fun {σ' H' s'} I' hn b hb =>
  ⟨hn b hb,(I'.ok.exf b hb).1,I'.ok.exfs b hb,.inl hb,fun x c e=>(I'.ok.exf b hb).2 x c e,fun p hp=>absurd (show p∈([]:List (Addr×Obj))++[] from hp) (by simp)⟩
 have loop:codeAny (model X.prog X.w) X.A (.compLoop (.ListComp elt [⟨tg,iter,ifs,0⟩] scope pos) 0 (.ref it) (.ref D) ce) (compPost (model X.prog X.w) X.A X.xe use Qf (.ref D) s3.heap.objs.size) s4:=by
  refine g7_ (fun n s'=>∃ i H',Inv (X.blk s3 H3 scope ce fp) [] (wipe σ (own.map (·.2))) H' s'/\tn i s'.heap/\(∀ b∈fp,H' b=none)/\W i n H') ?_ m0 ⟨0,H3,I4,st4,nfp,w0⟩
  rintro n s5 ⟨i,H5,I5,st5,n5,w5⟩
  rcases turn i n H5 w5 with ⟨stop,qq⟩ | ⟨go,Nx,hNx,step⟩
  ·have td:=T.done (X.blk s3 H3 scope ce fp) rfl rfl rfl hc i [] s5 _ H5 (fun _ _=>False) I5 (stat I5 n5) st5 stop
   refine thnF td fun r s6 ⟨hr,I6⟩=>?_;subst hr;have I7:Inv X pins σ H5 s6:=I3.call' (ch:=fp) I6.os I6.base I6.hok I6.bare fun b hb=>⟨(f3 b hb).1.2.2.2.1,(f3 b hb).1.2.1,(f3 b hb).1.2.2.2.2.1,(f3 b hb).1.2.2.2.2.2⟩;have nC:H5 s3.heap.objs.size=none:=by
    have z:H5 ce.locals=none:=I6.free;rw [cL] at z;exact z
   obtain ⟨m,hn,_⟩:=I6.loc;have hn:s6.heap.Ns ce.locals m:=hn;rw [cL] at hn;exact hRR D s3.heap.objs.size s6 m H5 I7 qq hn (I3.fpOk (Nat.le_refl _) nC)
  have ti:=T.item (X.blk s3 H3 scope ce fp) rfl rfl rfl hc i [] s5 _ H5 (fun _ _=>False) I5 (stat I5 n5) st5 go;refine thnF ti fun r s6 ⟨u,hr,h6⟩=>?_;subst hr;refine thnF h6 fun _ s7 zq=>?_;obtain ⟨x,H7,I7,r7,y7,st7,n7⟩:=zq;have I7':=I7.pinned (stat I7 n7) (T.obj _ _ st7);refine thnF (pg _ s7 _ H7 x u _ I7' r7 (step x H7 y7)) fun _ s8 zq=>?_;obtain ⟨σ8,H8,I8,hw8,q8⟩:=zq;refine thnF (pt _ s8 σ8 H8 _ I8 q8) fun b s9 ⟨H9,I9,q9⟩=>?_;have fin : ∀ {s':Shared}{H':Hp},Inv (X.blk s3 H3 scope ce fp) ([]++fh_ fp s7.heap) σ8 H' s'->Nx H'->∃ m,m<n/\∃ i H',Inv (X.blk s3 H3 scope ce fp) [] (wipe σ (own.map (·.2))) H' s'/\tn i s'.heap/\(∀ b∈fp,H' b=none)/\W i m H':=fun {s' H'} I' nx=>by
   obtain ⟨m',hm,w'⟩:=hNx H' nx;have pin' : ∀ b∈fp,∀ o,s7.heap.get? b=some o->s'.heap.get? b=some o/\H' b=none:=fun b hb o e =>
    let z:=I'.pin (b,o) (mem_append_right _ (mem_append_right _ (bS_ hb e)))
    ⟨z.1,z.2.1⟩
   have hl:(wipe σ (own.map (·.2))).length=σ8.length:=by rw [<- hw8,cI_]
   refine ⟨m',hm,i+1,H',(I'.unpinned (pins:=[])).weak hl (fun j v e=>?_),T.keep _ _ _ st7 fun b hb o e=>(pin' b hb o e).1,fun b hb=>?_,w'⟩
   ·rw [<- hw8] at e
    exact (eh_ e).1
   obtain ⟨o,e,_⟩:=T.obj _ _ st7 b hb;exact (pin' b hb o e).2
  cases b with
  | false =>
   simp only [false_eq_true,if_false] at q9 ⊢;exact fin I9 q9
  | true =>
  simp only [if_true] at q9 ⊢;refine thnF (pe _ s9 σ8 H9 _ I9 q9) fun z s10 zq=>?_;obtain ⟨yv,H10,I10,r10,acc,hD10,hz10,nx⟩:=zq;exact o4_ (X:=X.blk s3 H3 scope ce fp) I10 hD10 hz10 r10 fun s11 I11=>fin I11 nx
 exact codeAny_compStart_list loop (T.self X.A 0 _ _ _ st4 loop)
theorem kb_ {elt tg iter:Expr}{ifs:List Expr}{scope:Scope}{own:List (Str×Nat)}{pos:Pos}{wi:TI}{g:TG}{tt:TT}{te:TE} (hc:X.calm=true) (hN:X.N.Nodup) (hi:PI X tg iter wi) (ok:BlkOk X.N X.env.scope scope own)
  (hg : ∀ (s:Shared) (H:Hp) (C:Addr) (cl:List (Str×Addr)) (fp:List Addr),PG (X.blk s H scope (compEnvC scope cl C X.env) fp) tg g) (ht : ∀ (s:Shared) (H:Hp) (C:Addr) (cl:List (Str×Addr)) (fp:List Addr),PTs (X.blk s H scope (compEnvC scope cl C X.env) fp) ifs tt)
  (he : ∀ (s:Shared) (H:Hp) (C:Addr) (cl:List (Str×Addr)) (fp:List Addr),PE (X.blk s H scope (compEnvC scope cl C X.env) fp) elt te) (hs : ∀ x,foldedSetIterable iter X.env x=pure x:=by intro _;rfl) :
  PE X (.ListComp elt [⟨tg,iter,ifs,0⟩] scope pos) (tLc wi g tt te (own.map (·.2))):=by
 intro pins s σ H Q I h;rw [eval_ListComp];refine kB_ hc hN I hi ok hg ht he hs h fun D C s' m H' I' q hn f=>⟨m,hn,fun h'' sb=>?_⟩;obtain ⟨f0,f1,f2,f3,f4,f5⟩:=f;exact ⟨.ref D,H',I'.turned (t':=s'.toks) (fun b o hb e=>(sb.2 b hb).trans e) f0 f1 f3 f4 f5,rfl,q⟩
theorem lE_ {i:Nat}{y:Str}{py:Pos}{elt tg iter:Expr}{ifs:List Expr}{scope:Scope}{own:List (Str×Nat)}{pos spos:Pos}{wi:TI}{g:TG}{tt:TT}{te:TE} (hc:X.calm=true) (hN:X.N.Nodup) (hy:X.N[i]? = some y) (hyl:X.env.scope.names.lookup y=some .local)
  (hsw:swapsWith (.ListComp elt [⟨tg,iter,ifs,0⟩] scope pos) (some (.Name y py)) spos.line X.env=pure true) (hi:PI X tg iter wi) (ok:BlkOk X.N X.env.scope scope own)
  (hg : ∀ (s:Shared) (H:Hp) (C:Addr) (cl:List (Str×Addr)) (fp:List Addr),PG (X.blk s H scope (compEnvC scope cl C X.env) fp) tg g) (ht : ∀ (s:Shared) (H:Hp) (C:Addr) (cl:List (Str×Addr)) (fp:List Addr),PTs (X.blk s H scope (compEnvC scope cl C X.env) fp) ifs tt)
  (he : ∀ (s:Shared) (H:Hp) (C:Addr) (cl:List (Str×Addr)) (fp:List Addr),PE (X.blk s H scope (compEnvC scope cl C X.env) fp) elt te) (hs : ∀ x,foldedSetIterable iter X.env x=pure x:=by intro _;rfl) :
  PS X (.Assign [.Name y py] (.ListComp elt [⟨tg,iter,ifs,0⟩] scope pos) spos) (tAsg (tLc wi g tt te (own.map (·.2))) (dz_ i)):=by
 intro pins s σ H D I h;rw [exec_Assign_Name_used _ _ _ _ hsw];refine wpAny_bind (wpAny_standAt (wpAny_bind ?_));show wpAny _ X.A (do let _ <- comprehension (.ListComp elt [⟨tg,iter,ifs,0⟩] scope pos) scope X.env (firstIterPos [⟨tg,iter,ifs,0⟩] pos) (newList []) false (eval iter X.env) (some (assign (.Name y py) X.env))) _ _ s;have h:tLc wi g tt te (own.map (·.2)) σ H (fun x H1=>dz_ i x σ H1 D.nx):=h;refine wpAny_bind (thn (kB_ (Qf:=fun _ s'=>SP X pins D .next s') hc hN I hi ok hg ht he hs h fun L C s' m H' I' q hn f=>?_) fun _ s' hq=>wpAny_pure (wpAny_pure hq));show wpAny _ _ (assign (.Name y py) X.env (.ref L)) _ _ _;refine wpAny_assign_Name (gq_ (v:=V.ref L) I' hN hy (.inl hyl) rfl (fun s2 I2 ⟨a,sb,ha⟩=>?_) (.inr hyl));obtain ⟨f0,f1,f2,f3,f4,f5⟩:=f;have haC:C≠a:=by
  rcases ha with z | z
  ·rw [z];exact f1
  exact fun e=>f4 y a z e.symm
 refine ⟨m,hn.sameBut sb haC,fun h3 sb3=>?_⟩;exact ⟨_,H',I2.turned (t':=s2.toks) (fun b o hb e=>(sb3.2 b hb).trans e) f0 f1 f3 f4 f5,q⟩
end
def blkC (N:List Str) (sc scope:Scope) (own:List (Str×Nat)):Bool :=
 (match scope.kind with | .function=>true | _=>false) && (scope.names.all fun y=>decide (scope.names.lookup y.1=some y.2)) && (own.all fun p=>decide (N[p.2]? = some p.1)) &&
  (scope.names.all fun y=>match y.2 with
   | .free=>(match sc.names.lookup y.1 with | some .cell=>true | some .free=>true | _=>false)
   | .local=>decide (y.1∈own.map (·.1)) || decide (y.1∉N)
   | .cell=>decide (y.1∈own.map (·.1)) || decide (y.1∉N)
   | _=>true)
theorem cz_ {N:List Str}{sc scope:Scope}{own:List (Str×Nat)} (h:blkC N sc scope own=true):BlkOk N sc scope own:=by
 unfold blkC at h;simp only [and_eq_true,List.all_eq_true,decide_eq_true_eq] at h;obtain ⟨⟨⟨h1,h2⟩,h3⟩,h4⟩:=h;refine ⟨?_,h2,h3,fun y hy e=>?_,fun y hy e=>?_⟩
 ·split at h1
  ·assumption
  cases h1
 ·have q:=h4 y hy
  simp only [e] at q;split at q <;> first | exact .inl (by assumption) | exact .inr (by assumption) | cases q
 have q:=h4 y hy;rcases e with e | e <;> (simp only [e,Bool.or_eq_true,decide_eq_true_eq] at q;exact q)
end L2
namespace L2
open PySem PySem.Spec PyProof.Rows
section
variable {prog:Program}{w:World}{A:Around}{R:Result->Shared->Prop}{s:Shared}{elt t0 i0 t1 i1:Expr}{ifs0 ifs1:List Expr}{scope:Scope}{pos:Pos}{it acc:Value}{env:Env}
end
section
variable {X:Cx}
end
end L2
namespace L2
open PySem PySem.Spec PyProof.Rows
section
variable {κ:Type} [DecidableEq κ]
def valV (kvs:List (κ×V)) (k:κ):Option V:=(kvs.find? fun kv=>decide (kv.1=k)).map (·.2)
noncomputable def putK (kvs:List (κ×V)) (k:κ) (v:V):List (κ×V) :=
 if (kvs.any fun kv=>decide (kv.1=k))=true then kvs.map (fun kv=>if kv.1=k then (kv.1,v) else kv) else kvs++[(k,v)]
theorem h0_ {p:κ×V}{r:List (κ×V)}{k:κ} (e:p.1=k):valV (p::r) k=some p.2:=by simp [valV,find?_cons,e]
theorem h1_ {p:κ×V}{r:List (κ×V)}{k:κ} (e : ¬ p.1=k):valV (p::r) k=valV r k:=by simp [valV,find?_cons,e]
theorem RelO.isSome_eq {o:Option V}{u:Option Value} (r:RelO o u):o.isSome=u.isSome:=by
 cases o with
 | none=>cases u with
  | none=>rfl
  | some _=>exact (show False from r).elim
 | some _=>cases u with
  | none=>exact (show False from r).elim
  | some _=>rfl
theorem RelO.getD {o:Option V}{u:Option Value}{d:V}{d':Value} (r:RelO o u) (rd:RelV d d'):RelV (o.getD d) (u.getD d'):=by
 cases o with
 | none=>cases u with
  | none=>exact rd
  | some _=>exact (show False from r).elim
 | some _=>cases u with
  | none=>exact (show False from r).elim
  | some _=>exact r
theorem KV.val {kvs:List (κ×V)}{vs:List (κ×Value)} (r:KV kvs vs) (k:κ):RelO (valV kvs k) (valueAt vs k):=by
 unfold KV at r
 induction r with
 | nil=>exact True.intro
 | @cons p q ps qs h t ih =>
 obtain ⟨h1,h2⟩:=h;by_cases e:p.1=k
 ·have e':q.1=k:=h1.symm.trans e
  have b:valueAt (q::qs) k=some q.2:=by simp [valueAt,find?_cons,e']
  rw [h0_ e,b];exact h2
 have e' : ¬ q.1=k:=fun z=>e (h1.trans z);have b:valueAt (q::qs) k=valueAt qs k:=by simp [valueAt,find?_cons,e']
 rw [h1_ e,b];exact ih
theorem KV.keys {kvs:List (κ×V)}{vs:List (κ×Value)} (r:KV kvs vs):kvs.map (·.1)=vs.map (·.1):=by
 unfold KV at r
 induction r with
 | nil=>rfl
 | cons h t ih=>rw [map_cons,map_cons,ih,h.1]
end
theorem oO_ {P:Program}{w:World}{k:Key}{u:Value} (r:RelV (kV k) u):(bE_ P w).is k u=true:=by
 cases k with
 | inl i=>obtain ⟨t,e⟩:=(show ∃ t,u=Value.int i t from r);subst e;exact hA_ P w i t
 | inr x=>obtain ⟨t,e⟩:=(show ∃ t,u=Value.str x t from r);subst e;exact eF_ P w x t
abbrev KT (H:Hp):List (List Key×V)->List (List Key×Addr×Value)->Prop:=Paired fun p q=>p.1=q.1/\H q.2.1=some (.tup (p.1.map kV))/\RelV p.2 q.2.2
theorem KT.keeps {H H':Hp}{kvs:List (List Key×V)}{xs:List (List Key×Addr×Value)} (r:KT H kvs xs) (ht : ∀ b ys,H b=some (.tup ys)->H' b=some (.tup ys)):KT H' kvs xs :=
 Paired.mapP r fun _ _ z=>⟨z.1,ht _ _ z.2.1,z.2.2⟩
section
variable {P:Program}{w:World}{H:Hp}{h:Heap}{a:Addr}
end
def DGet (H:Hp) (a:Addr) (y:V) (r:Option V):Prop :=
 (∃ kvs k,Rd H a (.dK kvs)/\y=kV k/\r=valV kvs k)\/∃ kvs k b,Rd H a (.dT kvs)/\y = .ref b/\H b=some (.tup (k.map kV))/\r=valV kvs k
def DPut (H:Hp) (a:Addr) (y v:V) (H':Hp):Prop :=
 (∃ kvs k,H a=some (.dK kvs)/\y=kV k/\kvs.length<sizeLine/\H'=upd H a (.dK (putK kvs k v))) \/
 ∃ kvs k b,H a=some (.dT kvs)/\y = .ref b/\H b=some (.tup (k.map kV))/\kvs.length<sizeLine/\H'=upd H a (.dT (putK kvs k v))
theorem DGet.t {H:Hp}{a b:Addr}{kvs:List (List Key×V)}{k:List Key} (e:H a=some (.dT kvs)) (eb:H b=some (.tup (k.map kV))):DGet H a (.ref b) (valV kvs k) := .inr ⟨kvs,k,b,.inl e,rfl,eb,rfl⟩
theorem DPut.t {H:Hp}{a b:Addr}{kvs:List (List Key×V)}{k:List Key}{v:V} (e:H a=some (.dT kvs)) (eb:H b=some (.tup (k.map kV))) (hl:kvs.length<sizeLine) :
  DPut H a (.ref b) v (upd H a (.dT (putK kvs k v))) := .inr ⟨kvs,k,b,e,rfl,eb,hl,rfl⟩
section
variable {X:Cx}{pins:List (Addr×Obj)}{σ:St}{H:Hp}{s:Shared}{a:Addr}{y v:V}{u r:Value}{o:Option V}{A:Around}{E:Value->Shared->Prop}
theorem Inv.big (I:Inv X pins σ H s):sysModules<s.heap.objs.size:=by
 have h:mainGlobals<s.heap.objs.size:=(I.mod.glob.keeps I.bk).lt;exact Nat.lt_trans (by decide) h
end
section
variable {X:Cx}{pins:List (Addr×Obj)}{σ:St}{H:Hp}{s:Shared}{a:Addr}{kvs:List (Key×V)}{k:Key}{u:Value}{A:Around}{E:Value->Shared->Prop}
end
def NoSl (i:Expr):Prop:=∀ ov iv,subscripted i false ov iv=operate [ov,iv] (getItem ov iv)
theorem na_ {prog:Program}{w:World}{A:Around}{E:Value->Shared->Prop}{s:Shared}{env:Env}{value slice:Expr}{pos:Pos}{T id:String}{Q:Value->Shared->Prop}
  (hl:typeLookup (.type T) "__getitem__"=pure (some (.builtin id))) (hs:NoSl slice)
  (h:wpAny (model prog w) A (eval value env) (fun o s₁=>wpAny (model prog w) A (eval slice env) (fun i s₂=>s₂.TypeIs o T/\wpAny (model prog w) A (getItem o i) Q E s₂) E s₁) E s) :
  wpAny (model prog w) A (eval (.Subscript value slice pos) env) Q E s:=by
 refine Subscript_ (wpAny_mono h (fun o s₁ h₁=>wpAny_mono h₁ (fun i s₂ h₂=>?_) fun _ _ x=>x) fun _ _ x=>x);obtain ⟨hT,h₂⟩:=h₂;unfold subscriptTail;refine wpAny_bind ?_;rw [getitemInPython_of_ne hT.not_modules];refine wpAny_bind (wpAny_specialOf hT hl ?_);have fin:wpAny (model prog w) A (subscripted slice false o i) (fun r s₃=>wpAny (model prog w) A (letTemporaryGo value o r >>= fun _=>pure r) Q E s₃) E s₂:=by
  rw [hs o i];exact wpAny_operating (wpAny_mono h₂ (fun r s₃ h₃=>wpAny_bind (wpAny_letTemporaryGo (wpAny_pure h₃))) fun _ _ x=>x)
 first
  | exact wpAny_pure (wpAny_bind fin)
  | exact wpAny_bind (wpAny_pure (wpAny_bind fin))
  | exact wpAny_bind fin
section
variable {X:Cx}{o i e value:Expr}{pos pos' tpos:Pos}{td ty tv:TE}
end
section
variable {X:Cx}{pos:Pos}
end
section
variable {X:Cx}{pins:List (Addr×Obj)}{σ:St}{H:Hp}{s:Shared}{a:Addr}{y d:V}{u r:Value}{o:Option V}{A:Around}{E:Value->Shared->Prop}
end
section
variable {X:Cx}{o e f:Expr}{apos cpos:Pos}{td ty tx:TE}
end
section
variable {X:Cx}{pins:List (Addr×Obj)}{σ:St}{H:Hp}{s:Shared}{a:Addr}{kvs:List (Key×V)}{A:Around}{E:Value->Shared->Prop}
end
section
variable {X:Cx}{pins:List (Addr×Obj)}{σ:St}{H:Hp}{s:Shared}{a:Addr}{y:V}{u:Value}{A:Around}{E:Value->Shared->Prop}
end
end L2
namespace L2
open PySem PySem.Spec PyProof.Rows
section
variable {prog:Program}{w:World}{A:Around}{E:Value->Shared->Prop}
end
section
variable {X:Cx}
end
end L2
namespace L2
open PySem PySem.Spec PyProof.Rows
theorem cG_:bootBuiltins "reversed"=some (.type "reversed"):=by decide +kernel
section
variable {X:Cx}{pins:List (Addr×Obj)}{σ:St}{H:Hp}{s:Shared}{h':Heap}
theorem Inv.turnedNew {t':Nat}{ch:List Addr}{T:Addr}{ob:HO} (I:Inv X pins σ H s) (k : ∀ b o,b∉ch->s.heap.get? b=some o->h'.get? b=some o) (hf : ∀ b∈ch,FpOk X pins H b) (hT:s.heap.objs.size<=T)
  (new:a8_ X.prog X.w (upd H T ob) h' T ob):Inv X pins σ (upd H T ob) { s with heap:=h',toks:=t' }:=by
 have hn:H T=none:=I.hok.fresh hT;have nit : ∀ b u,H b=some u->b∉ch:=fun b u e z=>by
  have q:=(hf b z).1;rw [q] at e;cases e
 refine I.step (g':=s.gens) (d':=s.drawn) (ch:=ch) (fun b hb=>⟨(hf b hb).2.2.2.1,(hf b hb).2.1,(hf b hb).2.2.2.2.1,(hf b hb).2.2.2.2.2⟩) (fun b o _ _ hc e _=>k b o hc e) (fun b o _ _ hc e _=>⟨o.slots,k b o hc e⟩)
  (fun b o _ e n=>?_) (fun b o hc e=>⟨o,k b o hc e⟩) (fun b xs e=>?_) (fun b o u e=>?_) (fun b ps e=>⟨#[],?_⟩) (fun m hm=>?_) (fun b u e=>?_) I.bare
 ·rw [al_ (Nat.ne_of_lt (Nat.lt_of_lt_of_le (Heap.lt_size e) hT))];exact n
 ·rw [al_ (ag_ e hn)];exact e
 ·rw [al_ (ag_ e hn)];exact e
 ·rw [al_ (ag_ e hn),e];simp
 ·obtain ⟨o,es,ep,ho,r⟩:=hm
  exact ⟨o,es,ep,k _ o (fun z=>(hf _ z).2.1 rfl) ho,r⟩
 by_cases hb:b=T
 ·subst hb
  rw [ab_] at e;cases e;exact new
 rw [al_ hb] at e;refine (I.hok b u e).stay (fun c v hc q=>k c v ?_ q) (fun c q=>by rw [al_ (ag_ q hn)];exact q) fun c xs q=>by rw [al_ (ag_ q hn)];exact q
 rcases hc with z | z
 ·rw [z];exact nit b u e
 exact nit c _ z
end
section
variable {X:Cx}
theorem ij_ {tg:Expr}{pins:List (Addr×Obj)}{σ:St}{H:Hp}{s:Shared}{R:It->Hp->Prop}{J:It}{tn:Nat->Heap->Prop}{tk:Nat} (I:Inv X pins σ H s) (o:Obj)
  (T:Turn X.prog X.w X.K tg J [s.heap.objs.size] s.heap.objs.size tn) (st:tn 0 (s.heap.push o)) (q:R J H):PIE X pins σ tg R (.ref s.heap.objs.size) { s with heap:=s.heap.push o,toks:=tk }:=by
 refine ⟨s.heap.objs.size,[s.heap.objs.size],tn,J,H,rfl,I.kept fun b ob e=>Heap.get?_push_of_some _ e,T,st,fun b hb=>?_,q⟩;have e:b=s.heap.objs.size:=by simpa using hb
 subst e;exact I.fpOk (Nat.le_refl _) (I.hok.fresh (Nat.le_refl _))
end
def RgC (i j c:Int) (n:Nat):Prop:=c≠0/\c.natAbs<1073741824/\Builtin.Range.small i j c=true/\Builtin.Range.rangeSize i j c=n
theorem RgC.neg {i j:Int} (ha : -(2 ^ 62)<=i) (ha':i<2 ^ 62) (hb : -(2 ^ 62)<=j) (hb':j<2 ^ 62):RgC i j (-1) (i - j).toNat :=
 ⟨by decide,by decide,PySem.W.small_down ha ha' hb hb',PySem.W.rangeSize_downNat i j⟩
section
variable {X:Cx}{tg:Expr}
end
def Itv (K:PySem.W.Frag) (a:Addr) (n:Nat):It :=
 ⟨fun i H=>i<n/\∃ (xs:List V) (x:V),SqL K H a xs/\xs[n - 1 - i]? = some x,fun i H x H'=>H'=H/\∀ xs,SqL K H a xs->xs[n - 1 - i]? = some x,fun i _=>n<=i⟩
theorem lm_ {P:Program}{w:World}{K:PySem.W.Frag}{tg:Expr} (a it:Addr) (n:Nat):Turn P w K tg (Itv K a n) [it] it (fun i h=>i<=n/\h.IsRevIter it a ((n:Int) - 1 - (i:Nat))) where
 mem:=by simp
 obj:=fun i h st b hb=>by
  have e:b=it:=by simpa using hb
  subst e;obtain ⟨_,o,e,c,d⟩:=st;exact ⟨o,e,fun v z=>by rw [d] at z;cases z⟩
 keep:=fun i h h' st k=>⟨st.1,st.2.at fun o e=>k it (by simp) o e⟩
 item:=by
  intro X hP hw hK hc i pins s σ H E I hf st hg;subst hP hw hK;obtain ⟨hin,xs,x,hq,hx⟩:=hg;obtain ⟨its,rv,p,hz⟩:=I.list hq;obtain ⟨u,hu,ru⟩:=rv.get hx;obtain ⟨f0,f1,f2,f3,f4,f5⟩:=hf it (by simp);obtain ⟨_,hit⟩:=st;have e1:(n:Int) - 1 - ((i:Nat):Int)=((n - 1 - i:Nat):Int):=by omega
  rw [e1] at hit;refine wpAny_pyNext_rev_item hit p.isList (x:=u) (by simpa using hu) fun h' st' sb=>?_;have e2:((n - 1 - i:Nat):Int) - 1=(n:Int) - 1 - ((i+1:Nat):Int):=by omega
  rw [e2] at st';have I1:Inv X pins σ H { s with heap:=h' }:=I.turned (t':=s.toks) (fun b o hb e=>(sb.2 b hb).trans e) f0 f1 f3 f4 f5;obtain ⟨o,e,c,d⟩:=id st';exact ⟨u,rfl,l2_ (s:={ s with heap:=h' }) e c d (by decide) ⟨x,H,I1,ru,⟨rfl,fun ys hy=>by rw [I.list_inj hy hq];exact hx⟩,⟨hin,st'⟩,fun b hb=>(hf b hb).1⟩⟩
 done:=by
  intro X hP hw hK hc i pins s σ H E I hf st hg;subst hP hw hK;obtain ⟨f0,f1,f2,f3,f4,f5⟩:=hf it (by simp);obtain ⟨hin,hit⟩:=st;have hge:n<=i:=hg;have e1:(n:Int) - 1 - ((i:Nat):Int) = -1:=by omega
  rw [e1] at hit;exact wpAny_pyNext_rev_end (I.ok.hd hc) hit fun h' eb=>⟨rfl,I.turned (t':=s.toks) (fun b o hb e=>eb b o hb e) f0 f1 f3 f4 f5⟩
 self:=fun A i s Q E st h=>wpAny_pyIter_revIter st.2 h
def iRev (K:PySem.W.Frag) (ta:TA):TI:=fun σ H R=>ta σ H fun vs H1=>∃ (a:Addr) (xs:List V),vs=[.ref a]/\SqL K H1 a xs/\R (Itv K a xs.length) H1
section
variable {X:Cx}{tg:Expr}
theorem ez_ {e:Expr}{ta:TA}{p pos:Pos} (hg:Gl X "reversed") (hm:X.mg "reversed"=none) (ha:PA X [e] ta) (hs:starEach [e] X.env=[(false,eval e X.env)]:=by rfl):PI X tg (.Call (.Name "reversed" p) [e] [] pos) (iRev X.K ta):=by
 intro pins s σ H R I h;refine Call_ (dN_ I hg hm cG_ (PyProof.Rows.callWith_type1 (thn (ha pos pins s σ H _ I h) fun us s1 zq=>?_) hs rfl));obtain ⟨vs,H1,I1,r1,q1⟩:=zq;obtain ⟨a,xs,e,hq,q⟩:=q1;subst e;cases r1 with
 | cons r rr =>
 cases rr;cases r;obtain ⟨its,rv,p',hz⟩:=I1.list hq;have hl:=rv.length;have e1:((its.toArray.size:Nat):Int) - 1=(xs.length:Int) - 1 - ((0:Nat):Int):=by simp only [size_toArray];omega
 refine call_reversed_list p'.isList (wpAny_pyIter_revIter (l:=a) (i:=((its.toArray.size:Nat):Int) - 1) ⟨_,Heap.get?_push_size _ rfl,rfl,rfl⟩ ?_);refine ij_ (tk:=s1.toks) I1 _ (lm_ a _ xs.length) ⟨zero_le _,?_⟩ q;rw [<- e1];exact ⟨_,Heap.get?_push_size _ rfl,rfl,rfl⟩
end
noncomputable def Its (x:Str):It:=⟨fun i _=>i<x.cps.size,fun i H v H'=>H'=H/\∃ c,x.cps[i]? = some c/\v = .str ⟨#[c]⟩,fun i _=>x.cps.size<=i⟩
theorem h4_ {P:Program}{w:World}{K:PySem.W.Frag}{tg:Expr} (it:Addr) (x:Str) (t:Tok) (ty:String) (hty:ty="str_ascii_iterator"\/ty="str_iterator") :
  Turn P w K tg (Its x) [it] it (fun i h=>h.IsStrIter it ty x t i) where
 mem:=by simp
 obj:=fun i h st b hb=>by
  have e:b=it:=by simpa using hb
  subst e;obtain ⟨o,e,c,d⟩:=st;exact ⟨o,e,fun v z=>by rw [d] at z;cases z⟩
 keep:=fun i h h' st k=>let ⟨o,ho,r⟩:=st;⟨o,k it (by simp) o ho,r⟩
 item:=by
  intro X hP hw hK hc i pins s σ H E I hf st hg;subst hP hw hK;obtain ⟨f0,f1,f2,f3,f4,f5⟩:=hf it (by simp);have W:Walks X.prog X.w X.A it [it] [it] x.cps.size (SignAt x) (fun i h=>h.IsStrIter it ty x t i):=by
   rcases hty with e | e
   ·rw [e];exact Walks.strAscii (I.ok.hd hc) it x t
   rw [e];exact Walks.strWide (I.ok.hd hc) it x t
  have hno:["enumerate","zip","dict_itemiterator","dict_reverseitemiterator","odict_iterator","itertools.zip_longest","itertools.pairwise"].contains ty=false:=by
   rcases hty with e | e
   ·rw [e];decide
   rw [e];decide
  refine W.item i s _ _ hg st fun v h' tk hv st' kk=>?_;obtain ⟨c,u,hcx,rfl⟩:=hv;have I1:Inv X pins σ H { s with heap:=h',toks:=tk }:=I.turned (fun b o hb e=>kk b o (by simpa using hb) e) f0 f1 f3 f4 f5;obtain ⟨oi,e,cc,dd⟩:=id st';exact ⟨_,rfl,l2_ (s:={ s with heap:=h',toks:=tk }) e cc dd hno ⟨.str ⟨#[c]⟩,H,I1,⟨u,rfl⟩,⟨rfl,c,hcx,rfl⟩,st',fun b hb=>(hf b hb).1⟩⟩
 done:=by
  intro X hP hw hK hc i pins s σ H E I hf st hg;subst hP hw hK;obtain ⟨f0,f1,f2,f3,f4,f5⟩:=hf it (by simp);have hx:x.cps[i]? = none:=Array.getElem?_eq_none hg;rcases hty with e | e
  ·rw [e] at st
   exact wpAny_pyNext_ascii_end (I.ok.hd hc) st hx fun h' eb=>⟨rfl,I.turned (t':=s.toks) (fun b o hb e=>eb b o hb e) f0 f1 f3 f4 f5⟩
  rw [e] at st;exact wpAny_pyNext_wide_end (I.ok.hd hc) st hx fun h' eb=>⟨rfl,I.turned (t':=s.toks) (fun b o hb e=>eb b o hb e) f0 f1 f3 f4 f5⟩
 self:=fun A i s Q E st h=>by
  rcases hty with e | e
  ·rw [e] at st;exact wpAny_pyIter_striter_ascii st h
  rw [e] at st;exact wpAny_pyIter_striter_wide st h
def iStr (te:TE):TI:=fun σ H R=>te σ H fun v H1=>∃ x,v = .str x/\R (Its x) H1
theorem j7_ {X:Cx}{tg e:Expr}{te:TE} (he:PE X e te):PI X tg e (iStr te):=by
 intro pins s σ H R I h;refine thn (he pins s σ H _ I h) fun v s1 zq=>?_;obtain ⟨y,H1,I1,r1,x,ex,q⟩:=zq;subst ex;obtain ⟨t,rfl⟩:=r1;cases ha:x.cps.all (· < 128)
 ·exact wpAny_pyIter_wide ha (ij_ (tk:=s1.toks) I1 _ (h4_ _ x t "str_iterator" (.inr rfl)) ⟨_,Heap.get?_push_size _ rfl,rfl,rfl⟩ q)
 exact wpAny_pyIter_ascii ha (ij_ (tk:=s1.toks) I1 _ (h4_ _ x t "str_ascii_iterator" (.inl rfl)) ⟨_,Heap.get?_push_size _ rfl,rfl,rfl⟩ q)
section
variable {prog:Program}{w:World}{A:Around}{E:Value->Shared->Prop}{s:Shared}
end
theorem dt_ {α β:Type}{G:α->β->Prop}{l₁:List α}{l₂:List β} (h:Paired G l₁ l₂) : ∀ {i:Nat}{a:α},l₁[i]? = some a->∃ b,l₂[i]? = some b/\G a b:=by
 induction h with
 | nil=>intro i a e;simp at e
 | @cons a b l₁ l₂ r t ih =>
 intro i a' e;cases i with
 | zero =>
  simp only [List.getElem?_cons_zero,Option.some.injEq] at e;subst e;exact ⟨b,rfl,r⟩
 | succ j =>
 simp only [List.getElem?_cons_succ] at e ⊢;exact ih e
section
variable {X:Cx}{pins:List (Addr×Obj)}{σ:St}{H:Hp}{s:Shared}{d:Addr}{o:Obj}
end
section
variable {P:Program}{w:World}{K:PySem.W.Frag}{tg:Expr}{d:Addr}{o:Obj}{es:Array DictEntry}{ep:Nat}
end
section
variable {X:Cx}{tg e:Expr}{td:TE}{apos cpos:Pos}
end
noncomputable def Ite (K:PySem.W.Frag) (a:Addr):It :=
 ⟨fun i H=>∃ (xs:List V) (x:V),SqL K H a xs/\xs[i]? = some x,fun i H v H'=>∃ T x,v = .ref T/\H T=none/\H'=upd H T (.tup [.int (i:Nat),x])/\∀ xs,SqL K H a xs->xs[i]? = some x,fun i H=>∃ xs:List V,SqL K H a xs/\xs.length<=i⟩
theorem jA_ {P:Program}{w:World}{K:PySem.W.Frag}{elts:List Expr}{kk:Nat}{tpos:Pos} (a e it:Addr) :
  Turn P w K (.Tuple elts kk tpos) (Ite K a) [e,it] e (fun i h=>(∃ old,IsEnum h e it ((i:Nat):Int) old)/\h.IsListIter it a i/\e≠it) where
 mem:=by simp
 obj:=fun i h st b hb=>by
  obtain ⟨⟨old,he⟩,⟨o,ho,hc,hd⟩,_⟩:=st;have e':b=e\/b=it:=by simpa using hb
  rcases e' with z | z
  ·rw [z];exact ⟨_,he,fun v q=>nomatch q⟩
  rw [z];exact ⟨o,ho,fun v q=>by rw [hd] at q;cases q⟩
 keep:=fun i h h' st k=>let ⟨⟨old,he⟩,hi,hne⟩:=st;⟨⟨old,k e (by simp) _ he⟩,hi.at fun o q=>k it (by simp) o q,hne⟩
 item:=by
  intro X hP hw hK hc i pins s σ H E I hf st hg;subst hP hw hK;obtain ⟨⟨old,he⟩,hit,hne⟩:=st;obtain ⟨xs,x,hq,hx⟩:=hg;obtain ⟨its,rv,p,hz⟩:=I.list hq;obtain ⟨u,hu,ru⟩:=rv.get hx;have hel:e<s.heap.objs.size:=Heap.lt_size he;have hil:it<s.heap.objs.size:=by obtain ⟨_,q,_⟩:=hit;exact Heap.lt_size q
  refine wpAny_pyNext_enum_item he hit p.isList (x:=u) (by simpa using hu) hne fun h' ho hit' hT hsz hk=>?_;refine ⟨_,rfl,wpAny_letOwnedTupleGo_enum (s:={ s with heap:=h',toks:=s.toks+1 }) ho fun h'' he' sb=>?_⟩;have hT2:h''.get? s.heap.objs.size=some { cls := .type "tuple",data := .seq #[.int i s.toks,u] }:=(sb.2 _ (ne_of_gt hel)).trans hT;have new:a8_ X.prog X.w (upd H s.heap.objs.size (.tup [.int (i:Nat),x])) h'' s.heap.objs.size (.tup [.int (i:Nat),x]) :=
   ⟨by show 2<=sizeLine;decide,[.int i s.toks,u],.cons ⟨_,rfl⟩ (.cons ru .nil),⟨_,hT2,rfl,_,rfl⟩⟩
  have I1:Inv X pins σ (upd H s.heap.objs.size (.tup [.int (i:Nat),x])) { s with heap:=h'',toks:=s.toks+1 } :=
   I.turnedNew (ch:=[e,it]) (fun b ob hb q=>(sb.2 b (fun z=>hb (by simp [z]))).trans (hk b ob (fun z=>hb (by simp [z])) (fun z=>hb (by simp [z])) q)) hf (Nat.le_refl _) new
  refine ⟨.ref s.heap.objs.size,_,I1,rfl,⟨_,x,rfl,I.hok.fresh (Nat.le_refl _),rfl,fun ys hy=>by rw [I.list_inj hy hq];exact hx⟩,⟨⟨u,?_⟩,hit'.at fun o q=>(sb.2 it (Ne.symm hne)).trans q,hne⟩,fun b hb=>?_⟩
  ·have e1:((i+1:Nat):Int)=(i:Int)+1:=by omega
   rw [e1];exact he'
  have hb':b<s.heap.objs.size:=by
   have e':b=e\/b=it:=by simpa using hb
   rcases e' with z | z
   ·rw [z];exact hel
   rw [z];exact hil
  rw [al_ (Nat.ne_of_lt hb')];exact (hf b hb).1
 done:=by
  intro X hP hw hK hc i pins s σ H E I hf st hg;subst hP hw hK;obtain ⟨⟨old,he⟩,hit,hne⟩:=st;obtain ⟨xs,hq,hx⟩:=hg;obtain ⟨its,rv,p,hz⟩:=I.list hq;obtain ⟨f0,f1,f2,f3,f4,f5⟩:=hf it (by simp);have hl:=rv.length;exact wpAny_pyNext_enum_end (I.ok.hd hc) he hit p.isList (by simp;omega) fun h' eb=>⟨rfl,I.turned (t':=s.toks) (fun b o hb q=>eb b o hb q) f0 f1 f3 f4 f5⟩
 self:=fun A i s Q E st h=>let ⟨⟨_,he⟩,_⟩:=st;wpAny_pyIter_enum he h
def oS_ (K:PySem.W.Frag) (ta:TA):TI:=fun σ H R=>ta σ H fun vs H1=>∃ a xs,vs=[.ref a]/\SqL K H1 a xs/\R (Ite K a) H1
theorem nq_ {X:Cx}{e:Expr}{ta:TA}{p pos tpos:Pos}{elts:List Expr}{kk:Nat} (hg:Gl X "enumerate") (hm:X.mg "enumerate"=none) (ha:PA X [e] ta) (hs:starEach [e] X.env=[(false,eval e X.env)]:=by rfl) :
  PI X (.Tuple elts kk tpos) (.Call (.Name "enumerate" p) [e] [] pos) (oS_ X.K ta):=by
 intro pins s σ H R I h;refine Call_ (dN_ I hg hm boot_enumerate (PyProof.Rows.callWith_type1 (thn (ha pos pins s σ H _ I h) fun us s1 zq=>?_) hs rfl));obtain ⟨vs,H1,I1,r1,q1⟩:=zq;obtain ⟨a,xs,ex,hq,q⟩:=q1;subst ex;cases r1 with
 | cons r rr =>
 cases rr;cases r;obtain ⟨its,rv,p',hz⟩:=I1.list hq;refine call_enumerate_list p'.isList fun h' he hit hsz hk=>wpAny_pyIter_enum he ?_;have I2:Inv X pins σ H1 { s1 with heap:=h' }:=I1.kept (t':=s1.toks) hk;refine ⟨s1.heap.objs.size+1,[s1.heap.objs.size+1,s1.heap.objs.size],_,_,H1,rfl,I2,jA_ a (s1.heap.objs.size+1) s1.heap.objs.size,⟨⟨.none,he⟩,hit,Nat.succ_ne_self _⟩,fun b hb=>?_,q⟩;have e':b=s1.heap.objs.size+1\/b=s1.heap.objs.size:=by simpa using hb
 have hle:s1.heap.objs.size<=b:=by
  rcases e' with z | z
  ·rw [z];exact Nat.le_add_right _ _
  rw [z];exact Nat.le_refl _
 exact I1.fpOk hle (I1.hok.fresh hle)
end L2
section
end
section
namespace TL
open PySem PySem.Builtin PySem.Builtin.Str PySem.StrLaws
noncomputable abbrev tl (x:Str):List Nat:=x.cps.toList
theorem dc_ (x:Str):x.length=(tl x).length:=by simp [tl,Str.length]
theorem cd_ {x y:Str} (h:tl x=tl y):x=y:=Str.ext' (Array.toList_inj.mp h)
theorem ci_ (x y:Str):tl (x++y)=tl x++tl y:=by
 show (x++y).cps.toList=_;rw [Str.cps_append,Array.toList_append]
theorem n8_ (l:List Nat):tl ⟨l.toArray⟩=l:=rfl
theorem oH_ (x:Str):(⟨(tl x).toArray⟩:Str)=x:=cd_ rfl
theorem bU_ : ∀ {l m:List Str},l.map tl=m.map tl->l=m
 | [],[],_=>rfl
 | [],_::_,h=>by simp at h
 | _::_,[],h=>by simp at h
 | x::l,y::m,h=>by
  rw [map_cons,map_cons] at h;injection h with h1 h2;rw [cd_ h1,bU_ h2]
theorem hj_ (s:String):tl (Str.ofString s)=s.toList.map Char.toNat:=PyProof.Rows.signs_ofString s
def pre (S l:List Nat):Bool:=l.take S.length == S
noncomputable def spl (S:List Nat):Nat->List Nat->List Nat->List (List Nat)
 | _,acc,[]=>[acc]
 | 0,acc,c::r=>if pre S (c::r)=true then acc::spl S (S.length - 1) [] r else spl S 0 (acc++[c]) r
 | k+1,acc,_::r=>spl S k acc r
def par (S:List Nat):List Nat->List Nat->Option (List Nat×List Nat)
 | _,[]=>none
 | acc,c::r=>if pre S (c::r)=true then some (acc,(c::r).drop S.length) else par S (acc++[c]) r
theorem cJ_ (S:List Nat) (k:Nat) (acc:List Nat):spl S k acc []=[acc]:=by cases k <;> rfl
theorem fL_ {S acc r:List Nat}{c:Nat} (h:pre S (c::r)=true):spl S 0 acc (c::r)=acc::spl S (S.length - 1) [] r:=by
 show (if pre S (c::r)=true then acc::spl S (S.length - 1) [] r else spl S 0 (acc++[c]) r)=_;rw [if_pos h]
theorem d3_ {S acc r:List Nat}{c:Nat} (h:pre S (c::r)=false):spl S 0 acc (c::r)=spl S 0 (acc++[c]) r:=by
 show (if pre S (c::r)=true then acc::spl S (S.length - 1) [] r else spl S 0 (acc++[c]) r)=_;rw [if_neg (by rw [h];exact Bool.false_ne_true)]
theorem d2_ (S:List Nat) : ∀ (k:Nat) (acc l:List Nat),spl S k acc l=spl S 0 acc (l.drop k)
 | 0,_,_=>by rw [drop_zero]
 | k+1,acc,[]=>by rw [List.drop_nil,cJ_,cJ_]
 | k+1,acc,c::r=>by
  show spl S k acc r=spl S 0 acc (r.drop k);exact d2_ S k acc r
theorem nu_ {S acc r:List Nat}{c:Nat} (h:pre S (c::r)=true):par S acc (c::r)=some (acc,(c::r).drop S.length):=by
 show (if pre S (c::r)=true then some (acc,(c::r).drop S.length) else par S (acc++[c]) r)=_;rw [if_pos h]
theorem lN_ {S acc r:List Nat}{c:Nat} (h:pre S (c::r)=false):par S acc (c::r)=par S (acc++[c]) r:=by
 show (if pre S (c::r)=true then some (acc,(c::r).drop S.length) else par S (acc++[c]) r)=_;rw [if_neg (by rw [h];exact Bool.false_ne_true)]
theorem j4_ {S:List Nat} (hS:S≠[]):pre S []=false:=by
 cases S with
 | nil=>exact absurd rfl hS
 | cons s S=>rfl
theorem hr_ {s c:Nat} (S r:List Nat) (h:c≠s):pre (s::S) (c::r)=false:=by
 cases hp:pre (s::S) (c::r) with
 | false=>rfl
 | true =>
 have e:(c::r).take (s::S).length=s::S:=eq_of_beq hp;rw [length_cons,take_succ_cons] at e;injection e with e1 e2;exact absurd e1 h
theorem ifz_ (S r:List Nat):pre S (S++r)=true:=by
 show ((S++r).take S.length == S)=true;have e:(S++r).take S.length=S:=List.take_left;rw [e] <;> exact beq_self_eq_true S
theorem bV_ {L:List Nat}{a:Nat} (h:a<L.length) : ∃ c,L.drop a=c::L.drop (a+1):=⟨L[a],drop_eq_getElem_cons h⟩
theorem es_ (S L:List Nat) : ∀ (m a:Nat) (acc:List Nat),a+m<=L.length->(∀ k,a<=k->k<a+m->pre S (L.drop k)=false) ->
  spl S 0 acc (L.drop a)=spl S 0 (acc++(L.drop a).take m) (L.drop (a+m))
 | 0,a,acc,_,_=>by rw [List.take_zero,append_nil,add_zero]
 | m+1,a,acc,h,hn=>by
  have hlt:a<L.length:=by omega
  obtain ⟨c,e⟩:=bV_ hlt;have h0:=hn a (Nat.le_refl _) (by omega);have ih:=es_ S L m (a+1) (acc++[c]) (by omega) (fun k h1 h2=>hn k (by omega) (by omega));have e2:a+1+m=a+(m+1):=by omega
  rw [e2] at ih;rw [e] at h0;rw [e,d3_ h0,ih,take_succ_cons,append_assoc] <;> rfl
theorem fX_ (S L:List Nat) : ∀ (m a:Nat) (acc:List Nat),a+m<=L.length->(∀ k,a<=k->k<a+m->pre S (L.drop k)=false) ->
  par S acc (L.drop a)=par S (acc++(L.drop a).take m) (L.drop (a+m))
 | 0,a,acc,_,_=>by rw [List.take_zero,append_nil,add_zero]
 | m+1,a,acc,h,hn=>by
  have hlt:a<L.length:=by omega
  obtain ⟨c,e⟩:=bV_ hlt;have h0:=hn a (Nat.le_refl _) (by omega);have ih:=fX_ S L m (a+1) (acc++[c]) (by omega) (fun k h1 h2=>hn k (by omega) (by omega));have e2:a+1+m=a+(m+1):=by omega
  rw [e2] at ih;rw [e] at h0;rw [e,lN_ h0,ih,take_succ_cons,append_assoc] <;> rfl
theorem ea_ (L:List Nat) (a b:Nat):(L.drop a).drop b=L.drop (a+b):=by
 first
  | rw [drop_drop]
  | rw [drop_drop,add_comm]
theorem mv_ {S L:List Nat} (hS:S≠[]) {c:Nat}{acc:List Nat} (h:pre S (L.drop c)=true):spl S 0 acc (L.drop c)=acc::spl S 0 [] (L.drop (c+S.length)):=by
 rw [<- ea_];cases e:L.drop c with
 | nil=>rw [e,j4_ hS] at h;cases h
 | cons d r =>
 rw [e] at h;rw [fL_ h,d2_];cases S with
 | nil=>exact absurd rfl hS
 | cons s S=>rfl
theorem mI_ {S L:List Nat} (hS:S≠[]) {c:Nat}{acc:List Nat} (h:pre S (L.drop c)=true):par S acc (L.drop c)=some (acc,L.drop (c+S.length)):=by
 rw [<- ea_];cases e:L.drop c with
 | nil=>rw [e,j4_ hS] at h;cases h
 | cons d r =>
 rw [e] at h;rw [nu_ h]
theorem lc_ {x y:Str} (hy:tl y≠[]) (i:Nat):At x y x.length i↔pre (tl y) ((tl x).drop i)=true:=by
 have hx:=dc_ x;have hl:=dc_ y
 constructor
 ·intro h
  have h2:=h.2;rw [subAt_eq,hl] at h2;exact h2
 intro h;have e:((tl x).drop i).take (tl y).length=tl y:=eq_of_beq h;have e1:=congrArg List.length e;rw [length_take,length_drop] at e1;have e2:0<(tl y).length:=List.length_pos_iff.mpr hy;refine ⟨by omega,?_⟩;rw [subAt_eq,hl];exact h
theorem lS_ {x y:Str} (hy:tl y≠[]) {i:Nat} (h : ¬ At x y x.length i):pre (tl y) ((tl x).drop i)=false:=by
 cases hp:pre (tl y) ((tl x).drop i) with
 | false=>rfl
 | true=>exact absurd ((lc_ hy i).mpr hp) h
theorem len1 {y:Str} (hy:tl y≠[]):1<=y.length:=by
 have e2:0<(tl y).length:=List.length_pos_iff.mpr hy;rw [dc_ y];exact e2
theorem em_ (x:Str) (i j:Nat):tl (strSub x i j)=((tl x).drop i).take (j - i):=strSub_toList x i j
theorem cZ_ (x:Str) (i:Nat):tl (strSub x i x.length)=(tl x).drop i:=by
 rw [em_,dc_ x];exact take_of_length_le (by rw [length_drop] <;> omega)
theorem gM_ {x y:Str} (hy:tl y≠[]) : ∀ (cuts:List Nat) (a f:Nat),a<=(tl x).length->ChainG x y x.length a cuts f->(∀ k,f<=k->¬ At x y x.length k) ->
  (partsFrom x y.length a cuts).map tl=spl (tl y) 0 [] ((tl x).drop a)
 | [],a,f,ha,h,hn=>by
  have e:f=a:=h;subst e;show [tl (strSub x f x.length)]=_;have run:=es_ (tl y) (tl x) ((tl x).length - f) f [] (by omega) (fun k h1 _=>lS_ hy (hn k h1));have e2:f+((tl x).length - f)=(tl x).length:=by omega
  rw [e2,drop_length,cJ_,nil_append,take_of_length_le (by rw [length_drop] <;> omega)] at run
  rw [run,cZ_]
 | c::r,a,f,ha,h,hn=>by
  obtain ⟨h1,h2,h3,h4⟩:=h;have hc:c+y.length<=x.length:=h2.1;have hx:=dc_ x;have hl:=dc_ y;have ih:=gM_ hy r (c+y.length) f (by omega) h4 hn;show tl (strSub x a c)::(partsFrom x y.length (c+y.length) r).map tl=_;have run:=es_ (tl y) (tl x) (c - a) a [] (by omega) (fun k k1 k2=>lS_ hy (h3 k k1 (by omega)));have e2:a+(c - a)=c:=by omega
  rw [e2,nil_append,mv_ hy ((lc_ hy c).mp h2)] at run;rw [run,ih,em_,hl]
theorem gs_ (x y:Str) (hy:tl y≠[]) (hk : ¬ Builtin.Str.strKind x<Builtin.Str.strKind y):(Txt.split x y).map tl=spl (tl y) 0 [] (tl x):=by
 obtain ⟨f,g,hn⟩:=occ_tight x y (len1 hy);have key:=gM_ hy _ 0 f (zero_le _) g hn;rw [drop_zero] at key;have none_case:occurrences x y 0 x.length (x.length+1)=[]->[x].map tl=spl (tl y) 0 [] (tl x):=fun ho=>by
  rw [ho] at key;rw [<- key];show [tl x]=[tl (strSub x 0 x.length)];rw [sub_whole]
 unfold Txt.split;by_cases h1:(decide (x.length<y.length) || decide (Builtin.Str.strKind x<Builtin.Str.strKind y))=true
 ·rw [if_pos h1]
  have hlt:x.length<y.length:=by
   simp only [Bool.or_eq_true,decide_eq_true_eq] at h1;rcases h1 with h | h
   ·exact h
   exact absurd h hk
  refine none_case ?_;cases ho:occurrences x y 0 x.length (x.length+1) with
  | nil=>rfl
  | cons c r =>
  rw [ho] at g;have hc:c+y.length<=x.length:=g.2.1.1;omega
 rw [if_neg h1];by_cases h2:(occurrences x y 0 x.length (x.length+1)).isEmpty=true
 ·rw [if_pos h2]
  exact none_case (List.isEmpty_iff.mp h2)
 rw [if_neg h2,partsBetween_eq];exact key
theorem kC_ {x y:Str} (h:y.cps.all (· < 256)=true) : ¬ Builtin.Str.strKind x<Builtin.Str.strKind y:=by
 have e:Builtin.Str.strKind y=1:=by unfold PySem.Builtin.Str.strKind;rw [if_pos h]
 rw [e];unfold PySem.Builtin.Str.strKind;split
 ·omega
 split <;> omega
theorem fV_ (x y:Str) (hy:tl y≠[]) :
  Txt.partition x y=(match par (tl y) [] (tl x) with | some (a,b)=>(⟨a.toArray⟩,y,⟨b.toArray⟩) | none=>(x,Str.empty,Str.empty)):=by
 have hx:=dc_ x;have hl:=dc_ y;rcases PyProof.Rows.partition_whole x y with ⟨e,hn⟩ | ⟨i,e,hi,hn⟩
 ·have run:=fX_ (tl y) (tl x) (tl x).length 0 [] (by omega) (fun k _ _=>lS_ hy (hn k))
  rw [drop_zero,zero_add,drop_length] at run;rw [e,run] <;> rfl
 have hb:i+y.length<=x.length:=hi.1;have run:=fX_ (tl y) (tl x) i 0 [] (by omega) (fun k _ k2=>lS_ hy (hn k (by omega)));rw [drop_zero,zero_add,nil_append,mI_ hy ((lc_ hy i).mp hi)] at run;rw [e,run];have e1:strSub x 0 i=⟨((tl x).take i).toArray⟩:=cd_ (by rw [em_,drop_zero,sub_zero]);have e2:strSub x (i+y.length) x.length=⟨((tl x).drop (i+(tl y).length)).toArray⟩:=cd_ (by rw [cZ_,hl]);rw [e1,e2] <;> rfl
theorem ls_ {S p rest acc:List Nat} (hS:S≠[]) (h : ∀ i,i<p.length->pre S ((p++(S++rest)).drop i)=false) :
  spl S 0 acc (p++(S++rest))=(acc++p)::spl S 0 [] rest:=by
 have run:=es_ S (p++(S++rest)) p.length 0 acc (by rw [length_append];omega) (fun k _ k2=>h k (by omega));have ed:(p++(S++rest)).drop p.length=S++rest:=drop_left;rw [drop_zero,zero_add,List.take_left] at run;rw [run,mv_ hS (by rw [ed];exact ifz_ S rest),<- ea_,ed,drop_left]
theorem lt_ {S p acc:List Nat} (h : ∀ i,i<p.length->pre S (p.drop i)=false):spl S 0 acc p=[acc++p]:=by
 have run:=es_ S p p.length 0 acc (by omega) (fun k _ k2=>h k (by omega));rw [drop_zero,zero_add,drop_length,cJ_,take_length] at run;exact run
theorem lM_ {S p rest acc:List Nat} (hS:S≠[]) (h : ∀ i,i<p.length->pre S ((p++(S++rest)).drop i)=false) :
  par S acc (p++(S++rest))=some (acc++p,rest):=by
 have run:=fX_ S (p++(S++rest)) p.length 0 acc (by rw [length_append];omega) (fun k _ k2=>h k (by omega));have ed:(p++(S++rest)).drop p.length=S++rest:=drop_left;rw [drop_zero,zero_add,List.take_left] at run;rw [run,mI_ hS (by rw [ed];exact ifz_ S rest),<- ea_,ed,drop_left]
theorem hH_ {s:Nat}{S p q:List Nat} (h:s∉p) : ∀ i,i<p.length->pre (s::S) ((p++q).drop i)=false:=fun i hi=>by
 have hlt:i<(p++q).length:=by rw [length_append];omega
 have e:(p++q).drop i=(p++q)[i]::(p++q).drop (i+1):=drop_eq_getElem_cons hlt;rw [e];refine hr_ _ _ fun z=>h ?_;have e1:(p++q)[i]=p[i]:=List.getElem_append_left hi;rw [<- z,e1];exact List.getElem_mem hi
theorem gt_ {s:Nat}{S p rest acc:List Nat} (h:s∉p):spl (s::S) 0 acc (p++(s::S++rest))=(acc++p)::spl (s::S) 0 [] rest :=
 ls_ (by simp) (hH_ h)
theorem et_ {s:Nat}{S p acc:List Nat} (h:s∉p):spl (s::S) 0 acc p=[acc++p]:=lt_ fun i hi=>by
 have z:=hH_ (S:=S) (q:=[]) h i hi;rw [append_nil] at z;exact z
theorem kh_ {s:Nat}{S p rest acc:List Nat} (h:s∉p):par (s::S) acc (p++(s::S++rest))=some (acc++p,rest):=lM_ (by simp) (hH_ h)
def dx_ (S:List Nat):List (List Nat)->List Nat
 | []=>[]
 | [p]=>p
 | p::q::r=>p++(S++dx_ S (q::r))
theorem fI_ (y:Str) : ∀ parts:List Str,tl (Str.join y parts)=dx_ (tl y) (parts.map tl)
 | []=>rfl
 | [_]=>rfl
 | x::z::r=>by
  show tl (x++y++Str.join y (z::r))=tl x++(tl y++dx_ (tl y) ((z::r).map tl));rw [ci_,ci_,fI_ y (z::r),append_assoc]
theorem kF_ (y:Str) (parts:List Str):Txt.join y parts=Str.join y parts:=glued_eq_join y parts
theorem fW_ {y:Str}{s:Nat}{S:List Nat} (ey:tl y=s::S) {a b:Str} (h:s∉tl a):Txt.partition (a++y++b) y=(a,y,b):=by
 rw [fV_ _ y (by rw [ey];simp),ci_,ci_,append_assoc,ey,kh_ h];show ((⟨([]++tl a).toArray⟩:Str),y,(⟨(tl b).toArray⟩:Str))=_;rw [nil_append,oH_,oH_]
end TL
end
namespace L2
open PySem PySem.Spec PyProof.Rows
theorem gl_ : ∀ l:List (Str×Tok),Vals ((l.map (·.1)).map V.str) (strValues l)
 | [] => .nil
 | p::r => .cons ⟨p.2,rfl⟩ (gl_ r)
theorem cj_ : ∀ {ys:List Str}{us:List Value},Vals (ys.map V.str) us->StrsAre us ys
 | [],_,.nil => .nil
 | y::ys,_,.cons r t=>by
  obtain ⟨k,rfl⟩:=r;exact .cons y k (cj_ t)
def d5_ (ys:List Str):Hp->VK->Prop:=fun H Q=>∀ p,H p=none->Q (.ref p) (upd H p (.lst (ys.map V.str)))
section
variable {X:Cx}{pins:List (Addr×Obj)}{σ:St}{H:Hp}{s:Shared}{Q:VK}
theorem eH_ {l:List (Str×Tok)}{ys:List Str}{k:Nat} (I:Inv X pins σ H s) (e:l.map (·.1)=ys) (hz:ys.length<=sizeLine) (h:d5_ ys H Q) :
  EP X pins σ Q (.ref s.heap.objs.size) { s with toks:=k,heap:=s.heap.push { cls := .type "list",data := .seq (strValues l).toArray } }:=by
 have hp:=I.hok.fresh (Nat.le_refl _);refine ⟨.ref s.heap.objs.size,upd H s.heap.objs.size (.lst (ys.map V.str)),I.laid (fun b u q=>Heap.get?_push_of_some _ q) (Nat.le_refl _) ⟨by rw [length_map];exact hz,strValues l,_,?_,Heap.get?_push_size _ rfl⟩,rfl,h _ hp⟩;rw [<- e];exact gl_ l
theorem fk_ {x y z:Str}{t u v:Tok}{k:Nat} (I:Inv X pins σ H s) (h : ∀ p,H p=none->Q (.ref p) (upd H p (.tup [.str x,.str y,.str z]))) :
  EP X pins σ Q (.ref s.heap.objs.size) { s with toks:=k,heap:=s.heap.push { cls := .type "tuple",data := .seq [Value.str x t,.str y u,.str z v].toArray } }:=by
 have hp:=I.hok.fresh (Nat.le_refl _);exact ⟨.ref s.heap.objs.size,upd H s.heap.objs.size (.tup [.str x,.str y,.str z]),I.laid (fun b u q=>Heap.get?_push_of_some _ q) (Nat.le_refl _)
  ⟨by show 3<=sizeLine;decide,[Value.str x t,.str y u,.str z v],.cons ⟨t,rfl⟩ (.cons ⟨u,rfl⟩ (.cons ⟨v,rfl⟩ .nil)),_,Heap.get?_push_size _ rfl,rfl,_,rfl⟩,rfl,h _ hp⟩
end
section
variable {X:Cx}
theorem iu_:MtR X "str.split" (fun x xs H Q=>∃ a b,x = .str a/\xs=[.str b]/\(b.length == 0)=false/\a.length+2<=sizeLine/\d5_ (Txt.split a b) H Q):=by
 intro pins s σ H x xs v us Q I rx rs h;obtain ⟨a,b,rfl,rfl,hb,hz,h⟩:=h;obtain ⟨t,rfl⟩:=rx;cases rs with
 | cons r1 rs =>
 cases rs;obtain ⟨u,rfl⟩:=r1;have hl:(Txt.split a b).length<=sizeLine:=Nat.le_trans (PyProof.Rows.split_le a b) hz;have hn:(Builtin.Str.partsBetween a (Builtin.Str.occurrences a b 0 a.length (a.length+1)) b.length).length<=sizeLine:=by
  have e1:=StrLaws.occ_length_le a b 0 a.length (a.length+1);rw [length_partsBetween];omega
 cases h1:(decide (a.length<b.length) || decide (Builtin.Str.strKind a<Builtin.Str.strKind b))
 ·cases hf:(Builtin.Str.occurrences a b 0 a.length (a.length+1)).isEmpty
  ·refine call_meets F.slot_str_split (typeIs_str _ _ _) F.entry_str_split (F.args_str_split_2 _ _) (meets_str_split_sep a b t u h1 hb hf (by omega) hn) ?_
   show EP X pins σ Q (.ref s.heap.objs.size) { s with toks:=_,heap:=s.heap.push { cls := .type "list",data := .seq (strsFrom s.toks (Builtin.Str.partsBetween a (Builtin.Str.occurrences a b 0 a.length (a.length+1)) b.length)).toArray } };rw [strsFrom_eq];exact eH_ (ys:=Txt.split a b) I ((numbered_texts _ _).trans ((if_neg (ne_true_of_eq_false h1)).trans (if_neg (ne_true_of_eq_false hf))).symm) hl h
  refine call_meets F.slot_str_split (typeIs_str _ _ _) F.entry_str_split (F.args_str_split_2 _ _) (meets_str_split_not_found a b t u h1 hb hf) ?_;exact eH_ (l:=[(a,t)]) (ys:=Txt.split a b) (k:=s.toks) I ((if_neg (ne_true_of_eq_false h1)).trans (if_pos hf)).symm hl h
 refine call_meets F.slot_str_split (typeIs_str _ _ _) F.entry_str_split (F.args_str_split_2 _ _) (meets_str_split_cannot_occur a b t u h1) ?_;exact eH_ (l:=[(a,t)]) (ys:=Txt.split a b) (k:=s.toks) I (if_pos h1).symm hl h
theorem gQ_:MtR X "str.partition" (fun x xs H Q=>∃ a b,x = .str a/\xs=[.str b]/\(b.length == 0)=false/\a.length<=sizeLine /\
  ∀ p,H p=none->Q (.ref p) (upd H p (.tup [.str (Txt.partition a b).1,.str (Txt.partition a b).2.1,.str (Txt.partition a b).2.2]))):=by
 intro pins s σ H x xs v us Q I rx rs h;obtain ⟨a,b,rfl,rfl,hb,hz,h⟩:=h;obtain ⟨t,rfl⟩:=rx;cases rs with
 | cons r1 rs =>
 cases rs;obtain ⟨u,rfl⟩:=r1;refine call_meets F.slot_str_partition (typeIs_str _ _ _) F.entry_str_partition (F.args_str_partition_2 _ _) (meets_str_partition a b t u hb hz) ?_;unfold Txt.partition at h;revert h;cases Builtin.Str.occurrences a b 0 a.length 1 with
 | nil=>intro h;exact fk_ I h
 | cons i r=>intro h;exact fk_ I h
theorem nD_:MtR X "str.join" (fun x xs H Q=>∃ a p,∃ ys:List Str,x = .str a/\xs=[.ref p]/\(SqL X.K H p (ys.map V.str)\/SqT X.K H p (ys.map V.str)) /\
  (ys.map (·.length)).sum+ys.length * a.length<=16777216/\Q (.str (Txt.join a ys)) H):=by
 intro pins s σ H x xs v us Q I rx rs h;obtain ⟨a,p,ys,rfl,rfl,hp,hz,h⟩:=h;obtain ⟨t,rfl⟩:=rx;cases rs with
 | cons r1 rs =>
 cases rs;cases r1;rcases hp with hp | hp
 ·obtain ⟨its,r,⟨o,n,ho,hc,_,hd⟩,_⟩:=I.list hp
  exact PyProof.Rows.join_list (items:=its.toArray) ⟨o,ho,hc,n,hd⟩ (by rw [List.toList_toArray];exact cj_ r) hz fun t' k=>⟨.str _,H,I.tok k,⟨t',rfl⟩,h⟩
 obtain ⟨its,r,ht,_⟩:=I.tuple hp;exact PyProof.Rows.join_tuple (items:=its.toArray) ht (by rw [List.toList_toArray];exact cj_ r) hz fun t' k=>⟨.str _,H,I.tok k,⟨t',rfl⟩,h⟩
theorem mt1 {id:String}{g:Str->Str->V} (rule : ∀ (a b:Str) (t u:Tok) (s:Shared) (Q:Value->Shared->Prop),(∀ (v:Value) (k:Nat),RelV (g a b) v->Q v { s with toks:=k }) ->
  wpAny (model X.prog X.w) X.A (call (.builtin id) [.str a t,.str b u]) Q X.xe s):MtR X id (fun x xs H Q=>∃ a b,x = .str a/\xs=[.str b]/\Q (g a b) H):=by
 intro pins s σ H x xs v us Q I rx rs h;obtain ⟨a,b,rfl,rfl,h⟩:=h;obtain ⟨t,rfl⟩:=rx;cases rs with
 | cons r1 rs =>
 cases rs;obtain ⟨u,rfl⟩:=r1;exact rule a b t u s _ fun v k r=>⟨g a b,H,I.tok k,r,h⟩
theorem c9_:MtR X "str.startswith" (fun x xs H Q=>∃ a b,x = .str a/\xs=[.str b]/\Q (.bl (Txt.startswith a b)) H) :=
 mt1 (g:=fun a b => .bl (Txt.startswith a b)) fun _ _ _ _ s _ h=>PySem.SC.startswith (h _ s.toks rfl)
theorem bs_:dG_ X (.type "int") (fun xs H Q=>∃ a n,xs=[.str a]/\PySem.intText? a=some n/\a.length<=640/\Q (.int n) H):=by
 intro pins s σ H xs us Q I rs h;obtain ⟨a,n,rfl,hn,hl,h⟩:=h;cases rs with
 | cons r1 rs =>
 cases rs;obtain ⟨t,rfl⟩:=r1;exact PySem.W.KIN.call_text hn hl ⟨.int n,H,I.tok _,⟨_,rfl⟩,h⟩
end
section
variable {X:Cx}{o e:Expr}{to te:TE}
def tM0 (r:V->List V->Hp->VK->Prop) (to:TE):TE:=fun σ H Q=>to σ H fun x H1=>(∃ a,x = .str a)/\r x [] H1 Q
def tM1 (r:V->List V->Hp->VK->Prop) (to te:TE):TE:=fun σ H Q=>to σ H fun x H1=>(∃ a,x = .str a)/\te σ H1 fun y H2=>r x [y] H2 Q
theorem ka_ {id:String}{name:Str}{apos pos:Pos}{r:V->List V->Hp->VK->Prop} (slot:Slot "str" name id) (ty:typeOf (.builtin id)=pure (.type "method_descriptor")) (rule:MtR X id r) (ho:PE X o to) (he:PE X e te)
  (hs:starEach [e] X.env=[(false,eval e X.env)]:=by rfl) (hbase:attributeBase o name X.env (eval o X.env)=eval o X.env:=by rfl) (hline:(apos.endLine == pos.line)=true:=by rfl) :
  PE X (.Call (.Attribute o name apos) [e] [] pos) (tM1 r to te):=by
 intro pins s σ H Q I h;refine PySem.Call_method1 hbase hs hline (thn (ho pins s σ H _ I h) fun v s1 zq=>?_);obtain ⟨x,H1,I1,r1,q1⟩:=zq;obtain ⟨⟨a,rfl⟩,q1⟩:=q1;obtain ⟨t,rfl⟩:=_root_.id r1;refine ⟨"str",_,F.plainAttrs_str,slot,ty,typeIs_str _ _ _,(fun _ e=>nomatch e),Calls.callWith_builtin rfl (Calls.evalArgs_plain (Calls.spliced_cons ?_))⟩;exact thn (he pins s1 σ H1 _ I1 q1) fun u s2 ⟨y,H2,I2,r2,q2⟩=>Calls.spliced_nil (rule pins s2 σ H2 _ [y] _ [u] Q I2 r1 (.cons r2 .nil) q2)
theorem il_ {apos pos:Pos} (ho:PE X o to) (he:PE X e te) (hs:starEach [e] X.env=[(false,eval e X.env)]:=by rfl) (hbase:attributeBase o "split" X.env (eval o X.env)=eval o X.env:=by rfl) (hline:(apos.endLine == pos.line)=true:=by rfl) :
  PE X (.Call (.Attribute o "split" apos) [e] [] pos) (tM1 (fun x xs H Q=>∃ a b,x = .str a/\xs=[.str b]/\(b.length == 0)=false/\a.length+2<=sizeLine/\d5_ (Txt.split a b) H Q) to te) :=
 ka_ F.slot_str_split F.type_str_split iu_ ho he hs hbase hline
theorem gK_ {apos pos:Pos} (ho:PE X o to) (he:PE X e te) (hs:starEach [e] X.env=[(false,eval e X.env)]:=by rfl) (hbase:attributeBase o "partition" X.env (eval o X.env)=eval o X.env:=by rfl) (hline:(apos.endLine == pos.line)=true:=by rfl) :
  PE X (.Call (.Attribute o "partition" apos) [e] [] pos) (tM1 (fun x xs H Q=>∃ a b,x = .str a/\xs=[.str b]/\(b.length == 0)=false/\a.length<=sizeLine /\
   ∀ p,H p=none->Q (.ref p) (upd H p (.tup [.str (Txt.partition a b).1,.str (Txt.partition a b).2.1,.str (Txt.partition a b).2.2]))) to te) :=
 ka_ F.slot_str_partition F.type_str_partition gQ_ ho he hs hbase hline
theorem kc_ {apos pos:Pos} (ho:PE X o to) (he:PE X e te) (hs:starEach [e] X.env=[(false,eval e X.env)]:=by rfl) (hbase:attributeBase o "join" X.env (eval o X.env)=eval o X.env:=by rfl) (hline:(apos.endLine == pos.line)=true:=by rfl) :
  PE X (.Call (.Attribute o "join" apos) [e] [] pos) (tM1 (fun x xs H Q=>∃ a p,∃ ys:List Str,x = .str a/\xs=[.ref p]/\(SqL X.K H p (ys.map V.str)\/SqT X.K H p (ys.map V.str)) /\
   (ys.map (·.length)).sum+ys.length * a.length<=16777216/\Q (.str (Txt.join a ys)) H) to te) :=
 ka_ F.slot_str_join F.type_str_join nD_ ho he hs hbase hline
end
end L2
namespace L2
open PySem PySem.Spec PyProof.Rows
section
variable {X:Cx}
theorem iY_:OpR X (compareOp .In) (fun x y H Q=>∃ (c:Nat) (z:Str),x = .str ⟨#[c]⟩/\y = .str z/\Q (.bl (decide (c∈z.cps.toList))) H):=by
 intro pins s σ H x y v u Q I rx ry h;obtain ⟨c,z,rfl,rfl,q⟩:=h;obtain ⟨t,rfl⟩:=rx;obtain ⟨t',rfl⟩:=ry;exact PyProof.Rows.in_str (aL_ I q (PySem.StrLaws.found_one z c).symm)
theorem fY_:OpR X (compareOp .NotIn) (fun x y H Q=>∃ (c:Nat) (z:Str),x = .str ⟨#[c]⟩/\y = .str z/\Q (.bl (!decide (c∈z.cps.toList))) H):=by
 intro pins s σ H x y v u Q I rx ry h;obtain ⟨c,z,rfl,rfl,q⟩:=h;obtain ⟨t,rfl⟩:=rx;obtain ⟨t',rfl⟩:=ry;exact PyProof.Rows.notIn_str (aL_ I q (congrArg Bool.not (PySem.StrLaws.found_one z c).symm))
end
theorem IsPart.raw {v:Value}{o:Option Int} (p:IsPart v o) : ∃ l:Option (Int×Tok),v=partValue l/\l.map (·.1)=o:=by
 cases p with
 | none=>exact ⟨none,rfl,rfl⟩
 | int i t=>exact ⟨some (i,t),rfl,rfl⟩
def k7_ (n d:Nat):Option Int->Int
 | none=>(d:Int)
 | some i=>max 0 (min (if i<0 then i+(n:Int) else i) (n:Int))
theorem iI_ (n d:Nat) (o:Option Int):k7_ n d o=((HT.sIx n d o:Nat):Int):=by
 cases o with
 | none=>rfl
 | some v =>
 show max (0:Int) (min (if v<0 then v+(n:Int) else v) (n:Int))=(((if v<0 then (v+(n:Int)).toNat else min v.toNat n):Nat):Int);by_cases hv:v<0
 ·simp only [if_pos hv]
  omega
 simp only [if_neg hv];omega
theorem jU_ (a b:Option Int) (n:Nat):Builtin.Str.strSliceIndices a b 1 n=sliceRange (k7_ n 0 a) (k7_ n n b) 1:=by
 have h1:((1:Int) > 0)=True:=by simp
 cases a <;> cases b <;> first
  | rfl
  | (simp only [Builtin.Str.strSliceIndices,k7_,h1,if_true];rfl)
  | simp [Builtin.Str.strSliceIndices,k7_]
theorem sidx (a b:Option Int) (n:Nat):Builtin.Str.strSliceIndices a b 1 n=(List.range (HT.sIx n n b - HT.sIx n 0 a)).map (fun k=>HT.sIx n 0 a+k):=by
 rw [jU_,iI_,iI_];generalize HT.sIx n 0 a=p;generalize HT.sIx n n b=q;simp only [sliceRange,show ((1:Int) > 0)=True from by simp,if_true];by_cases hlt:(p:Int)<q
 ·have e3:(((q:Int) - p+1 - 1) / 1).toNat=q - p:=by first | omega | (simp;done) | (simp;omega)
  simp only [hlt,if_true,e3];refine List.map_congr_left fun k _=>?_;omega
 have:q - p=0:=by omega
 simp [hlt,this]
noncomputable def cutS (z:Str) (lo hi:Option Int):Str :=
 ⟨((z.cps.toList.drop (HT.sIx z.length 0 lo)).take (HT.sIx z.length z.length hi - HT.sIx z.length 0 lo)).toArray⟩
theorem c2_ (z:Str) (lo hi:Option Int):PySem.StrLaws.sliceText z lo hi=cutS z lo hi:=by
 have h1:HT.sIx z.length 0 lo<=z.length:=HT.sIx_le _ _ (zero_le _) _;have h2:HT.sIx z.length z.length hi<=z.length:=HT.sIx_le _ _ (Nat.le_refl _) _;have hp:HT.sIx z.length 0 lo<=max (HT.sIx z.length 0 lo) (HT.sIx z.length z.length hi):=Nat.le_max_left _ _;have hq:max (HT.sIx z.length 0 lo) (HT.sIx z.length z.length hi)<=z.length:=Nat.max_le.mpr ⟨h1,h2⟩;have hd:max (HT.sIx z.length 0 lo) (HT.sIx z.length z.length hi) - HT.sIx z.length 0 lo=HT.sIx z.length z.length hi - HT.sIx z.length 0 lo:=by omega
 have e:Builtin.Str.strSliceIndices lo hi 1 z.length =
   Builtin.Str.strSliceIndices (some ((HT.sIx z.length 0 lo:Nat):Int)) (some ((max (HT.sIx z.length 0 lo) (HT.sIx z.length z.length hi):Nat):Int)) 1 z.length:=by
  rw [PySem.StrLaws.strSliceIndices_plain hp hq,hd,sidx]
 have e2:PySem.StrLaws.sliceText z lo hi =
   PySem.StrLaws.sliceText z (some ((HT.sIx z.length 0 lo:Nat):Int)) (some ((max (HT.sIx z.length 0 lo) (HT.sIx z.length z.length hi):Nat):Int)):=by
  unfold PySem.StrLaws.sliceText;rw [e]
 rw [e2,PySem.StrLaws.sliceText_nat z hp hq,hd];rfl
theorem hS_ (z:Str) (lo hi:Option Int):(cutS z lo hi).length<=z.length:=by
 show (((z.cps.toList.drop (HT.sIx z.length 0 lo)).take (HT.sIx z.length z.length hi - HT.sIx z.length 0 lo)).toArray).size<=z.cps.size;rw [size_toArray,length_take,length_drop,Array.length_toList];omega
def rSlS:V->Option Int->Option Int->Hp->VK->Prop:=fun x lo hi H Q=>∃ z,x = .str z/\z.length<=sizeLine/\Q (.str (cutS z lo hi)) H
theorem mz_ {X:Cx}:SlR X rSlS:=by
 intro pins s σ H x v vl vu lo hi sl Q I rx hs pl pu h;obtain ⟨z,rfl,hz,q⟩:=h;obtain ⟨t,rfl⟩:=rx;obtain ⟨os,hos,hcs,hds⟩:=hs;obtain ⟨l,rfl,rfl⟩:=IsPart.raw pl;obtain ⟨u,rfl,rfl⟩:=IsPart.raw pu;refine ⟨"str",_,F.slot_str_getitem.lookup,typeIs_str _ _ _,?_⟩;refine wpAny_getItem_str_slice (l:=l) (u:=u) (st:=none) ⟨os,hos,hcs,hds⟩ rfl ?_;have hl:(PySem.StrLaws.sliceText z (l.map (·.1)) (u.map (·.1))).length<=sizeLine:=by
  rw [c2_];exact Nat.le_trans (hS_ z _ _) hz
 rw [<- c2_] at q;unfold PySem.StrLaws.sliceText at q hl;show Made.post (if ((1:Int) == 1 && (Builtin.Str.strSliceIndices (l.map (·.1)) (u.map (·.1)) 1 z.length).length == z.length)=true then Made.val (.str z t)
  else Made.str ⟨((Builtin.Str.strSliceIndices (l.map (·.1)) (u.map (·.1)) 1 z.length).filterMap (z.cps[·]?)).toArray⟩) (EP X pins σ Q) s
 by_cases c:((1:Int) == 1 && (Builtin.Str.strSliceIndices (l.map (·.1)) (u.map (·.1)) 1 z.length).length == z.length)=true
 ·rw [if_pos c] at q ⊢
  exact ⟨.str z,H,I,⟨t,rfl⟩,q⟩
 rw [if_neg c] at q hl ⊢;exact ⟨hl,.str _,H,I.tok _,⟨_,rfl⟩,q⟩
end L2
namespace Att
open PySem PySem.W PySem.Calls PyProof.Rows
section
variable {prog:Program}{w:World}{A:Around}{E:Value->Shared->Prop}{s:Shared}{K:Frag}
end
end Att
namespace L2
open PySem PySem.Spec PyProof.Rows
def b7_ (s:Stmt) (j:Nat):Stmt:=match s with
 | .ClassDef _ _ _ body _ _ _ _ _ _ _=>body.getD j (.Pass ⟨0,0,0,0⟩)
 | _ => .Pass ⟨0,0,0,0⟩
def dE_ (s:Stmt):Arguments:=match s with
 | .FunctionDef _ a _ _ _ _ _ _ _ _=>a
 | _=>{ posonlyargs:=[],args:=[],vararg:=none,kwonlyargs:=[],kw_defaults:=[],kwarg:=none,defaults:=[] }
noncomputable def b8_ (s:Stmt):List Stmt:=match s with
 | .FunctionDef _ _ b _ _ _ _ _ _ _=>b
 | _=>[]
def af_ (s:Stmt):Scope:=match s with
 | .FunctionDef _ _ _ _ _ _ sc _ _ _=>sc
 | _=>{ kind := .function,names:=[],isGenerator:=false,isCoroutine:=false }
abbrev CX0:CXT:=fun _ _ _ _ _ _=>False
abbrev E0:XK:=fun _ _ _=>False
theorem ar_ {X:Cx}:bK_ CX0 X E0:=fun _ _ _ _ _ _ _ h=>h.elim
structure Fun (K:PySem.W.Frag) (x qual:Str) (st:Stmt) (f:Addr) (fd:FuncData):Prop where
 ex : ∃ (oc:Value) (od:Option Addr) (kV doc pm:Value) (an:Option Addr) (cdv ct:Value) (osl:Array (Option Value)),
  fd=fnOf x qual (dE_ st) (b8_ st) (af_ st) .none kV doc pm an cdv ct/\K.lookup f=some ⟨oc,od,.func fd,osl⟩/\codeIn K cdv qual=true
 kp:keepIn K (.ref f)=true
section
variable {P:Program}{w:World}{K:PySem.W.Frag}{mg:Str->Option Value}{base:Heap}
theorem Fun.ok {x qual:Str}{st:Stmt}{f:Addr}{fd:FuncData}{N ps:List Str}{k:Nat}{sp:Sp} (F:Fun K x qual st f fd) (S:FnScope N ps (af_ st)) (len : ∀ vs H Q E,sp vs H Q E->vs.length=ps.length)
  (hbody : ∀ (cdv:Value) (A:Around) (outer:List Env) (s:Shared) (H:Hp) (vs:List V) (Q:VK) (E:XK),Room k (A.deeper (envOfC qual (af_ st) s.heap.objs.size f cdv))->sp vs H Q E ->
   ∃ t,PSs (cxOf CX0 P w K mg base N qual (af_ st) f cdv A outer s H E).nox (b8_ st) t/\t { nx:=fun _ H'=>Q .non H',rt:=Q } (start N vs) H):FnOk P w K mg base CX0 (k+1) f fd ps sp:=by
 obtain ⟨oc,od,kV,doc,pm,an,cdv,ct,osl,rfl,lk,hcd⟩:=F.ex;refine oX_ lk hcd S len fun A outer s H vs Q E hr hsp=>?_;obtain ⟨t,h,q⟩:=hbody cdv A outer s H vs Q E hr hsp;exact ⟨t,h.nox,q⟩
theorem Fun.binds {x qual:Str}{st:Stmt}{f:Addr}{fd:FuncData}{ps:List Str} (F:Fun K x qual st f fd)
  (h : ∀ (kV doc pm:Value) (an:Option Addr) (cdv ct:Value) (us:List Value),us.length=ps.length->bindArgs (fnOf x qual (dE_ st) (b8_ st) (af_ st) .none kV doc pm an cdv ct) ⟨us,[]⟩=pure (ps.zip us)):a9_ K fd ps []:=by
 obtain ⟨oc,od,kV,doc,pm,an,cdv,ct,osl,rfl,lk,hcd⟩:=F.ex;exact .all (h kV doc pm an cdv ct)
theorem mK_ {x qual:Str}{st:Stmt}{f:Addr}{oc:Value}{od an:Option Addr}{osl:Array (Option Value)}{kV doc pm cdv ct:Value} (l:K.lookup f=some ⟨oc,od,.func (fnOf x qual (dE_ st) (b8_ st) (af_ st) .none kV doc pm an cdv ct),osl⟩)
  (c:codeIn K cdv qual=true) (k:keepIn K (.ref f)=true):Fun K x qual st f (fnOf x qual (dE_ st) (b8_ st) (af_ st) .none kV doc pm an cdv ct):=⟨⟨oc,od,kV,doc,pm,an,cdv,ct,osl,rfl,l,c⟩,k⟩
end
section
variable {X:Cx}
theorem pv (i:Nat) {x:Str}{pos:Pos} (hN:X.N[i]? = some x:=by rfl) (hv:Vis X.env.scope x:=by first | exact Or.inl rfl | exact Or.inr (Or.inl rfl) | exact Or.inr (Or.inr rfl)) (hd:(x == ("__debug__":Str))=false:=by decide)
  (hcd:(x == ("__classdict__":Str))=false:=by decide):PE X (.Name x pos) (tVar i):=ox_ hN hv hd hcd
end
theorem iteF {A B:Prop} (h:B):if false=true then A else B:=by
 rw [if_neg Bool.false_ne_true];exact h
theorem iteT {A B:Prop} (h:A):if true=true then A else B:=by
 rw [if_pos rfl];exact h
theorem ite2 {c A B:Prop} [Decidable c] (h1:c->A) (h2 : ¬ c->B):if c then A else B:=by
 by_cases h:c
 ·rw [if_pos h]
  exact h1 h
 rw [if_neg h];exact h2 h
def Same (H H':Hp):Prop:=∀ b o,H b=some o->H' b=some o
theorem Same.refl (H:Hp):Same H H:=fun _ _ h=>h
theorem Same.trans {H H1 H2:Hp} (a:Same H H1) (b:Same H1 H2):Same H H2:=fun c o h=>b c o (a c o h)
theorem Same.free {H H':Hp} (e:Same H H') {l:Addr} (h:H' l=Option.none):H l=Option.none:=by
 cases q:H l with
 | none=>rfl
 | some o =>
 rw [e l o q] at h;cases h
theorem Same.seq {K:PySem.W.Frag}{H H':Hp}{a:Addr}{xs:List V} (e:Same H H') (h:SqL K H a xs):SqL K H' a xs:=by
 rcases h with (h | ⟨o,h⟩) | h
 ·exact .inl (.inl (e _ _ h))
 ·exact .inl (.inr ⟨o,e _ _ h⟩)
 exact .inr h
section
variable {κ:Type} [DecidableEq κ]
end
end L2
namespace L2
open PySem PySem.Spec PyProof.Rows
noncomputable abbrev cH_:List Value:=[.type "Exception",.type "BaseException",.type "object"]
structure XCls (K:PySem.W.Frag) (C f:Addr):Prop where
 obj : ∃ nm q N bs sn sub ab col dd k0 k1 k2 k3 k5,K.lookup C=some (excClassObj nm q C N bs cH_ true sn sub ab col dd k0 k1 k2 k3 k5 "Exception.__new__")
 init:PySem.W.findIn K (.ref C) "__init__"=some (some (.ref f))
 fn:isFn K (.ref f)=true
 kp:keepIn K (.ref C)=true
 ga:PySem.W.findIn K (.ref C) "__getattribute__"=some (some (.builtin "BaseException.__getattribute__"))
 gn:PySem.W.findIn K (.ref C) "__getattr__"=some none
 sa:PySem.W.findIn K (.ref C) "__setattr__"=some (some (.builtin "object.__setattr__"))
 hd:hasDictIn K C=true
theorem mW_ {K:PySem.W.Frag}{C f N:Addr}{nm q:Str}{bs:List Value}{sn:List Str}{sub:List Value}{ab:Bool}{col:Option Bool}{dd:Option Addr}{k0 k1 k2 k3 k5:Option Value}
  (l:K.lookup C=some (excClassObj nm q C N bs cH_ true sn sub ab col dd k0 k1 k2 k3 k5 "Exception.__new__")) (i:PySem.W.findIn K (.ref C) "__init__"=some (some (.ref f))) (n:isFn K (.ref f)=true) (k:keepIn K (.ref C)=true)
  (g:PySem.W.findIn K (.ref C) "__getattribute__"=some (some (.builtin "BaseException.__getattribute__"))) (a:PySem.W.findIn K (.ref C) "__getattr__"=some none) (s:PySem.W.findIn K (.ref C) "__setattr__"=some (some (.builtin "object.__setattr__")))
  (d:hasDictIn K C=true):XCls K C f:=⟨⟨nm,q,N,bs,sn,sub,ab,col,dd,k0,k1,k2,k3,k5,l⟩,i,n,k,g,a,s,d⟩
noncomputable abbrev nX_ (C t:Addr):Obj:={ cls := .ref C,data := .fields #[.ref t,.none,.none,.none,.bool false,.none] }
noncomputable def f3_ (h:Heap) (C:Addr) (us:List Value):Heap:=(h.push { cls := .type "tuple",data := .seq us.toArray }).push (nX_ C h.objs.size)
theorem eK_ {h:Heap}{C:Addr}{us:List Value}{b:Addr}{o:Obj} (e:h.get? b=some o):(f3_ h C us).get? b=some o:=Heap.get?_push_of_some _ (Heap.get?_push_of_some _ e)
theorem iz_ {h:Heap}{C:Addr}{us:List Value}:(f3_ h C us).get? (h.objs.size+1)=some (nX_ C h.objs.size):=by
 unfold f3_
 heap_get
section
variable {P:Program}{w:World}{A:Around}{K:PySem.W.Frag}{C f:Addr}{R:Result->Shared->Prop}{s:Shared}
theorem pf_ {us:List Value} (X:K.In s.heap) (c:XCls K C f) (hl:us.length<=sizeLine)
  (go:codeAny (model P w) (A.under (.builtin "type.__call__" ⟨.ref C::us,[]⟩)) (.call (.ref f) ⟨.ref (s.heap.objs.size+1)::us,[]⟩) (PySem.W.InitBack (s.heap.objs.size+1) R) { s with heap:=f3_ s.heap C us }) :
  codeAny (model P w) A (.call (.ref C) ⟨us,[]⟩) R s:=by
 obtain ⟨hp,g,d,t,os⟩:=s;obtain ⟨nm,q,N,bs,sn,sub,ab,col,dd,k0,k1,k2,k3,k5,lk⟩:=c.obj;have atC:=X _ _ lk;have B:=PySem.F.excBase_Exception;have n1:=tc_lookup;have n2:=tc_bind (.ref C);have tyC:(⟨hp,g,d,t,os⟩:Shared).TypeIs (.ref C) "type":=⟨_,atC,rfl⟩;refine codeAny_of_tree ?_;show wpAny _ _ (callAny (.ref C) _) _ _ _
 repeat (any_goals (first | assumption | (with_reducible refine wpAny_loadPart_at atC ?_) | wp_step))
 refine And.intro rfl (codeAny_call_builtin_at (Code.quiet_builtin _ (by decide +kernel)) entry_typeCall (wpAny_check_type_call_sub atC ?_))
 repeat (first | (with_reducible refine wpAny_loadPart_at atC ?_) | (with_reducible refine wpAny_madeBy_exc atC ?_) | wp_step)
 refine codeAny_call_builtin_code (Code.quiet_builtin _ B.quiet) (wpAny_check_new_sub B atC (codeAny_exc_new_sub B atC ?_ hl));show wpAny _ _ _ _ _ ⟨f3_ hp C us,g,d,t,os⟩;have X':K.In (f3_ hp C us):=X.keeps fun b o e=>eK_ e;have atC':=X' _ _ lk;have atE:(f3_ hp C us).get? (hp.objs.size+1)=some (nX_ C hp.objs.size):=iz_;have inC:(Value.ref C::cH_).contains (.ref C)=true:=by simp
 unfold isInstance
 repeat (first | (with_reducible refine wpAny_loadPart_at atE ?_) | ((with_reducible refine wpAny_isSubtype_exc atC' ?_);rw [inC]) | wp_step)
 show wpAny _ _ (typeLookup (.ref C) _) _ _ _;refine (looks_findIn X' c.init).at ?_;refine wpAny_holding (wpAny_bind ((PySem.W.bind_fn X' _ (beq_iff_eq.mp c.fn)).at ?_));refine wpAny_bind (wpAny_call (codeAny_mono go fun r s' z=>?_));rcases r with e | (_ | _ | _ | v)
 ·exact z
 ·exact z.elim
 ·exact z.elim
 ·exact z.elim
 obtain ⟨rfl,z⟩:=z;exact wpAny_pure (wpAny_pure z)
end
end L2
namespace L2
open PySem PySem.Spec PyProof.Rows
open PySem.W (InstAt Looks)
section
variable {P:Program}{w:World}{A:Around}{K:PySem.W.Frag}{C f x:Addr}{s:Shared}{ox:Obj}{od:Option Obj}{name:Str}{v:Value}
theorem mu_ {tk:Tok}{R:Result->Shared->Prop} (X:K.In s.heap) (I:InstAt s.heap x ox C od) (c:XCls K C f) (n:aD_ K C name)
  (go : ∀ b,wpAny (model P w) A.in1 (Builtin.ObjectAttr.storeInOwnDict (.ref x) (.ref C) (.str name tk) name v b)
   (fun fin s'=>match fin with | .done f=>R (.ok f) s' | .again c'=>c'.quiet=true/\codeAny (model P w) A c' R s') (fun e s'=>R (.error e) s') s) :
  codeAny (model P w) A (.call (.builtin "object.__setattr__") ⟨[.ref x,.str name tk,v],[]⟩) R s:=by
 have S:=PySem.F.store_Exception;obtain ⟨nm,q,N,bs,sn,sub,ab,col,dd,k0,k1,k2,k3,k5,lk⟩:=c.obj;have hcd:clsIn K C=some { name:=nm,bases:=bs,mro := .ref C::cH_,ns:=N,qualname:=q,hasDict:=true,slotNames:=sn,subclasses:=sub,abstract:=ab,collection:=col,hasDel:=false }:=by
  unfold clsIn;rw [lk]
 have isO:Looks (model P w) s.heap (isInstance (.ref x) (.type "object")) true:=I.type.andThen (PySem.W.looks_mroIn X (by unfold mroIn;rw [hcd,Option.bind_some];rfl));have mro:Looks (model P w) s.heap (mroOf (.ref C)) (.ref C::cH_):=(looks_clsIn X hcd).andThen .now;refine codeAny_call_builtin S.slot.plain S.entry (@PySem.W.check_slot (model P w) _ _ s "object.__setattr__" "object" "__setattr__" (.ref x) [.str name tk,v] [] _ S.kind S.split isO (S.args (.ref x) (.str name tk) v) ?_);rw [PySem.W.osa_eq,refuse_eq];refine wpAny_bind (wpAny_bind (I.type.here (wpAny_bind (mro.here ?_))));rw [refuseLoop_ref,S.passes];refine wpAny_pure (wpAny_bind (I.type.here (wpAny_bind ((looks_findIn X n).here (wpAny_bind (wpAny_pure ?_))))));exact go _
end
def XNew (C p:Addr) (d:Option Addr):HO := .ext fun h=>∃ t,h.get? p=some { cls := .ref C,dict:=d,data := .fields #[.ref t,.none,.none,.none,.bool false,.none] }
def XDic (p:Addr) (fs:List (Str×V)):HO := .ext fun h=>fs.length<=1000/\∃ mA,h.Ns1 p mA/\(∀ f,RelO (fs.lookup f) (mA f))/\PySem.Within mA (fs.map (·.1))
theorem h2_ {H:Hp}{a b:Addr}{o u:HO} (h:a≠b):upd (upd H a o) b u=upd (upd H b u) a o:=by
 funext c
 unfold upd;by_cases h1:c=a
 ·rw [if_pos h1,if_neg (fun q=>h (h1.symm.trans q)),if_pos h1]
 rw [if_neg h1,if_neg h1]
theorem mV_ {P:Program}{w:World}{H:Hp}{h:Heap}{p:Addr}{fs:List (Str×V)}{mA:Str->Option Value} (l:fs.length<=1000) (n:h.Ns1 p mA) (r : ∀ f,RelO (fs.lookup f) (mA f)) (k:PySem.Within mA (fs.map (·.1))):a8_ P w H h p (XDic p fs):=by
 obtain ⟨o,es,ep,ho,c⟩:=n;exact ⟨⟨l,mA,⟨o,es,ep,ho,c⟩,r,k⟩,⟨o,ho⟩,fun h1 h2 ⟨l,mA,⟨o,es,ep,ho,c⟩,r⟩ kp=>⟨l,mA,⟨o,es,ep,kp o ho,c⟩,r⟩⟩
theorem n3_ {P:Program}{w:World}{H:Hp}{h:Heap}{C p t:Addr}{d:Option Addr} (e:h.get? p=some { cls := .ref C,dict:=d,data := .fields #[.ref t,.none,.none,.none,.bool false,.none] }):a8_ P w H h p (XNew C p d) :=
 ⟨⟨t,e⟩,⟨_,e⟩,fun h1 h2 ⟨t,e⟩ kp=>⟨t,kp _ e⟩⟩
section
variable {X:Cx}{pins:List (Addr×Obj)}{σ:St}{H:Hp}{s:Shared}{a C f₀ dx:Addr}{fs:List (Str×V)}{f:Str}{y:V}{u:Value}{A:Around}{E:Value->Shared->Prop}{Q:Unit->Shared->Prop}
theorem jY_ (I:Inv X pins σ H s) (e:H a=some (XNew C a none)) (c:XCls X.K C f₀) (n:aD_ X.K C f) (ry:RelV y u)
  (h : ∀ dx s',H dx=none->dx≠a->Inv X pins σ (upd (upd H dx (XDic dx [(f,y)])) a (XNew C a (some dx))) s'->Q () s'):wpAny (model X.prog X.w) A (setAttr (.ref a) f u) Q E s:=by
 obtain ⟨⟨t,ha⟩,_,_⟩:=(show a8_ X.prog X.w H s.heap a (XNew C a none) from I.hok a _ e);have J:InstAt s.heap a _ C none:=⟨ha,rfl,rfl,trivial⟩;obtain ⟨nm,q,N,bs,sn,sub,ab,col,dd,k0,k1,k2,k3,k5,lk⟩:=c.obj;have hcd:clsIn X.K C=some { name:=nm,bases:=bs,mro := .ref C::cH_,ns:=N,qualname:=q,hasDict:=true,slotNames:=sn,subclasses:=sub,abstract:=ab,collection:=col,hasDel:=false }:=by
  unfold clsIn;rw [lk]
 refine PySem.W.set_plain I.kIn J c.sa (mu_ (s:={ s with toks:=s.toks+1 }) I.kIn J c n fun b=>?_);refine wpAny_bind (wpAny_pure (wpAny_bind (wpAny_bind (wpAny_loadPart ha (wpAny_bind (PySem.W.Looks.here (s:={ s with toks:=s.toks+1 }) (looks_clsIn I.kIn hcd) ?_))))));rw [if_neg (by exact Bool.false_ne_true)];dsimp only;rw [if_neg (by exact Bool.false_ne_true)];have hlt:=Heap.lt_size ha;have nda:s.heap.objs.size≠a:=ne_of_gt hlt;have ha1:=Heap.get?_push_of_some emptyDict ha;have fr:H s.heap.objs.size=none:=I.hok.fresh (Nat.le_refl _);refine wpAny_bind (wpAny_alloc (wpAny_bind (wpAny_update ha1 (wpAny_pure (a:=some s.heap.objs.size) ?_))));have hd2:((s.heap.push emptyDict).update a fun o=>{ cls:=o.cls,dict:=some s.heap.objs.size,data:=o.data,slots:=o.slots }).get? s.heap.objs.size=some emptyDict :=
  (Heap.get?_update_ne _ _ _ _ nda).trans (Heap.get?_push_size s.heap rfl)
 have ha2:=Heap.get?_update_self (fun o=>{ cls:=o.cls,dict:=some s.heap.objs.size,data:=o.data,slots:=o.slots }) ha1 rfl;have hnd:((s.heap.push emptyDict).update a fun o=>{ cls:=o.cls,dict:=some s.heap.objs.size,data:=o.data,slots:=o.slots }).Ns s.heap.objs.size (fun _=>none):=⟨_,#[],_,hd2,rfl,fun e he=>absurd he (by simp),fun _=>rfl⟩;have I1:=I.laid (a:=s.heap.objs.size) (o:=XDic s.heap.objs.size []) (h':=s.heap.push emptyDict) (t':=s.toks+1) (fun b u q=>Heap.get?_push_of_some _ q) (Nat.le_refl _)
  (mV_ (zero_le _) (Heap.Ns1.of_empty ⟨_,#[],_,Heap.get?_push_size s.heap rfl,rfl,fun e he=>absurd he (by simp),fun _=>rfl⟩) (fun _=>trivial) fun y hy=>absurd rfl hy)
 have I2:=I1.write (x:=a) (e:=a) (o:=XNew C a (some s.heap.objs.size)) (t':=s.toks+1) (by rw [al_ (Ne.symm nda),e];exact True.intro) (.inl rfl) (fun b u hb q=>(Heap.get?_update_ne _ _ _ _ hb).trans q) ⟨_,ha2⟩ (n3_ ha2);show wpAny _ _ (Builtin.ObjectAttr.storeInDict s.heap.objs.size (.str f s.toks) f u) _ _ _;unfold Builtin.ObjectAttr.storeInDict Builtin.ObjectAttr.newKeyGuard;refine wpAny_bind (wpAny_pure (wpAny_bind (wpAny_nsSet1 (Heap.Ns1.of_empty hnd) fun h' hn' hs=>?_)));obtain ⟨oD,esD,epD,hoD,hdD,hcD⟩:=hn'.count (Within.cons f u Within.nil);refine wpAny_bind (wpAny_lookBehind hoD (by rw [hdD];exact pastItsLine_dict (Nat.le_trans hcD (by rw [length_cons,length_nil,sizeLine_eq];omega))) ?_);refine wpAny_pure (h s.heap.objs.size _ fr nda ?_);have I3:=I2.write (x:=s.heap.objs.size) (e:=s.heap.objs.size) (o:=XDic s.heap.objs.size [(f,y)]) (t':=s.toks+1+1) (by rw [al_ nda,ab_];exact True.intro) (.inl rfl) (fun b u hb q=>(hs.2 b hb).trans q) ⟨_,hoD⟩
  (mV_ (by show 1<=1000;decide) hn' (fun g=>?_) fun g hg=>?_)
 ·rw [h2_ (Ne.symm nda),fH_] at I3
  exact I3
 ·show RelO (([(f,y)]:List (Str×V)).lookup g) (if g=f then some u else none)
  by_cases q:g=f
  ·subst q
   rw [if_pos rfl,List.lookup_cons_self];exact ry
  rw [if_neg q,lookup_cons,beq_eq_false_iff_ne.mpr q];trivial
 by_cases q:g=f
 ·simp [q]
 exact absurd (by show (if g=f then some u else none)=none;rw [if_neg q]) hg
theorem jX_ (I:Inv X pins σ H s) (e:H a=some (XNew C a (some dx))) (ed:H dx=some (XDic dx fs)) (c:XCls X.K C f₀) (n:aD_ X.K C f) (hl:fs.length<1000) (ry:RelV y u)
  (h : ∀ s',Inv X pins σ (upd H dx (XDic dx (putF f y fs))) s'->Q () s'):wpAny (model X.prog X.w) A (setAttr (.ref a) f u) Q E s:=by
 obtain ⟨⟨t,ha⟩,_,_⟩:=(show a8_ X.prog X.w H s.heap a (XNew C a (some dx)) from I.hok a _ e);obtain ⟨⟨l,mA,hns,rel,wi⟩,⟨od,hod⟩,_⟩:=(show a8_ X.prog X.w H s.heap dx (XDic dx fs) from I.hok dx _ ed);have J:InstAt s.heap a _ C (some od):=⟨ha,rfl,rfl,hod⟩;obtain ⟨nm,q,N,bs,sn,sub,ab,col,dd,k0,k1,k2,k3,k5,lk⟩:=c.obj;have hcd:clsIn X.K C=some { name:=nm,bases:=bs,mro := .ref C::cH_,ns:=N,qualname:=q,hasDict:=true,slotNames:=sn,subclasses:=sub,abstract:=ab,collection:=col,hasDel:=false }:=by
  unfold clsIn;rw [lk]
 refine PySem.W.set_plain I.kIn J c.sa (mu_ (s:={ s with toks:=s.toks+1 }) I.kIn J c n fun b=>?_);refine wpAny_bind (wpAny_pure (wpAny_bind (wpAny_bind (wpAny_loadPart ha (wpAny_bind (PySem.W.Looks.here (s:={ s with toks:=s.toks+1 }) (looks_clsIn I.kIn hcd) ?_))))));rw [if_neg (by exact Bool.false_ne_true)];refine wpAny_pure (a:=some dx) ?_;show wpAny _ _ (Builtin.ObjectAttr.storeInDict dx (.str f s.toks) f u) _ _ _;unfold Builtin.ObjectAttr.storeInDict Builtin.ObjectAttr.newKeyGuard;refine wpAny_bind (wpAny_pure (wpAny_bind (wpAny_nsSet1 (s:={ s with toks:=s.toks+1 }) hns fun h' hn' hs=>?_)));obtain ⟨oD,esD,epD,hoD,hdD,hcD⟩:=hn'.count (PySem.Within.cons f u wi);refine wpAny_bind (wpAny_lookBehind hoD (by rw [hdD];exact pastItsLine_dict (Nat.le_trans hcD (by rw [length_cons,length_map,sizeLine_eq];omega))) ?_);refine wpAny_pure (h _ ?_);refine I.write (x:=dx) (e:=dx) (t':=s.toks+1+1) (by rw [ed];exact True.intro) (.inl rfl) (fun b u hb q=>(hs.2 b hb).trans q) ⟨_,hoD⟩ (mV_ (by have:=b5_ f y fs;omega) hn' (fun g=>?_) fun g hg=>?_)
 ·show RelO ((putF f y fs).lookup g) (if g=f then some u else mA g)
  rw [cN_];by_cases q:g=f
  ·rw [if_pos q,if_pos q]
   exact ry
  rw [if_neg q,if_neg q];exact rel g
 by_cases q:g=f
 ·rw [q]
  exact (cl_ f y fs).1
 refine (cl_ f y fs).2 g (wi g fun z=>hg ?_);show (if g=f then some u else mA g)=none;rw [if_neg q];exact z
end
end L2
namespace L2
open PySem PySem.Spec PyProof.Rows
open PySem.W (InstAt Looks)
def XGot (C p d:Addr):HO := .ext fun h=>∃ vs sl,h.get? p=some ⟨.ref C,some d,.fields vs,sl⟩
theorem pa_ {P:Program}{w:World}{H:Hp}{h:Heap}{C p d:Addr}{vs:Array Value}{sl:Array (Option Value)} (e:h.get? p=some ⟨.ref C,some d,.fields vs,sl⟩):a8_ P w H h p (XGot C p d) :=
 ⟨⟨vs,sl,e⟩,⟨_,e⟩,fun h1 h2 ⟨vs,sl,e⟩ kp=>⟨vs,sl,kp _ e⟩⟩
section
variable {X:Cx}{pins:List (Addr×Obj)}{σ:St}{H:Hp}{s:Shared}{a C f₀ dx:Addr}{fs:List (Str×V)}{f:Str}{v:V}{u:Value}{A:Around}{E:Value->Shared->Prop}
theorem l3_ {b:Bool}{Q:Value->Shared->Prop} (I:Inv X pins σ H s) (e:H a=some (XGot C a dx)) (ed:H dx=some (XDic dx fs)) (c:XCls X.K C f₀) (n:aD_ X.K C f) (l:fs.lookup f=some v)
  (h : ∀ u s',Inv X pins σ H s'->RelV v u->Q u s'):wpAny (model X.prog X.w) A (getAttr (.ref a) f b) Q E s:=by
 obtain ⟨⟨vs,sl,ha⟩,_,_⟩:=(show a8_ X.prog X.w H s.heap a (XGot C a dx) from I.hok a _ e);obtain ⟨⟨hlen,mA,hns,rel,wi⟩,_,_⟩:=(show a8_ X.prog X.w H s.heap dx (XDic dx fs) from I.hok dx _ ed);obtain ⟨od,hod,hlk⟩:=gS_ hns;have J:InstAt s.heap a _ C (some od):=⟨ha,rfl,rfl,hod⟩;obtain ⟨u,hu,ru⟩:=RelO.some_of (v:=v) (o:=mA f) (by rw [<- l];exact rel f);have hf:PySem.W.findObj X.K C (some od) f=some (.value u):=PySem.W.findObj_own c.hd n rfl (by rw [hlk,hu]);have K0:=I.kIn;have I1:=I.tok (s.toks+1);obtain ⟨hp,g,d,t,os⟩:=s;have L0:=J.type (M:=model X.prog X.w);have L1:=looks_findIn (M:=model X.prog X.w) K0 c.ga;have L2:=looks_findIn (M:=model X.prog X.w) K0 c.gn;unfold getAttr getAttrBy;refine wpAny_bind (wpAny_mkText (wpAny_holding (wpAny_bind (L0.at (wpAny_bind (L1.at ?_))))));dsimp only;rw [if_neg (by rw [show (Value.builtin "BaseException.__getattribute__" == Value.builtin "object.__getattribute__")=false by decide +kernel,Bool.and_false];exact Bool.false_ne_true)];unfold getAttrByItsOwn hookBefore;refine wpAny_bind (L2.at ?_);have hb:callGetattribute (Value.ref a) (Value.str f t) (Value.builtin "BaseException.__getattribute__") b=boundAndCalled (Value.builtin "BaseException.__getattribute__") (.ref a) (.str f t):=by cases b <;> rfl
 rw [hb];refine wpAny_bind (wpAny_attempt (wpAny_holding ?_));unfold boundAndCalled;have G:=PySem.F.attr_Exception;rw [G.ga.bind];refine wpAny_bind (wpAny_pure (wpAny_call ?_));obtain ⟨nm,q,N,bs,sn,sub,ab,col,dd,k0,k1,k2,k3,k5,lk⟩:=c.obj;have hcd:clsIn X.K C=some { name:=nm,bases:=bs,mro := .ref C::cH_,ns:=N,qualname:=q,hasDict:=true,slotNames:=sn,subclasses:=sub,abstract:=ab,collection:=col,hasDel:=false }:=by
  unfold clsIn;rw [lk]
 have isB:Looks (model X.prog X.w) hp (isInstance (.ref a) (.type "BaseException")) true:=L0.andThen (PySem.W.looks_mroIn K0 (by unfold mroIn;rw [hcd,Option.bind_some];rfl));refine codeAny_call_builtin G.ga.plain PySem.F.entry_bexc_ga (@PySem.W.check_slot (model X.prog X.w) _ _ ⟨hp,g,d,t+1,os⟩ "BaseException.__getattribute__" "BaseException" "__getattribute__" (.ref a) [.str f t] [] _ (by decide +kernel) (by decide +kernel) isB (PySem.F.args_bexc_ga _ _) ?_);have L3:=PySem.W.looks_find (M:=model X.prog X.w) K0 J hf;unfold Builtin.«object.__getattribute__»;refine wpAny_bind (wpAny_pure (wpAny_bind (wpAny_pure (wpAny_bind (L0.at (wpAny_bind (L3.at (wpAny_pure ?_))))))));show wpAny _ _ (handedOut u) _ _ _;rw [PySem.W.handedOut_of (gZ_ ru)];exact wpAny_pure (h u _ I1 ru)
end
def mD_ (K:PySem.W.Frag) (ta tv:TE) (f:Str):TS:=fun D σ H=>tv σ H fun y H1=>ta σ H1 fun x H2=>∃ a C f₀,x = .ref a/\H2 a=some (XNew C a none)/\XCls K C f₀/\aD_ K C f /\
 ∀ dx,H2 dx=none->dx≠a->D.nx σ (upd (upd H2 dx (XDic dx [(f,y)])) a (XNew C a (some dx)))
def mC_ (K:PySem.W.Frag) (ta tv:TE) (f:Str):TS:=fun D σ H=>tv σ H fun y H1=>ta σ H1 fun x H2=>∃ a C f₀ dx fs,x = .ref a/\H2 a=some (XNew C a (some dx))/\H2 dx=some (XDic dx fs)/\XCls K C f₀/\aD_ K C f/\fs.length<1000 /\
 D.nx σ (upd H2 dx (XDic dx (putF f y fs)))
def lq_ (K:PySem.W.Frag) (ta:TE) (f:Str):TE:=fun σ H Q=>ta σ H fun x H1=>∃ a C f₀ dx fs v,x = .ref a/\H1 a=some (XGot C a dx)/\H1 dx=some (XDic dx fs)/\XCls K C f₀/\aD_ K C f/\fs.lookup f=some v/\Q v H1
section
variable {X:Cx}{o e value:Expr}{f:Str}{pos pos':Pos}{ta tv:TE}
theorem lG_ (ha:PE X o ta) (hv:PE X value tv) (hs:swapsWith value (some (.Attribute o f pos')) pos.line X.env=pure false):PS X (.Assign [.Attribute o f pos'] value pos) (mD_ X.K ta tv f):=by
 intro pins s σ H D I h;refine plainObj_wpAny_Assign_Attribute (thn (hv pins s σ H _ I h) fun u s1 ⟨y,H1,I1,ry,q⟩=>thn (ha pins s1 σ H1 _ I1 q) fun ov s2 zq=>?_) hs;obtain ⟨x,H2,I2,rx,a,C,f₀,ex,ea,c,n,q2⟩:=zq;subst ex;obtain rfl:ov=Value.ref a:=rx;exact jY_ I2 ea c n ry fun dx s3 h1 h2 I3=>⟨σ,_,I3,q2 dx h1 h2⟩
theorem lF_ (ha:PE X o ta) (hv:PE X value tv) (hs:swapsWith value (some (.Attribute o f pos')) pos.line X.env=pure false):PS X (.Assign [.Attribute o f pos'] value pos) (mC_ X.K ta tv f):=by
 intro pins s σ H D I h;refine plainObj_wpAny_Assign_Attribute (thn (hv pins s σ H _ I h) fun u s1 ⟨y,H1,I1,ry,q⟩=>thn (ha pins s1 σ H1 _ I1 q) fun ov s2 zq=>?_) hs;obtain ⟨x,H2,I2,rx,a,C,f₀,dx,fs,ex,ea,ed,c,n,l,q2⟩:=zq;subst ex;obtain rfl:ov=Value.ref a:=rx;exact jX_ I2 ea ed c n l ry fun s3 I3=>⟨σ,_,I3,q2⟩
theorem ke_ (he:PE X e ta) (hb:attributeBase e f X.env (eval e X.env)=eval e X.env):PE X (.Attribute e f pos) (lq_ X.K ta f):=by
 intro pins s σ H Q I h;refine lb_ hb (thn (he pins s σ H _ I h) fun u s1 zq=>?_);obtain ⟨x,H1,I1,rx,a,C,f₀,dx,fs,v,ex,ea,ed,c,n,l,q⟩:=zq;subst ex;obtain rfl:u=Value.ref a:=rx;exact l3_ I1 ea ed c n l fun u' s2 I2 ru=>⟨v,H1,I2,ru,q⟩
end
noncomputable def del (H:Hp) (p:Addr):Hp:=fun b=>if b=p then none else H b
theorem eb_ {H:Hp}{p:Addr}:del H p p=none:=by
 unfold del;rw [if_pos rfl]
theorem cp_ {H:Hp}{p b:Addr} (h:b≠p):del H p b=H b:=by
 unfold del;rw [if_neg h]
section
variable {M:Model}{A:Around}{E:Value->Shared->Prop}{s:Shared}{env:Env}{K:PySem.W.Frag}{C f:Addr}
theorem os_ {x:Sem Value}{Q:Flow->Shared->Prop} (hh:A.handled=none) (c:XCls K C f)
  (go:wpAny M A x (fun v s₁=>∃ e d t,v = .ref e/\K.In s₁.heap/\s₁.heap.get? e=some { cls := .ref C,dict:=d,data := .fields #[.ref t,.none,.none,.none,.bool false,.none] }/\E (.ref e) s₁) E s) :
  wpAny M A (raiseStmt env (some x) none) Q E s:=by
 obtain ⟨nm,q,N,bs,sn,sub,ab,col,dd,k0,k1,k2,k3,k5,lk⟩:=c.obj;have isB:(Value.ref C::cH_).contains (.type "BaseException")=true:=by rw [List.contains_cons,PySem.F.excBase_Exception.hasBase,Bool.or_true]
 unfold raiseStmt;refine wpAny_bind (wpAny_mono go (fun v s₁ z=>?_) fun _ _ z=>z);obtain ⟨e,d,t,rfl,KX,atE,hE⟩:=z;have atC:=KX _ _ lk;obtain ⟨hp,g,dr,tk,os⟩:=s₁
 repeat (first | (with_reducible refine wpAny_loadPart_at atE ?_) | (with_reducible refine wpAny_loadPart_at atC ?_) | ((with_reducible refine wpAny_isSubtype_exc atC ?_);rw [isB]) | wp_step)
 exact wpAny_raiseNew_none hh hE
end
def cE_ (C:Addr) (sp:Sp) (t:TA) (E:XK):TS:=fun _ σ H=>t σ H fun vs H1=>vs.length<=sizeLine/\∀ a,H1 a=none ->
 sp (.ref a::vs) (upd H1 a (XNew C a none)) (fun v H2=>v = .non/\∃ dx fs,H2 a=some (XNew C a (some dx))/\H2 dx=some (XDic dx fs)/\E (.ref C) (some dx) (del H2 a)) fun _ _ _=>False
def mS_ (X:Cx) (E:XK):Prop:=∀ (pins:List (Addr×Obj)) (σ:St) (H:Hp) (s:Shared) (C a dx:Addr) (fs:List (Str×V)),Inv X pins σ H s->X.s_0.heap.objs.size<=a ->
 H a=some (XNew C a (some dx))->H dx=some (XDic dx fs)->E (.ref C) (some dx) (del H a)->X.xe (.ref a) s
theorem Inv.madeX {X:Cx}{pins:List (Addr×Obj)}{σ:St}{H:Hp}{s:Shared}{C:Addr}{us:List Value} (I:Inv X pins σ H s):Inv X pins σ (upd H (s.heap.objs.size+1) (XNew C (s.heap.objs.size+1) none)) { s with heap:=f3_ s.heap C us } :=
 I.laid (a:=s.heap.objs.size+1) (o:=XNew C (s.heap.objs.size+1) none) (t':=s.toks) (fun b u q=>eK_ q) (le_succ _) (n3_ iz_)
section
variable {X:Cx}{k:Nat}{f C:Addr}{fd:FuncData}{ps:List Str}{sp:Sp}{E:XK}{x:Str}{p pos cpos:Pos}{e:Expr}{es:List Expr}{t:TA}
theorem runX {pins:List (Addr×Obj)}{σ:St}{H:Hp}{s:Shared}{us:List Value}{vs:List V}{Q:Addr->Hp->Prop} (c:XCls X.K C f) (F:FnOk X.prog X.w X.K X.mg X.base CX0 k f fd ps sp) (hr:Room (k+1) X.A) (hb:a9_ X.K fd ps [])
  (I:Inv X pins σ H s) (r:Vals vs us) (hl:vs.length<=sizeLine) (h : ∀ a,H a=none->sp (.ref a::vs) (upd H a (XNew C a none)) (fun v H2=>v = .non/\Q a H2) fun _ _ _=>False) :
  wpAny (model X.prog X.w) X.A (call (.ref C) us) (fun v s'=>∃ a H',v = .ref a/\X.s_0.heap.objs.size<=a/\Inv X pins σ H' s'/\Q a H') X.xe s:=by
 have hq:=h (s.heap.objs.size+1) (I.hok.fresh (le_succ _));have I2:=Inv.madeX (C:=C) (us:=us) I;have r2:Vals (V.ref (s.heap.objs.size+1)::vs) (Value.ref (s.heap.objs.size+1)::us) := .cons rfl r;have hl2:(Value.ref (s.heap.objs.size+1)::us++[]).length=ps.length:=by
  rw [append_nil,<- r2.length];exact F.len _ _ _ _ hq
 have hb2:=hb { s with heap:=f3_ s.heap C us } (Value.ref (s.heap.objs.size+1)::us) I2.kIn hl2;rw [append_nil] at hb2;refine wpAny_call (pf_ (f:=f) I.kIn c (by rw [<- r.length];exact hl) (codeAny_mono (F.run _ X.stack _ _ ⟨Value.ref (s.heap.objs.size+1)::us,[]⟩ (Value.ref (s.heap.objs.size+1)::us) _ _ _ (hr.make C us [])
  (I2.env0.make C us []) hb2 r2 hq) fun r s' hq'=>?_))
 cases r with
 | error e=>exact False.elim hq'
 | ok fl =>
 cases fl with
 | ret u =>
  obtain ⟨v,H',I3,rv,ev,q3⟩:=I2.after hq';subst ev;exact ⟨rv,_,H',rfl,Nat.le_trans I.sz (le_succ _),I3,q3⟩
 | next=>exact False.elim hq'
 | brk=>exact False.elim hq'
 | cont=>exact False.elim hq'
theorem bx_ (c:XCls X.K C f) (F:FnOk X.prog X.w X.K X.mg X.base CX0 k f fd ps sp) (hr:Room (k+1) X.A) (hg:Gl X x) (hm:X.mg x=some (.ref C)) (hb:a9_ X.K fd ps []) (hx:mS_ X E) (hc:X.calm=true)
  (ha:PA X (e::es) t) (hdb:(x == ("__debug__":Str))=false:=by decide) (he:starEach (e::es) X.env=(false,eval e X.env)::starEach es X.env:=by rfl) (hpl:(backTo cpos (starEach es X.env)).any (·.1)=false:=by rfl) :
  PS X (.Raise (some (.Call (.Name x p) (e::es) [] cpos)) none pos) (cE_ C sp t E):=by
 intro pins s σ H D I h;have key:wpAny (model X.prog X.w) X.A (eval (.Call (.Name x p) (e::es) [] cpos) X.env) (fun v s₁=>∃ e d t,v = .ref e/\X.K.In s₁.heap/\s₁.heap.get? e=some { cls := .ref C,dict:=d,data := .fields #[.ref t,.none,.none,.none,.bool false,.none] }/\X.xe (.ref e) s₁) X.xe s:=by
  refine wpAny_Call_Name_kw (dw_ I hg hm ?_ hdb);refine callWith_K (h₀:=X.base) I.ok.mod.kin c.kp (thn (ha cpos pins s σ H _ I h) fun us s1 ⟨vs,H1,I1,r,hl,q⟩=>⟨I1.kIn,?_⟩) he hpl;refine thn (runX c F hr hb I1 r hl q) fun v s2 zq=>?_;obtain ⟨a,H2,ev,hs,I2,dx,fs,h1,h2,h3⟩:=zq;obtain ⟨⟨t,hat⟩,_,_⟩:=(show a8_ X.prog X.w H2 s2.heap a (XNew C a (some dx)) from I2.hok a _ h1);exact ⟨a,some dx,t,ev,I2.kIn,hat,hx pins σ H2 s2 C a dx fs I2 hs h1 h2 h3⟩
 rw [arm_exec_Raise];exact wpAny_bind (wpAny_standAt (os_ (I.ok.hd hc) c (wpAny_bind (wpAny_mono key (fun v s₁ z=>wpAny_bind (wpAny_standAt (wpAny_pure z))) fun _ _ z=>z))))
end
end L2
namespace L2
open PySem PySem.Spec PyProof.Rows
open PySem.W (InstAt Looks)
structure Noted (l:List Env) (e:Addr) (old:Option Addr) (fl:Value) (h h':Heap):Prop where
 keep : ∀ b o,b≠e->some b≠old->b∉frs l->h.get? b=some o->h'.get? b=some o
 slot : ∀ b o,b≠e->some b≠old->h.get? b=some o->∃ sl,h'.get? b=some { o with slots:=sl }
 there : ∀ b o,h.get? b=some o->∃ o',h'.get? b=some o'
 exc : ∀ oe vs,h.get? e=some oe->oe.data = .fields vs->∃ vs' T oT ts,h'.get? e=some { oe with data := .fields vs' }/\vs'[1]? = some (.ref T)/\h.objs.size<=T/\T≠e/\h'.get? T=some oT/\oT.data = .fields ts/\ts[3]? = some fl
section
variable {M:Model}{A:Around}{E:Value->Shared->Prop}{s:Shared}
theorem gR_ {o:Obj}{vs:Array Value} (d:o.data = .fields vs) (g:Array Value->Array Value):Obj.mapFields g o={ o with data := .fields (g vs) }:=by
 obtain ⟨c,dd,dt,sl⟩:=o;dsimp only at d;subst d;rfl
theorem mM_ {base:Heap}{env:Env}{outer:List Env}{L e:Addr}{oe:Obj}{vs:Array Value}{head:Value}{nx:Bool}{Q:Unit->Shared->Prop}
  (hfr:A.frames=some (env::outer)) (hl:s.heap.FunFrames base (env::outer)) (hf:env.frame=some L) (he:s.heap.get? e=some oe) (hd:oe.data = .fields vs) (hz:1<vs.size)
  (go : ∀ h',Noted (env::outer) e none (rawInt L) s.heap h'->Q () { s with heap:=h' }) :
  wpAny M A (do let a <- frameOf env;let pl <- entryPlaceOf L nx;let b <- EntryCells.newEntry head a .none (rawInt L) .none pl;setField (.ref e) 1 b) Q E s:=by
 have nfr:e∉frs (env::outer):=fun hm=>by
  obtain ⟨_,o,ho,nf⟩:=hl.mem hm;rw [he] at ho;cases ho;exact nf vs hd
 refine wpAny_bind (wpAny_frameOf_fun hfr hl hf fun h₁ so=>wpAny_bind (wpAny_entryPlaceOf fun pl hpl=>?_));unfold EntryCells.newEntry newFields;refine wpAny_bind (wpAny_newObj_type ?_ (hpl.sizeOk5 _ _ _ _ _));have e1:h₁.get? e=some oe:=(so.2.1 e nfr).trans he;have e2:=Heap.get?_push_of_some { cls := .type "traceback",dict:=none,data := .fields ([head,.ref L,.none,rawInt L,.none]++(if pl.isEmpty then List.replicate 6 Value.none else pl)).toArray } e1;have nT:h₁.objs.size≠e:=ne_of_gt (Heap.lt_size e1);have hfd:=Obj.isFreed_of_fields (Obj.data_mapFields hd (·.setIfInBounds 1 (Value.ref h₁.objs.size)));refine wpAny_setField e2 hd hz (go _ ⟨fun b o hb _ hn q=>?_,fun b o hb _ q=>?_,fun b o q=>?_,fun oe' vs' q1 q2=>?_⟩)
 ·rw [Heap.get?_update_other _ _ (Ne.symm hb)]
  exact Heap.get?_push_of_some _ ((so.2.1 b hn).trans q)
 ·obtain ⟨sl,z⟩:=so.2.2 b o q
  exact ⟨sl,by rw [Heap.get?_update_other _ _ (Ne.symm hb)];exact Heap.get?_push_of_some _ z⟩
 ·by_cases hb:b=e
  ·subst hb
   exact ⟨_,Heap.get?_update_self _ e2 hfd⟩
  obtain ⟨sl,z⟩:=so.2.2 b o q;exact ⟨_,by rw [Heap.get?_update_other _ _ (Ne.symm hb)];exact Heap.get?_push_of_some _ z⟩
 rw [he] at q1;cases q1;rw [hd] at q2;cases q2;have atT:((h₁.push { cls := .type "traceback",dict:=none,data := .fields ([head,.ref L,.none,rawInt L,.none]++(if pl.isEmpty then List.replicate 6 Value.none else pl)).toArray }).update e (Obj.mapFields (·.setIfInBounds 1 (Value.ref h₁.objs.size)))).get? h₁.objs.size
   = some { cls := .type "traceback",dict:=none,data := .fields ([head,.ref L,.none,rawInt L,.none]++(if pl.isEmpty then List.replicate 6 Value.none else pl)).toArray }:=by
  rw [Heap.get?_update_other _ _ (Ne.symm nT)];exact Heap.get?_push_size h₁ rfl
 refine ⟨vs.setIfInBounds 1 (Value.ref h₁.objs.size),h₁.objs.size,_,([head,.ref L,.none,rawInt L,.none]++(if pl.isEmpty then List.replicate 6 Value.none else pl)).toArray,?_,by simp [hz],Nat.le_of_eq so.1.symm,nT,atT,rfl,?_⟩
 ·rw [<- gR_ hd (·.setIfInBounds 1 (Value.ref h₁.objs.size))]
  exact Heap.get?_update_self _ e2 hfd
 first | (simp;done) | (rcases hpl with rfl | ⟨_,_,_,_,_,_,_,rfl⟩ <;> simp)
def o8_ (h:Heap) (e:Addr) (vs:Array Value) (old:Option Addr):Prop :=
 (old=none/\vs[1]? = some .none)\/∃ T oT ts,old=some T/\vs[1]? = some (.ref T)/\T≠e/\h.get? T=some oT/\oT.data = .fields ts/\ts[3]? = some .none
theorem oF_ {base:Heap}{env:Env}{outer:List Env}{L e:Addr}{oe:Obj}{vs:Array Value}{old:Option Addr}{Q:Unit->Shared->Prop}
  (hfr:A.frames=some (env::outer)) (hl:s.heap.FunFrames base (env::outer)) (hf:env.frame=some L) (he:s.heap.get? e=some oe) (hd:oe.data = .fields vs) (la:o8_ s.heap e vs old)
  (go : ∀ h',Noted (env::outer) e old (rawInt L) s.heap h'->Q () { s with heap:=h' }):wpAny M A (noteFrame (.ref e) env) Q E s:=by
 unfold noteFrame;simp only [hf];rcases la with ⟨rfl,h1⟩ | ⟨T,oT,ts,rfl,h1,nTe,hT,dT,h3⟩
 ·refine wpAny_bind (wpAny_field he hd h1 ?_)
  rw [if_neg (by decide)];exact mM_ hfr hl hf he hd (Array.getElem?_eq_some_iff.mp h1).1 go
 refine wpAny_bind (wpAny_field he hd h1 ?_);rw [if_pos (show (Value.ref T != Value.none)=true by simp)];refine wpAny_bind (wpAny_field hT dT h3 ?_);rw [if_neg (show ¬ ((Value.none == rawInt L)=true) by simp [rawInt])];refine wpAny_bind (wpAny_setField hT dT (Array.getElem?_eq_some_iff.mp h3).1 ?_);have oth : ∀ b,b≠T->(s.heap.update T (Obj.mapFields (·.setIfInBounds 3 Value.none))).get? b=s.heap.get? b:=fun b hb=>Heap.get?_update_other _ _ (Ne.symm hb);have atT:=Heap.get?_update_self (Obj.mapFields (·.setIfInBounds 3 Value.none)) hT (Obj.isFreed_of_fields (Obj.data_mapFields dT _));refine mM_ (s:={ s with heap:=s.heap.update T (Obj.mapFields (·.setIfInBounds 3 Value.none)) }) hfr (hl.of_keeps fun b o hb nf=>⟨o,(oth b fun q=>?_).trans hb,rfl⟩) hf ((oth e (Ne.symm nTe)).trans he) hd (Array.getElem?_eq_some_iff.mp h1).1
  fun h' n=>go h' ⟨fun b o hb ho hn q=>n.keep b o hb (by simp) hn ((oth b fun z=>ho (by rw [z])).trans q),fun b o hb ho q=>n.slot b o hb (by simp) ((oth b fun z=>ho (by rw [z])).trans q),fun b o q=>?_,fun oe' vs' q1 q2=>?_⟩
 ·subst q
  rw [hT] at hb;cases hb;exact nf ts dT
 ·by_cases hb:b=T
  ·subst hb
   exact n.there b _ atT
  exact n.there b o ((oth b hb).trans q)
 obtain ⟨vs2,T2,oT2,ts2,z1,z2,z3,z⟩:=n.exc oe' vs' ((oth e (Ne.symm nTe)).trans q1) q2;exact ⟨vs2,T2,oT2,ts2,z1,z2,Nat.le_trans (Nat.le_of_eq (Heap.size_after_update ..).symm) z3,z⟩
theorem hJ_ {h:Heap}{l:List Env}{e:Addr}{old:Option Addr}{fl:Value}{oe:Obj}{vs:Array Value}{Q:Unit->Shared->Prop} (he:h.get? e=some oe) (hd:oe.data = .fields vs) (n:Noted l e old fl h s.heap)
  (go : ∀ h',Noted l e old .none h h'->Q () { s with heap:=h' }):wpAny M A (setFlight (.ref e) none) Q E s:=by
 obtain ⟨vs',T,oT,ts,z1,z2,z3,z4,z5,z6,z7⟩:=n.exc oe vs he hd;have hz:3<ts.size:=(Array.getElem?_eq_some_iff.mp z7).1;unfold setFlight;refine wpAny_bind (wpAny_field z1 rfl z2 ?_);rw [if_pos (show (Value.ref T != Value.none)=true by simp)];refine wpAny_setField z5 z6 hz (go _ ?_);have oth : ∀ b,b≠T->(s.heap.update T (Obj.mapFields (·.setIfInBounds 3 ((none:Option Addr).elim Value.none fun f=>rawInt f)))).get? b=s.heap.get? b:=fun b hb=>Heap.get?_update_other _ _ (Ne.symm hb);have ne : ∀ b o,h.get? b=some o->b≠T:=fun b o q=>Nat.ne_of_lt (Nat.lt_of_lt_of_le (Heap.lt_size q) z3);refine ⟨fun b o hb ho hn q=>(oth b (ne b o q)).trans (n.keep b o hb ho hn q),fun b o hb ho q=>?_,fun b o q=>?_,fun oe' vs2 q1 q2=>?_⟩
 ·obtain ⟨sl,z⟩:=n.slot b o hb ho q
  exact ⟨sl,(oth b (ne b o q)).trans z⟩
 ·obtain ⟨o',z⟩:=n.there b o q
  exact ⟨o',(oth b (ne b o q)).trans z⟩
 rw [he] at q1;cases q1;rw [hd] at q2;cases q2;exact ⟨vs',T,_,_,(oth e (Ne.symm z4)).trans z1,z2,z3,z4,Heap.get?_update_self _ z5 (Obj.isFreed_of_fields (Obj.data_mapFields z6 _)),Obj.data_mapFields z6 _,by simp [hz]⟩
end
structure Flown (h₀ h:Heap) (H:Hp) (a C d:Addr):Prop where
 new:h₀.objs.size<=a
 free:H a=none
 at_ : ∃ vs sl T oT ts,h.get? a=some ⟨.ref C,some d,.fields vs,sl⟩/\vs[1]? = some (.ref T)/\T≠a/\h₀.objs.size<=T/\H T=none/\h.get? T=some oT/\oT.data = .fields ts/\ts[3]? = some .none
def CX1 (P:Program) (w:World):CXT:=fun outer H s E e s'=>∃ a C d fs H',e = .ref a/\s'.os=s.os/\AllBare s'.gens/\Un (frs outer) [] H H' s.heap s'.heap/\HOk P w H' s'.heap/\Flown s.heap s'.heap H' a C d /\
 H' d=some (XDic d fs)/\E (.ref C) (some d) H'
theorem HOk.noted {P:Program}{w:World}{H:Hp}{h h':Heap}{l:List Env}{a:Addr}{old:Option Addr}{fl:Value} (x:HOk P w H h) (n:Noted l a old fl h h') (ha:H a=none) (ho : ∀ T,old=some T->H T=none) (hl : ∀ b∈frs l,H b=none):HOk P w H h':=fun b o e=>by
 have k : ∀ c u,H c≠none->h.get? c=some u->h'.get? c=some u:=fun c u q z=>n.keep c u (fun r=>q (by rw [r];exact ha)) (fun r=>q (ho c r.symm)) (fun r=>q (hl c r)) z;refine (x b o e).stay (fun c u hc q=>k c u ?_ q) (fun _ q=>q) fun _ _ q=>q;rcases hc with r | r
 ·rw [r,e]
  simp
 rw [r];simp
theorem Un.noted {fs':List Addr}{H₀ H:Hp}{h₀ h h':Heap}{l:List Env}{a:Addr}{old:Option Addr}{fl:Value} (u:Un fs' [] H₀ H h₀ h) (n:Noted l a old fl h h') (ha:h₀.get? a=none) (ho : ∀ T,old=some T->h₀.get? T=none)
  (hl : ∀ b∈frs l,b∈fs'\/h₀.get? b=none):Un fs' [] H₀ H h₀ h':=by
 have na : ∀ b o,h₀.get? b=some o->b≠a:=fun b o q r=>by
  rw [r,ha] at q;cases q
 have no : ∀ b o,h₀.get? b=some o->some b≠old:=fun b o q r=>by
  rw [ho b r.symm] at q;cases q
 refine ⟨fun b o q z hb hx=>n.keep b o (na b o q) (no b o q) (fun r=>?_) (u.keep b o q z hb hx),fun b o q z hb hx=>?_,u.free,fun b o q hx=>?_,u.tups,u.frzs,u.tbls⟩
 ·rcases hl b r with r | r
  ·exact hb r
  rw [q] at r;cases r
 ·obtain ⟨sl,e⟩:=u.slot b o q z hb hx
  obtain ⟨sl',e'⟩:=n.slot b _ (na b o q) (no b o q) e;exact ⟨sl',e'⟩
 obtain ⟨o',e⟩:=u.there b o q hx;exact n.there b o' e
theorem Flown.noted {h₀ h h':Heap}{H:Hp}{P:Program}{w:World}{l:List Env}{a C d:Addr}{old:Option Addr}{vs:Array Value}{sl:Array (Option Value)} (hok:HOk P w H h) (sz:h₀.objs.size<=h.objs.size) (n:Noted l a old .none h h')
  (e:h.get? a=some ⟨.ref C,some d,.fields vs,sl⟩) (ha:h₀.objs.size<=a) (hf:H a=none):Flown h₀ h' H a C d:=by
 obtain ⟨vs',T,oT,ts,z1,z2,z3,z4,z5,z6,z7⟩:=n.exc _ vs e rfl;exact ⟨ha,hf,vs',sl,T,oT,ts,z1,z2,z4,Nat.le_trans sz z3,hok.fresh z3,z5,z6,z7⟩
end L2
namespace L2
open PySem PySem.Spec PyProof.Rows
open PySem.W (InstAt Looks)
theorem HOk.del {P:Program}{w:World}{H:Hp}{h:Heap}{a:Addr}{φ:Heap->Prop} (x:HOk P w H h) (e:H a=some (.ext φ)):HOk P w (del H a) h:=fun b o q=>by
 have hb:b≠a:=fun r=>by
  rw [r,eb_] at q;cases q
 rw [cp_ hb] at q;refine (x b o q).stay (fun _ _ _ z=>z) (fun c z=>?_) fun c xs z=>?_
 ·rw [cp_ (fun r=>by rw [r,e] at z;cases z)]
  exact z
 rw [cp_ (fun r=>by rw [r,e] at z;cases z)];exact z
theorem Un.del {fs ex:List Addr}{H₀ H:Hp}{h₀ h:Heap}{a:Addr}{φ:Heap->Prop} (u:Un fs ex H₀ H h₀ h) (e:H a=some (.ext φ)):Un fs ex H₀ (del H a) h₀ h:=by
 refine ⟨u.keep,u.slot,fun b o q z hx=>?_,u.there,fun b xs q=>?_,fun b o xs q=>?_,fun b ps q=>?_⟩
 ·by_cases hb:b=a
  ·rw [hb,eb_]
  rw [cp_ hb];exact u.free b o q z hx
 ·have z:=u.tups b xs q
  rw [cp_ (fun r=>by rw [r,e] at z;cases z)];exact z
 ·have z:=u.frzs b o xs q
  rw [cp_ (fun r=>by rw [r,e] at z;cases z)];exact z
 obtain ⟨m,z⟩:=u.tbls b ps q;rw [cp_ (fun r=>by rw [r,e] at z;cases z)];exact ⟨m,z⟩
theorem f7_ {H:Hp}{a b:Addr} (h:H b=none):del H a b=none:=by
 by_cases hb:b=a
 ·rw [hb,eb_]
 rw [cp_ hb];exact h
theorem Inv.del {X:Cx}{pins:List (Addr×Obj)}{σ:St}{H:Hp}{s:Shared}{a:Addr}{φ:Heap->Prop} (I:Inv X pins σ H s) (e:H a=some (.ext φ)):Inv X pins σ (L2.del H a) s :=
 ⟨I.ok,I.os,I.bare,I.base.del e,I.loc,I.cell,f7_ I.free,fun x c q=>f7_ (I.freeC x c q),fun p hp=>let ⟨h1,h2,h3⟩:=I.pin p hp;⟨h1,f7_ h2,h3⟩,I.hok.del e,I.len⟩
section
variable {P:Program}{w:World}{K:PySem.W.Frag}{mg:Str->Option Value}{base:Heap}{N:List Str}{qual:Str}{scope:Scope}{f:Addr}{cd:Value}{A:Around}{outer:List Env}{s₀:Shared}{H₀:Hp}{E:XK}
theorem ge_ {pins:List (Addr×Obj)}{σ:St}{H:Hp}{s:Shared}{a C d:Addr}{vs:Array Value}{sl:Array (Option Value)}{old:Option Addr}{fs:List (Str×V)} (I:Inv (cxOf (CX1 P w) P w K mg base N qual scope f cd A outer s₀ H₀ E) pins σ H s)
  (ha:s₀.heap.objs.size<=a) (hat:s.heap.get? a=some ⟨.ref C,some d,.fields vs,sl⟩) (la:o8_ s.heap a vs old) (ho : ∀ T,old=some T->s₀.heap.objs.size<=T/\H T=none) (hf:H a=none) (hd:H d=some (XDic d fs)) (q:E (.ref C) (some d) H) :
  (cxOf (CX1 P w) P w K mg base N qual scope f cd A outer s₀ H₀ E).xe (.ref a) s:=by
 have b1:Un (frs outer) [] H₀ H s₀.heap s.heap:=I.base;show wpAny _ _ (leaving _ (.ref a)) _ _ s;unfold leaving;refine wpAny_bind (oF_ (s:=s) I.ok.frames I.stack rfl hat rfl la fun h1 n1=>?_);refine hJ_ (s:={ s with heap:=h1 }) (h:=s.heap) hat rfl n1 fun h2 n2=>?_;refine ⟨a,C,d,fs,H,rfl,I.os,I.bare,?_,?_,?_,hd,q⟩
 ·refine b1.noted n2 (Heap.get?_none_of_le ha) (fun T z=>Heap.get?_none_of_le (ho T z).1) fun b hb=>?_
  rcases List.mem_cons.mp (I.stkSub b hb) with e | hb
  ·refine .inr ?_
   rw [e];exact Heap.get?_none_of_le (Nat.le_refl _)
  exact .inl hb
 ·exact I.hok.noted n2 hf (fun T z=>(ho T z).2) fun b hb=>I.stkFree b hb
 exact Flown.noted I.hok I.sz n2 hat ha hf
theorem bi_:mS_ (cxOf (CX1 P w) P w K mg base N qual scope f cd A outer s₀ H₀ E) E:=fun pins σ H s C a dx fs I hs h1 h2 q=>by
 obtain ⟨⟨t,hat⟩,_,_⟩:=(show a8_ P w H s.heap a (XNew C a (some dx)) from I.hok a _ h1);have nd:dx≠a:=fun z=>by
  obtain ⟨_,mA,⟨o,es,ep,ho,hd,_⟩,_⟩:=(show a8_ P w H s.heap dx (XDic dx fs) from I.hok dx _ h2).1;rw [z,hat] at ho;cases ho;cases hd
 exact ge_ (old:=none) (I.del h1) hs hat (.inl ⟨rfl,rfl⟩) (fun T z=>nomatch z) eb_ (by rw [cp_ nd];exact h2) q
theorem aK_:bK_ (CX1 P w) (cxOf (CX1 P w) P w K mg base N qual scope f cd A outer s₀ H₀ E) E:=fun pins σ H s e s' I z=>by
 obtain ⟨a,C,d,fs,H',rfl,os,bare,un,hok,⟨new,free,vs,sl,T,oT,ts,hat,h1,nT,nT0,fT,hT,dT,h3⟩,hd,q⟩:=z;have I':=I.call' (ch:=[]) os un hok bare (fun b z=>absurd z (by simp));exact ge_ (old:=some T) I' (Nat.le_trans I.sz new) hat (.inr ⟨T,oT,ts,rfl,h1,nT,hT,dT,h3⟩) (fun T' z=>by cases z;exact ⟨Nat.le_trans I.sz nT0,fT⟩) free hd q
theorem ip_:PassesOwn (model P w) (cxOf (CX1 P w) P w K mg base N qual scope f cd A outer s₀ H₀ E).A (cxOf (CX1 P w) P w K mg base N qual scope f cd A outer s₀ H₀ E).env (cxOf (CX1 P w) P w K mg base N qual scope f cd A outer s₀ H₀ E).xe:=PassesOwn.leaving
theorem Fun.okX {x:Str}{st:Stmt}{fd:FuncData}{ps:List Str}{k:Nat}{sp:Sp} (F:Fun K x qual st f fd) (S:FnScope N ps (af_ st)) (len : ∀ vs H Q E,sp vs H Q E->vs.length=ps.length)
  (hbody : ∀ (cdv:Value) (A:Around) (outer:List Env) (s:Shared) (H:Hp) (vs:List V) (Q:VK) (E:XK),Room k (A.deeper (envOfC qual (af_ st) s.heap.objs.size f cdv))->sp vs H Q E ->
   ∃ t,PSs (cxOf (CX1 P w) P w K mg base N qual (af_ st) f cdv A outer s H E) (b8_ st) t/\t { nx:=fun _ H'=>Q .non H',rt:=Q } (start N vs) H):FnOk P w K mg base (CX1 P w) (k+1) f fd ps sp:=by
 obtain ⟨oc,od,kV,doc,pm,an,cdv,ct,osl,rfl,lk,hcd⟩:=F.ex;exact oX_ lk hcd S len fun A outer s H vs Q E hr hsp=>hbody cdv A outer s H vs Q E hr hsp
end
end L2
namespace L2
open PySem PySem.Spec PyProof.Rows
open PySem.W (InstAt Looks)
abbrev Cx.pinned (X:Cx) (pn:List (Addr×Obj)) (E:Value->Shared->Prop):Cx:={ X with pn:=pn,xe:=E }
abbrev Cx.hand (X:Cx) (a:Addr):Cx:={ X with A:=X.A.mark (some (.ref a)),calm:=false,xe:=fun _ _=>False }
section
variable {X:Cx}{pins:List (Addr×Obj)}{σ:St}{H:Hp}{s:Shared}{E:Value->Shared->Prop}{a:Addr}
theorem Inv.pin_in (I:Inv X pins σ H s):Inv (X.pinned (X.pn++pins) E) [] σ H s :=
 ⟨⟨I.ok.mod,I.ok.kind,I.ok.glob,I.ok.blt,I.ok.above,I.ok.inj,I.ok.has,I.ok.cab,I.ok.hd,I.ok.frames,I.ok.stk,I.ok.exf,I.ok.bs,I.ok.bsz,I.ok.noex,I.ok.exfs,I.ok.funs,I.ok.frf⟩,I.os,I.bare,I.base,I.loc,I.cell,I.free,I.freeC,fun p hp=>I.pin p (by simpa using hp),I.hok,I.len⟩
theorem Inv.pin_out {pins':List (Addr×Obj)} (I:Inv (X.pinned (X.pn++pins) E) pins' σ H s):Inv X pins σ H s :=
 ⟨⟨I.ok.mod,I.ok.kind,I.ok.glob,I.ok.blt,I.ok.above,I.ok.inj,I.ok.has,I.ok.cab,I.ok.hd,I.ok.frames,I.ok.stk,I.ok.exf,I.ok.bs,I.ok.bsz,I.ok.noex,I.ok.exfs,I.ok.funs,I.ok.frf⟩,I.os,I.bare,I.base,I.loc,I.cell,I.free,I.freeC,fun p hp=>I.pin p (mem_append_left _ hp),I.hok,I.len⟩
theorem Inv.hand_in (I:Inv X pins σ H s) (a:Addr):Inv (X.hand a) pins σ H s :=
 ⟨⟨I.ok.mod,I.ok.kind,I.ok.glob,I.ok.blt,I.ok.above,I.ok.inj,I.ok.has,I.ok.cab,fun z=>Bool.noConfusion z,I.ok.frames,I.ok.stk,I.ok.exf,I.ok.bs,I.ok.bsz,I.ok.noex,I.ok.exfs,I.ok.funs,I.ok.frf⟩,I.os,I.bare,I.base,I.loc,I.cell,I.free,I.freeC,I.pin,I.hok,I.len⟩
theorem Inv.hand_out (ok:X.Ok) (I:Inv (X.hand a) pins σ H s):Inv X pins σ H s:=⟨ok,I.os,I.bare,I.base,I.loc,I.cell,I.free,I.freeC,I.pin,I.hok,I.len⟩
theorem SP.pin_out {D:Ends}{f:Flow} (h:SP (X.pinned (X.pn++pins) E) [] D f s):SP X pins D f s:=by
 cases f with
 | next=>obtain ⟨σ',H',I,q⟩:=h;exact ⟨σ',H',I.pin_out,q⟩
 | brk=>obtain ⟨σ',H',I,q⟩:=h;exact ⟨σ',H',I.pin_out,q⟩
 | cont=>obtain ⟨σ',H',I,q⟩:=h;exact ⟨σ',H',I.pin_out,q⟩
 | ret u=>obtain ⟨v,σ',H',I,r,q⟩:=h;exact ⟨v,σ',H',I.pin_out,r,q⟩
theorem Inv.noted {old:Option Addr}{fl:Value}{h':Heap}{t':Nat} (I:Inv X pins σ H s) (n:Noted X.stack a old fl s.heap h') (ha:H a=none) (ho : ∀ T,old=some T->H T=none)
  (hx : ∀ b,b=a\/some b=old->X.s_0.heap.objs.size<=b/\b≠X.env.locals/\(∀ x c,X.env.cells.lookup x=some c->c≠b)/\∀ p∈X.pn++pins,p.1≠b):Inv X pins σ H { s with heap:=h',toks:=t' }:=by
 have mem : ∀ b,b∈a::old.toList->b=a\/some b=old:=fun b hb=>by
  rcases List.mem_cons.mp hb with e | e
  ·exact .inl e
  cases old with
  | none=>simp at e
  | some T=>exact .inr (by simpa using e)
 have nch : ∀ b,b∉a::old.toList->b≠a/\some b≠old:=fun b hb=>⟨fun z=>hb (by simp [z]),fun z=>hb (by rw [<- z];simp)⟩;refine I.step (g':=s.gens) (d':=s.drawn) (ch:=a::old.toList) (fun b hb=>let ⟨h1,h2,h3,h4⟩:=hx b (mem b hb);⟨.inr h1,h2,h3,h4⟩) (fun b o hL hb hc q _=>n.keep b o (nch b hc).1 (nch b hc).2 (fun z=>?_) q)
  (fun b o _ _ hc q _=>n.slot b o (nch b hc).1 (nch b hc).2 q) (fun b o _ _ z=>z) (fun b o _ q=>n.there b o q) (fun _ _ z=>z) (fun _ _ _ z=>z) (fun b ps z=>⟨#[],by rw [z];simp⟩) (fun m hm=>?_)
  (I.hok.noted n ha ho fun b hb=>I.stkFree b hb) I.bare
 ·rcases List.mem_cons.mp (I.stkSub b z) with e | e
  ·exact hL e
  exact hb e
 obtain ⟨o,es,ep,ho',r⟩:=hm;have nl:X.env.locals≠a/\some X.env.locals≠old:=⟨fun z=>(hx _ (.inl z)).2.1 rfl,fun z=>(hx _ (.inr z)).2.1 rfl⟩;obtain ⟨sl,e⟩:=n.slot _ o nl.1 nl.2 ho';exact ⟨_,es,ep,e,r⟩
theorem Inv.unbound {h':Heap}{m':Str->Option Value}{t':Nat} (I:Inv X pins σ H s) (hn:h'.Ns X.env.locals m') (sb:Heap.SameBut X.env.locals s.heap h'):Inv X pins (List.replicate X.N.length none) H { s with heap:=h',toks:=t' }:=by
 have old : ∀ b o,X.s_0.heap.get? b=some o->h'.get? b=s.heap.get? b:=fun b o q=>sb.2 b (Nat.ne_of_lt (Nat.lt_of_lt_of_le (Heap.lt_size q) I.ok.above));refine ⟨I.ok,I.os,I.bare,⟨fun b o q z hb hx=>(old b o q).trans (I.base.keep b o q z hb hx),fun b o q z hb hx=>?_,I.base.free,fun b o q hx=>?_,I.base.tups,I.base.frzs,I.base.tbls⟩,⟨m',hn,fun i x v _ e2 _=>?_⟩,fun x c e=>?_,I.free,I.freeC,fun p hp=>?_,fun b ob e=>?_,by simp⟩
 ·obtain ⟨sl,e⟩:=I.base.slot b o q z hb hx
  exact ⟨sl,(old b o q).trans e⟩
 ·obtain ⟨o',e⟩:=I.base.there b o q hx
  exact ⟨o',(old b o q).trans e⟩
 ·rw [List.getElem?_replicate] at e2
  split at e2 <;> cases e2
 ·obtain ⟨v,z⟩:=I.cell x c e
  exact ⟨v,z.sameBut sb (I.cne x c e)⟩
 ·obtain ⟨h1,h2,h3,h4⟩:=I.pin p hp
  exact ⟨(sb.2 p.1 h3).trans h1,h2,h3,h4⟩
 refine (I.hok b ob e).stay (fun c u hc q=>(sb.2 c fun z=>?_).trans q) (fun _ q=>q) fun _ _ q=>q;rcases hc with r | r
 ·rw [<- r,z,I.free] at e
  cases e
 rw [z,I.free] at r;cases r
theorem Inv.track {o:HO} (I:Inv X pins σ H s) (hn:H a=none) (hx:X.s_0.heap.objs.size<=a/\a≠X.env.locals/\(∀ x c,X.env.cells.lookup x=some c->c≠a)/\∀ p∈X.pn++pins,p.1≠a) (ok:a8_ X.prog X.w (upd H a o) s.heap a o):Inv X pins σ (upd H a o) s:=by
 have na : ∀ b u,H b=some u->b≠a:=fun b u q=>ag_ q hn;refine ⟨I.ok,I.os,I.bare,⟨I.base.keep,I.base.slot,fun b u q z hb=>?_,I.base.there,fun b xs q=>?_,fun b u xs q=>?_,fun b ps q=>?_⟩,I.loc,I.cell,?_,fun x c e=>?_,fun p hp=>?_,fun b u q=>?_,I.len⟩
 ·rw [al_ (Nat.ne_of_lt (Nat.lt_of_lt_of_le (Heap.lt_size q) hx.1))]
  exact I.base.free b u q z hb
 ·have z:=I.base.tups b xs q
  rw [al_ (na _ _ z)];exact z
 ·have z:=I.base.frzs b u xs q
  rw [al_ (na _ _ z)];exact z
 ·obtain ⟨m,z⟩:=I.base.tbls b ps q
  exact ⟨m,by rw [al_ (na _ _ z)];exact z⟩
 ·rw [al_ (Ne.symm hx.2.1)]
  exact I.free
 ·rw [al_ (hx.2.2.1 x c e)]
  exact I.freeC x c e
 ·obtain ⟨h1,h2,h3⟩:=I.pin p hp
  exact ⟨h1,by rw [al_ (hx.2.2.2 p hp)];exact h2,h3⟩
 by_cases hb:b=a
 ·subst hb
  rw [ab_] at q;cases q;exact ok
 rw [al_ hb] at q;exact (I.hok b u q).stay (fun _ _ _ z=>z) (fun c z=>by rw [al_ (na _ _ z)];exact z) fun c xs z=>by rw [al_ (na _ _ z)];exact z
end
def oT_ (X:Cx) (C:Addr) (i:Nat) (ts:TS) (D:Ends):XK:=fun cls d H=>cls = .ref C/\∀ a dx,d=some dx->H a=none->ts { nx:=fun _ _=>False,rt:=D.rt } ((List.replicate X.N.length none).set i (some (.ref a))) (upd H a (XGot C a dx))
section
variable {X:Cx}{C f:Addr}{i:Nat}{cx nm:Str}{np hpos pos:Pos}{body suite:List Stmt}{b₀:Stmt}{ts:TS}{tb:Ends->TS}
theorem ot_ (c:XCls X.K C f) (hg:Gl X cx) (hm:X.mg cx=some (.ref C)) (hN:X.N.Nodup) (hi:X.N[i]? = some nm) (hk:X.env.scope.names.lookup nm=some .local) (hstk:X.stack=X.env::X.outer) (hfr:X.env.frame=some X.env.locals)
  (hb : ∀ (pn:List (Addr×Obj)) (E:Value->Shared->Prop) (D:Ends),bK_ (CX1 X.prog X.w) (X.pinned pn E) (oT_ X C i ts D)->PSs (X.pinned pn E) body (tb D)) (hs : ∀ a,PSs (X.hand a) (b₀::suite) ts)
  (hdb:(cx == ("__debug__":Str))=false:=by decide) :
  PS X (.Try body [.ExceptHandler (some (.Name cx np)) (some nm) (b₀::suite) hpos] [] [] pos) (fun D σ H=>tb D D σ H):=by
 intro pins s σ H D I h;refine wpAny_Try_except ?_;refine wpAny_mono (hb (X.pn++pins) (fun e s'=>∃ pins' σ' H₁ s₁,Inv (X.pinned (X.pn++pins) fun _ _=>False) pins' σ' H₁ s₁/\CX1 X.prog X.w X.stack H₁ s₁ (oT_ X C i ts D) e s') D (fun pins' σ' H₁ s₁ e s' J z=>⟨pins',σ',H₁,s₁,?_,z⟩) [] s σ H D I.pin_in h) (fun fl s₁ q=>?_) fun e s' q=>?_
 ·exact ⟨⟨J.ok.mod,J.ok.kind,J.ok.glob,J.ok.blt,J.ok.above,J.ok.inj,J.ok.has,J.ok.cab,J.ok.hd,J.ok.frames,J.ok.stk,J.ok.exf,J.ok.bs,J.ok.bsz,J.ok.noex,J.ok.exfs,J.ok.funs,J.ok.frf⟩,J.os,J.bare,J.base,J.loc,J.cell,J.free,J.freeC,J.pin,J.hok,J.len⟩
 ·have q':=SP.pin_out q
  cases fl with
  | next=>exact wpAny_execs_nil q'
  | brk=>exact q'
  | cont=>exact q'
  | ret u=>exact q'
 obtain ⟨pins',σ',H₁,s₁,J,a,C',d,fs,H',rfl,os,bare,un,hok,⟨new,free,vs,sl,T,oT,tv,hat,h1,nT,nT0,fT,hT,dT,h3⟩,hd,hC,q⟩:=q;cases hC;have J1:=J.pin_out;have J2:=J1.call' (ch:=[]) os un hok bare (fun b z=>absurd z (by simp));have hx : ∀ b,b=a\/some b=some T->X.s_0.heap.objs.size<=b/\b≠X.env.locals/\(∀ x c,X.env.cells.lookup x=some c->c≠b)/\∀ p∈X.pn++pins,p.1≠b:=fun b hb=>by
  have big:s₁.heap.objs.size<=b:=by
   rcases hb with e | e
   ·rw [e];exact new
   cases e;exact nT0
  refine ⟨Nat.le_trans J1.sz big,ne_of_gt (Nat.lt_of_lt_of_le J1.lt big),fun x c e=>?_,fun p hp=>Nat.ne_of_lt (Nat.lt_of_lt_of_le (Heap.lt_size (J1.pin p hp).1) big)⟩;obtain ⟨v,z⟩:=J1.cell x c e;exact Nat.ne_of_lt (Nat.lt_of_lt_of_le z.lt big)
 have stk:=J2.stack;have frm:=J2.ok.frames;rw [hstk] at stk frm;refine oF_ (s:=s') frm stk hfr hat rfl (.inr ⟨T,oT,tv,rfl,h1,nT,hT,dT,h3⟩) fun h2 n2=>?_;refine hJ_ (s:={ s' with heap:=h2 }) (h:=s'.heap) hat rfl n2 fun h3 n3=>?_;refine wpAny_handleBy_cons (codeAny_handlers_test ?_) (by intro z;cases z);have n3':Noted X.stack a (some T) Value.none s'.heap h3:=by rw [hstk];exact n3
 have J3:=J2.noted (t':=s'.toks) n3' free (fun T' z=>by cases z;exact fT) hx;refine dw_ (J3.hand_in a) hg hm ?_ hdb;obtain ⟨nm',q',N',bs,sn,sub,ab,col,dd,k0,k1,k2,k3,k5,lk⟩:=c.obj;obtain ⟨vs2,T2,oT2,tv2,z1,z2,z3,z4,z5,z6,z7⟩:=n3.exc _ vs hat rfl;refine wpAny_excMatches_sub_self (J3.kIn _ _ lk) z1 rfl PySem.F.excBase_Exception.hasBase ?_;refine codeAny_handlers_suite_as ?_;refine hJ_ (s:={ s' with heap:=h3 }) (h:=s'.heap) hat rfl n3 fun h4 n4=>?_;have n4':Noted X.stack a (some T) Value.none s'.heap h4:=by rw [hstk];exact n4
 have J4:=J2.noted (t':=s'.toks) n4' free (fun T' z=>by cases z;exact fT) hx;obtain ⟨vs4,T4,oT4,tv4,y1,_⟩:=n4.exc _ vs hat rfl;have J5:Inv X pins ((List.replicate X.N.length none)) (upd H' a (XGot C a d)) { s' with heap:=h4 }:=by
  refine Inv.weak (σ:=σ') ?_ (by rw [List.length_replicate];exact J4.len.symm) fun j v e=>?_
  ·exact J4.track free (hx a (.inl rfl)) (pa_ y1)
  rw [List.getElem?_replicate] at e;split at e <;> cases e
 refine d1_ (X:=X) J5 hN hi (.inl hk) (v := .ref a) rfl (fun s5 J6=>?_) (.inr hk);refine wpAny_mono (hs a pins s5 _ _ { nx:=fun _ _=>False,rt:=D.rt } (J6.hand_in a) (q a d rfl free)) (fun fl s6 r=>?_) fun _ _ z=>False.elim z;cases fl with
 | next=>obtain ⟨_,_,_,z⟩:=r;exact z.elim
 | brk=>obtain ⟨_,_,_,z⟩:=r;exact z.elim
 | cont=>obtain ⟨_,_,_,z⟩:=r;exact z.elim
 | ret u =>
 obtain ⟨v,σ7,H7,J7,rv,r⟩:=r;have J8:=J7.hand_out I.ok;obtain ⟨m,hm8,_⟩:=id J8.loc;refine wpAny_nameGoes hk hm8 (by rw [I.ok.kind];rfl) fun h9 m9 hn9 sb=>?_;exact ⟨v,_,H7,J8.unbound hn9 sb,rv,r⟩
end
end L2
namespace L2
open PySem PySem.Spec PyProof.Rows
theorem lenS {A:Type}{n:Nat}{l:List A} (h:l.length=n+1) : ∃ a r,l=a::r/\r.length=n:=by
 cases l with
 | nil=>cases h
 | cons a r=>exact ⟨a,r,rfl,Nat.succ.inj h⟩
theorem len0 {A:Type}{l:List A} (h:l.length=0):l=[]:=List.length_eq_zero_iff.mp h
theorem len1 {A:Type}{l:List A} (h:l.length=1) : ∃ a,l=[a]:=by
 obtain ⟨a,r,rfl,q⟩:=lenS h;exact ⟨a,by rw [len0 q]⟩
theorem len2 {A:Type}{l:List A} (h:l.length=2) : ∃ a b,l=[a,b]:=by
 obtain ⟨a,r,rfl,q⟩:=lenS h;obtain ⟨b,rfl⟩:=len1 q;exact ⟨a,b,rfl⟩
theorem len3 {A:Type}{l:List A} (h:l.length=3) : ∃ a b c,l=[a,b,c]:=by
 obtain ⟨a,r,rfl,q⟩:=lenS h;obtain ⟨b,c,rfl⟩:=len2 q;exact ⟨a,b,c,rfl⟩
theorem len4 {A:Type}{l:List A} (h:l.length=4) : ∃ a b c d,l=[a,b,c,d]:=by
 obtain ⟨a,r,rfl,q⟩:=lenS h;obtain ⟨b,c,d,rfl⟩:=len3 q;exact ⟨a,b,c,d,rfl⟩
theorem len5 {A:Type}{l:List A} (h:l.length=5) : ∃ a b c d e,l=[a,b,c,d,e]:=by
 obtain ⟨a,r,rfl,q⟩:=lenS h;obtain ⟨b,c,d,e,rfl⟩:=len4 q;exact ⟨a,b,c,d,e,rfl⟩
theorem m3_ {i:Nat}{σ:L2.St}{H:Hp}{Q:VK}{v:V} (e:σ[i]? = some (some v)) (h:Q v H):tVar i σ H Q:=by
 unfold tVar;rw [e];exact h
section
variable {X:Cx}{CX:CXT}{k:Nat}{E:XK}{x:Str}{p pos:Pos}{e:Expr}{es:List Expr}{t:TA}
def dI_ (X:Cx) (CX:CXT) (k i:Nat) (E:XK) (t:TA):TE:=fun σ H Q=>∃ f fd ps sp,σ[i]? = some (some (.ref f))/\FnOk X.prog X.w X.K X.mg X.base CX k f fd ps sp/\a9_ X.K fd ps []/\keepIn X.K (.ref f)=true /\
 t σ H fun vs H1=>sp vs H1 Q E
theorem bI_ (i:Nat) (hr:Room k X.A) (hx:bK_ CX X E) (ha:PA X (e::es) t) (hN:X.N[i]? = some x:=by rfl)
  (hv:Vis X.env.scope x:=by first | exact Or.inl rfl | exact Or.inr (Or.inl rfl) | exact Or.inr (Or.inr rfl)) (hd:(x == ("__debug__":Str))=false:=by decide) (hcd:(x == ("__classdict__":Str))=false:=by decide)
  (he:starEach (e::es) X.env=(false,eval e X.env)::starEach es X.env:=by rfl) (hpl:(backTo pos (starEach es X.env)).any (·.1)=false:=by rfl) :
  PE X (.Call (.Name x p) (e::es) [] pos) (dI_ X CX k i E t):=by
 intro pins s σ H Q I h;obtain ⟨f,fd,ps,sp,h1,F,hb,hk,h2⟩:=h;refine wpAny_Call_Name_kw (thn (pv (X:=X) i hN hv hd hcd pins s σ H (fun v H'=>v = .ref f/\H'=H) I (m3_ h1 ⟨rfl,rfl⟩)) fun u s1 zq=>?_);obtain ⟨v,H1,I1,r1,ev,eH⟩:=zq;subst ev eH;cases r1;refine callWith_K (h₀:=X.base) I1.ok.mod.kin hk (thn (ha pos pins s1 σ _ _ I1 h2) fun us s2 ⟨vs,H2,I2,r,q⟩=>⟨I2.kIn,?_⟩) he hpl;exact ic_ (dvs:=[]) F hr hb .nil hx I2 r (by rw [append_nil];exact q)
end
section
variable {X:Cx}
theorem pe_g {x:Str}{v:V}{pos:Pos} (h : ∃ u,X.mg x=some u/\RelV v u) (hg:Gl X x:=by rfl) (hd:(x == ("__debug__":Str))=false:=by decide):PE X (.Name x pos) (tC v):=by
 obtain ⟨u,h1,h2⟩:=h;exact kd_ hg h1 h2 hd
def o9_ (i j:Int):Prop:=0<j/\j.natAbs.log2<9000
theorem iq_:OpR X (binaryOp .FloorDiv) (rI o9_ fun i j => .int (i / j)):=opI fun i j _ _ _ _ _ hc q=>by
 have hj:j≠0:=by have:=hc.1;omega
 refine floordiv_int hj ?_ (.inl (PyProof.noPylong_of_log2 hc.2));rw [Int.fdiv_eq_ediv_of_nonneg _ (Int.le_of_lt hc.1)];exact q
theorem i2_ {n:Nat} (h:n<2 ^ 200):n.log2<9000:=by
 by_cases h0:n=0
 ·subst h0;decide
 exact Nat.lt_trans ((Nat.log2_lt h0).mpr h) (by decide)
theorem iW_:OpR X (binaryOp .Mult) (fun x y H Q=>∃ a n,x = .str a/\y = .int n/\MulOk a n/\Q (.str (Txt.mul a n)) H):=by
 intro pins s σ H x y v u Q I rx ry h;obtain ⟨a,n,rfl,rfl,hm,h⟩:=h;obtain ⟨t1,rfl⟩:=rx;obtain ⟨t2,rfl⟩:=ry;exact SB.mul hm fun t' k=>⟨.str (Txt.mul a n),H,I.tok _,⟨_,rfl⟩,h⟩
end
def PET (X:Cx) (e:Expr) (t:TE):Prop :=
 ∀ (pins:List (Addr×Obj)) (s:Shared) (σ:St) (H:Hp) (Q:VK),Inv X pins σ H s->1<=s.toks->t σ H Q->wpAny (model X.prog X.w) X.A (eval e X.env) (EP X pins σ Q) X.xe s
def PEp (X:Cx) (e:Expr) (t:TE):Prop :=
 ∀ (pins:List (Addr×Obj)) (s:Shared) (σ:St) (H:Hp) (Q:VK),Inv X pins σ H s->t σ H Q->wpAny (model X.prog X.w) X.A (eval e X.env) (fun u s'=>1<=s'.toks/\EP X pins σ Q u s') X.xe s
def PTT (X:Cx) (e:Expr) (t:TT):Prop :=
 ∀ (pins:List (Addr×Obj)) (s:Shared) (σ:St) (H:Hp) (Q:Bool->Hp->Prop),Inv X pins σ H s->1<=s.toks->t σ H Q->wpAny (model X.prog X.w) X.A (isTrue e X.env (eval e X.env)) (TP X pins σ Q) X.xe s
def PTp (X:Cx) (e:Expr) (t:TT):Prop :=
 ∀ (pins:List (Addr×Obj)) (s:Shared) (σ:St) (H:Hp) (Q:Bool->Hp->Prop),Inv X pins σ H s->t σ H Q->wpAny (model X.prog X.w) X.A (isTrue e X.env (eval e X.env)) (fun u s'=>1<=s'.toks/\TP X pins σ Q u s') X.xe s
def PSsT (X:Cx) (st:List Stmt) (t:TS):Prop :=
 ∀ (pins:List (Addr×Obj)) (s:Shared) (σ:St) (H:Hp) (D:Ends),Inv X pins σ H s->1<=s.toks->t D σ H->wpAny (model X.prog X.w) X.A (execs st X.env) (SP X pins D) X.xe s
def PST (X:Cx) (st:Stmt) (t:TS):Prop :=
 ∀ (pins:List (Addr×Obj)) (s:Shared) (σ:St) (H:Hp) (D:Ends),Inv X pins σ H s->1<=s.toks->t D σ H->wpAny (model X.prog X.w) X.A (exec st X.env) (SP X pins D) X.xe s
def PIT (X:Cx) (tg iter:Expr) (wi:TI):Prop :=
 ∀ (pins:List (Addr×Obj)) (s:Shared) (σ:St) (H:Hp) (R:It->Hp->Prop),Inv X pins σ H s->1<=s.toks->wi σ H R ->
  wpAny (model X.prog X.w) X.A (eval iter X.env) (fun v s1=>wpAny (model X.prog X.w) X.A (pyIter v) (PIE X pins σ tg R) X.xe s1) X.xe s
structure FnOkT (P:Program) (w:World) (K:PySem.W.Frag) (mg:Str->Option Value) (base:Heap) (CX:CXT) (k:Nat) (f:Addr) (fd:FuncData) (ps:List Str) (sp:Sp):Prop where
 len : ∀ vs H Q E,sp vs H Q E->vs.length=ps.length
 run : ∀ (A:Around) (outer:List Env) (s:Shared) (H:Hp) (args:Args) (us:List Value) (vs:List V) (Q:VK) (E:XK),1<=s.toks->Room k A->Env0 P w K mg base A outer s H->BindsTo s fd args (ps.zip us)->Vals vs us->sp vs H Q E ->
  codeAny (model P w) A (.call (.ref f) args) (CR CX outer P w H s Q E) s
section
variable {X:Cx}{CX:CXT}{k:Nat}{E:XK}{x:Str}{p pos apos:Pos}{a b c e o:Expr}{es:List Expr}{ta tb te to:TE}{t:TA}{tA tB' tc:TT}{st:Stmt}{rest:List Stmt}{tS u:TS}{f:Addr}{fd:FuncData}{ps:List Str}{sp:Sp}
theorem no_ {op:CmpOp}{r:R2} (ho:OpR X (compareOp op) r) (ha:PE X a ta) (hb:PEp X b tb) (hm:behindInMarks op b=false):PTp X (.Compare a [op] [b] pos) (lp_ (tOp r ta tb)):=by
 intro pins s σ H Q I h;refine wpAny_isTrue_Compare1 (thn (ha pins s σ H _ I h) fun v s1 ⟨x,H1,I1,r1,q1⟩=>thn (hb pins s1 σ H1 _ I1 q1) fun u s2 ⟨tk,y,H2,I2,r2,q2⟩ =>
  thn (wpAny_toks_of tk (ho pins s2 σ H2 x y v u _ I2 r1 r2 q2) |> fun z=>wpAny_mono z (fun _ _ q=>q) fun _ _ q=>q.2) fun c s3 ⟨tk3,z,H3,I3,r3,q3⟩=>?_) hm
 obtain ⟨k,e,q3⟩:=kH_ q3;subst e;cases r3;exact wpAny_truthy_bool ⟨tk3,H3,I3,q3⟩
theorem ns_ (hg:Gl X "len") (hm:X.mg "len"=none) (ha:PE X a ta) (hs:starEach [a] X.env=[(false,eval a X.env)]:=by rfl) :
  PEp X (.Call (.Name "len" p) [a] [] pos) (fun σ H Q=>ta σ H fun x H1=>∃ q ys,x = .ref q/\SqL X.K H1 q ys/\Q (.int ys.length) H1):=by
 intro pins s σ H Q I h;refine wpAny_Call_Name_kw (dN_ I hg hm PySem.boot_len ?_);have he:starEach (a::[]) X.env=(false,eval a X.env)::starEach [] X.env:=by rw [hs];rfl
 refine PyProof.Rows.callWith_builtin1 (thn (aa_ ha ac_ he pos pins s σ H (fun vs H1=>∃ x,vs=[x]/\∃ q ys,x = .ref q/\SqL X.K H1 q ys/\Q (.int ys.length) H1) I ?_) fun us s1 ⟨vs,H1,I1,r1,x,ex,q,ys,exq,hq,qq⟩=>?_) he rfl
 ·have h':ta σ H fun x H1=>∃ q ys,x=V.ref q/\SqL X.K H1 q ys/\Q (.int ys.length) H1:=h
  show ta σ H fun x H1=>∃ x_1,[x]=[x_1]/\_;have e:(fun (x:V) (H1:Hp)=>∃ x_1,[x]=[x_1]/\∃ q ys,x_1=V.ref q/\SqL X.K H1 q ys/\Q (.int ys.length) H1)=fun x H1=>∃ q ys,x=V.ref q/\SqL X.K H1 q ys/\Q (.int ys.length) H1:=by
   funext x H1
   exact propext ⟨fun ⟨y,e,z⟩=>by cases e;exact z,fun z=>⟨x,rfl,z⟩⟩
  rw [e];exact h'
 subst ex exq;obtain ⟨u,rfl,rx⟩:=jw_ r1;cases rx;have hn:=db_;obtain ⟨its,r',pl,hz⟩:=I1.list hq;have hlen:=r'.length;exact Calls.call_len_list pl.isList (by simp only [size_toArray] <;> omega) ⟨by show 1<=_ ;simp;try omega,.int ys.length,H1,I1.tok _,⟨_,by rw [size_toArray,hlen]⟩,qq⟩
theorem pw_orP (ha:PTp X a tA) (hb : ∀ whole (pins:List (Addr×Obj)) (s:Shared) (σ:St) (H:Hp) (Q:Bool->Hp->Prop),Inv X pins σ H s->1<=s.toks->tB' σ H Q->wpAny (model X.prog X.w) X.A (isTrue (.BoolOp .Or [b] pos) X.env whole) (TP X pins σ Q) X.xe s):PT X (.BoolOp .Or [a,b] pos) (tOr tA tB'):=by
 intro pins s σ H Q I h;refine isTrue_or (thn (ha pins s σ H _ I h) fun c s1 ⟨tk,H1,I1,q1⟩=>?_);cases c with
 | true=>exact ⟨H1,I1,q1⟩
 | false=>exact hb _ pins s1 σ H1 Q I1 tk q1
theorem pw_or1T (ha:PTT X a tA) : ∀ whole (pins:List (Addr×Obj)) (s:Shared) (σ:St) (H:Hp) (Q:Bool->Hp->Prop),Inv X pins σ H s->1<=s.toks->tA σ H Q->wpAny (model X.prog X.w) X.A (isTrue (.BoolOp .Or [a] pos) X.env whole) (TP X pins σ Q) X.xe s:=by
 intro wh pins s σ H Q I tk h;refine isTrue_or (thn (ha pins s σ H Q I tk h) fun c s1 e=>?_);cases c with
 | false=>exact isTrue_or_nil e
 | true=>exact e
theorem nm_ (ha:PTT X a tA):PTT X (.UnaryOp .Not a pos) (tNot tA):=by
 intro pins s σ H Q I tk h;exact isTrue_not (ha pins s σ H (fun c H1=>Q (!c) H1) I tk h)
theorem nl_ {e:Expr}{t:TE} (h:PET X e t) (he : ∀ whole,isTrue e X.env whole=(do let v <- whole;standAt e.pos;holding [v] (truthy v)):=by intro _;rfl):PTT X e (tB t):=by
 intro pins s σ H Q I tk hw;refine isTrue_plain (thn (h pins s σ H _ I tk hw) fun v s1 zq=>?_) (he _);obtain ⟨x,H1,I1,r1,q1⟩:=zq;obtain ⟨d,rfl,q⟩:=q1;cases r1;exact wpAny_truthy_bool ⟨H1,I1,q⟩
theorem nk_ {pins:List (Addr×Obj)}{σ:St}{H:Hp}{s:Shared}{Q:VK}{us:List Value}{vs:List V} (F:FnOkT X.prog X.w X.K X.mg X.base CX k f fd ps sp) (hr:Room k X.A) (hb:a9_ X.K fd ps []) (hx:bK_ CX X E)
  (I:Inv X pins σ H s) (tk:1<=s.toks) (r:Vals vs us) (h:sp vs H Q E):wpAny (model X.prog X.w) X.A (call (.ref f) us) (EP X pins σ Q) X.xe s:=by
 have hl:(us++[]).length=ps.length:=by rw [append_nil,<- r.length];exact F.len _ _ _ _ h
 have hb2:=hb s us I.kIn hl;rw [append_nil] at hb2;refine wpAny_call (codeAny_mono (F.run X.A X.stack s H ⟨us,[]⟩ us vs Q E tk hr I.env0 hb2 r h) fun r s' hq=>?_);cases r with
 | error e=>exact hx pins σ H s e s' I hq
 | ok fl =>
 cases fl with
 | ret u=>exact I.after hq
 | next=>exact False.elim hq
 | brk=>exact False.elim hq
 | cont=>exact False.elim hq
theorem lJ_ (F:FnOkT X.prog X.w X.K X.mg X.base CX k f fd ps sp) (hr:Room k X.A) (hg:Gl X x) (hm:X.mg x=some (.ref f)) (hk:keepIn X.K (.ref f)=true) (hb:a9_ X.K fd ps []) (hx:bK_ CX X E)
  (ha:PA X (e::es) t) (hdb:(x == ("__debug__":Str))=false:=by decide) (he:starEach (e::es) X.env=(false,eval e X.env)::starEach es X.env:=by rfl) (hpl:(backTo pos (starEach es X.env)).any (·.1)=false:=by rfl) :
  PET X (.Call (.Name x p) (e::es) [] pos) (iP_ sp [] E t):=by
 intro pins s σ H Q I tk h;refine wpAny_Call_Name_kw (dw_ I hg hm ?_ hdb);refine callWith_K (h₀:=X.base) I.ok.mod.kin hk (wpAny_mono (wpAny_toks_of tk (ha pos pins s σ H _ I h)) (fun us s1 ⟨tk1,vs,H1,I1,r,q⟩=>⟨I1.kIn,?_⟩) fun _ _ z=>z.2) he hpl;have q':sp (vs++[]) H1 Q E:=q;rw [append_nil] at q';exact nk_ F hr hb hx I1 tk1 r q'
theorem j2_ (h1:PST X st tS) (h2:PSs X rest u):PSsT X (st::rest) (tSeq tS u):=by
 intro pins s σ H D I tk h;refine wpAny_execs_cons (thn (h1 pins s σ H { D with nx:=u D } I tk h) fun f s1 q=>?_);cases f with
 | next =>
  obtain ⟨σ',H',I',q⟩:=q;exact h2 pins s1 σ' H' D I' q
 | ret v=>exact q
 | brk=>exact q
 | cont=>exact q
theorem lH_ {tg l:Expr}{tl:TE} (hl:PET X l tl):PIT X tg l (lZ_ X.K tl):=by
 intro pins s σ H R I tk h;refine thn (hl pins s σ H _ I tk h) fun v s1 zq=>?_;obtain ⟨x,H1,I1,r1,q1⟩:=zq;obtain ⟨a,e,⟨xs,hq⟩,q⟩:=q1;subst e;cases r1;obtain ⟨its,rv,p,hz⟩:=I1.list hq;refine wpAny_pyIter_list p.isList ?_;refine ⟨s1.heap.objs.size,[s1.heap.objs.size],_,_,H1,rfl,I1.kept (t':=s1.toks) fun b o e=>Heap.get?_push_of_some _ e,gm_ a _,⟨_,Heap.get?_push_size _ rfl,rfl,rfl⟩,fun b hb=>?_,q⟩;have e:b=s1.heap.objs.size:=by simpa using hb
 subst e;exact I1.fpOk (Nat.le_refl _) (I1.hok.fresh (Nat.le_refl _))
theorem oz_ {id:String}{name:Str}{r:V->List V->Hp->VK->Prop} (slot:Slot "str" name id) (ty:typeOf (.builtin id)=pure (.type "method_descriptor")) (rule:MtR X id r) (ho:PET X o to) (he:PE X e te)
  (hs:starEach [e] X.env=[(false,eval e X.env)]:=by rfl) (hbase:attributeBase o name X.env (eval o X.env)=eval o X.env:=by rfl) (hline:(apos.endLine == pos.line)=true:=by rfl) :
  PET X (.Call (.Attribute o name apos) [e] [] pos) (tM1 r to te):=by
 intro pins s σ H Q I tk h;refine PySem.Call_method1 hbase hs hline (thn (ho pins s σ H _ I tk h) fun v s1 zq=>?_);obtain ⟨x,H1,I1,r1,q1⟩:=zq;obtain ⟨⟨a,rfl⟩,q1⟩:=q1;obtain ⟨t,rfl⟩:=_root_.id r1;refine ⟨"str",_,F.plainAttrs_str,slot,ty,typeIs_str _ _ _,(fun _ e=>nomatch e),Calls.callWith_builtin rfl (Calls.evalArgs_plain (Calls.spliced_cons ?_))⟩;exact thn (he pins s1 σ H1 _ I1 q1) fun u s2 ⟨y,H2,I2,r2,q2⟩=>Calls.spliced_nil (rule pins s2 σ H2 _ [y] _ [u] Q I2 r1 (.cons r2 .nil) q2)
theorem ht_ {y z:Str}{j1 j2:Nat}{p1 p2:Pos} (ho:PE X (.Name x p) to) (hyz:(y == z)=false:=by decide) (hz:z.length<=14:=by decide)
  (hs:starEach [.Constant (.str y) j1 p1,.Constant (.str z) j2 p2] X.env=[(false,eval (.Constant (.str y) j1 p1) X.env),(false,eval (.Constant (.str z) j2 p2) X.env)]:=by rfl)
  (hbase:attributeBase (.Name x p) "replace" X.env (eval (.Name x p) X.env)=eval (.Name x p) X.env:=by rfl) (hline:(apos.endLine == pos.line)=true:=by rfl) :
  PET X (.Call (.Attribute (.Name x p) "replace" apos) [.Constant (.str y) j1 p1,.Constant (.str z) j2 p2] [] pos) (fun σ H Q=>to σ H fun v H1=>∃ a,v = .str a/\a.length<=1048576/\Q (.str (Txt.replace a y z)) H1):=by
 intro pins s σ H Q I tk h;refine PySem.Call_method2 hbase hs hline (wpAny_mono (wpAny_toks_of tk (ho pins s σ H _ I h)) (fun v s1 ⟨tk1,x,H1,I1,r1,q1⟩=>?_) fun _ _ z=>z.2);obtain ⟨a,rfl,ha,q1⟩:=q1;obtain ⟨t,rfl⟩:=_root_.id r1;refine ⟨"str",_,F.plainAttrs_str,F.slot_str_replace,F.type_str_replace,typeIs_str _ _ _,(fun _ e=>nomatch e),Calls.callWith_builtin rfl (Calls.evalArgs_plain (Calls.spliced_cons ?_))⟩;refine Calls.Constant_str (Calls.spliced_cons (Calls.Constant_str (Calls.spliced_nil ?_)));refine SC.replaceW ?_ ?_ ?_ hyz ha hz fun t' k=>⟨.str (Txt.replace a y z),H1,((I1.tok _).tok _).tok _,⟨_,rfl⟩,q1⟩
 ·exact ne_of_gt tk1
 ·exact Nat.succ_ne_zero _
 exact Nat.ne_of_lt (lt_succ_self _)
theorem np_ {tg iter:Expr}{body:List Stmt}{wi:TI}{g:TG}{tb:TS} (hp:PassesOwn (model X.prog X.w) X.A X.env X.xe) (hc:X.calm=true) (hi:PIT X tg iter wi) (hg:PG X tg g) (hb:PSs X body tb)
  (hs : ∀ x,foldedSetIterable iter X.env x=pure x:=by intro _;rfl):PST X (.For tg iter body [] pos) (tFor wi g tb):=by
 intro pins s σ H D I tk h;refine wpAny_For (thn (hi pins s σ H _ I tk h) fun v s1 h1=>thn h1 fun itv s2 h2=>?_) hs;obtain ⟨it,fp,tn,J,H2,e,I2,T,st2,f2,W,⟨m0,w0⟩,turn⟩:=h2;subst e;have stat : ∀ {H':Hp},(∀ b∈fp,H' b=none)->∀ b∈fp,FpOk X pins H' b:=fun hn b hb=>⟨hn b hb,(f2 b hb).2⟩;refine codeAny_forLoop_any (fun n s'=>∃ i σ' H',Inv X pins σ' H' s'/\tn i s'.heap/\(∀ b∈fp,H' b=none)/\W i n σ' H') ?_ m0 ⟨0,σ,H2,I2,st2,fun b hb=>(f2 b hb).1,w0⟩
 rintro n s3 ⟨i,σ3,H3,I3,st3,fr3,w3⟩
 rcases turn i n σ3 H3 w3 with ⟨stop,qn⟩ | ⟨go,N,hN,step⟩
 ·refine wpAny_passesOwn hp (thn (T.done X rfl rfl rfl hc i pins s3 σ3 H3 X.xe I3 (stat fr3) st3 stop) fun r s4 ⟨hr,I4⟩=>?_)
  subst hr;exact wpAny_execs_nil ⟨σ3,H3,I4,qn⟩
 refine wpAny_passesOwn hp (thn (T.item X rfl rfl rfl hc i pins s3 σ3 H3 X.xe I3 (stat fr3) st3 go) fun r s4 ⟨u,hr,h4⟩=>?_);subst hr;refine wpAny_passesOwn hp (thn h4 fun _ s5 zq=>?_);obtain ⟨x,H5,I5,r5,y5,st5,fr5⟩:=zq;have I5':=I5.pinned (stat fr5) (T.obj _ _ st5);refine wpAny_passesOwn hp (thn (hg _ s5 σ3 H5 x u _ I5' r5 (step x H5 y5)) fun _ s6 ⟨σ6,H6,I6,q6⟩=>?_);refine wpAny_passesOwn hp (thn (hb _ s6 σ6 H6 _ I6 q6) fun f s7 q7=>?_);have again : ∀ {σ7:St}{H7:Hp},Inv X (pins++fh_ fp s5.heap) σ7 H7 s7->N σ7 H7->∃ m,m<n/\∃ i σ' H',Inv X pins σ' H' s7/\tn i s7.heap/\(∀ b∈fp,H' b=none)/\W i m σ' H':=fun {σ7 H7} I7 n7=>by
  obtain ⟨m',hm,w7⟩:=hN σ7 H7 n7;refine ⟨m',hm,i+1,σ7,H7,I7.unpinned,T.keep _ _ _ st5 fun b hb o e=>(I7.pin (b,o) (mem_append_right _ (mem_append_right _ (bS_ hb e)))).1,fun b hb=>?_,w7⟩;obtain ⟨o,e,d⟩:=T.obj _ _ st5 b hb;exact (I7.pin (b,o) (mem_append_right _ (mem_append_right _ (bS_ hb e)))).2.1
 cases f with
 | next=>obtain ⟨σ7,H7,I7,n7⟩:=q7;exact again I7 n7
 | cont=>obtain ⟨σ7,H7,I7,n7⟩:=q7;exact again I7 n7
 | brk=>obtain ⟨σ7,H7,I7,q7⟩:=q7;exact ⟨σ7,H7,I7.unpinned,q7⟩
 | ret v=>obtain ⟨x7,σ7,H7,I7,r7,q7⟩:=q7;exact ⟨x7,σ7,H7,I7.unpinned,r7,q7⟩
theorem PSsT.nox {st:List Stmt}{t:TS} (h:PSsT X.nox st t):PSsT X st t:=fun pins s σ H D I tk hw =>
 wpAny_mono (h pins s σ H D (I.wish _) tk hw) (fun _ _ q=>q.unwish) fun _ _ q=>q.elim
end
theorem oW_ {CX:CXT}{P:Program}{w:World}{K:PySem.W.Frag}{mg:Str->Option Value}{base:Heap}{k:Nat}{f:Addr}{name qual:Str}{params:Arguments}{body:List Stmt}{scope:Scope}{dV kV doc pm cdv ct oc:Value}{an od:Option Addr}
  {osl:Array (Option Value)}{N ps:List Str}{sp:Sp} (lk:K.lookup f=some ⟨oc,od,.func (fnOf name qual params body scope dV kV doc pm an cdv ct),osl⟩) (hcd:codeIn K cdv qual=true) (S:FnScope N ps scope)
  (len : ∀ vs H Q E,sp vs H Q E->vs.length=ps.length)
  (hbody : ∀ (A:Around) (outer:List Env) (s:Shared) (H:Hp) (vs:List V) (Q:VK) (E:XK),Room k (A.deeper (envOfC qual scope s.heap.objs.size f cdv))->sp vs H Q E ->
   ∃ t,PSsT (cxOf CX P w K mg base N qual scope f cdv A outer s H E) body t/\t { nx:=fun _ H'=>Q .non H',rt:=Q } (start N vs) H) :
  FnOkT P w K mg base CX (k+1) f (fnOf name qual params body scope dV kV doc pm an cdv ct) ps sp:=by
 refine ⟨len,fun A outer s H args us vs Q E tk hr e0 hb r hsp=>?_⟩;have hl:=len _ _ _ _ hsp;have KX:K.In s.heap:=e0.mod.kin.keeps fun b o e=>(e0.bs b o e).1;have lim:s.heap.NoLimit:=e0.mod.nolimit.keeps fun b o e=>(e0.bs b o e).1;have hkind : ∀ y∈ps.zip us,scope.names.lookup y.1=some .local\/(scope.names.lookup y.1=some .cell/\((cellsFrom (s.heap.objs.size+1) scope.names []).lookup y.1).isSome=true):=fun ⟨n,v⟩ hy=>by
  rcases S.par n (of_mem_zip hy).1 with q | q
  ·exact .inl q
  exact .inr ⟨q,PySem.W.cellsFrom_some _ _ _ (.inl q)⟩
 refine codeAny_call_function hr.depth (KX _ _ lk) rfl S.co S.gen rfl (PySem.W.codeRec_of KX hcd) (hb _ _ _ _ ?_);refine wpAny_with_toks tk ?_;refine wpAny_newFunctionEnv_cells S.kind hkind fun env he s1 x=>?_;subst he;intro tk1;refine ⟨lim.keeps x.toInCall.keep,codeAny_func ?_⟩;obtain ⟨t,ht,hq⟩:=hbody A outer s H vs Q E (hr.deeper _) hsp;have I:Inv (cxOf CX P w K mg base N qual scope f cdv A outer s H E) [] (start N vs) H s1:=gW_ S hr.hd e0 hl r x;refine wpAny_mono (ht [] s1 (start N vs) H _ I tk1 hq) (fun fl s' hs=>?_) fun e s' hs=>hs;have fin : ∀ {σ':St}{H':Hp}{v:V}{u:Value},Inv (cxOf CX P w K mg base N qual scope f cdv A outer s H E) [] σ' H' s'->RelV v u->Q v H'->CE outer P w H s Q u s' :=
  fun {σ' H' v u} J rv q=>⟨v,H',J.os,J.bare,J.base,J.hok,rv,q⟩
 cases fl with
 | ret u =>
  obtain ⟨v,σ',H',J,rv,q⟩:=hs;exact fin J rv q
 | next =>
  obtain ⟨σ',H',J,q⟩:=hs;exact fin (v:=V.non) (u:=Value.none) J rfl q
 | brk =>
  obtain ⟨_,_,_,q⟩:=hs;exact False.elim q
 | cont =>
 obtain ⟨_,_,_,q⟩:=hs;exact False.elim q
theorem Fun.okT {P:Program}{w:World}{K:PySem.W.Frag}{mg:Str->Option Value}{base:Heap}{x qual:Str}{st:Stmt}{f:Addr}{fd:FuncData}{N ps:List Str}{k:Nat}{sp:Sp} (F:Fun K x qual st f fd) (S:FnScope N ps (af_ st)) (len : ∀ vs H Q E,sp vs H Q E->vs.length=ps.length)
  (hbody : ∀ (cdv:Value) (A:Around) (outer:List Env) (s:Shared) (H:Hp) (vs:List V) (Q:VK) (E:XK),Room k (A.deeper (envOfC qual (af_ st) s.heap.objs.size f cdv))->sp vs H Q E ->
   ∃ t,PSsT (cxOf CX0 P w K mg base N qual (af_ st) f cdv A outer s H E).nox (b8_ st) t/\t { nx:=fun _ H'=>Q .non H',rt:=Q } (start N vs) H):FnOkT P w K mg base CX0 (k+1) f fd ps sp:=by
 obtain ⟨oc,od,kV,doc,pm,an,cdv,ct,osl,rfl,lk,hcd⟩:=F.ex;refine oW_ lk hcd S len fun A outer s H vs Q E hr hsp=>?_;obtain ⟨t,h,q⟩:=hbody cdv A outer s H vs Q E hr hsp;exact ⟨t,h.nox,q⟩
end L2
namespace L2
open PySem PySem.Spec PyProof.Rows TL
structure FG (K:PySem.W.Frag) (mg:Str->Option Value) (x:Str) (st:Stmt) (ps:List Str) (f:Addr) (fd:FuncData):Prop where
 mg:mg x=some (.ref f)
 fn:Fun K x x st f fd
 b:a9_ K fd ps []
theorem Room.m {j k:Nat}{A:Around} (r:Room k A) (h:j<=k:=by decide):Room j A:=r.mono h
theorem pla:PlainAttrs "list":=PySem.F.plainAttrs_list
theorem sla:Slot "list" "append" "list.append":=PySem.F.slot_list_append
theorem tla:typeOf (.builtin "list.append")=pure (.type "method_descriptor"):=PySem.F.type_list_append
theorem slp:Slot "list" "pop" "list.pop":=PySem.F.slot_list_pop
theorem tlp:typeOf (.builtin "list.pop")=pure (.type "method_descriptor"):=PySem.F.type_list_pop
theorem aE_ {X:Cx}{CX:CXT}{k:Nat}{E:XK}{x:Str}{p pos:Pos}{e:Expr}{es:List Expr}{t:TA}{f:Addr}{fd:FuncData}{ps:List Str}{sp:Sp}{st:Stmt} (F:FG X.K X.mg x st ps f fd) (G:FnOk X.prog X.w X.K X.mg X.base CX k f fd ps sp) (hr:Room k X.A) (hx:bK_ CX X E) (ha:PA X (e::es) t)
  (hg:Gl X x:=by rfl) (hdb:(x == ("__debug__":Str))=false:=by decide) (he:starEach (e::es) X.env=(false,eval e X.env)::starEach es X.env:=by rfl) (hpl:(backTo pos (starEach es X.env)).any (·.1)=false:=by rfl):PE X (.Call (.Name x p) (e::es) [] pos) (iP_ sp [] E t):=fT_ G hr hg F.mg F.fn.kp F.b .nil hx ha hdb he hpl
theorem az_ {X:Cx}{pos pos':Pos} (i:Nat) {x:Str}{e:Expr}{te:TE} (hN:X.N.Nodup) (he:PE X e te) (hi:X.N[i]? = some x:=by rfl) (hx:Loc X.env.scope x:=by exact Or.inl rfl) (hs:swapsWith e (some (.Name x pos')) pos.line X.env=pure false:=by rfl) (hf:X.fn x=true\/X.env.scope.names.lookup x=some .local:=by first | exact .inl rfl | exact .inr rfl | assumption):PS X (.Assign [.Name x pos'] e pos) (tAsg te (dz_ i)):=ie_ hN hi hx he hs hf
theorem pg_q {X:Cx}{pos:Pos} (i:Nat) {x:Str} (hN:X.N.Nodup) (hi:X.N[i]? = some x:=by rfl) (hx:Loc X.env.scope x:=by exact Or.inl rfl) (hf:X.fn x=true\/X.env.scope.names.lookup x=some .local:=by first | exact .inl rfl | exact .inr rfl | assumption):PG X (.Name x pos) (dz_ i):=j8_ hN hi hx hf
theorem dl_:bootBuiltins "ord"=some (.builtin "ord"):=by decide +kernel
theorem g8_:bootBuiltins "all"=some (.builtin "all"):=by decide +kernel
theorem la_:bootBuiltins "max"=some (.builtin "max"):=by decide +kernel
theorem cr_:bootBuiltins "int"=some (.type "int"):=by decide +kernel
theorem eY_:bootBuiltins "str"=some (.type "str"):=by decide +kernel
def bs (t:List Nat):List V:=t.map fun (n:Nat)=>V.int (n:Int)
def S (l:List Nat):Str:=⟨l.toArray⟩
theorem tl_S (l:List Nat):tl (S l)=l:=rfl
theorem aM_ (l:List Nat):(S l).length=l.length:=by rw [dc_,tl_S]
theorem bW_ (t:List Nat):(bs t).length=t.length:=by unfold bs;rw [length_map]
theorem dS_ {t:List Nat}{i c:Nat} (h:t[i]? = some c):(bs t)[i]? = some (V.int (c:Int)):=by unfold bs;rw [getElem?_map,h];rfl
theorem nW_ (t:List Nat) (i:Nat):(bs t).drop i=bs (t.drop i):=by unfold bs;rw [List.map_drop]
theorem nV_ (t:List Nat) (i:Nat):(bs t).take i=bs (t.take i):=by unfold bs;rw [List.map_take]
def spB (b:Nat->Bool):Sp:=fun vs H Q _=>∃ n:Nat,vs=[.int (n:Int)]/\Q (.bl (b n)) H
def lh_ (P:Program) (w:World) (K:PySem.W.Frag) (mg:Str->Option Value) (base:Heap) (k:Nat) (f:Addr) (b:Nat->Bool):Prop :=
 ∃ fd ps,FnOk P w K mg base CX0 k f fd ps (spB b)/\a9_ K fd ps []/\keepIn K (.ref f)=true
theorem Same.rd {H H':Hp}{a:Addr}{u:HO} (e:Same H H') (h:Rd H a u):Rd H' a u:=by
 rcases h with h | ⟨o,h⟩
 ·exact .inl (e _ _ h)
 exact .inr ⟨o,e _ _ h⟩
theorem Same.upd {H:Hp}{a:Addr}{o:HO} (h:H a=none):Same H (L2.upd H a o):=fun b u e=>by rw [al_ (ag_ e h)];exact e
theorem b6_ {b:Bool}{A B:Prop} (h1:b=true->A) (h2:b=false->B):if b=true then A else B:=by
 cases b with
 | true=>exact iteT (h1 rfl)
 | false=>exact iteF (h2 rfl)
end L2
namespace L2
open PySem PySem.Spec PyProof.Rows TL
theorem oI_ {J:It}{g:TG}{tt:TT}{te:TE}{vs:List Nat}{σ:St}{H1:Hp}{D:Addr}{Qd:Hp->Prop} (xs:List V) (f:V->V) (hD:H1 D=none) (hn:xs.length<=sizeLine)
  (hgo : ∀ i x H,Same H1 H->xs[i]? = some x->J.go i H/\∀ y H',J.yld i H y H'->H'=H/\y=x) (hst : ∀ H,Same H1 H->J.stop xs.length H)
  (hs : ∀ x H acc (Nx:Hp->Prop),x∈xs->Same H1 H->H D=some (.lst acc)->acc.length<sizeLine->(∀ H',Same H H'->Nx (upd H' D (.lst (acc++[f x])))) ->
   g x (wipe σ vs) H fun σ2 H2=>wipe σ2 vs=wipe σ vs/\tt σ2 H2 fun b H3=>if b=true then te σ2 H3 fun y H4=>∃ acc,H4 D=some (.lst acc)/\acc.length<sizeLine/\Nx (upd H4 D (.lst (acc++[y]))) else Nx H3)
  (hd : ∀ H,Same H1 H->H D=some (.lst (xs.map f))->Qd H) :
  ∃ W:Nat->Nat->Hp->Prop,(∃ m,W 0 m (upd H1 D (.lst [])))/\∀ i m H,W i m H ->
   (J.stop i H/\Qd H)\/(J.go i H/\∃ Nx:Hp->Prop,(∀ H',Nx H'->∃ m',m'<m/\W (i+1) m' H')/\∀ x H',J.yld i H x H'->g x (wipe σ vs) H' fun σ2 H2=>wipe σ2 vs=wipe σ vs/\tt σ2 H2 fun b H3 =>
    if b=true then te σ2 H3 fun y H4=>∃ acc,H4 D=some (.lst acc)/\acc.length<sizeLine/\Nx (upd H4 D (.lst (acc++[y]))) else Nx H3):=by
 refine ⟨fun i m H=>m=xs.length - i/\i<=xs.length/\Same H1 H/\H D=some (.lst ((xs.take i).map f)),⟨_,rfl,zero_le _,Same.upd hD,ab_⟩,?_⟩
 rintro i m H ⟨rfl,hi,sm,hd1⟩
 by_cases hlt:i<xs.length
 ·have hx:xs[i]? = some xs[i]:=getElem?_eq_getElem hlt
  obtain ⟨go,yl⟩:=hgo i xs[i] H sm hx;refine .inr ⟨go,fun H'=>Same H1 H'/\H' D=some (.lst ((xs.take (i+1)).map f)),fun H' z=>⟨_,by omega,rfl,hlt,z.1,z.2⟩,fun y H' q=>?_⟩;obtain ⟨rfl,rfl⟩:=yl y H' q;refine hs _ H' _ _ (List.getElem_mem hlt) sm hd1 (by rw [length_map,length_take];omega) fun H2 s2=>⟨fun b o e=>?_,?_⟩
  ·rw [al_ (ag_ e hD)]
   exact s2 _ _ (sm _ _ e)
  rw [ab_,take_succ,hx,map_append];rfl
 have e:i=xs.length:=by omega
 subst e;rw [take_length] at hd1;exact .inl ⟨hst H sm,hd H sm hd1⟩
theorem hG_ {K:PySem.W.Frag}{a:Addr}{xs:List V}{H1:Hp} (h:SqL K H1 a xs):(∀ i x H,Same H1 H->xs[i]? = some x->(Itl K a).go i H/\∀ y H',(Itl K a).yld i H y H'->H'=H/\y=x)/\∀ H,Same H1 H->(Itl K a).stop xs.length H :=
 ⟨fun i x H sm e=>⟨⟨xs,x,sm.seq h,e⟩,fun y H' ⟨e1,e2⟩=>⟨e1,Option.some.inj ((e2 xs (by subst e1;exact sm.seq h)).symm.trans e)⟩⟩,fun H sm=>⟨xs,sm.seq h,Nat.le_refl _⟩⟩
theorem kO_ {x:Str}{H1:Hp}:(∀ i y H,Same H1 H->((tl x).map fun c=>V.str ⟨#[c]⟩)[i]? = some y->(Its x).go i H/\∀ z H',(Its x).yld i H z H'->H'=H/\z=y)/\∀ H,Same H1 H->(Its x).stop ((tl x).map fun c=>V.str ⟨#[c]⟩).length H:=by
 refine ⟨fun i y H sm e=>?_,fun H sm=>?_⟩
 ·rw [getElem?_map] at e
  cases q:(tl x)[i]? with
  | none=>rw [q] at e;cases e
  | some c =>
  rw [q] at e;cases e;have q':x.cps[i]? = some c:=by rw [<- Array.getElem?_toList];exact q
  refine ⟨?_,?_⟩
  ·show i<x.cps.size
   exact (Array.getElem?_eq_some_iff.mp q').1
  rintro z H' ⟨e1,c',e2,e3⟩
  rw [q'] at e2;cases e2;exact ⟨e1,e3⟩
 show x.cps.size<=_;simp
end L2
namespace L2
open PySem PySem.Spec PyProof.Rows TL
theorem cx_K {CX:CXT}{P:Program}{w:World}{K:PySem.W.Frag}{mg:Str->Option Value}{base:Heap}{N:List Str}{qual:Str}{scope:Scope}{f:Addr}{cd:Value}{A:Around}{outer:List Env}{s:Shared}{H:Hp}{E:XK}:(cxOf CX P w K mg base N qual scope f cd A outer s H E).K=K:=rfl
theorem cx_P {CX:CXT}{P:Program}{w:World}{K:PySem.W.Frag}{mg:Str->Option Value}{base:Heap}{N:List Str}{qual:Str}{scope:Scope}{f:Addr}{cd:Value}{A:Around}{outer:List Env}{s:Shared}{H:Hp}{E:XK}:(cxOf CX P w K mg base N qual scope f cd A outer s H E).prog=P:=rfl
theorem cx_w {CX:CXT}{P:Program}{w:World}{K:PySem.W.Frag}{mg:Str->Option Value}{base:Heap}{N:List Str}{qual:Str}{scope:Scope}{f:Addr}{cd:Value}{A:Around}{outer:List Env}{s:Shared}{H:Hp}{E:XK}:(cxOf CX P w K mg base N qual scope f cd A outer s H E).w=w:=rfl
theorem pj_ {CX:CXT}{P:Program}{w:World}{K:PySem.W.Frag}{mg:Str->Option Value}{base:Heap}{N:List Str}{qual:Str}{scope:Scope}{f:Addr}{cd:Value}{A:Around}{outer:List Env}{s:Shared}{H:Hp}{E:XK}:(cxOf CX P w K mg base N qual scope f cd A outer s H E).mg=mg:=rfl
theorem nR_ {CX:CXT}{P:Program}{w:World}{K:PySem.W.Frag}{mg:Str->Option Value}{base:Heap}{N:List Str}{qual:Str}{scope:Scope}{f:Addr}{cd:Value}{A:Around}{outer:List Env}{s:Shared}{H:Hp}{E:XK}:(cxOf CX P w K mg base N qual scope f cd A outer s H E).base=base:=rfl
theorem cx_N {CX:CXT}{P:Program}{w:World}{K:PySem.W.Frag}{mg:Str->Option Value}{base:Heap}{N:List Str}{qual:Str}{scope:Scope}{f:Addr}{cd:Value}{A:Around}{outer:List Env}{s:Shared}{H:Hp}{E:XK}:(cxOf CX P w K mg base N qual scope f cd A outer s H E).N=N:=rfl
theorem aq_ (s:String):Str.ofString s=S (Vaunid.txt s):=cd_ (by rw [hj_,tl_S];rfl)
theorem bH_ {l m:List Nat}:(S l=S m)=(l=m):=propext ⟨fun e=>by have:=congrArg tl e;exact this,fun e=>by rw [e]⟩
theorem S_eq (l:List Nat) (s:String):(S l=Str.ofString s)=(l=Vaunid.txt s):=by rw [aq_,bH_]
theorem nx_ (c:Nat):(⟨#[c]⟩:Str).length=1:=rfl
theorem ny_ (c:Nat):(⟨#[c]⟩:Str).cps.getD 0 0=c:=rfl
theorem e8_ (l:List Nat):(S l).cps.toList=l:=rfl
theorem hF_ (n c:Nat):decide ((n:Int)=(c:Int))=(n == c):=by
 rw [Bool.eq_iff_iff];simp;omega
end L2
namespace L2
open PySem PySem.Spec PyProof.Rows TL
theorem gp_ {wi:TI}{g:TG}{tt:TT}{te:TE}{vs:List Nat}{σ:St}{H H1:Hp}{Q:VK} (J:It) (xs:List V) (f:V->V) (hw : ∀ R:It->Hp->Prop,R J H1->wi σ H R) (hn:xs.length<=sizeLine)
  (hgo:(∀ i x H,Same H1 H->xs[i]? = some x->J.go i H/\∀ y H',J.yld i H y H'->H'=H/\y=x)/\∀ H,Same H1 H->J.stop xs.length H)
  (hs : ∀ x H D acc (Nx:Hp->Prop),x∈xs->Same H1 H->H D=some (.lst acc)->acc.length<sizeLine->(∀ H',Same H H'->Nx (upd H' D (.lst (acc++[f x])))) ->
   g x (wipe σ vs) H fun σ2 H2=>wipe σ2 vs=wipe σ vs/\tt σ2 H2 fun b H3=>if b=true then te σ2 H3 fun y H4=>∃ acc,H4 D=some (.lst acc)/\acc.length<sizeLine/\Nx (upd H4 D (.lst (acc++[y]))) else Nx H3)
  (hd : ∀ D H,H1 D=none->Same H1 H->H D=some (.lst (xs.map f))->Q (.ref D) H):tLc wi g tt te vs σ H Q :=
 hw _ fun D hD=>oI_ xs f hD hn hgo.1 hgo.2 (fun x H acc Nx h1 h2 h3 h4 h5=>hs x H D acc Nx h1 h2 h3 h4 h5) fun H s e=>hd D H hD s e
end L2
namespace L2
open PySem PySem.Spec PyProof.Rows TL
theorem bL_ {c:TT}{tb:TS}{D:Ends}{σ:St}{H:Hp} (Pv:Nat->St->Hp->Prop) (m0:Nat) (h0:Pv m0 σ H)
  (hs : ∀ m σ H,Pv m σ H->c σ H fun b H1=>if b=true then ∃ N:St->Hp->Prop,(∀ σ' H',N σ' H'->∃ m',m'<m/\Pv m' σ' H')/\tb { D with nx:=N,ct:=N,bk:=D.nx } σ H1 else D.nx σ H1):mp_ c tb D σ H :=
 ⟨Pv,⟨m0,h0⟩,hs⟩
end L2
namespace M
open PySem PySem.Spec PyProof.Rows L2 TL
open Vaunid (isSmall isDigit inWord)
def ay_ (l:List Nat):Bool := !l.isEmpty && (decide (l.length<=12) && (isSmall (l.headD 0) && l.all inWord))
noncomputable def be_ (b:List Nat):Bool:=let d:=if b.head? = some 45 then b.tail else b;!d.isEmpty && (decide (d.length<=2) && d.all isDigit)
noncomputable def av_ (f:List Nat):Bool:=f == [49] || (if f.contains 94=true then ay_ (f.takeWhile (· != 94)) && be_ ((f.dropWhile (· != 94)).drop 1) else ay_ f)
def sep (c:Nat):Bool:=c == 46 || c == 47
def nsep (c:Nat):Bool := !sep c
def cut (p:Nat->Bool):List Nat->List Nat->List (List Nat)
 | acc,[]=>[acc]
 | acc,c::r=>if p c=true then acc::cut p [] r else cut p (acc++[c]) r
def bM_ (c:Nat):Nat:=if c=47 then 46 else c
theorem jH_ (S:List Nat) : ∀ (k:Nat) (acc l:List Nat),spl S k acc l≠[]
 | k,acc,[]=>by rw [cJ_];simp
 | 0,acc,c::r=>by
  cases h:pre S (c::r) with
  | true=>rw [fL_ h];simp
  | false=>rw [d3_ h];exact jH_ S 0 _ r
 | k+1,acc,c::r=>by
  rw [d2_];show spl S 0 acc (r.drop k)≠[];rw [<- d2_];exact jH_ S k acc r
theorem fS_ (s c:Nat) (r:List Nat):pre [s] (c::r)=(c == s):=by
 unfold pre;show ([c] == [s])=_;simp
theorem i5_ (S p:List Nat) {q:List (List Nat)} (h:q≠[]):dx_ S (p::q)=p++(S++dx_ S q):=by
 cases q with
 | nil=>exact absurd rfl h
 | cons a r=>rfl
theorem cm_ : ∀ (l acc:List Nat),dx_ [46] (spl [47] 0 acc l)=acc++l.map bM_
 | [],acc=>by rw [cJ_];simp [dx_]
 | c::r,acc=>by
  by_cases h:c=47
  ·subst h
   rw [fL_ (by rw [fS_];rfl),i5_ _ _ (jH_ _ _ _ _)];show acc++([46]++dx_ [46] (spl [47] 0 [] r))=_;rw [cm_ r []];rfl
  rw [d3_ (by rw [fS_];simpa using h),cm_ r,append_assoc];show acc++(c::r.map bM_)=acc++(bM_ c::r.map bM_);rw [show bM_ c=c from if_neg h]
theorem fl_ (x:Str) : ¬ Builtin.Str.strKind x<Builtin.Str.strKind (Str.ofString "/"):=kC_ (by decide +kernel)
theorem lW_ (x:Str) : ¬ Builtin.Str.strKind x<Builtin.Str.strKind (Str.ofString "."):=kC_ (by decide +kernel)
theorem eq_ (l:List Nat):(Txt.split (S l) (Str.ofString "/")).map tl=spl [47] 0 [] l:=gs_ (S l) (Str.ofString "/") (by decide +kernel) (fl_ _)
theorem er_ (l:List Nat):(Txt.split (S l) (Str.ofString ".")).map tl=spl [46] 0 [] l:=gs_ (S l) (Str.ofString ".") (by decide +kernel) (lW_ _)
theorem ey_ (l:List Nat):Txt.replace (S l) (Str.ofString "/") (Str.ofString ".")=S (l.map bM_):=by
 cases l with
 | nil=>decide +kernel
 | cons c r =>
 have e:Txt.replace (S (c::r)) (Str.ofString "/") (Str.ofString ".")=Str.join (Str.ofString ".") (Txt.split (S (c::r)) (Str.ofString "/")):=by
  unfold Txt.replace Txt.split;have h1:(decide ((S (c::r)).length<(Str.ofString "/").length) || decide (Builtin.Str.strKind (S (c::r))<Builtin.Str.strKind (Str.ofString "/")))=false:=by
   rw [decide_eq_false (fl_ _),aM_,decide_eq_false]
   ·rfl
   rw [length_cons,show (Str.ofString "/").length=1 by decide +kernel];omega
  have h2:((Str.ofString "/").length == 0 && (Str.ofString ".").length == 0)=false:=by decide +kernel
  rw [h1,h2,Bool.or_false];cases hc:(Builtin.Str.occurrences (S (c::r)) (Str.ofString "/") 0 (S (c::r)).length ((S (c::r)).length+1)).isEmpty with
  | true=>rfl
  | false =>
  simp only [false_eq_true,if_false];exact StrLaws.glued_eq_join _ _
 refine cd_ ?_;rw [e,fI_,eq_];show dx_ [46] _=_;rw [cm_];rfl
theorem hl_ : ∀ (l acc:List Nat),spl [46] 0 acc (l.map bM_)=cut sep acc l
 | [],acc=>by rw [map_nil,cJ_];rfl
 | c::r,acc=>by
  rw [map_cons];show _=if sep c=true then acc::cut sep [] r else cut sep (acc++[c]) r;by_cases h:sep c=true
  ·have hu:bM_ c=46:=by
    unfold sep at h;unfold bM_;rcases Bool.or_eq_true_iff.mp h with q | q
    ·rw [eq_of_beq q];rfl
    rw [eq_of_beq q];rfl
   rw [if_pos h,hu,fL_ (by rw [fS_];rfl)];exact congrArg (acc :: ·) (hl_ r [])
  have h2 : ¬ c=46/\¬ c=47:=by
   unfold sep at h;simpa using h
  rw [if_neg h,show bM_ c=c from if_neg h2.2,d3_ (by rw [fS_];simpa using h2.1)];exact hl_ r _
theorem k2_ : ∀ (l acc:List Nat),cut sep acc l=(acc++l.takeWhile nsep)::(match l.dropWhile nsep with | []=>[] | _::r=>cut sep [] r)
 | [],acc=>by simp [cut]
 | c::r,acc=>by
  show (if sep c=true then acc::cut sep [] r else cut sep (acc++[c]) r)=_;by_cases h:sep c=true
  ·have h2:nsep c=false:=by unfold nsep;rw [h];rfl
   rw [if_pos h,takeWhile_cons,dropWhile_cons,h2];simp
  have h2:nsep c=true:=by unfold nsep;simpa using h
  rw [if_neg h,k2_ r,takeWhile_cons,dropWhile_cons,h2];simp
theorem eJ_ {c:Nat} (h:inWord c=true):nsep c=true:=by
 unfold nsep sep;by_cases h1:c=46
 ·subst h1;revert h;decide
 by_cases h2:c=47
 ·subst h2;revert h;decide
 simp [h1,h2]
theorem jn_ {c:Nat} (h:isDigit c=true):nsep c=true:=eJ_ (by unfold inWord;rw [h];simp)
theorem gY_ {c:Nat} (h:inWord c=true):c≠94:=by
 intro e;subst e;revert h;decide
theorem ek_ {p:Nat->Bool} (l:List Nat) : ∀ x∈l.takeWhile p,p x=true:=fun x hx=>by
 induction l with
 | nil=>simp at hx
 | cons c r ih =>
 rw [takeWhile_cons] at hx;split at hx
 ·rcases List.mem_cons.mp hx with e | e
  ·subst e;assumption
  exact ih e
 simp at hx
theorem eS_ {p:Nat->Bool} : ∀ (l:List Nat) {e:Nat}{s:List Nat},l.dropWhile p=e::s->p e=false
 | [],e,s,h=>by simp at h
 | c::r,e,s,h=>by
  rw [dropWhile_cons] at h;split at h
  ·exact eS_ r h
  cases h;rename_i q;simpa using q
def goes (K:List Nat->Bool) (o:Option (List Nat)):Bool:=match o with
 | none=>false
 | some []=>true
 | some (c::r)=>sep c && K r
def after (K:List Nat->Bool) (l:List Nat):Bool:=match l with
 | []=>true
 | _::r=>K r
theorem cR_ (K:List Nat->Bool) (s:List Nat) :
  goes K (if (s.takeWhile isDigit).length=1\/(s.takeWhile isDigit).length=2 then some (s.dropWhile isDigit) else none) =
   ((!(s.takeWhile nsep).isEmpty && (decide ((s.takeWhile nsep).length<=2) && (s.takeWhile nsep).all isDigit)) && after K (s.dropWhile nsep)):=by
 have hs:s=s.takeWhile isDigit++s.dropWhile isDigit:=List.takeWhile_append_dropWhile.symm;have hd:=ek_ (p:=isDigit) s;generalize hdd:s.takeWhile isDigit=d at hs hd;generalize hrr:s.dropWhile isDigit=rest at hs;have hn : ∀ x∈d,nsep x=true:=fun x hx=>jn_ (hd x hx);have e1:s.takeWhile nsep=d++rest.takeWhile nsep:=by rw [hs,takeWhile_append_of_pos hn]
 have e2:s.dropWhile nsep=rest.dropWhile nsep:=by rw [hs,List.dropWhile_append_of_pos hn]
 rw [e1,e2];have hall:d.all isDigit=true:=List.all_eq_true.mpr hd;have small:(!d.isEmpty && decide (d.length<=2))=decide (d.length=1\/d.length=2):=by
  match d with
  | []=>rfl
  | [_]=>rfl
  | [_,_]=>rfl
  | _::_::_::r=>simp
 cases rest with
 | nil =>
  rw [List.takeWhile_nil,List.dropWhile_nil,append_nil,hall,Bool.and_true,small];by_cases q:d.length=1\/d.length=2
  ·rw [if_pos q,decide_eq_true q];rfl
  rw [if_neg q,decide_eq_false q];rfl
 | cons e r =>
 have he:isDigit e=false:=eS_ s hrr;by_cases hs2:sep e=true
 ·have hn2:nsep e=false:=by unfold nsep;rw [hs2];rfl
  rw [takeWhile_cons,dropWhile_cons,hn2];simp only [false_eq_true,if_false,append_nil];rw [hall,Bool.and_true,small];by_cases q:d.length=1\/d.length=2
  ·rw [if_pos q,decide_eq_true q]
   show (sep e && K r)=_;rw [hs2];rfl
  rw [if_neg q,decide_eq_false q];rfl
 have hn2:nsep e=true:=by unfold nsep;simpa using hs2
 have ha:(d++(e::r).takeWhile nsep).all isDigit=false:=by
  rw [takeWhile_cons,hn2,List.all_append];simp [he]
 rw [ha];simp only [Bool.and_false,Bool.false_and];by_cases q:d.length=1\/d.length=2
 ·rw [if_pos q]
  show (sep e && K r)=false;simp [hs2]
 rw [if_neg q];rfl
theorem iT_ (K:List Nat->Bool) (s:List Nat):goes K (Vaunid.powerText s)=(be_ (s.takeWhile nsep) && after K (s.dropWhile nsep)):=by
 match s with
 | []=>exact cR_ K []
 | c::r =>
  by_cases h:c=45
  ·subst h
   have e:=cR_ K r;have e1:(45::r).takeWhile nsep=45::r.takeWhile nsep:=rfl;have e2:(45::r).dropWhile nsep=r.dropWhile nsep:=rfl;rw [e1,e2];exact e
  have e:=cR_ K (c::r);have e3:Vaunid.powerText (c::r)=if ((c::r).takeWhile isDigit).length=1\/((c::r).takeWhile isDigit).length=2 then some ((c::r).dropWhile isDigit) else none:=by
   unfold Vaunid.powerText;dsimp only;split
   ·rename_i q;cases q;exact absurd rfl h
   rfl
  rw [e3,e];have e4:be_ ((c::r).takeWhile nsep)=(!((c::r).takeWhile nsep).isEmpty && (decide (((c::r).takeWhile nsep).length<=2) && ((c::r).takeWhile nsep).all isDigit)):=by
   unfold be_;have hh : ¬ ((c::r).takeWhile nsep).head? = some 45:=by
    rw [takeWhile_cons];split
    ·simpa using h
    simp
   simp only [if_neg hh]
  rw [e4]
theorem dp_ {c:Nat} (h:isSmall c=true):inWord c=true:=by unfold inWord;rw [h];rfl
theorem ex_ {l:List Nat}{e:Nat} (h:e∈l) (he:inWord e=false):ay_ l=false:=by
 unfold ay_;have:l.all inWord=false:=List.all_eq_false.mpr ⟨e,h,by rw [he];simp⟩;rw [this];simp
theorem cv_ {c:Nat}{r:List Nat} (h:isSmall c=false):ay_ (c::r)=false:=by
 unfold ay_;rw [headD_cons,h];simp
theorem hL_ (K:List Nat->Bool) (t:List Nat):goes K (factorText t)=(av_ (t.takeWhile nsep) && after K (t.dropWhile nsep)):=by
 match t with
 | []=>rfl
 | c::r =>
  unfold factorText;dsimp only;by_cases h49:c=49
  ·subst h49
   simp only [if_true];have e1:(49::r).takeWhile nsep=49::r.takeWhile nsep:=rfl;have e2:(49::r).dropWhile nsep=r.dropWhile nsep:=rfl;rw [e1,e2];cases r with
   | nil=>rfl
   | cons d r2 =>
   by_cases hs:sep d=true
   ·have hn:nsep d=false:=by unfold nsep;rw [hs];rfl
    rw [takeWhile_cons,dropWhile_cons,hn];show (sep d && K r2)=(av_ [49] && K r2);rw [hs];rfl
   have hn:nsep d=true:=by unfold nsep;simpa using hs
   have hf:av_ (49::(d::r2).takeWhile nsep)=false:=by
    unfold av_;rw [takeWhile_cons,hn];simp only [if_true];have h1:((49::d::r2.takeWhile nsep) == [49])=false:=by simp
    rw [h1,Bool.false_or];split
    ·have:(49::d::r2.takeWhile nsep).takeWhile (· != 94)=49::(d::r2.takeWhile nsep).takeWhile (· != 94):=rfl
     rw [this,cv_ (by decide)];rfl
    exact cv_ (by decide)
   rw [hf];show (sep d && K r2)=_;simp [hs]
  rw [if_neg h49];cases hsm:isSmall c with
  | false =>
   simp only [if_true];show false=_;by_cases hs:sep c=true
   ·have hn:nsep c=false:=by unfold nsep;rw [hs];rfl
    rw [takeWhile_cons,hn];rfl
   have hn:nsep c=true:=by unfold nsep;simpa using hs
   have hf:av_ ((c::r).takeWhile nsep)=false:=by
    rw [takeWhile_cons,hn];simp only [if_true];unfold av_;have h1:((c::r.takeWhile nsep) == [49])=false:=by simp [h49]
    rw [h1,Bool.false_or];split
    ·rw [takeWhile_cons]
     split
     ·rw [cv_ hsm];rfl
     rfl
    exact cv_ hsm
   rw [hf];rfl
  | true =>
  simp only [Bool.true_eq_false,if_false];have hs:c::r=(c::r).takeWhile inWord++(c::r).dropWhile inWord:=List.takeWhile_append_dropWhile.symm;have hw:(c::r).takeWhile inWord=c::r.takeWhile inWord:=by rw [takeWhile_cons,dp_ hsm];rfl
  have hd:=ek_ (p:=inWord) (c::r);have hrest:=fun {e s}=>eS_ (p:=inWord) (c::r) (e:=e) (s:=s);generalize hww:(c::r).takeWhile inWord=ww at hs hd hw;generalize (c::r).dropWhile inWord=rest at hs hrest;have hn : ∀ x∈ww,nsep x=true:=fun x hx=>eJ_ (hd x hx);have e1:(c::r).takeWhile nsep=ww++rest.takeWhile nsep:=by rw [hs,takeWhile_append_of_pos hn]
  have e2:(c::r).dropWhile nsep=rest.dropWhile nsep:=by rw [hs,List.dropWhile_append_of_pos hn]
  have hall:ww.all inWord=true:=List.all_eq_true.mpr hd;have h94 : ∀ x∈ww,(x != 94)=true:=fun x hx=>by simpa using gY_ (hd x hx)
  have hshort:ay_ ww=decide (ww.length<=12):=by
   unfold ay_;rw [hall,hw,headD_cons,hsm];simp
  have hno:ww.contains 94=false:=by
   cases q:ww.contains 94 with
   | false=>rfl
   | true=>exact absurd rfl (gY_ (hd 94 (List.contains_iff_mem.mp q)))
  have h1 : ∀ x,((ww++x) == [49])=false:=fun x=>by
   rw [hw];simp [h49]
  have hfw:av_ ww=decide (ww.length<=12):=by
   unfold av_;have:=h1 [];rw [append_nil] at this;rw [this,Bool.false_or,hno];simp [hshort]
  rw [e1,e2];cases rest with
  | nil =>
   rw [List.takeWhile_nil,List.dropWhile_nil,append_nil,hfw];by_cases q:12<ww.length
   ·rw [if_pos (show MOSTSIGNS<ww.length from q),decide_eq_false (by omega)];rfl
   rw [if_neg (show ¬ MOSTSIGNS<ww.length from q),decide_eq_true (by omega)];rfl
  | cons e s =>
  have he:inWord e=false:=hrest rfl;by_cases hs2:sep e=true
  ·have hn2:nsep e=false:=by unfold nsep;rw [hs2];rfl
   have ne94:e≠94:=by intro z;subst z;revert hs2;decide
   rw [takeWhile_cons,dropWhile_cons,hn2];simp only [false_eq_true,if_false,append_nil];rw [hfw];by_cases q:12<ww.length
   ·rw [if_pos (show MOSTSIGNS<ww.length from q),decide_eq_false (by omega)];rfl
   rw [if_neg (show ¬ MOSTSIGNS<ww.length from q),decide_eq_true (by omega)];split
   ·rename_i z;cases z;exact absurd rfl ne94
   show (sep e && K s)=_;rw [hs2];rfl
  have hn2:nsep e=true:=by unfold nsep;simpa using hs2
  rw [takeWhile_cons,dropWhile_cons,hn2];simp only [if_true];by_cases h94e:e=94
  ·subst h94e
   have hf:av_ (ww++94::s.takeWhile nsep)=(decide (ww.length<=12) && be_ (s.takeWhile nsep)):=by
    unfold av_;rw [h1,Bool.false_or,if_pos (by simp),takeWhile_append_of_pos h94,List.dropWhile_append_of_pos h94];simp [hshort]
   rw [hf];by_cases q:12<ww.length
   ·rw [if_pos (show MOSTSIGNS<ww.length from q),decide_eq_false (by omega)];rfl
   rw [if_neg (show ¬ MOSTSIGNS<ww.length from q),decide_eq_true (by omega)];simp only [Bool.true_and];exact iT_ K s
  have hf:av_ (ww++e::s.takeWhile nsep)=false:=by
   unfold av_;rw [h1,Bool.false_or];split
   ·have hne:(e != 94)=true:=by simpa using h94e
    rw [takeWhile_append_of_pos h94,takeWhile_cons,hne];rw [ex_ (e:=e) (by simp) he];rfl
   exact ex_ (e:=e) (by simp) he
  rw [hf];by_cases q:12<ww.length
  ·rw [if_pos (show MOSTSIGNS<ww.length from q)];rfl
  rw [if_neg (show ¬ MOSTSIGNS<ww.length from q)];split
  ·rename_i z;cases z;exact absurd rfl h94e
  show (sep e && K s)=_;simp [hs2]
theorem bT_ : ∀ (n:Nat) (t:List Nat),t.length<n->measureText n t=(cut sep [] t).all av_
 | 0,t,h=>by omega
 | n+1,t,h=>by
  have e:measureText (n+1) t=goes (measureText n) (factorText t):=by
   show (match factorText t with | none=>false | some []=>true | some (c::r)=>(c == 46 || c == 47) && measureText n r)=_
   cases factorText t with
   | none=>rfl
   | some l=>cases l <;> rfl
  rw [e,hL_,k2_,nil_append,all_cons];have hl:t.length=(t.takeWhile nsep).length+(t.dropWhile nsep).length:=by rw [<- length_append,List.takeWhile_append_dropWhile]
  cases q:t.dropWhile nsep with
  | nil=>rfl
  | cons c r =>
  rw [q,length_cons] at hl;show (_ && measureText n r)=_;rw [bT_ n r (by omega)]
theorem hQ_ (p:Nat->Bool) : ∀ (l acc:List Nat),∀ f∈cut p acc l,f.length<=acc.length+l.length
 | [],acc,f,h=>by
  rw [List.mem_singleton.mp h];omega
 | c::r,acc,f,h=>by
  have h':f∈(if p c=true then acc::cut p [] r else cut p (acc++[c]) r):=h;rw [length_cons];split at h'
  ·rcases List.mem_cons.mp h' with e | e
   ·rw [e];omega
   have:=hQ_ p r [] f e;rw [length_nil] at this;omega
  have:=hQ_ p r _ f h';rw [length_append,length_singleton] at this;omega
theorem lo_ {p:List Nat->Bool}{l:List (List Nat)}{i:Nat}{x:List Nat} (h:l[i]? = some x):(l.take (i+1)).all p=((l.take i).all p && p x):=by
 rw [take_succ,h,List.all_append];simp
theorem o6_ {p:List Nat->Bool}{l:List (List Nat)}{i:Nat}{x:List Nat} (h:l[i]? = some x) (hx:p x=false):l.all p=false:=List.all_eq_false.mpr ⟨x,mem_of_getElem? h,by rw [hx];simp⟩
open Vaunid (isSmall isDigit inWord)
theorem pi_ (l:List Nat):NumText.digitsVal l=digitsValue l:=by
 unfold NumText.digitsVal digitsValue;have e:(fun (acc c:Nat)=>acc * 10+(c - 48))=fun n c=>10 * n+(c - 48):=by
  funext x y
  rw [mul_comm]
 rw [e]
theorem fz_ {l:List Nat} (h : ∀ c∈l,isDigit c=true):NumText.AllDigits l:=fun c hc=>by
 have:=h c hc;unfold isDigit at this;simpa using this
theorem kX_ : ∀ (l:List Nat) (n:Nat),(∀ c∈l,isDigit c=true)->l.foldl (fun n c=>10 * n+(c - 48)) n<(n+1) * 10 ^ l.length
 | [],n,_=>by simp
 | c::r,n,h=>by
  have hc:=fz_ h c (mem_cons_self ..);have ih:=kX_ r (10 * n+(c - 48)) fun x hx=>h x (mem_cons_of_mem _ hx);rw [foldl_cons,length_cons,Nat.pow_succ];refine Nat.lt_of_lt_of_le ih ?_;rw [mul_comm (10 ^ r.length) 10,<- Nat.mul_assoc];exact Nat.mul_le_mul_right _ (by omega)
theorem ph_ {l:List Nat} (h : ∀ c∈l,isDigit c=true):digitsValue l<10 ^ l.length:=by
 have:=kX_ l 0 h;rw [zero_add,Nat.one_mul] at this;exact this
theorem fg_ {a b:Nat} (h:a<=b):10 ^ a<=10 ^ b:=Nat.pow_le_pow_right (by decide) h
theorem o1_ {l:List Nat}{k:Nat} (h : ∀ c∈l,isDigit c=true) (hk:l.length<=k):digitsValue l<10 ^ k:=Nat.lt_of_lt_of_le (ph_ h) (fg_ hk)
theorem gX_ {l:List Nat} (h : ∀ c∈l,isDigit c=true) (h1:l≠[]) (h2:l.length<=4300):intText? (S l)=some ((digitsValue l:Nat):Int):=by
 have e:=PySem.intText_digits (x:=S l) (fz_ h) h1 (by rw [aM_];exact h2);rw [show (S l).cps.toList=l from rfl,pi_] at e;exact e
theorem mc_ (n:Nat) : ∀ k,(List.replicate n 48).foldl (fun n c=>10 * n+(c - 48)) k=k * 10 ^ n:=by
 induction n with
 | zero=>intro k;simp
 | succ n ih =>
 intro k;rw [replicate_succ,foldl_cons,ih,Nat.pow_succ];show (10 * k+0) * 10 ^ n=k * (10 ^ n * 10);rw [add_zero,mul_comm 10 k,Nat.mul_assoc,mul_comm 10]
theorem o0_ (n:Nat):digitsValue (49::List.replicate n 48)=10 ^ n:=by
 unfold digitsValue;rw [foldl_cons,mc_];show (10 * 0+1) * 10 ^ n=_;simp
theorem ft_ (x:Array Nat) : ∀ (n:Nat) (acc:Array Nat),(List.replicate n x).foldl (· ++ ·) acc=acc++((List.replicate n x.toList).flatten).toArray
 | 0,acc=>by simp
 | n+1,acc=>by
  rw [replicate_succ,foldl_cons,ft_ x n,replicate_succ,List.flatten_cons];apply Array.ext';simp
theorem g1_ (n c:Nat):(List.replicate n [c]).flatten=List.replicate n c:=by
 induction n with
 | zero=>rfl
 | succ n ih=>rw [replicate_succ,List.flatten_cons,ih];rfl
theorem ks_ (n:Nat):Txt.mul (Str.ofString "0") (n:Int)=S (List.replicate n 48):=by
 unfold Txt.mul;by_cases h:(n:Int)<1
 ·have:n=0:=by omega
  subst this;rw [if_pos h];rfl
 rw [if_neg h];have e0:((Str.ofString "0").length == 0)=false:=by decide +kernel
 rw [e0,Bool.or_false];by_cases h1:((n:Int) == 1)=true
 ·have:n=1:=by have:=eq_of_beq h1;omega
  subst this;rw [if_pos h1];decide +kernel
 rw [if_neg h1];refine cd_ ?_;rw [Int.toNat_natCast];show (List.foldl (fun x1 x2=>x1++x2) #[] (List.replicate n (Str.ofString "0").cps)).toList=List.replicate n 48;rw [ft_];rw [show (Str.ofString "0").cps.toList=[48] by decide +kernel,g1_];simp
noncomputable def frac (a:List Nat) (c:Nat) (b:List Nat):Option (Nat×Nat) :=
 let top:=if c=46 then digitsValue (a++b) else digitsValue a
 let low:=if c=47 then digitsValue b else if c=46 then 10 ^ b.length else 1
 let g:=Nat.gcd top low
 let good:=decide (a.length<=MOSTSIGNS) && (decide (b.length<=MOSTSIGNS) && (low != 0 && (fits (top / g) && fits (low / g))))
 if good=true then some (top / g,low / g) else none
def iv_ (o u:Nat):Option (Nat×Nat):=if u=0 then none else if 10 ^ 12<=o / Nat.gcd o u\/10 ^ 12<=u / Nat.gcd o u then none else some (o / Nat.gcd o u,u / Nat.gcd o u)
theorem cP_ {a b:List Nat}{c:Nat} (ha:a.length<=12) (hb:b.length<=12) :
  frac a c b=iv_ (if c=46 then digitsValue (a++b) else digitsValue a) (if c=47 then digitsValue b else if c=46 then 10 ^ b.length else 1):=by
 unfold frac iv_;dsimp only;generalize (if c=46 then digitsValue (a++b) else digitsValue a)=o;generalize (if c=47 then digitsValue b else if c=46 then 10 ^ b.length else 1)=u;rw [decide_eq_true (show a.length<=MOSTSIGNS from ha),decide_eq_true (show b.length<=MOSTSIGNS from hb)];unfold fits;by_cases h0:u=0
 ·subst h0
  simp
 rw [if_neg h0];by_cases h1:10 ^ 12<=o / o.gcd u\/10 ^ 12<=u / o.gcd u
 ·rw [if_pos h1,if_neg]
  simp only [Bool.true_and,and_eq_true,bne_iff_ne,decide_eq_true_eq];omega
 rw [if_neg h1,if_pos];simp only [Bool.true_and,and_eq_true,bne_iff_ne,decide_eq_true_eq];omega
theorem eO_ {a b:List Nat}{c:Nat} (h:12<a.length\/12<b.length):frac a c b=none:=by
 unfold frac;dsimp only;rw [if_neg];simp only [and_eq_true,decide_eq_true_eq];have:MOSTSIGNS=12:=rfl;omega
noncomputable def afs (o u:Int) (m:Str):List (Str×V):=[("over",.int o),("under",.int u),("measure",.str m)]
def aW_ (C:Addr) (H:Hp) (a:Addr) (o u:Int) (m:List Nat):Prop:=∃ dx,H a=some (.ins C dx (afs o u (S m)))
theorem aW_.same {C:Addr}{H H':Hp}{a:Addr}{o u:Int}{m:List Nat} (h:aW_ C H a o u m) (s:Same H H'):aW_ C H' a o u m:=let ⟨dx,e⟩:=h;⟨dx,s _ _ e⟩
def bz_ (C:Addr) (names:List Str):Sp:=fun vs H Q _=>∃ (p dx:Addr) (args:List V),vs = .ref p::args/\args.length=names.length/\H p=some (.ins C dx [])/\Q .non (upd H p (.ins C dx (names.zip args)))
theorem aX_ {H:Hp}{x dx:Addr}{o1 o2:HO} (h1:H x=none) (h2:H dx=none):Same H (upd (upd H dx o1) x o2):=fun b o e=>by rw [al_ (ag_ e h1),al_ (ag_ e h2)];exact e
def e2_ (C:Addr) (H:Hp) (Q:VK) (r:Option (Nat×Nat)):Prop:=match r with
 | none=>∀ H',Same H H'->Q .non H'
 | some (x,y)=>∀ (p:Addr) (H':Hp),Same H H'->aW_ C H' p (x:Int) (y:Int) []->Q (.ref p) H'
theorem e2_.mono {C:Addr}{H H1:Hp}{Q:VK}{r:Option (Nat×Nat)} (h:e2_ C H Q r) (s:Same H H1):e2_ C H1 Q r:=by
 cases r with
 | none=>exact fun H' s'=>h H' (s.trans s')
 | some p=>exact fun a H' s' q=>h a H' (s.trans s') q
end M
namespace L2
open PySem PySem.Spec PyProof.Rows TL
theorem pe_r {X:Cx}{x:Str}{a:Addr}{pos:Pos} (h:X.mg x=some (.ref a)) (hg:Gl X x:=by rfl) (hd:(x == ("__debug__":Str))=false:=by decide):PE X (.Name x pos) (tC (.ref a)):=kd_ hg h rfl hd
theorem few0 {n:Nat} (h:n<1000:=by decide):n<1000:=h
theorem few {f:Str}{v:V}{fs:List (Str×V)}{n:Nat} (h:fs.length<=n):(putF f v fs).length<=n+1:=Nat.le_trans (b5_ f v fs) (Nat.add_le_add_right h 1)
theorem few1 {f1:Str}{v1:V}:(putF f1 v1 []).length<1000:=Nat.lt_of_le_of_lt (few (n:=0) (Nat.le_refl _)) (by decide)
theorem few2 {f1 f2:Str}{v1 v2:V}:(putF f2 v2 (putF f1 v1 [])).length<1000:=Nat.lt_of_le_of_lt (few (few (n:=0) (Nat.le_refl _))) (by decide)
theorem few3 {f1 f2 f3:Str}{v1 v2 v3:V}:(putF f3 v3 (putF f2 v2 (putF f1 v1 []))).length<1000:=Nat.lt_of_le_of_lt (few (few (few (n:=0) (Nat.le_refl _)))) (by decide)
theorem few4 {f1 f2 f3 f4:Str}{v1 v2 v3 v4:V}:(putF f4 v4 (putF f3 v3 (putF f2 v2 (putF f1 v1 [])))).length<1000:=Nat.lt_of_le_of_lt (few (few (few (few (n:=0) (Nat.le_refl _))))) (by decide)
theorem nK_ (x:Int) (l:List Int):inV (.int x) (l.map V.int)=l.contains x:=by
 unfold inV
 induction l with
 | nil=>rfl
 | cons a r ih =>
 rw [map_cons,any_cons,ih,List.contains_cons];congr 1;show (a == x)=(x == a);exact Bool.beq_comm
theorem nJ_ (x:Str) (l:List Str):inV (.str x) (l.map V.str)=l.any (· == x):=by
 unfold inV;rw [any_map];rfl
theorem eR_ (l:List Str):(l.map V.str).all f5_=true:=by
 rw [all_map];exact List.all_eq_true.mpr fun _ _=>rfl
end L2
namespace M
open PySem PySem.Spec PyProof.Rows L2 TL
open Vaunid (isSmall isDigit inWord)
theorem bt_ (p:Nat->Bool) : ∀ l:List Nat,l.dropWhile p=l.drop (l.takeWhile p).length
 | []=>rfl
 | c::r=>by
  rw [dropWhile_cons,takeWhile_cons];split
  ·rw [bt_ p r,length_cons,drop_succ_cons]
  rfl
theorem dU_ (p:Nat->Bool) (l:List Nat):(l.takeWhile p).length<=l.length:=List.Sublist.length_le (List.takeWhile_sublist p)
theorem dD_ {t:List Nat}{i c:Nat} (h:t[i]? = some c):t.drop i=c::t.drop (i+1):=by
 obtain ⟨h1,h2⟩:=List.getElem?_eq_some_iff.mp h;rw [drop_eq_getElem_cons h1,h2]
theorem c8_ (s:List Nat):(numberText s).1=(match s.drop (s.takeWhile isDigit).length with
  | c::d::r=>if (c=47\/c=46)/\isDigit d=true then (s.takeWhile isDigit).length+(1+((d::r).takeWhile isDigit).length) else (s.takeWhile isDigit).length
  | _=>(s.takeWhile isDigit).length):=by
 unfold numberText;dsimp only;rw [bt_];generalize (s.takeWhile isDigit).length=n;generalize s.drop n=l
 match l with
 | []=>rfl
 | [c]=>rfl
 | c::d::r =>
  unfold secondRow;dsimp only;by_cases h:(c=47\/c=46)/\isDigit d=true
  ·simp only [if_pos h]
   rw [if_neg (by omega)]
  simp only [if_neg h,if_true,add_zero]
theorem kp_ {t:List Nat}{p:Nat} (h : ¬ p+((t.drop p).takeWhile isDigit).length+1<t.length):(numberText (t.drop p)).1=((t.drop p).takeWhile isDigit).length:=by
 rw [c8_,drop_drop];have hl:(t.drop (p+((t.drop p).takeWhile isDigit).length)).length<=1:=by rw [length_drop];omega
 generalize t.drop (p+((t.drop p).takeWhile isDigit).length)=l at hl
 match l,hl with
 | [],_=>rfl
 | [c],_=>rfl
 | _::_::_,hl=>simp at hl
theorem lP_ {t:List Nat}{p c d:Nat} (h1:t[p+((t.drop p).takeWhile isDigit).length]? = some c) (h2:t[p+((t.drop p).takeWhile isDigit).length+1]? = some d) :
  (numberText (t.drop p)).1=if (c=47\/c=46)/\isDigit d=true then ((t.drop p).takeWhile isDigit).length+(1+((t.drop (p+((t.drop p).takeWhile isDigit).length+1)).takeWhile isDigit).length) else ((t.drop p).takeWhile isDigit).length:=by
 rw [c8_,drop_drop,dD_ h1,dD_ h2]
theorem nL_ (c:Nat):inV (.int (c:Int)) [V.int 46,V.int 47]=decide (c=46\/c=47):=by
 have e:=nK_ (c:Int) [46,47];rw [show [V.int 46,V.int 47]=[46,47].map V.int from rfl,e];rw [Bool.eq_iff_iff];simp;omega
theorem jR_ {a b:List Nat} (h : ∀ x∈a,isDigit x=true) (h2 : ∀ x∈b,isDigit x=true):Txt.split (S (a++47::b)) (Str.ofString "/")=[S a,S b]:=by
 refine bU_ ?_;rw [eq_];have na:47∉a:=fun m=>by have:=h _ m;revert this;decide
 have nb:47∉b:=fun m=>by have:=h2 _ m;revert this;decide
 have e:=gt_ (s:=47) (S:=[]) (rest:=b) (acc:=[]) na;rw [et_ nb] at e;exact e
theorem nP_ {a b:List Nat} (h : ∀ x∈a,isDigit x=true) (h2 : ∀ x∈b,isDigit x=true):Txt.split (S (a++46::b)) (Str.ofString ".")=[S a,S b]:=by
 refine bU_ ?_;rw [er_];have na:46∉a:=fun m=>by have:=h _ m;revert this;decide
 have nb:46∉b:=fun m=>by have:=h2 _ m;revert this;decide
 have e:=gt_ (s:=46) (S:=[]) (rest:=b) (acc:=[]) na;rw [et_ nb] at e;exact e
theorem me_ {a:List Nat} (h : ∀ x∈a,isDigit x=true):Txt.split (S a) (Str.ofString ".")=[S a]:=by
 refine bU_ ?_;rw [er_];have na:46∉a:=fun m=>by have:=h _ m;revert this;decide
 rw [et_ na];rfl
theorem f1_ {K:PySem.W.Frag}{x0 x1 x3:Option V}{H:Hp}{p:Addr}{ys:List Str}{R:VK} (hp:H p=some (.lst (ys.map V.str))) (hy : ∀ y∈ys,y.length<=sizeLine) (hl:ys.length<=sizeLine)
  (k : ∀ (D:Addr) (H':Hp),Same H H'->H' D=some (.lst ((ys.map fun y=>(y.length:Int)).map V.int))->R (.ref D) H') :
  tLc (lZ_ K (tVar 2)) (dz_ 3) tYes (tCB (fun xs H Q=>∃ z,xs=[V.str z]/\z.length<=sizeLine/\Q (V.int ↑z.length) H) (fK_ (tVar 3) tNil)) [3] [x0,x1,some (.ref p),x3] H R:=by
 refine gp_ (Itl K p) (ys.map V.str) (fun v=>match v with | .str z=>V.int z.length | _ => .non) (H1:=H) (fun R h=>?_) (by rw [length_map];exact hl) (hG_ (SqL.of hp)) (fun x H' D acc Nx hx sm hD hacc nx=>?_) fun D H' hD sm e=>?_
 ·exact ⟨p,rfl,⟨_,SqL.of hp⟩,h⟩
 ·obtain ⟨d,hd,rfl⟩:=List.mem_map.mp hx
  refine ⟨rfl,?_⟩;unfold tYes;simp only [if_true];exact ⟨d,rfl,hy d hd,acc,hD,hacc,nx H' (Same.refl _)⟩
 refine k D H' sm ?_;rw [e,map_map,map_map];rfl
theorem jQ_:Str.ofString "/"=(⟨#[47]⟩:Str):=by decide +kernel
theorem bX_ (a b:List Nat):S a++S b=S (a++b):=cd_ (by rw [ci_];rfl)
theorem oG_ (n:Nat) (h:n<=12):MulOk (Str.ofString "0") (n:Int):=by
 have key : ∀ m:Fin 13,MulOk (Str.ofString "0") (m.1:Int):=by
  unfold MulOk;decide +kernel
 exact key ⟨n,by omega⟩
theorem nw_:Str.ofString "1"=S [49]:=by decide +kernel
theorem nv_ (n:Nat) (h:n<=12):intText? (Str.ofString "1"++Txt.mul (Str.ofString "0") (n:Int))=some ((10 ^ n:Nat):Int)/\(Str.ofString "1"++Txt.mul (Str.ofString "0") (n:Int)).length<=640/\(Str.ofString "1").length+(Txt.mul (Str.ofString "0") (n:Int)).length<=sizeLine:=by
 rw [ks_,nw_,bX_,aM_,aM_,aM_];have e:=gX_ (l:=[49]++List.replicate n 48) (fun c hc=>by
  rcases List.mem_append.mp hc with q | q
  ·rw [List.mem_singleton.mp q];decide
  rw [(List.mem_replicate.mp q).2];decide) (by simp) (by simp;omega)
 refine ⟨?_,by simp;omega,?_⟩
 ·rw [e]
  congr 2;exact o0_ n
 rw [List.length_replicate];exact Nat.le_trans (show 1+n<=13 by omega) (by decide)
open Vaunid (isSmall isDigit inWord)
theorem mg_ (l:List Nat) (k:Nat):cutS (S l) (some (k:Int)) none=S (l.drop k):=by
 refine cd_ ?_;unfold cutS;rw [n8_,tl_S,HT.sIx_nat,HT.sIx_none,e8_,aM_];by_cases h:k<=l.length
 ·rw [Nat.min_eq_left h]
  exact take_of_length_le (by rw [length_drop];omega)
 rw [Nat.min_eq_right (by omega),drop_eq_nil_of_le (Nat.le_refl _),drop_eq_nil_of_le (by omega)];simp
theorem o2_ (l:List Nat) (k:Nat):cutS (S l) none (some (k:Int))=S (l.take k):=by
 refine cd_ ?_;unfold cutS;rw [n8_,tl_S,HT.sIx_nat,HT.sIx_none,e8_,aM_,drop_zero,sub_zero];rw [Nat.min_def];split
 ·rfl
 rw [take_length,take_of_length_le (by omega)]
theorem di_ (t:List Nat) (i j:Nat) (hi:i<=t.length):cutV (bs t) (some (i:Int)) (some (j:Int))=bs ((t.drop i).take (j - i)):=by
 unfold cutV;rw [HT.sIx_nat,HT.sIx_nat,bW_,Nat.min_eq_left hi,nW_,nV_];by_cases h:j<=t.length
 ·rw [Nat.min_eq_left h]
 rw [Nat.min_eq_right (by omega),take_of_length_le (by rw [length_drop];exact Nat.le_refl _),take_of_length_le (l:=t.drop i) (by rw [length_drop];omega)]
theorem dJ_ (l:List Nat):Txt.startswith (S l) (Str.ofString "-")=decide (l.head? = some 45):=by
 match l with
 | []=>decide +kernel
 | c::r =>
  unfold Txt.startswith
  have e1:(Str.ofString "-").length=1:=by decide +kernel
  rw [aM_,e1,length_cons,decide_eq_true (by omega),Bool.true_and];have e2:Builtin.Str.subAt (S (c::r)) (Str.ofString "-") 0=decide (c=45):=by
   rw [StrLaws.subAt_eq,e1,e8_,show (Str.ofString "-").cps.toList=[45] by decide +kernel];show ([c] == [45])=_;rw [Bool.eq_iff_iff];simp
  rw [e2];simp
theorem k8_ {b:Nat->Bool}{x0 x2:Option V}{H:Hp}{l:List Nat}{R:VK} (hl:l.length<=sizeLine) (k : ∀ (D:Addr) (H':Hp),Same H H'->H' D=some (.lst ((l.map b).map V.bl))->R (.ref D) H') :
  tLc (iStr (tVar 1)) (dz_ 2) tYes (iP_ (spB b) [] E0 (fK_ (tCB (fun xs H Q=>∃ x,xs=[V.str x]/\x.length=1/\Q (V.int ↑(x.cps.getD 0 0)) H) (fK_ (tVar 2) tNil)) tNil)) [2] [x0,some (.str (S l)),x2] H R:=by
 refine gp_ (Its (S l)) (l.map fun d=>V.str ⟨#[d]⟩) (fun v=>match v with | .str x=>V.bl (b (x.cps.getD 0 0)) | _ => .non) (H1:=H) (fun R h=>?_) (by rw [length_map];exact hl) (kO_ (x:=S l)) (fun x H' D acc Nx hx sm hD hacc nx=>?_) fun D H' hD sm e=>?_
 ·exact ⟨_,rfl,h⟩
 ·obtain ⟨d,hd,rfl⟩:=List.mem_map.mp hx
  refine ⟨rfl,?_⟩;unfold tYes;simp only [if_true];exact ⟨_,rfl,rfl,d,rfl,acc,hD,hacc,nx H' (Same.refl _)⟩
 refine k D H' sm ?_;rw [e,map_map,map_map];rfl
theorem nM_:Str.ofString "^"=(⟨#[94]⟩:Str):=by decide +kernel
theorem lL_ {l:List Nat} (h:94∈l):Txt.partition (S l) (Str.ofString "^")=(S (l.takeWhile (· != 94)),Str.ofString "^",S ((l.dropWhile (· != 94)).drop 1)):=by
 have hl:l=l.takeWhile (· != 94)++l.dropWhile (· != 94):=List.takeWhile_append_dropWhile.symm;have hn:94∉l.takeWhile (· != 94):=fun m=>by have:=ek_ _ _ m;simp at this
 cases q:l.dropWhile (· != 94) with
 | nil =>
  rw [q,append_nil] at hl;rw [hl] at h;exact absurd h hn
 | cons e s =>
 have he:e=94:=by have:=eS_ _ q;simpa using this
 subst he;rw [q] at hl;have e:=fW_ (y:=Str.ofString "^") (s:=94) (S:=[]) (by decide +kernel) (a:=S (l.takeWhile (· != 94))) (b:=S s) hn;have e2:S (l.takeWhile (· != 94))++Str.ofString "^"++S s=S l:=by
  rw [show Str.ofString "^"=S [94] by decide +kernel,bX_,bX_,append_assoc];exact congrArg S hl.symm
 rw [e2] at e;rw [e];rfl
end M
namespace L2
open PySem PySem.Spec PyProof.Rows TL
def lj_ (g:TG) (tb:TS) (D:Ends) (σ:St) (J:It) (H1:Hp):Prop:=∃ W:Nat->Nat->St->Hp->Prop,(∃ m,W 0 m σ H1)/\∀ i m σ H,W i m σ H ->
 (J.stop i H/\D.nx σ H)\/(J.go i H/\∃ N:St->Hp->Prop,(∀ σ' H',N σ' H'->∃ m',m'<m/\W (i+1) m' σ' H')/\∀ x H',J.yld i H x H'->g x σ H' fun σ2 H2=>tb { D with nx:=N,ct:=N,bk:=D.nx } σ2 H2)
theorem bo_ {wi:TI}{g:TG}{tb:TS}{D:Ends}{σ:St}{H:Hp} (h:wi σ H (lj_ g tb D σ)):tFor wi g tb D σ H:=h
theorem dA_ {K:PySem.W.Frag}{a:Addr}{g:TG}{tb:TS}{D:Ends}{σ:St}{H1:Hp} (xs:List V) (Pv:Nat->St->Hp->Prop) (h0:Pv 0 σ H1) (hl : ∀ i σ H,i<=xs.length->Pv i σ H->SqL K H a xs)
  (hs : ∀ i x σ H,xs[i]? = some x->Pv i σ H->g x σ H fun σ2 H2=>tb { D with nx:=Pv (i+1),ct:=Pv (i+1),bk:=D.nx } σ2 H2) (hd : ∀ σ H,Pv xs.length σ H->D.nx σ H):lj_ g tb D σ (Itl K a) H1 :=
 l9_ Pv h0 hl hs hd
end L2
namespace M
open PySem PySem.Spec PyProof.Rows L2 TL
open Vaunid (isSmall isDigit inWord inComment)
def sgn (c:Nat):Nat:=if (32<=c/\c<=126)/\c≠37 then c else 63
theorem mB_ (c:Nat):sgn c=c\/(sgn c=63/\¬ ((32<=c/\c<=126)/\c≠37)):=by
 unfold sgn;by_cases h:(32<=c/\c<=126)/\c≠37
 ·rw [if_pos h];exact .inl rfl
 rw [if_neg h];exact .inr ⟨rfl,h⟩
theorem d4_ {q:Nat->Bool} (h63:q 63=false) (hq : ∀ c,q c=true->(32<=c/\c<=126)/\c≠37) (c:Nat):q (sgn c)=q c:=by
 rcases mB_ c with e | ⟨e,h⟩
 ·rw [e]
 rw [e,h63];cases r:q c with
 | false=>rfl
 | true=>exact absurd (hq c r) h
theorem gz_ {c:Nat} (h:isSmall c=true):97<=c/\c<=122:=by unfold isSmall at h;simpa using h
theorem dh_ {c:Nat} (h:isDigit c=true):48<=c/\c<=57:=by unfold isDigit at h;simpa using h
theorem fF_ {c:Nat} (h:inWord c=true):(97<=c/\c<=122)\/(48<=c/\c<=57)\/c=95:=by
 unfold inWord at h;rcases Bool.or_eq_true_iff.mp h with q | q
 ·exact .inl (gz_ q)
 rcases Bool.or_eq_true_iff.mp q with q | q
 ·exact .inr (.inl (dh_ q))
 exact .inr (.inr (eq_of_beq q))
theorem jV_ (c:Nat):isSmall (sgn c)=isSmall c:=d4_ (by decide) (fun c h=>by have:=gz_ h;omega) c
theorem gG_ (c:Nat):isDigit (sgn c)=isDigit c:=d4_ (by decide) (fun c h=>by have:=dh_ h;omega) c
theorem lA_ (c:Nat):inWord (sgn c)=inWord c:=d4_ (by decide) (fun c h=>by have:=fF_ h;omega) c
theorem dq_ (d:Nat) (h:(32<=d/\d<=126)/\d≠37/\d≠63) (c:Nat):(sgn c == d)=(c == d):=d4_ (q:=fun c=>c == d) (by simp;omega) (fun c e=>by have:=eq_of_beq e;omega) c
theorem nf_ (c:Nat):sep (sgn c)=sep c:=by unfold sep;rw [dq_ 46 (by decide),dq_ 47 (by decide)]
theorem jW_ {c:Nat} (h:(32<=c/\c<=126)/\c≠37):sgn c=c:=if_pos h
theorem dv_ {l:List Nat} (h : ∀ c∈l,(32<=c/\c<=126)/\c≠37):l.map sgn=l:=by
 induction l with
 | nil=>rfl
 | cons c r ih=>rw [map_cons,jW_ (h c (mem_cons_self ..)),ih fun x hx=>h x (mem_cons_of_mem _ hx)]
theorem lT_ {l:List Nat} (h : ∀ c∈l,inWord c=true):l.map sgn=l:=dv_ fun c hc=>by have:=fF_ (h c hc);omega
theorem hX_ {q:Nat->Bool} (h : ∀ c,q (sgn c)=q c) (l:List Nat):(l.map sgn).all q=l.all q:=by
 rw [all_map];congr 1
 funext c
 exact h c
theorem mo_ {q:Nat->Bool} (h : ∀ c,q (sgn c)=q c) : ∀ l:List Nat,(l.map sgn).takeWhile q=(l.takeWhile q).map sgn
 | []=>rfl
 | c::r=>by
  rw [map_cons,takeWhile_cons,takeWhile_cons,h c];split
  ·rw [mo_ h r,map_cons]
  rfl
theorem mN_ {q:Nat->Bool} (h : ∀ c,q (sgn c)=q c) : ∀ l:List Nat,(l.map sgn).dropWhile q=(l.dropWhile q).map sgn
 | []=>rfl
 | c::r=>by
  rw [map_cons,dropWhile_cons,dropWhile_cons,h c];split
  ·exact mN_ h r
  rfl
theorem gE_ (l:List Nat):ay_ (l.map sgn)=ay_ l:=by
 unfold ay_;rw [hX_ lA_,length_map];cases l with
 | nil=>rfl
 | cons c r =>
 rw [map_cons,headD_cons,headD_cons,jV_];rfl
theorem j5_ (l:List Nat):be_ (l.map sgn)=be_ l:=by
 unfold be_;have e:((l.map sgn).head? = some 45)=(l.head? = some 45):=by
  cases l with
  | nil=>rfl
  | cons c r =>
  have:=dq_ 45 (by decide) c;rw [map_cons,List.head?_cons,List.head?_cons];rw [Bool.eq_iff_iff] at this;simpa using this
 simp only [e];split
 ·cases l with
  | nil=>rfl
  | cons c r =>
   rw [map_cons,List.tail_cons,List.tail_cons,hX_ gG_,length_map];cases r <;> rfl
 rw [hX_ gG_,length_map];simp
theorem jl_ (l:List Nat):av_ (l.map sgn)=av_ l:=by
 unfold av_;have n94 : ∀ c,(sgn c != 94)=(c != 94):=fun c=>by unfold bne;rw [dq_ 94 (by decide)]
 have e1:(l.map sgn == [49])=(l == [49]):=by
  match l with
  | []=>rfl
  | [c] =>
   have:=dq_ 49 (by decide) c;show ([sgn c] == [49])=([c] == [49]);rw [Bool.eq_iff_iff] at this ⊢;simpa using this
  | c::d::r=>simp
 have e2:(l.map sgn).contains 94=l.contains 94:=by
  rw [List.contains_eq_any_beq,List.contains_eq_any_beq,any_map];congr 1
  funext c
  show (94 == sgn c)=(94 == c);rw [Bool.beq_comm,dq_ 94 (by decide),Bool.beq_comm]
 rw [e1,e2,mo_ n94,mN_ n94,<- List.map_drop,gE_,gE_,j5_]
theorem hO_ : ∀ (l acc:List Nat),cut sep (acc.map sgn) (l.map sgn)=(cut sep acc l).map (List.map sgn)
 | [],acc=>rfl
 | c::r,acc=>by
  show (if sep (sgn c)=true then acc.map sgn::cut sep [] (r.map sgn) else cut sep (acc.map sgn++[sgn c]) (r.map sgn))=(if sep c=true then acc::cut sep [] r else cut sep (acc++[c]) r).map (List.map sgn);rw [nf_];split
  ·rw [map_cons]
   exact congrArg _ (hO_ r [])
  have:=hO_ r (acc++[c]);rw [map_append] at this;exact this
theorem hC_ (l:List Nat):measureText ((l.map sgn).length+1) (l.map sgn)=measureText (l.length+1) l:=by
 rw [bT_ _ _ (by omega),bT_ _ _ (by omega)];have e:=hO_ l [];rw [map_nil] at e;rw [e,all_map];congr 1
 funext f
 exact jl_ f
open Vaunid (isSmall isDigit inWord inComment)
def mch (c:Nat):Bool:=inWord c || (c == 94 || (c == 45 || (c == 46 || c == 47)))
theorem kv_ {c:Nat} (h:mch c=true):(32<=c/\c<=126)/\c≠37:=by
 unfold mch at h;rcases Bool.or_eq_true_iff.mp h with q | q
 ·have:=fF_ q;omega
 simp at q;omega
theorem fA_ {c:Nat} (h:isDigit c=true):inWord c=true:=by unfold inWord;rw [h];simp
theorem fG_ {c:Nat} (h:inWord c=true):mch c=true:=by unfold mch;rw [h];rfl
theorem gF_ {l:List Nat} (h:ay_ l=true) : ∀ c∈l,mch c=true:=fun c hc=>by
 unfold ay_ at h;simp only [and_eq_true] at h;exact fG_ (List.all_eq_true.mp h.2.2.2 c hc)
theorem j6_ {l:List Nat} (h:be_ l=true) : ∀ c∈l,mch c=true:=fun c hc=>by
 unfold be_ at h;by_cases q:l.head? = some 45
 ·simp only [if_pos q,and_eq_true] at h
  cases l with
  | nil=>cases q
  | cons d r =>
  cases q;rcases List.mem_cons.mp hc with e | e
  ·subst e;rfl
  exact fG_ (fA_ (List.all_eq_true.mp h.2.2 c e))
 simp only [if_neg q,and_eq_true] at h;exact fG_ (fA_ (List.all_eq_true.mp h.2.2 c hc))
theorem fv_ {l:List Nat} (h:av_ l=true) : ∀ c∈l,mch c=true:=fun c hc=>by
 unfold av_ at h;rcases Bool.or_eq_true_iff.mp h with q | q
 ·rw [eq_of_beq q] at hc
  rw [List.mem_singleton.mp hc];rfl
 by_cases r:l.contains 94=true
 ·rw [if_pos r,and_eq_true] at q
  have hl:l=l.takeWhile (· != 94)++l.dropWhile (· != 94):=List.takeWhile_append_dropWhile.symm;rw [hl] at hc;rcases List.mem_append.mp hc with e | e
  ·exact gF_ q.1 c e
  cases z:l.dropWhile (· != 94) with
  | nil=>rw [z] at e;simp at e
  | cons d s =>
  have hd:d=94:=by have:=eS_ _ z;simpa using this
  rw [z] at e q;rcases List.mem_cons.mp e with e | e
  ·rw [e,hd];rfl
  exact j6_ q.2 c e
 rw [if_neg r] at q;exact gF_ q c hc
theorem hP_ : ∀ (l acc:List Nat),(cut sep acc l).all av_=true->∀ c∈acc++l,mch c=true
 | [],acc,h,c,hc=>by
  have h':av_ acc=true:=by
   have:=h;simpa [cut] using this
  rw [append_nil] at hc;exact fv_ h' c hc
 | d::r,acc,h,c,hc=>by
  have h':(if sep d=true then acc::cut sep [] r else cut sep (acc++[d]) r).all av_=true:=h;by_cases q:sep d=true
  ·rw [if_pos q,all_cons,and_eq_true] at h'
   rcases List.mem_append.mp hc with e | e
   ·exact fv_ h'.1 c e
   rcases List.mem_cons.mp e with e | e
   ·subst e
    unfold sep at q;unfold mch;rw [q];simp
   exact hP_ r [] h'.2 c (by simpa using e)
  rw [if_neg q] at h';exact hP_ r (acc++[d]) h' c (by simpa using hc)
theorem hD_ {m:List Nat} (h:measureText (m.length+1) m=true):m.map sgn=m:=by
 rw [bT_ _ _ (by omega)] at h;exact dv_ fun c hc=>kv_ (hP_ m [] h c (by simpa using hc))
theorem iZ_ {m:List Nat} (h:measureText (m.length+1) m=true):m≠[]:=by
 intro e;subst e;revert h;decide
theorem fZ_ (s:List Nat):(numberText s).2.2=s.drop (numberText s).1/\(numberText s).1<=s.length:=by
 have hs:(s.takeWhile isDigit).length<=s.length:=dU_ _ _;rw [c8_];unfold numberText;dsimp only;rw [bt_];have hd : ∀ l,s.drop (s.takeWhile isDigit).length=l->s.length=(s.takeWhile isDigit).length+l.length:=fun l e=>by rw [<- e,length_drop];omega
 cases q:s.drop (s.takeWhile isDigit).length with
 | nil=>exact ⟨q.symm,hs⟩
 | cons c l =>
 have:=hd _ q;cases l with
 | nil=>exact ⟨q.symm,hs⟩
 | cons d r =>
 unfold secondRow;dsimp only;rw [length_cons,length_cons] at this;by_cases h:(c=47\/c=46)/\isDigit d=true
 ·simp only [if_pos h]
  have tl2:=dU_ isDigit (d::r);rw [length_cons] at tl2;have key:(s.takeWhile isDigit).length+(1+((d::r).takeWhile isDigit).length)<=s.length:=by omega
  refine ⟨?_,key⟩;rw [bt_,<- add_assoc,<- drop_drop,<- drop_drop,q];rfl
 simp only [if_neg h];exact ⟨q.symm,hs⟩
theorem kq_ {s:List Nat}{c:Nat}{r:List Nat} (e:s=c::r) (h:isDigit c=true):1<=(numberText s).1:=by
 rw [c8_];have:1<=(s.takeWhile isDigit).length:=by
  rw [e,takeWhile_cons,h];simp
 split
 ·split
  ·exact Nat.le_trans this (Nat.le_add_right _ _)
  exact this
 exact this
theorem ej_ (p:Nat->Bool) : ∀ s:List Nat,s.take (s.takeWhile p).length=s.takeWhile p
 | []=>rfl
 | c::r=>by
  rw [takeWhile_cons];split
  ·rw [length_cons,take_succ_cons,ej_ p r]
  rfl
theorem jC_ (s:List Nat) (n k:Nat):s.take (n+k)=s.take n++(s.drop n).take k:=List.take_add
theorem ko_ (s:List Nat) : ∃ (b:List Nat) (c:Nat),s.take (numberText s).1=s.takeWhile isDigit++(if c=0 then [] else c::b) /\
  ((c=0/\b=[])\/((c=46\/c=47)/\b≠[]/\∀ x∈b,isDigit x=true))/\(numberText s).2.1=frac (s.takeWhile isDigit) c b/\(s.takeWhile isDigit).length+b.length<=s.length:=by
 have hs:(s.takeWhile isDigit).length<=s.length:=dU_ _ _;have ht:=ej_ isDigit s;have hd : ∀ l,s.drop (s.takeWhile isDigit).length=l->s.length=(s.takeWhile isDigit).length+l.length:=fun l e=>by rw [<- e,length_drop];omega
 rw [c8_];have plain:secondRow (s.dropWhile isDigit)=(0,[],s.dropWhile isDigit)->s.take (s.takeWhile isDigit).length=s.takeWhile isDigit++(if 0=0 then [] else 0::[])/\(numberText s).2.1=frac (s.takeWhile isDigit) 0 []:=fun e=>by
  refine ⟨by rw [ht];simp,?_⟩;unfold numberText;dsimp only;rw [e];rfl
 cases q:s.drop (s.takeWhile isDigit).length with
 | nil =>
  obtain ⟨p1,p2⟩:=plain (by rw [bt_,q];rfl);exact ⟨[],0,p1,.inl ⟨rfl,rfl⟩,p2,hs⟩
 | cons c l =>
 have:=hd _ q;cases l with
 | nil =>
  obtain ⟨p1,p2⟩:=plain (by rw [bt_,q];rfl);exact ⟨[],0,p1,.inl ⟨rfl,rfl⟩,p2,hs⟩
 | cons d r =>
 dsimp only;rw [length_cons,length_cons] at this;by_cases h:(c=47\/c=46)/\isDigit d=true
 ·rw [if_pos h]
  have tl2:=dU_ isDigit (d::r);rw [length_cons] at tl2;have hc0:c≠0:=by omega
  refine ⟨(d::r).takeWhile isDigit,c,?_,.inr ⟨by omega,?_,fun x hx=>ek_ _ x hx⟩,?_,by omega⟩
  ·rw [jC_,ht,q,if_neg hc0,add_comm 1,take_succ_cons,ej_]
  ·rw [takeWhile_cons,h.2]
   simp
  have e:secondRow (s.dropWhile isDigit)=(c,(d::r).takeWhile isDigit,(d::r).dropWhile isDigit):=by
   rw [bt_,q];unfold secondRow;dsimp only;rw [if_pos h]
  unfold numberText;dsimp only;rw [e];rfl
 rw [if_neg h];obtain ⟨p1,p2⟩:=plain (by
  rw [bt_,q];unfold secondRow;dsimp only;rw [if_neg h])
 exact ⟨[],0,p1,.inl ⟨rfl,rfl⟩,p2,hs⟩
structure TokFact (p:Nat) (s:List Nat) (k:Vaunid.Token) (r:List Nat):Prop where
 start:k.start=p
 lt:p<k.halt_
 le:k.halt_<=p+s.length
 rest:r=s.drop (k.halt_ - p)
theorem jt_ {p:Nat}{s r:List Nat}{k:Vaunid.Token}{c:Nat}{s':List Nat} (e:s=c::s') (hc:isSmall c=true) (h:wordToken p s = .ok (k,r)):TokFact p s k r:=by
 unfold wordToken at h;dsimp only at h;split at h
 ·cases h
 cases h;have h1:1<=(s.takeWhile inWord).length:=by
  rw [e,takeWhile_cons,dp_ hc];simp
 exact ⟨rfl,Nat.lt_add_of_pos_right h1,Nat.add_le_add_left (dU_ _ _) _,by rw [add_sub_cancel_left,bt_]⟩
theorem ir_ {p:Nat}{s r:List Nat}{k:Vaunid.Token}{neg:Bool}{c:Nat}{s':List Nat} (e:(if neg=true then s.drop 1 else s)=c::s') (hc:isDigit c=true) (h:numberToken neg p s = .ok (k,r)):TokFact p s k r:=by
 unfold numberToken at h;dsimp only at h;have hpos:=kq_ e hc;obtain ⟨hrest,hle⟩:=fZ_ (if neg=true then s.drop 1 else s);generalize hx:numberText (if neg=true then s.drop 1 else s)=x at h hpos hrest hle;obtain ⟨n,o,rest⟩:=x;dsimp only at h hpos hrest hle;have hn:n+(if neg=true then 1 else 0)<=s.length:=by
  cases neg with
  | false=>simpa using hle
  | true =>
  simp only [if_true] at e hle ⊢;rw [length_drop] at hle;have:s≠[]:=by intro z;subst z;simp at e
  have:1<=s.length:=List.length_pos_iff.mpr this;omega
 have hr:rest=s.drop (n+(if neg=true then 1 else 0)):=by
  rw [hrest];cases neg with
  | false=>rfl
  | true =>
  simp only [if_true];rw [drop_drop,add_comm]
 generalize hm:n+(if neg=true then 1 else 0)=sz at h hn hr;have hsz:1<=sz:=by omega
 cases o with
 | none=>cases h
 | some tl =>
 obtain ⟨top,low⟩:=tl;dsimp only at h;split at h
 ·rename_i r2
  split at h
  ·cases h
  rename_i hne;cases h;have hl:s.length=sz+(r2.length+1):=by
   have:=congrArg List.length hr;rw [length_cons,length_drop] at this;omega
  have hm2:(r2.takeWhile fun c=>c != 93).length<r2.length:=by
   have h1:=dU_ (fun c=>c != 93) r2;have h2:(r2.takeWhile fun c=>c != 93).length≠r2.length:=fun z=>hne (.inl z);omega
  refine ⟨rfl,?_,?_,?_⟩
  ·show p<p+sz+_+2
   omega
  ·show p+sz+_+2<=_
   omega
  show r2.drop _=s.drop (p+sz+_+2 - p);have e1:p+sz+(r2.takeWhile fun c=>c != 93).length+2 - p=sz+(1+((r2.takeWhile fun c=>c != 93).length+1)):=by omega
  have e2:s.drop (sz+(1+((r2.takeWhile fun c=>c != 93).length+1)))=((s.drop sz).drop 1).drop ((r2.takeWhile fun c=>c != 93).length+1):=by
   rw [drop_drop,drop_drop,<- add_assoc]
  rw [e1,e2,<- hr];rfl
 cases h;exact ⟨rfl,Nat.lt_add_of_pos_right hsz,Nat.add_le_add_left hn _,by rw [add_sub_cancel_left];exact hr⟩
theorem jS_ {p:Nat}{s r:List Nat}{k:Vaunid.Token}{L:List (List Nat)} (hL : ∀ x∈L,x≠[]) (h:signToken L p s = .ok (k,r)):TokFact p s k r:=by
 unfold signToken at h;split at h
 ·rename_i x hx
  cases h;have hm:=List.mem_of_find?_eq_some hx;have hp:=List.find?_some hx;have hpos:1<=x.length:=List.length_pos_iff.mpr (hL x hm);have hpre:x <+: s:=List.isPrefixOf_iff_prefix.mp hp;exact ⟨rfl,Nat.lt_add_of_pos_right hpos,Nat.add_le_add_left hpre.length_le _,by rw [add_sub_cancel_left]⟩
 cases h
theorem bO_ {core:Bool}{p:Nat}{s r:List Nat}{k:Vaunid.Token} (h:token core p s = .ok (k,r)):TokFact p s k r:=by
 unfold token at h;cases s with
 | nil=>cases h
 | cons c s' =>
 dsimp only at h;split at h
 ·exact jt_ rfl (by assumption) h
 split at h
 ·exact ir_ (neg:=false) rfl (by assumption) h
 split at h
 ·rename_i hc
  obtain ⟨_,hm⟩:=hc;unfold minusDigit at hm;split at hm
  ·rename_i z
   cases z;exact ir_ (neg:=true) rfl hm h
  cases hm
 refine jS_ (fun x hx=>?_) h;cases core with
 | true =>
  intro e;subst e;revert hx;decide +kernel
 | false =>
 intro e;subst e;revert hx;decide +kernel
noncomputable def gap (core:Bool):Nat->Nat->List Nat->Res (Nat×List Nat)
 | _,p,[] => .ok (p,[])
 | 0,p,s => .ok (p,s)
 | n+1,p,c::r =>
  if c=32\/(core=false/\c=10) then gap core n (p+1) r
  else if core=false/\c=123 then
   (match r.dropWhile inComment with
   | []=>fault 2 p
   | 125::s=>gap core n (p+(r.takeWhile inComment).length+2) s
   | _=>fault 1 (p+1+(r.takeWhile inComment).length))
  else .ok (p,c::r)
theorem kV_ (q:Nat->Bool) (l:List Nat):(l.dropWhile q).length<=l.length:=by rw [bt_,length_drop];omega
theorem iB_ (core:Bool) : ∀ (n m p:Nat) (s:List Nat),s.length<n->s.length<m->gap core n p s=gap core m p s
 | n,m,p,[],_,_=>by cases n <;> cases m <;> rfl
 | 0,_,_,_::_,h,_=>by simp at h
 | _,0,_,_::_,_,h=>by simp at h
 | n+1,m+1,p,c::r,h1,h2=>by
  rw [length_cons] at h1 h2;unfold gap;split
  ·exact iB_ core n m _ r (by omega) (by omega)
  split
  ·have hl:=kV_ inComment r
   cases q:r.dropWhile inComment with
   | nil=>rfl
   | cons d s =>
   rw [q,length_cons] at hl;by_cases hd:d=125
   ·subst hd
    exact iB_ core n m _ s (by omega) (by omega)
   split
   ·rename_i z;cases z
   ·rename_i z;cases z;exact absurd rfl hd
   rfl
  rfl
noncomputable def gapT (core:Bool) (p:Nat) (s:List Nat):Res (Nat×List Nat):=gap core (s.length+1) p s
theorem fr_ {core:Bool}{p c:Nat}{r:List Nat} (h:c=32\/(core=false/\c=10)):gapT core p (c::r)=gapT core (p+1) r:=by
 unfold gapT;rw [length_cons]
 conv=>lhs;unfold gap
 rw [if_pos h]
theorem jd_ {core:Bool}{p c:Nat}{r:List Nat} (h : ¬ (c=32\/(core=false/\c=10))) (h2 : ¬ (core=false/\c=123)):gapT core p (c::r) = .ok (p,c::r):=by
 unfold gapT;rw [length_cons];unfold gap;rw [if_neg h,if_neg h2]
theorem by_ (core:Bool) : ∀ (n m p:Nat) (s:List Nat),s.length<n->s.length<m->tokens core n p s=tokens core m p s
 | n,m,p,[],_,_=>by cases n <;> cases m <;> rfl
 | 0,_,_,_::_,h,_=>by simp at h
 | _,0,_,_::_,_,h=>by simp at h
 | n+1,m+1,p,c::r,h1,h2=>by
  rw [length_cons] at h1 h2;unfold tokens;split
  ·exact by_ core n m _ r (by omega) (by omega)
  split
  ·have hl:=kV_ inComment r
   cases q:r.dropWhile inComment with
   | nil=>rfl
   | cons d s =>
   rw [q,length_cons] at hl;by_cases hd:d=125
   ·subst hd
    exact by_ core n m _ s (by omega) (by omega)
   split
   ·rename_i z;cases z
   ·rename_i z;cases z;exact absurd rfl hd
   rfl
  cases q:token core p (c::r) with
  | error e=>rfl
  | ok x =>
  obtain ⟨k,s⟩:=x;have hf:=bO_ q;have hs:s.length<=r.length:=by
   have h3:=hf.lt;rw [hf.rest,length_drop,length_cons];omega
  dsimp only;rw [by_ core n m k.halt_ s (by omega) (by omega)]
def dV_ (core:Bool) (p:Nat) (s:List Nat):Res (List Vaunid.Token):=tokens core (s.length+1) p s
noncomputable def aN_ (core:Bool) (x:Nat×List Nat):Res (List Vaunid.Token):=match x.2 with
 | [] => .ok []
 | c::r=>match token core x.1 (c::r) with
  | .error e => .error e
  | .ok (k,s)=>match dV_ core k.halt_ s with
   | .error e => .error e
   | .ok l => .ok (k::l)
theorem el_ (core:Bool) : ∀ (n p:Nat) (s:List Nat),s.length<n->dV_ core p s=(match gap core n p s with | .error e => .error e | .ok x=>aN_ core x)
 | n,p,[],_=>by cases n <;> rfl
 | 0,p,_::_,h=>by simp at h
 | n+1,p,c::r,h=>by
  rw [length_cons] at h;unfold dV_ gap;rw [length_cons]
  conv=>lhs;unfold tokens
  split
  ·exact el_ core n (p+1) r (by omega)
  split
  ·have hl:=kV_ inComment r
   cases q:r.dropWhile inComment with
   | nil=>rfl
   | cons d s =>
   rw [q,length_cons] at hl;by_cases hd:d=125
   ·subst hd
    show tokens core (r.length+1) _ s=_;rw [by_ core (r.length+1) (s.length+1) _ s (by omega) (by omega)];exact el_ core n _ s (by omega)
   have e2:(match d::s with
     | []=>(fault 2 p:Res (Nat×List Nat))
     | 125::s=>gap core n (p+(List.takeWhile inComment r).length+2) s
     | x=>fault 1 (p+1+(List.takeWhile inComment r).length))=fault 1 (p+1+(List.takeWhile inComment r).length):=by
    split
    ·rename_i z;cases z
    ·rename_i z;cases z;exact absurd rfl hd
    rfl
   refine Eq.trans ?_ (congrArg (fun (o:Res (Nat×List Nat))=>(match o with | .error e => .error e | .ok x=>aN_ core x:Res (List Vaunid.Token))) e2).symm
   split
   ·rename_i z;cases z
   ·rename_i z;cases z;exact absurd rfl hd
   rfl
  show _=aN_ core (p,c::r);unfold aN_;dsimp only;cases q:token core p (c::r) with
  | error e=>rfl
  | ok x =>
  obtain ⟨k,s⟩:=x;have hf:=bO_ q;have hs:s.length<=r.length:=by
   have h3:=hf.lt;rw [hf.rest,length_drop,length_cons];omega
  dsimp only;unfold dV_;rw [by_ core (r.length+1) (s.length+1) _ s (by omega) (by omega)];rfl
theorem do_ (core:Bool) (p:Nat) (s:List Nat):dV_ core p s=(match gapT core p s with | .error e => .error e | .ok x=>aN_ core x):=el_ core _ p s (lt_succ_self _)
theorem d8_ (core:Bool) : ∀ (n p:Nat) (s:List Nat) (x:Nat×List Nat),gap core n p s = .ok x->p<=x.1/\x.1<=p+s.length/\x.2=s.drop (x.1 - p)
 | n,p,[],x,h=>by
  have:x=(p,[]):=by
   cases n <;> (cases h;rfl)
  subst this;simp
 | 0,p,c::r,x,h=>by
  cases h;simp
 | n+1,p,c::r,x,h=>by
  unfold gap at h;split at h
  ·obtain ⟨h1,h2,h3⟩:=d8_ core n (p+1) r x h
   rw [length_cons];refine ⟨by omega,by omega,?_⟩;rw [h3,show x.1 - p=(x.1 - (p+1))+1 by omega,drop_succ_cons]
  split at h
  ·have hl:=bt_ inComment r
   have hl2:=dU_ inComment r;cases q:r.dropWhile inComment with
   | nil=>rw [q] at h;cases h
   | cons d s =>
   rw [q] at h hl;by_cases hd:d=125
   ·subst hd
    obtain ⟨h1,h2,h3⟩:=d8_ core n _ s x h;have hs:r.length=(r.takeWhile inComment).length+(s.length+1):=by
     have:=congrArg List.length hl;rw [length_cons,length_drop] at this;omega
    rw [length_cons];refine ⟨by omega,by omega,?_⟩;have e:x.1 - p=(x.1 - (p+(r.takeWhile inComment).length+2))+1+(r.takeWhile inComment).length+1:=by omega
    have e2:r.drop (x.1 - (p+(r.takeWhile inComment).length+2)+1+(r.takeWhile inComment).length)=(r.drop (r.takeWhile inComment).length).drop (x.1 - (p+(r.takeWhile inComment).length+2)+1):=by rw [drop_drop,add_comm]
    rw [h3,e,drop_succ_cons,e2,<- hl,drop_succ_cons]
   split at h
   ·rename_i z;cases z
   ·rename_i z;cases z;exact absurd rfl hd
   cases h
  cases h;simp
open Vaunid (isSmall isDigit inWord inComment)
theorem jc_ : ∀ (s:List Nat) (p:Nat),gapT false p s=gapT false (p+(s.takeWhile fun c=>c == 32 || c == 10).length) (s.drop (s.takeWhile fun c=>c == 32 || c == 10).length)
 | [],p=>rfl
 | c::r,p=>by
  rw [takeWhile_cons];cases h:(c == 32 || c == 10) with
  | false=>rfl
  | true =>
  simp only [if_true];rw [length_cons,drop_succ_cons,fr_ (by simpa using h),jc_ r (p+1)];congr 1;omega
theorem fq_ : ∀ (s:List Nat) (p:Nat),gapT true p s = .ok (p+(s.takeWhile fun c=>c == 32).length,s.drop (s.takeWhile fun c=>c == 32).length)
 | [],p=>rfl
 | c::r,p=>by
  rw [takeWhile_cons];cases h:(c == 32) with
  | false=>exact jd_ (by simpa using h) (by simp)
  | true =>
  simp only [if_true];rw [length_cons,drop_succ_cons,fr_ (by simpa using h),fq_ r (p+1)];congr 2;omega
theorem kY_ {t:List Nat}{p:Nat}{s:List Nat} (h:t.drop p=s) (k:Nat):t.drop (p+k)=s.drop k:=by rw [<- h,drop_drop]
theorem iF_ {t:List Nat}{p:Nat}{s:List Nat} (h:t.drop p=s) (hp:p<=t.length):t.length=p+s.length:=by rw [<- h,length_drop];omega
theorem cx_ {t:List Nat}{p c:Nat}{r:List Nat} (h:t.drop p=c::r):p<t.length:=by
 have:=congrArg List.length h;rw [length_drop,length_cons] at this;omega
open Vaunid (isSmall isDigit inWord inComment)
theorem f6_ {n:Nat} (t:List Nat) : ∀ (L:List (List Nat)),(∀ x∈L,x.length=n)->L.find? (fun s=>s.isPrefixOf t)=if t.take n∈L then some (t.take n) else none
 | [],_=>by simp
 | x::r,h=>by
  have hx:=h x (mem_cons_self ..);have ih:=f6_ t r fun y hy=>h y (mem_cons_of_mem _ hy);rw [find?_cons];by_cases hp:x.isPrefixOf t=true
  ·rw [hp]
   have e:x=t.take n:=by rw [<- hx];exact (List.prefix_iff_eq_take.mp (List.isPrefixOf_iff_prefix.mp hp))
   dsimp only;rw [<- e,if_pos (mem_cons_self ..)]
  have hp':x.isPrefixOf t=false:=Bool.eq_false_iff.mpr hp;rw [hp'];dsimp only;rw [ih];have ne:t.take n≠x:=fun e=>hp (List.isPrefixOf_iff_prefix.mpr (e ▸ List.take_prefix n t));by_cases hm:t.take n∈r
  ·rw [if_pos hm,if_pos (mem_cons_of_mem _ hm)]
  rw [if_neg hm,if_neg];intro z;rcases List.mem_cons.mp z with q | q
  ·exact ne q
  exact hm q
structure GoodSigns (L:List (List Nat)):Prop where
 parts : ∃ L2 L1,L=L2++L1/\(∀ x∈L2,x.length=2)/\∀ x∈L1,x.length=1
 plain : ∀ x∈L,∀ c∈x,((32<=c/\c<=126)/\c≠37)/\c≠63
theorem kN_:GoodSigns coreSigns:=⟨⟨[],coreSigns,rfl,by decide,by decide +kernel⟩,by decide +kernel⟩
theorem nE_ {L:List (List Nat)} (g:GoodSigns L) (l:List Nat):l.map sgn∈L↔l∈L:=by
 constructor
 ·intro h
  have e:l.map sgn=l:=dv_ fun c hc=>by
   have:=g.plain _ h (sgn c) (List.mem_map.mpr ⟨c,hc,rfl⟩);rcases mB_ c with q | ⟨q,_⟩
   ·rw [q] at this;exact this.1
   rw [q] at this;exact absurd rfl this.2
  rwa [e] at h
 intro h;rw [dv_ fun c hc=>(g.plain _ h c hc).1];exact h
noncomputable def jT_ (L:List (List Nat)) (t:List Nat):Option (List Nat):=if t.take 2∈L then some (t.take 2) else if t.take 1∈L then some (t.take 1) else none
theorem jk_ {L:List (List Nat)} (g:GoodSigns L) (t:List Nat):L.find? (fun s=>s.isPrefixOf t)=jT_ L t:=by
 obtain ⟨L2,L1,rfl,h2,h1⟩:=g.parts;rw [List.find?_append,f6_ t L2 h2,f6_ t L1 h1];unfold jT_;by_cases m2:t.take 2∈L2
 ·rw [if_pos m2,if_pos (mem_append_left _ m2)]
  rfl
 rw [if_neg m2];by_cases m1:t.take 1∈L1
 ·rw [if_pos m1]
  by_cases m:t.take 2∈L2++L1
  ·have m':t.take 2∈L1:=(List.mem_append.mp m).resolve_left m2
   have e:=h1 _ m';have e3:t.take 1=t.take 2:=by
    rw [length_take] at e;have:t.length<=1:=by omega
    rw [take_of_length_le this,take_of_length_le (by omega)]
   rw [if_pos m,e3];rfl
  rw [if_neg m,if_pos (mem_append_right _ m1)];rfl
 rw [if_neg m1];have n1 : ¬ t.take 1∈L2++L1:=fun z=>by
  rcases List.mem_append.mp z with q | q
  ·have:=h2 _ q
   rw [length_take] at this;omega
  exact m1 q
 by_cases m:t.take 2∈L2++L1
 ·have m':t.take 2∈L1:=(List.mem_append.mp m).resolve_left m2
  have e:=h1 _ m';have e3:t.take 1=t.take 2:=by
   rw [length_take] at e;have:t.length<=1:=by omega
   rw [take_of_length_le this,take_of_length_le (by omega)]
  rw [<- e3] at m';exact absurd m' m1
 rw [if_neg m,if_neg n1];rfl
noncomputable def kT_ (k p:Int):List (Str×V):=[("kind",.int k),("place",.int p)]
def ExF (C:Addr) (E:XK) (H:Hp) (k p:Int):Prop:=∀ (dx:Addr) (H':Hp),Same H H'->H' dx=some (XDic dx (kT_ k p))->E (.ref C) (some dx) H'
theorem ExF.mono {C:Addr}{E:XK}{H H1:Hp}{k p:Int} (h:ExF C E H k p) (s:Same H H1):ExF C E H1 k p:=fun dx H' s' e=>h dx H' (s.trans s') e
def RES {A:Type} (C:Addr) (H:Hp) (Q:VK) (E:XK) (r:Res A) (post:A->V->Hp->Prop):Prop:=match r with
 | .ok a=>∀ (v:V) (H':Hp),Same H H'->post a v H'->Q v H'
 | .error e=>ExF C E H (e.kind:Int) (e.place:Int)
def ev_ (C:Addr):Sp:=fun vs H Q _=>∃ (p:Addr) (k q:V),vs=[.ref p,k,q]/\H p=some (XNew C p none)/\∀ dx,H dx=none->dx≠p->Q .non (upd (upd H dx (XDic dx [("kind",k),("place",q)])) p (XNew C p (some dx)))
theorem bp_ {C:Addr}{E:XK}{H:Hp}{k p:Int}{E':XK} (h:ExF C E H k p) : ∀ a,H a=none->ev_ C [.ref a,.int k,.int p] (upd H a (XNew C a none))
  (fun v H2=>v = .non/\∃ dx,H2 a=some (XNew C a (some dx))/\∃ fs,H2 dx=some (XDic dx fs)/\E (.ref C) (some dx) (del H2 a)) E':=fun a ha=>by
 refine ⟨a,_,_,rfl,ab_,fun dx hdx hne=>⟨rfl,dx,ab_,_,by rw [al_ hne];exact ab_,?_⟩⟩;have hdx':H dx=none:=by rw [al_ hne] at hdx;exact hdx
 refine h dx _ (fun b o e=>?_) ?_
 ·have nb:b≠a:=ag_ e ha
  rw [cp_ nb,al_ nb,al_ (ag_ e hdx'),al_ nb];exact e
 rw [cp_ hne,al_ hne];exact ab_
noncomputable def dW_ (g:Int) (k:Str) (b e:Int) (c:V):List (Str×V):=[("group",.int g),("kind",.str k),("begin",.int b),("end",.int e),("content",c)]
noncomputable def kindOf:Vaunid.Tok->List Nat
 | .word w=>if isTaken w=true then w else Vaunid.txt "name"
 | .num _ d=>if d.isSome=true then Vaunid.txt "digit" else Vaunid.txt "number"
 | .sign s=>s
def he_ (Ca:Addr) (H:Hp) (c:V):Vaunid.Tok->Prop
 | .word w=>c = .str (S w)
 | .num v _=>∃ a,c = .ref a/\aW_ Ca H a v.top (v.low:Int) (v.measure.getD [])
 | .sign s=>c = .str (S s)
def cD_ (Ca Ct:Addr) (H:Hp) (a:Addr) (k:Vaunid.Token):Prop:=∃ dx c,H a=some (.ins Ct dx (dW_ (Vaunid.sortOf k.tok) (S (kindOf k.tok)) (k.start:Int) (k.halt_:Int) c))/\he_ Ca H c k.tok
theorem he_.same {Ca:Addr}{H H':Hp}{c:V}{k:Vaunid.Tok} (h:he_ Ca H c k) (s:Same H H'):he_ Ca H' c k:=by
 cases k with
 | word w=>exact h
 | num v d=>obtain ⟨a,e,q⟩:=h;exact ⟨a,e,q.same s⟩
 | sign x=>exact h
theorem cD_.same {Ca Ct:Addr}{H H':Hp}{a:Addr}{k:Vaunid.Token} (h:cD_ Ca Ct H a k) (s:Same H H'):cD_ Ca Ct H' a k:=by
 obtain ⟨dx,c,e,q⟩:=h;exact ⟨dx,c,s _ _ e,q.same s⟩
theorem iO_:[V.str "fn",V.str "let",V.str "rec",V.str "if",V.str "cons",V.str "case",V.str "pair",V.str "fst",V.str "snd",V.str "fold",V.str "root",V.str "floor",V.str "rest",V.str "true",V.str "false",V.str "nil",V.str "truth",V.str "num",V.str "list",V.str "base",V.str "unit",V.str "def",V.str "fun",V.str "in",V.str "then",V.str "else",V.str "match",V.str "with",V.str "and",V.str "or",V.str "not"]=(Vaunid.taken.map S).map V.str:=by decide +kernel
theorem k3_:[V.str "(",V.str ")",V.str "+",V.str "-",V.str "*",V.str "/",V.str "^",V.str "<",V.str "="]=(Vaunid.coreSigns.map S).map V.str:=by decide +kernel
theorem in_S (l:List Nat) (L:List (List Nat)):inV (.str (S l)) ((L.map S).map V.str)=decide (l∈L):=by
 rw [nJ_,any_map,Bool.eq_iff_iff];simp only [List.any_eq_true,decide_eq_true_eq,Function.comp_def,beq_iff_eq,bH_]
 constructor
 ·rintro ⟨x,hx,rfl⟩;exact hx
 intro h;exact ⟨l,h,rfl⟩
theorem jB_ (w:List Nat):isTaken w=decide (w∈Vaunid.taken):=by
 unfold isTaken;rw [Bool.eq_iff_iff];simp only [List.any_eq_true,decide_eq_true_eq,beq_iff_eq]
 constructor
 ·rintro ⟨x,hx,rfl⟩;exact hx
 intro h;exact ⟨w,h,rfl⟩
end M
namespace L2
theorem ni_ {a b:Int}:scal (.int a) (.int b)=true:=rfl
theorem nh_ {a b:PySem.Str}:scal (.str a) (.str b)=true:=rfl
theorem nj_ {a b:Bool}:scal (.bl a) (.bl b)=true:=rfl
end L2
namespace L2
theorem dr_ {t u:TS}{D:Ends}{σ:St}{H:Hp} (R:St->Hp->Prop) (ht : ∀ X:St->Hp->Prop,(∀ σ' H',R σ' H'->X σ' H')->t { D with nx:=X } σ H) (hc : ∀ σ' H',R σ' H'->u D σ' H'):tSeq t u D σ H:=ht _ hc
end L2
namespace M
open PySem PySem.Spec PyProof.Rows L2 TL
def dY_ (H H':Hp):Prop:=∀ a C dx fs,H a=some (.ins C dx fs)->H' a=some (.ins C dx fs)
theorem Same.insts {H H':Hp} (s:Same H H'):dY_ H H':=fun a C dx fs e=>s _ _ e
theorem dY_.trans {H H1 H2:Hp} (s:dY_ H H1) (r:dY_ H1 H2):dY_ H H2:=fun a C dx fs e=>r _ _ _ _ (s _ _ _ _ e)
theorem dY_.lst {H:Hp}{b:Addr}{xs:List V}{o:HO} (h:H b=some (.lst xs)):dY_ H (upd H b o):=fun a C dx fs e=>by rw [al_ (bG_ e h (by intro z;cases z))];exact e
theorem aW_.sameI {C:Addr}{H H':Hp}{a:Addr}{o u:Int}{m:List Nat} (h:aW_ C H a o u m) (s:dY_ H H'):aW_ C H' a o u m:=let ⟨dx,e⟩:=h;⟨dx,s _ _ _ _ e⟩
theorem cD_.sameI {Ca Ct:Addr}{H H':Hp}{a:Addr}{k:Vaunid.Token} (h:cD_ Ca Ct H a k) (s:dY_ H H'):cD_ Ca Ct H' a k:=by
 obtain ⟨dx,c,e,q⟩:=h;refine ⟨dx,c,s _ _ _ _ e,?_⟩;cases hk:k.tok with
 | word w=>rw [hk] at q;exact q
 | num v d=>rw [hk] at q;obtain ⟨a,e,q⟩:=q;exact ⟨a,e,q.sameI s⟩
 | sign x=>rw [hk] at q;exact q
abbrev ce_ (Ca Ct:Addr) (H:Hp) (as:List Addr) (l:List Vaunid.Token):Prop:=Paired (fun a k=>cD_ Ca Ct H a k) as l
theorem ce_.sameI {Ca Ct:Addr}{H H':Hp}{as:List Addr}{l:List Vaunid.Token} (h:ce_ Ca Ct H as l) (s:dY_ H H'):ce_ Ca Ct H' as l:=Paired.mapP h fun a k z=>z.sameI s
theorem ce_.snoc {Ca Ct:Addr}{H:Hp} : ∀ {as:List Addr}{l:List Vaunid.Token}{a:Addr}{k:Vaunid.Token},ce_ Ca Ct H as l->cD_ Ca Ct H a k->ce_ Ca Ct H (as++[a]) (l++[k])
 | _,_,_,_,.nil,q => .cons q .nil
 | _,_,_,_,.cons r t,q => .cons r (ce_.snoc t q)
noncomputable def preR {A:Type} (l:List A) (r:Res (List A)):Res (List A):=match r with
 | .error e => .error e
 | .ok m => .ok (l++m)
end M
namespace L2
open PySem PySem.Spec PyProof.Rows TL
section
variable {X:Cx}{CX:CXT}{k:Nat}{E:XK}{x:Str}{p pos:Pos}{e:Expr}{es:List Expr}{t:TA}{P:Program}{w:World}{K:PySem.W.Frag}{mg:Str->Option Value}{base:Heap}
def mr_ (P:Program) (w:World) (K:PySem.W.Frag) (mg:Str->Option Value) (base:Heap) (CX:CXT) (k i:Nat) (E:XK) (t:TA):TE:=fun σ H Q=>∃ f fd ps sp,σ[i]? = some (some (.ref f))/\FnOk P w K mg base CX k f fd ps sp/\a9_ K fd ps []/\keepIn K (.ref f)=true /\
 t σ H fun vs H1=>sp vs H1 Q E
theorem lK_ (i:Nat) (hr:Room k X.A) (hx:bK_ CX X E) (ha:PA X (e::es) t) (hN:X.N[i]? = some x:=by rfl) (e1:X.prog=P:=by rfl) (e2:X.w=w:=by rfl) (e3:X.K=K:=by rfl) (e4:X.mg=mg:=by rfl) (e5:X.base=base:=by rfl)
  (hv:Vis X.env.scope x:=by first | exact Or.inl rfl | exact Or.inr (Or.inl rfl) | exact Or.inr (Or.inr rfl)) (hd:(x == ("__debug__":Str))=false:=by decide) (hcd:(x == ("__classdict__":Str))=false:=by decide)
  (he:starEach (e::es) X.env=(false,eval e X.env)::starEach es X.env:=by rfl) (hpl:(backTo pos (starEach es X.env)).any (·.1)=false:=by rfl) :
  PE X (.Call (.Name x p) (e::es) [] pos) (mr_ P w K mg base CX k i E t):=by
 subst e1 e2 e3 e4 e5;exact bI_ i hr hx ha hN hv hd hcd he hpl
end
end L2
namespace M
open PySem PySem.Spec PyProof.Rows L2 TL
abbrev Toks:=List Vaunid.Token
def bu_ (hl:Nat) (d:Nat) (ts:Toks):Res Core:=coreTerm hl (2 * ts.length+1) d ts
theorem ll_ {hl:Nat}{w:Vaunid.Tok}{ts r:Toks} (h:want hl w ts = .ok r):r.length+1=ts.length:=by
 unfold want at h;split at h
 ·split at h
  ·cases h;rfl
  cases h
 cases h
theorem dH_ {hl:Nat}{ts r:Toks}{x:List Nat} (h:wantName hl ts = .ok (x,r)):r.length+1=ts.length:=by
 unfold wantName at h;split at h
 ·split at h
  ·cases h;rfl
  cases h
 ·cases h
 cases h
theorem cY_ {hl:Nat}{ts r:Toks}{x:Int} (h:wantDigit hl ts = .ok (x,r)):r.length+1=ts.length:=by
 unfold wantDigit at h;split at h
 ·cases h;rfl
 ·cases h
 cases h
inductive Kind where
 | name | part | power
 deriving DecidableEq
inductive Fm where
 | fn | rec_ | let_ | if_ | app | pair | fst | snd | cons | case | fold | plus | minus | times | over | less | equal | floor | rest | root | pow
 deriving DecidableEq
noncomputable def Fm.word:Fm->String
 | .fn=>"fn" | .rec_=>"rec" | .let_=>"let" | .if_=>"if" | .app=>"apply" | .pair=>"pair" | .fst=>"fst" | .snd=>"snd" | .cons=>"cons" | .case=>"case" | .fold=>"fold"
 | .plus=>"+" | .minus=>"-" | .times=>"*" | .over=>"/" | .less=>"<" | .equal=>"=" | .floor=>"floor" | .rest=>"rest" | .root=>"root" | .pow=>"^"
noncomputable def Fm.kinds:Fm->List Kind
 | .fn=>[.name,.part] | .rec_=>[.name,.name,.part] | .let_=>[.name,.part,.part] | .if_=>[.part,.part,.part] | .app=>[.part,.part] | .pair=>[.part,.part] | .fst=>[.part] | .snd=>[.part] | .cons=>[.part,.part]
 | .case=>[.part,.part,.name,.name,.part] | .fold=>[.part,.part,.part] | .plus=>[.part,.part] | .minus=>[.part,.part] | .times=>[.part,.part] | .over=>[.part,.part] | .less=>[.part,.part] | .equal=>[.part,.part]
 | .floor=>[.part,.part] | .rest=>[.part,.part] | .root=>[.part] | .pow=>[.part,.power]
inductive Item where
 | w (x:List Nat)
 | n (m:Int)
 | p (t:Term) (l:List Nat)
noncomputable def Fm.mk:Fm->List Item->Term
 | .fn,[.w x,.p a _] => .fn x a
 | .rec_,[.w f,.w x,.p a _] => .rec_ f x a
 | .let_,[.w x,.p a _,.p b _] => .let_ x a b
 | .if_,[.p a _,.p b _,.p c _] => .three .cond a b c
 | .app,[.p a _,.p b _] => .two .app a b
 | .pair,[.p a _,.p b _] => .two .pair a b
 | .fst,[.p a _] => .one .fst a
 | .snd,[.p a _] => .one .snd a
 | .cons,[.p a _,.p b _] => .two .cons a b
 | .case,[.p l _,.p a _,.w h,.w t,.p b _] => .case l a h t b
 | .fold,[.p a _,.p b _,.p c _] => .three .fold a b c
 | .plus,[.p a _,.p b _] => .two .plus a b
 | .minus,[.p a _,.p b _] => .two .minus a b
 | .times,[.p a _,.p b _] => .two .times a b
 | .over,[.p a _,.p b _] => .two .over a b
 | .less,[.p a _,.p b _] => .two .less a b
 | .equal,[.p a _,.p b _] => .two .equal a b
 | .floor,[.p a _,.p b _] => .two .floor a b
 | .rest,[.p a _,.p b _] => .two .rest a b
 | .root,[.p a _] => .one .root a
 | .pow,[.p a _,.n m] => .one (.pow m) a
 | _,_ => .leaf .nil
def br_:List Item->List Nat
 | []=>[]
 | .p _ l::r=>l++br_ r
 | _::r=>br_ r
noncomputable def as_ (hl:Nat) (term:Toks->Res Core):List Kind->Toks->Res (List Item×Toks)
 | [],ts => .ok ([],ts)
 | .name::ks,ts=>match wantName hl ts with
  | .error e => .error e
  | .ok (x,r)=>match as_ hl term ks r with
   | .error e => .error e
   | .ok (is,q) => .ok (.w x::is,q)
 | .part::ks,ts=>match term ts with
  | .error e => .error e
  | .ok (a,pa,r)=>match as_ hl term ks r with
   | .error e => .error e
   | .ok (is,q) => .ok (.p a pa::is,q)
 | .power::ks,ts=>match wantDigit hl ts with
  | .error e => .error e
  | .ok (m,r)=>match as_ hl term ks r with
   | .error e => .error e
   | .ok (is,q) => .ok (.n m::is,q)
open Vaunid (word sign)
noncomputable def fmOf (k:Vaunid.Tok):Option Fm :=
 if k=word "fn" then some .fn else if k=word "rec" then some .rec_ else if k=word "let" then some .let_ else if k=word "case" then some .case else if k=sign "^" then some .pow
 else if k=word "fst" then some .fst else if k=word "snd" then some .snd else if k=word "root" then some .root
 else if k=word "pair" then some .pair else if k=word "cons" then some .cons else if k=sign "+" then some .plus else if k=sign "-" then some .minus
 else if k=sign "*" then some .times else if k=sign "/" then some .over else if k=sign "<" then some .less else if k=sign "=" then some .equal
 else if k=word "floor" then some .floor else if k=word "rest" then some .rest else if k=word "if" then some .if_ else if k=word "fold" then some .fold else none
noncomputable def f8_ (hl p:Nat) (f:Fm) (x:Res (List Item×Toks)):Res Core:=match x with
 | .error e => .error e
 | .ok (is,r)=>match want hl (sign ")") r with
  | .error e => .error e
  | .ok q => .ok (f.mk is,p::br_ is,q)
noncomputable def an_ (ts:Toks):Fm×Toks:=match ts with
 | []=>(.app,[])
 | k::r=>match fmOf k.tok with
  | some f=>(f,r)
  | none=>(.app,k::r)
noncomputable def co_ (hl:Nat) (term:Toks->Res Core) (p:Nat) (ts:Toks):Res Core:=f8_ hl p (an_ ts).1 (as_ hl term (an_ ts).1.kinds (an_ ts).2)
noncomputable def cps (hl:Nat) (T:Toks->Res Core):List Kind->Toks->(List Item->Toks->Res Core)->Res Core
 | [],ts,k=>k [] ts
 | .name::ks,ts,k=>(wantName hl ts).bind fun y=>cps hl T ks y.2 fun is q=>k (.w y.1::is) q
 | .part::ks,ts,k=>(T ts).bind fun y=>cps hl T ks y.2.2 fun is q=>k (.p y.1 y.2.1::is) q
 | .power::ks,ts,k=>(wantDigit hl ts).bind fun y=>cps hl T ks y.2 fun is q=>k (.n y.1::is) q
theorem iG_ (hl:Nat) (T:Toks->Res Core) : ∀ (ks:List Kind) (ts:Toks) (k:List Item->Toks->Res Core),cps hl T ks ts k=(as_ hl T ks ts).bind fun y=>k y.1 y.2
 | [],_,_=>rfl
 | .name::ks,ts,k=>by
  unfold cps as_;cases wantName hl ts with
  | error e=>rfl
  | ok y =>
  refine (iG_ hl T ks y.2 _).trans ?_;show _=Except.bind (match as_ hl T ks y.2 with | .error e => .error e | .ok (is,q) => .ok (Item.w y.1::is,q)) _
  cases as_ hl T ks y.2 <;> rfl
 | .part::ks,ts,k=>by
  unfold cps as_;cases T ts with
  | error e=>rfl
  | ok y =>
  refine (iG_ hl T ks y.2.2 _).trans ?_;show _=Except.bind (match as_ hl T ks y.2.2 with | .error e => .error e | .ok (is,q) => .ok (Item.p y.1 y.2.1::is,q)) _
  cases as_ hl T ks y.2.2 <;> rfl
 | .power::ks,ts,k=>by
  unfold cps as_;cases wantDigit hl ts with
  | error e=>rfl
  | ok y =>
  refine (iG_ hl T ks y.2 _).trans ?_;show _=Except.bind (match as_ hl T ks y.2 with | .error e => .error e | .ok (is,q) => .ok (Item.n y.1::is,q)) _
  cases as_ hl T ks y.2 <;> rfl
def pl2 (l:List Nat):List (List Nat)->List Nat
 | []=>l
 | m::r=>l++pl2 m r
def pls:List Item->List (List Nat)
 | []=>[]
 | .p _ l::r=>l::pls r
 | _::r=>pls r
def pl1 (is:List Item):List Nat:=match pls is with
 | []=>[]
 | l::r=>pl2 l r
theorem mG_ : ∀ (r:List (List Nat)) (l:List Nat),pl2 l r=l++r.flatten
 | [],l=>(append_nil l).symm
 | m::r,l=>congrArg (l ++ ·) (mG_ r m)
theorem ih_ : ∀ is:List Item,(pls is).flatten=br_ is
 | []=>rfl
 | .p _ l::r=>congrArg (l ++ ·) (ih_ r)
 | .w _::r=>ih_ r
 | .n _::r=>ih_ r
theorem ov_ (is:List Item):pl1 is=br_ is:=by
 rw [<- ih_];unfold pl1;cases pls is with
 | nil=>rfl
 | cons l r=>exact mG_ r l
theorem iH_ (hl p:Nat) (f:Fm) (T:Toks->Res Core) (ks:List Kind) (ts:Toks):cps hl T ks ts (fun is r=>(want hl (sign ")") r).bind fun q => .ok (f.mk is,p::pl1 is,q))=f8_ hl p f (as_ hl T ks ts):=by
 rw [iG_];cases as_ hl T ks ts with
 | error e=>rfl
 | ok y =>
 show (want hl (sign ")") y.2).bind (fun q => .ok (f.mk y.1,p::pl1 y.1,q))=match want hl (sign ")") y.2 with | .error e => .error e | .ok q => .ok (f.mk y.1,p::br_ y.1,q)
 rw [ov_];cases want hl (sign ")") y.2 <;> rfl
theorem beg (hl p:Nat) (T:Toks->Res Core) (k:Vaunid.Token) (r:Toks) {f:Fm} (h:fmOf k.tok=some f):cps hl T f.kinds r (fun is r=>(want hl (sign ")") r).bind fun q => .ok (f.mk is,p::pl1 is,q))=co_ hl T p (k::r):=by
 rw [iH_];unfold co_ an_;dsimp only;rw [h]
theorem df_ (hl n d p:Nat) (k:Vaunid.Token) (r:Toks):coreForm hl (n+1) d p (k::r)=co_ hl (coreTerm hl n d) p (k::r):=by
 unfold coreForm;dsimp only;generalize coreTerm hl n d=T;by_cases g0:k.tok=word "fn"
 ·rw [if_pos g0];exact beg hl p T k r (f := .fn) (by rw [g0];decide +kernel)
 rw [if_neg g0];by_cases g1:k.tok=word "rec"
 ·rw [if_pos g1];exact beg hl p T k r (f := .rec_) (by rw [g1];decide +kernel)
 rw [if_neg g1];by_cases g2:k.tok=word "let"
 ·rw [if_pos g2];exact beg hl p T k r (f := .let_) (by rw [g2];decide +kernel)
 rw [if_neg g2];by_cases g3:k.tok=word "case"
 ·rw [if_pos g3];exact beg hl p T k r (f := .case) (by rw [g3];decide +kernel)
 rw [if_neg g3];by_cases g4:k.tok=sign "^"
 ·rw [if_pos g4];exact beg hl p T k r (f := .pow) (by rw [g4];decide +kernel)
 rw [if_neg g4];by_cases a0:k.tok=word "fst"
 ·rw [show formOne k.tok=some .fst by rw [a0];decide +kernel];exact beg hl p T k r (f := .fst) (by rw [a0];decide +kernel)
 by_cases a1:k.tok=word "snd"
 ·rw [show formOne k.tok=some .snd by rw [a1];decide +kernel];exact beg hl p T k r (f := .snd) (by rw [a1];decide +kernel)
 by_cases a2:k.tok=word "root"
 ·rw [show formOne k.tok=some .root by rw [a2];decide +kernel];exact beg hl p T k r (f := .root) (by rw [a2];decide +kernel)
 rw [show formOne k.tok=none by unfold formOne;rw [if_neg a0,if_neg a1,if_neg a2]];by_cases b0:k.tok=word "pair"
 ·rw [show formTwo k.tok=some .pair by rw [b0];decide +kernel];exact beg hl p T k r (f := .pair) (by rw [b0];decide +kernel)
 by_cases b1:k.tok=word "cons"
 ·rw [show formTwo k.tok=some .cons by rw [b1];decide +kernel];exact beg hl p T k r (f := .cons) (by rw [b1];decide +kernel)
 by_cases b2:k.tok=sign "+"
 ·rw [show formTwo k.tok=some .plus by rw [b2];decide +kernel];exact beg hl p T k r (f := .plus) (by rw [b2];decide +kernel)
 by_cases b3:k.tok=sign "-"
 ·rw [show formTwo k.tok=some .minus by rw [b3];decide +kernel];exact beg hl p T k r (f := .minus) (by rw [b3];decide +kernel)
 by_cases b4:k.tok=sign "*"
 ·rw [show formTwo k.tok=some .times by rw [b4];decide +kernel];exact beg hl p T k r (f := .times) (by rw [b4];decide +kernel)
 by_cases b5:k.tok=sign "/"
 ·rw [show formTwo k.tok=some .over by rw [b5];decide +kernel];exact beg hl p T k r (f := .over) (by rw [b5];decide +kernel)
 by_cases b6:k.tok=sign "<"
 ·rw [show formTwo k.tok=some .less by rw [b6];decide +kernel];exact beg hl p T k r (f := .less) (by rw [b6];decide +kernel)
 by_cases b7:k.tok=sign "="
 ·rw [show formTwo k.tok=some .equal by rw [b7];decide +kernel];exact beg hl p T k r (f := .equal) (by rw [b7];decide +kernel)
 by_cases b8:k.tok=word "floor"
 ·rw [show formTwo k.tok=some .floor by rw [b8];decide +kernel];exact beg hl p T k r (f := .floor) (by rw [b8];decide +kernel)
 by_cases b9:k.tok=word "rest"
 ·rw [show formTwo k.tok=some .rest by rw [b9];decide +kernel];exact beg hl p T k r (f := .rest) (by rw [b9];decide +kernel)
 rw [show formTwo k.tok=none by unfold formTwo;rw [if_neg b0,if_neg b1,if_neg b2,if_neg b3,if_neg b4,if_neg b5,if_neg b6,if_neg b7,if_neg b8,if_neg b9]];by_cases c0:k.tok=word "if"
 ·rw [show formThree k.tok=some .cond by rw [c0];decide +kernel];exact beg hl p T k r (f := .if_) (by rw [c0];decide +kernel)
 by_cases c1:k.tok=word "fold"
 ·rw [show formThree k.tok=some .fold by rw [c1];decide +kernel];exact beg hl p T k r (f := .fold) (by rw [c1];decide +kernel)
 rw [show formThree k.tok=none by unfold formThree;rw [if_neg c0,if_neg c1]];have h:fmOf k.tok=none:=by unfold fmOf;simp only [*,if_false]
 unfold co_ an_;dsimp only;rw [h];exact iH_ hl p .app T [.part,.part] (k::r)
def lg_ (T:Toks->Res Core):Prop:=∀ r a pa q,T r = .ok (a,pa,q)->q.length<r.length
theorem c1_ {hl:Nat}{T:Toks->Res Core} (hT:lg_ T) : ∀ (ks:List Kind) (ts:Toks) (is:List Item) (q:Toks),as_ hl T ks ts = .ok (is,q)->q.length<=ts.length
 | [],ts,is,q,h=>by
  cases h;exact Nat.le_refl _
 | .name::ks,ts,is,q,h=>by
  unfold as_ at h;cases h1:wantName hl ts with
  | error e=>rw [h1] at h;cases h
  | ok v =>
  obtain ⟨x,r⟩:=v;rw [h1] at h;dsimp only at h;cases h2:as_ hl T ks r with
  | error e=>rw [h2] at h;cases h
  | ok v =>
  obtain ⟨is2,q2⟩:=v;rw [h2] at h;cases h;have:=c1_ hT ks r is2 q h2;have:=dH_ h1;omega
 | .part::ks,ts,is,q,h=>by
  unfold as_ at h;cases h1:T ts with
  | error e=>rw [h1] at h;cases h
  | ok v =>
  obtain ⟨a,pa,r⟩:=v;rw [h1] at h;dsimp only at h;cases h2:as_ hl T ks r with
  | error e=>rw [h2] at h;cases h
  | ok v =>
  obtain ⟨is2,q2⟩:=v;rw [h2] at h;cases h;have:=c1_ hT ks r is2 q h2;have:=hT _ _ _ _ h1;omega
 | .power::ks,ts,is,q,h=>by
  unfold as_ at h;cases h1:wantDigit hl ts with
  | error e=>rw [h1] at h;cases h
  | ok v =>
  obtain ⟨x,r⟩:=v;rw [h1] at h;dsimp only at h;cases h2:as_ hl T ks r with
  | error e=>rw [h2] at h;cases h
  | ok v =>
  obtain ⟨is2,q2⟩:=v;rw [h2] at h;cases h;have:=c1_ hT ks r is2 q h2;have:=cY_ h1;omega
theorem e0_ (ts:Toks):(an_ ts).2.length<=ts.length:=by
 unfold an_;cases ts with
 | nil=>exact Nat.le_refl _
 | cons k r =>
 dsimp only;split
 ·exact le_succ _
 exact Nat.le_refl _
theorem l8_ {hl p:Nat}{T:Toks->Res Core} (hT:lg_ T) {ts q:Toks}{a:Term}{pa:List Nat} (h:co_ hl T p ts = .ok (a,pa,q)):q.length<ts.length:=by
 unfold co_ f8_ at h;cases h1:as_ hl T (an_ ts).1.kinds (an_ ts).2 with
 | error e=>rw [h1] at h;cases h
 | ok v =>
 obtain ⟨is,r⟩:=v;rw [h1] at h;dsimp only at h;cases h2:want hl (sign ")") r with
 | error e=>rw [h2] at h;cases h
 | ok q2 =>
 rw [h2] at h;cases h;have:=c1_ hT _ _ _ _ h1;have:=ll_ h2;have:=e0_ ts;omega
theorem l7_ (hl n d p:Nat) : ∃ e,coreForm hl n d p [] = .error e:=by
 cases n with
 | zero=>exact ⟨_,rfl⟩
 | succ n =>
 unfold coreForm;dsimp only;split
 ·exact ⟨_,rfl⟩
 exact ⟨_,rfl⟩
theorem fJ_ (hl:Nat) : ∀ (n d:Nat),lg_ (coreTerm hl n d)
 | 0,d,r,a,pa,q,h=>by cases h
 | 1,d,r,a,pa,q,h=>by
  unfold coreTerm at h;split at h
  ·cases h
  cases r with
  | nil=>cases h
  | cons k r =>
  dsimp only at h;split at h
  ·cases h
  split at h
  ·cases h;exact lt_succ_self _
  cases h
 | n+2,d,r,a,pa,q,h=>by
  unfold coreTerm at h;split at h
  ·cases h
  cases r with
  | nil=>cases h
  | cons k r =>
  dsimp only at h;split at h
  ·cases r with
   | nil =>
    obtain ⟨e,he⟩:=l7_ hl (n+1) (d - 1) k.start;rw [he] at h;cases h
   | cons k2 r2 =>
    rw [df_] at h;have:=l8_ (fJ_ hl n (d - 1)) h;rw [length_cons];omega
  split at h
  ·cases h;exact lt_succ_self _
  cases h
theorem b0_ {hl:Nat}{T T':Toks->Res Core} (hT:lg_ T) (L:Nat) (hE : ∀ r,r.length<=L->T r=T' r) : ∀ (ks:List Kind) (ts:Toks),ts.length<=L->as_ hl T ks ts=as_ hl T' ks ts
 | [],ts,_=>rfl
 | .name::ks,ts,h=>by
  unfold as_;cases h1:wantName hl ts with
  | error e=>rfl
  | ok v =>
  obtain ⟨x,r⟩:=v;have:=dH_ h1;dsimp only;rw [b0_ hT L hE ks r (by omega)]
 | .part::ks,ts,h=>by
  unfold as_;rw [<- hE ts h];cases h1:T ts with
  | error e=>rfl
  | ok v =>
  obtain ⟨a,pa,r⟩:=v;have:=hT _ _ _ _ h1;dsimp only;rw [b0_ hT L hE ks r (by omega)]
 | .power::ks,ts,h=>by
  unfold as_;cases h1:wantDigit hl ts with
  | error e=>rfl
  | ok v =>
  obtain ⟨x,r⟩:=v;have:=cY_ h1;dsimp only;rw [b0_ hT L hE ks r (by omega)]
theorem fs_ {hl p:Nat}{T T':Toks->Res Core} (hT:lg_ T) {ts:Toks} (hE : ∀ r,r.length<=ts.length->T r=T' r):co_ hl T p ts=co_ hl T' p ts:=by
 unfold co_;rw [b0_ hT ts.length hE _ _ (e0_ ts)]
theorem en_ (hl:Nat) : ∀ (L:Nat) (ts:Toks) (n m d:Nat),ts.length<=L->2 * ts.length+1<=n->2 * ts.length+1<=m->coreTerm hl n d ts=coreTerm hl m d ts
 | L,[],0,_,_,_,h,_=>by omega
 | L,[],_+1,0,_,_,_,h=>by omega
 | L,[],n+1,m+1,d,_,_,_=>by
  unfold coreTerm;rfl
 | 0,k::r,_,_,_,h,_,_=>by simp at h
 | L+1,k::r,n,m,d,h,hn,hm=>by
  rw [length_cons] at h hn hm;obtain ⟨n,rfl⟩ : ∃ n',n=n'+2:=⟨n - 2,by omega⟩;obtain ⟨m,rfl⟩ : ∃ m',m=m'+2:=⟨m - 2,by omega⟩;unfold coreTerm;split
  ·rfl
  dsimp only;split
  ·cases r with
   | nil =>
    unfold coreForm;rfl
   | cons k2 r2 =>
    rw [df_,df_];rw [length_cons] at h hn hm;exact fs_ (fJ_ hl n (d - 1)) fun r' hr'=>en_ hl L r' n m (d - 1) (by rw [length_cons] at hr';omega) (by rw [length_cons] at hr';omega) (by rw [length_cons] at hr';omega)
  rfl
theorem jo_ (hl:Nat) (ts:Toks):bu_ hl 0 ts=fault 8 (Vaunid.placeOf hl ts):=by
 unfold bu_ coreTerm;rfl
theorem k4_ (hl d:Nat):bu_ hl (d+1) []=fault 6 hl:=rfl
theorem jp_ {hl d:Nat}{k:Vaunid.Token}{r:Toks} (h : ¬ k.tok=sign "("):bu_ hl (d+1) (k::r)=(match Vaunid.leafOf k.tok with | some l => .ok (.leaf l,[k.start],r) | none=>fault 6 k.start):=by
 unfold bu_ coreTerm;rw [if_neg (by omega)];dsimp only;rw [if_neg h] <;> rfl
theorem jq_ {hl d:Nat}{k:Vaunid.Token}{r:Toks} (h:k.tok=sign "("):bu_ hl (d+1) (k::r)=co_ hl (bu_ hl d) k.start r:=by
 unfold bu_;rw [length_cons,show 2 * (r.length+1)+1=2 * r.length+2+1 by omega];unfold coreTerm;rw [if_neg (by omega)];dsimp only;rw [if_pos h,Nat.add_sub_cancel];cases r with
 | nil =>
  unfold coreForm;dsimp only;by_cases h0:d=0
  ·subst h0;rfl
  obtain ⟨d,rfl⟩ : ∃ d',d=d'+1:=⟨d - 1,by omega⟩;rfl
 | cons k2 r2 =>
 rw [show 2 * (k2::r2).length+2=2 * (k2::r2).length+1+1 from rfl,df_];refine fs_ (fJ_ hl _ d) fun r' hr'=>?_;exact en_ hl _ r' _ _ d (Nat.le_refl _) (by omega) (Nat.le_refl _)
theorem hq_ (t:List Nat):readCore t=(match allTokens true t with
  | .error e => .error e
  | .ok ts=>match bu_ t.length 40 ts with
   | .error e => .error e
   | .ok (a,places,r)=>match r with
    | k::_=>fault 6 k.start
    | []=>if 300<places.length then fault 9 (places.getD 300 0) else .ok a):=by
 unfold readCore;cases h1:allTokens true t with
 | error e=>rfl
 | ok ts =>
 show (coreTerm t.length (2 * ts.length+2) 40 ts >>= _)=_;rw [en_ t.length ts.length ts (2 * ts.length+2) (2 * ts.length+1) 40 (Nat.le_refl _) (by omega) (Nat.le_refl _)];show (bu_ t.length 40 ts >>= _)=(match bu_ t.length 40 ts with
  | .error e => .error e
  | .ok (a,places,r)=>match r with
   | k::_=>fault 6 k.start
   | []=>if 300<places.length then fault 9 (places.getD 300 0) else .ok a)
 cases h2:bu_ t.length 40 ts with
 | error e=>rfl
 | ok v =>
 obtain ⟨a,places,r⟩:=v;cases r with
 | nil=>rfl
 | cons k r=>rfl
end M
end Internal
open Internal
namespace PySem
namespace F
theorem gN_:Manifest.owners.lookup (String.ofList ['d', 'e', 's', 'r', 'e', 'v', 'e', 'r'].reverse)=some Manifest.sig_reversed:=by kernel_rfl
theorem slot_rvd_next:Slot "reversed" "__next__" "reversed.__next__" :=
 .of (owner:="reversed") (n:="__next__") (by rw [typeLookup_type,builtinLookup_eq_fast];kernel_rfl) (by decide +kernel) (by decide +kernel) (by decide +kernel)
  (by first | exact .inl (by decide +kernel) | exact .inr (by decide +kernel)) (by rw [isSubtype_type];kernel_rfl)
theorem entry_rvd_next:entryFor table "reversed.__next__"=some Builtin.«reversed.__next__» := entryFor_of_tree (by kernel_rfl)
theorem args_rvd_next_1 (a:Value):argsOk "reversed.__next__" ⟨[a],[]⟩:=by
 unfold argsOk;rw [signature?_of (id:="reversed.__next__") (n:=['_', '_', 't', 'x', 'e', 'n', '_', '_']) (o:=['d', 'e', 's', 'r', 'e', 'v', 'e', 'r']) (by kernel_rfl) gN_];kernel_rfl
theorem slot_rvd_iter:Slot "reversed" "__iter__" "reversed.__iter__" :=
 .of (owner:="reversed") (n:="__iter__") (by rw [typeLookup_type,builtinLookup_eq_fast];kernel_rfl) (by decide +kernel) (by decide +kernel) (by decide +kernel)
  (by first | exact .inl (by decide +kernel) | exact .inr (by decide +kernel)) (by rw [isSubtype_type];kernel_rfl)
theorem args_rvd_iter_1 (a:Value):argsOk "reversed.__iter__" ⟨[a],[]⟩:=by
 unfold argsOk;rw [signature?_of (id:="reversed.__iter__") (n:=['_', '_', 'r', 'e', 't', 'i', '_', '_']) (o:=['d', 'e', 's', 'r', 'e', 'v', 'e', 'r']) (by kernel_rfl) gN_];kernel_rfl
theorem entry_rvd_iter:entryFor table "reversed.__iter__"=some Builtin.«dict_keyiterator.__iter__» :=
 entryFor_alias (id':="dict_keyiterator.__iter__") (by kernel_rfl) (by first | rfl | decide +kernel | (unfold String.splitOn;simp +decide [String.splitOnAux])) (by decide +kernel) (by kernel_rfl)
theorem fO_:Slot "reversed" "__init__" "object.__init__" :=
 .of (owner:="object") (n:="__init__") (by rw [typeLookup_type,builtinLookup_eq_fast];kernel_rfl) (by decide +kernel) (by decide +kernel) (by decide +kernel)
  (by first | exact .inl (by decide +kernel) | exact .inr (by decide +kernel)) (by rw [isSubtype_type];kernel_rfl)
theorem called_rvd:TypeCalled "reversed" "reversed.__new__" "object.__init__" :=
 ⟨by decide +kernel,by decide +kernel,⟨_,_,mro_reversed⟩,made_reversed,by decide +kernel,sub_reversed_self,fO_⟩
theorem tuple_no_rev:typeLookup (.type "tuple") "__reversed__"=pure none:=am_miss_of_fast (by first | decide +kernel | rfl)
end F
end PySem
namespace PySem
open PyProof.Rows
def mE_ (l:Addr) (i:Int):Obj:={ cls := .type "reversed",data := .fields #[.ref l,rawInt i] }
def Heap.IsRvd (h:Heap) (a l:Addr) (i:Int):Prop:=∃ o,h.get? a=some o/\o.cls = .type "reversed"/\o.data = .fields #[.ref l,rawInt i]
section
variable {prog:Program}{w:World}{A:Around}{E:Value->Shared->Prop}{s:Shared}
theorem Heap.IsRvd.typeIs {a l:Addr}{i:Int} (x:s.heap.IsRvd a l i):s.TypeIs (.ref a) "reversed":=let ⟨o,ho,hc,_⟩:=x;⟨o,ho,hc⟩
theorem Heap.IsRvd.at {h h':Heap}{a l:Addr}{i:Int} (x:h.IsRvd a l i) (e : ∀ o,h.get? a=some o->h'.get? a=some o):h'.IsRvd a l i:=let ⟨o,ho,r⟩:=x;⟨o,e _ ho,r⟩
theorem e4_:isSubtype (.type "tuple") (.type "dict")=pure false:=by rw [isSubtype_type];kernel_rfl
theorem cL_ (t:Addr) (items:Array Value) :
  Meets (Builtin.«reversed.__new__» ⟨[.type "reversed",.ref t],[]⟩) (fun _ R s=>IsTup s.heap t items/\((items.size:Int)<2 ^ 63)/\∀ k,R (.ok (.ret (.ref s.heap.objs.size))) { s with heap:=s.heap.push (mE_ t ((items.size:Int) - 1)),toks:=k }) :=
 .of_wp fun prog w A R s h=>by
  obtain ⟨ht,hz,h⟩:=h;have hT:=ht.typeIs;unfold Builtin.«reversed.__new__»;refine wpAny_bind (wpAny_of_eq (newClass_reversed _) ?_)
  try dsimp only
  refine wpAny_bind (wpAny_of_eq (a:=()) (by first | rfl | kernel_rfl) ?_);refine wpAny_bind (wpAny_of_eq (a:=()) (by first | rfl | kernel_rfl) ?_)
  try dsimp only
  refine wpAny_bind (wpAny_specialOf hT F.tuple_no_rev ?_)
  try dsimp only
  refine wpAny_bind ?_;show wpAny _ _ (isInstance (.ref t) (.type "dict") >>= _) _ _ _;refine wpAny_bind (wpAny_isInstance (T:="tuple") (b:=false) hT e4_ ?_);show wpAny _ _ (specialOf (.ref t) "__getitem__" >>= _) _ _ _;refine wpAny_bind (wpAny_specialOf hT slot_tuple_getitem.lookup ?_);refine wpAny_of_eq (a:=true) rfl ?_;rw [if_neg (by decide)];refine wpAny_bind (len_tuple ht hz ?_);refine wpAny_bind (wpAny_of_eq (a:=some ((items.size:Nat):Int)) rfl ?_);dsimp only;refine wpAny_bind ?_;show wpAny _ _ (newObj (.type "reversed") (.fields #[Value.ref t,rawInt ((items.size:Int) - 1)])) _ _ _;exact wpAny_newObj_type (wpAny_pure ⟨_,rfl,h _⟩)
theorem cV_ {t:Addr}{items:Array Value}{Q:Value->Shared->Prop} (ht:IsTup s.heap t items) (hz:(items.size:Int)<2 ^ 63)
  (h : ∀ k,Q (.ref s.heap.objs.size) { s with heap:=s.heap.push (mE_ t ((items.size:Int) - 1)),toks:=k }):wpAny (model prog w) A (call (.type "reversed") [.ref t]) Q E s :=
 callType_new F.called_rvd (by decide) (F.typeCall_reversed_1 _) (F.newCall_reversed_1 _) (fun obj=>F.args_object_init_2 obj _) F.entry_reversed_new (cL_ t items) ⟨ht,hz,fun k=>⟨⟨_,Heap.get?_push_size _ rfl,rfl⟩,h k⟩⟩
theorem cb_ {it l:Addr}{i:Int}{Q:Value->Shared->Prop} (hit:s.heap.IsRvd it l i) (h:Q (.ref it) s):wpAny (model prog w) A (pyIter (.ref it)) Q E s:=by
 refine wpAny_pyIter_slot hit.typeIs F.slot_rvd_iter (wpAny_call_entry F.slot_rvd_iter hit.typeIs F.entry_rvd_iter ?_ (F.args_rvd_iter_1 _));show wpAny _ _ (ret (.ref it)) _ _ s;exact wpAny_pure ⟨_,rfl,"reversed",_,hit.typeIs,F.slot_rvd_next.lookup,h⟩
theorem ch_ {it l:Addr}{i:Nat}{items:Array Value}{x:Value}{Q:Option Value->Shared->Prop} (hit:s.heap.IsRvd it l (i:Int)) (hl:IsTup s.heap l items) (hne:l≠it) (hz:(items.size:Int)<2 ^ 63) (hx:items[i]? = some x)
  (hQ : ∀ h' k,h'.IsRvd it l ((i:Int) - 1)->Heap.SameBut it s.heap h'->Q (some x) { s with heap:=h',toks:=k }):wpAny (model prog w) A (pyNext (.ref it)) Q E s:=by
 obtain ⟨o,ho,hc,hd⟩:=id hit;have hlt:i<items.size:=(Array.getElem?_eq_some_iff.mp hx).1;unfold pyNext;refine wpAny_bind (wpAny_attempt (wpAny_callSpecial?_slot (name:=Str.ofString "__next__") hit.typeIs F.slot_rvd_next
  (wpAny_call_entry F.slot_rvd_next hit.typeIs F.entry_rvd_next ?_ (F.args_rvd_next_1 _))))
 unfold Builtin.«reversed.__next__»;refine wpAny_bind (wpAny_of_eq (a:=(Value.ref it,[])) rfl ?_)
 try dsimp only
 refine wpAny_bind (wpAny_field ho hd (x := .ref l) rfl ?_);refine wpAny_bind (wpAny_field ho hd (x:=rawInt (i:Int)) rfl ?_);show wpAny _ _ (if (i:Int)<0 then _ else _) _ _ s;rw [if_neg (by omega)];refine wpAny_bind (wpAny_specialOf hl.typeIs slot_tuple_getitem.lookup ?_);rw [if_neg (by decide)];refine wpAny_bind (wpAny_mkInt ?_);refine wpAny_bind (wpAny_attempt (getItem_tuple (j:=i) (x:=x) hl (by omega) (by omega) (by unfold seqIndex?;simp;omega) hx ?_));refine wpAny_bind (wpAny_field (s:={ s with toks:=s.toks+1 }) ho hd (x:=rawInt (i:Int)) rfl ?_);refine wpAny_bind (wpAny_setField (s:={ s with toks:=s.toks+1 }) ho hd (by simp) ?_);refine wpAny_pure ⟨x,rfl,wpAny_pure (hQ _ _ ?_ (Heap.SameBut.update ..))⟩;exact ⟨_,Heap.get?_update_self _ ho (Obj.isFreed_of_fields (Obj.data_mapFields hd _)),(Obj.cls_mapFields ..).trans hc,by
  rw [Obj.data_mapFields hd];simp⟩
theorem cA_ {it l:Addr}{Q:Option Value->Shared->Prop} (hh:A.handled=none) (hit:s.heap.IsRvd it l (-1))
  (hQ : ∀ h',Heap.ExtBut it s.heap h'->Q none { s with heap:=h' }):wpAny (model prog w) A (pyNext (.ref it)) Q E s:=by
 obtain ⟨o,ho,hc,hd⟩:=id hit;unfold pyNext;refine wpAny_bind (wpAny_attempt (wpAny_callSpecial?_slot (name:=Str.ofString "__next__") hit.typeIs F.slot_rvd_next
  (wpAny_call_entry F.slot_rvd_next hit.typeIs F.entry_rvd_next ?_ (F.args_rvd_next_1 _))))
 unfold Builtin.«reversed.__next__»;refine wpAny_bind (wpAny_of_eq (a:=(Value.ref it,[])) rfl ?_)
 try dsimp only
 refine wpAny_bind (wpAny_field ho hd (x := .ref l) rfl ?_);refine wpAny_bind (wpAny_field ho hd (x:=rawInt (-1)) rfl ?_);show wpAny _ _ (if (-1:Int)<0 then _ else _) _ _ s;rw [if_pos (by decide)];refine wpAny_bind (wpAny_rule ?_);refine wpAny_bind ?_;show wpAny _ _ (setField (.ref it) 1 (rawInt (-1)) >>= _) _ _ _;refine wpAny_bind (wpAny_setField ho hd (by simp) ?_);have ho2:=Heap.get?_update_self (Obj.mapFields (·.setIfInBounds 1 (rawInt (-1)))) ho (Obj.isFreed_of_fields (Obj.data_mapFields hd _));have hd2:(Obj.mapFields (·.setIfInBounds 1 (rawInt (-1))) o).data = .fields #[Value.ref l,rawInt (-1)]:=by rw [Obj.data_mapFields hd];simp
 have sb2:Heap.SameBut it s.heap (s.heap.update it (Obj.mapFields (·.setIfInBounds 1 (rawInt (-1))))):=Heap.SameBut.update ..;generalize s.heap.update it (Obj.mapFields (·.setIfInBounds 1 (rawInt (-1))))=h2 at ho2 sb2 ⊢;refine wpAny_setField (s:={ s with heap:=h2 }) ho2 hd2 (by simp) ?_;have sb3:Heap.SameBut it h2 (h2.update it (Obj.mapFields (·.setIfInBounds 0 .none))):=Heap.SameBut.update ..;show wpAny _ _ (Builtin.SmallTypes.stopIteration >>= _) _ _ { s with heap:=h2.update it (Obj.mapFields (·.setIfInBounds 0 .none)) };generalize h2.update it (Obj.mapFields (·.setIfInBounds 0 .none))=h3 at sb3 ⊢;refine wpAny_bind ?_;show wpAny _ _ (newExc (.type "StopIteration") [] >>= _) _ _ _;refine wpAny_bind ?_;simp only [newExc,newTuple];refine wpAny_bind (wpAny_newObj_type ?_ (by size_fits));refine wpAny_bind (m:=firstArgMember _ _) (wpAny_of_eq (a:=Value.none) (by first | rfl | (simp only [firstArgMember];rfl)) ?_);refine wpAny_newObj_type ?_ (by size_fits);simp only [raiseNew];refine wpAny_bind (wpAny_handled ?_)
 first | rw [show A.in1.handled=none from hh] | rw [hh]
 refine wpAny_bind (wpAny_pure (wpAny_throw ?_));refine wpAny_bind (wpAny_isInstance (T:="StopIteration") (b:=true) ⟨_,Heap.get?_push_size _ rfl,rfl⟩ isSubtype_stop ?_);exact wpAny_pure (hQ _ ((((sb2.trans sb3).extBut).push _).push _))
end
end PySem
namespace Internal
namespace L2
open PySem PySem.Spec PyProof.Rows TL
def Itw (K:PySem.W.Frag) (a:Addr) (n:Nat):It :=
 ⟨fun i H=>i<n/\∃ (xs:List V) (x:V),SqT K H a xs/\xs.length=n/\xs[n - 1 - i]? = some x,fun i H x H'=>H'=H/\∀ xs,SqT K H a xs->xs[n - 1 - i]? = some x,fun i _=>n<=i⟩
theorem jz_ {P:Program}{w:World}{K:PySem.W.Frag}{tg:Expr} (a it:Addr) (n:Nat):Turn P w K tg (Itw K a n) [it] it (fun i h=>i<=n/\h.IsRvd it a ((n:Int) - 1 - (i:Nat))) where
 mem:=by simp
 obj:=fun i h st b hb=>by
  have e:b=it:=by simpa using hb
  subst e;obtain ⟨_,o,e,c,d⟩:=st;exact ⟨o,e,fun v z=>by rw [d] at z;cases z⟩
 keep:=fun i h h' st k=>⟨st.1,st.2.at fun o e=>k it (by simp) o e⟩
 item:=by
  intro X hP hw hK hc i pins s σ H E I hf st hg;subst hP hw hK;obtain ⟨hin,xs,x,hq,hxl,hx⟩:=hg;obtain ⟨its,rv,p,hz⟩:=I.tuple hq;obtain ⟨u,hu,ru⟩:=rv.get hx;obtain ⟨f0,f1,f2,f3,f4,f5⟩:=hf it (by simp);obtain ⟨_,hit⟩:=st;have e1:(n:Int) - 1 - ((i:Nat):Int)=((n - 1 - i:Nat):Int):=by omega
  rw [e1] at hit;have hl:=rv.length;have hn:=db_;have nla:a≠it:=fun z=>by
   obtain ⟨o,e,c,d⟩:=hit;obtain ⟨ob,e2,c2,nn,d2⟩:=p;rw [z,e] at e2;cases e2;rw [d] at d2;cases d2
  refine ch_ hit p nla (by rw [size_toArray];omega) (x:=u) (by simpa using hu) fun h' k st' sb=>?_;have e2:((n - 1 - i:Nat):Int) - 1=(n:Int) - 1 - ((i+1:Nat):Int):=by omega
  rw [e2] at st';have I1:Inv X pins σ H { s with heap:=h',toks:=k }:=I.turned (t':=k) (fun b o hb e=>(sb.2 b hb).trans e) f0 f1 f3 f4 f5;obtain ⟨o,e,c,d⟩:=id st';exact ⟨u,rfl,l2_ (s:={ s with heap:=h',toks:=k }) e c d (by decide) ⟨x,H,I1,ru,⟨rfl,fun ys hy=>by rw [I.tuple_inj hy hq];exact hx⟩,⟨hin,st'⟩,fun b hb=>(hf b hb).1⟩⟩
 done:=by
  intro X hP hw hK hc i pins s σ H E I hf st hg;subst hP hw hK;obtain ⟨f0,f1,f2,f3,f4,f5⟩:=hf it (by simp);obtain ⟨hin,hit⟩:=st;have hge:n<=i:=hg;have e1:(n:Int) - 1 - ((i:Nat):Int) = -1:=by omega
  rw [e1] at hit;exact cA_ (I.ok.hd hc) hit fun h' eb=>⟨rfl,I.turned (t':=s.toks) (fun b o hb e=>eb b o hb e) f0 f1 f3 f4 f5⟩
 self:=fun A i s Q E st h=>cb_ st.2 h
def oR_ (K:PySem.W.Frag) (ta:TA):TI:=fun σ H R=>ta σ H fun vs H1=>∃ (a:Addr) (xs:List V),vs=[.ref a]/\SqT K H1 a xs/\R (Itw K a xs.length) H1
theorem gJ_ {X:Cx}{tg:Expr}{e:Expr}{ta:TA}{p pos:Pos} (hg:Gl X "reversed") (hm:X.mg "reversed"=none) (ha:PA X [e] ta) (hs:starEach [e] X.env=[(false,eval e X.env)]:=by rfl):PI X tg (.Call (.Name "reversed" p) [e] [] pos) (oR_ X.K ta):=by
 intro pins s σ H R I h;refine Call_ (dN_ I hg hm cG_ (PyProof.Rows.callWith_type1 (thn (ha pos pins s σ H _ I h) fun us s1 zq=>?_) hs rfl));obtain ⟨vs,H1,I1,r1,q1⟩:=zq;obtain ⟨a,xs,e,hq,q⟩:=q1;subst e;cases r1 with
 | cons r rr =>
 cases rr;cases r;obtain ⟨its,rv,p',hz⟩:=I1.tuple hq;have hl:=rv.length;have hn:=db_;have e1:((its.toArray.size:Nat):Int) - 1=(xs.length:Int) - 1 - ((0:Nat):Int):=by simp only [size_toArray];omega
 refine cV_ p' (by rw [size_toArray];omega) fun k=>cb_ (l:=a) (i:=((its.toArray.size:Nat):Int) - 1) ⟨_,Heap.get?_push_size _ rfl,rfl,rfl⟩ ?_;refine ij_ (tk:=k) I1 _ (jz_ a _ xs.length) ⟨zero_le _,?_⟩ q;rw [<- e1];exact ⟨_,Heap.get?_push_size _ rfl,rfl,rfl⟩
theorem g0_ {K:PySem.W.Frag}{a:Addr}{g:TG}{tb:TS}{D:Ends}{σ:St}{H1:Hp} (xs:List V) (Pv:Nat->St->Hp->Prop) (h0:Pv 0 σ H1) (hl : ∀ i σ H,i<=xs.length->Pv i σ H->SqL K H a xs)
  (hs : ∀ i x σ H,xs.reverse[i]? = some x->Pv i σ H->g x σ H fun σ2 H2=>tb { D with nx:=Pv (i+1),ct:=Pv (i+1),bk:=D.nx } σ2 H2) (hd : ∀ σ H,Pv xs.length σ H->D.nx σ H):lj_ g tb D σ (Itv K a xs.length) H1:=by
 refine ⟨fun i m σ H=>m=xs.length - i/\i<=xs.length/\Pv i σ H,⟨xs.length,by simp,zero_le _,h0⟩,?_⟩
 rintro i m σ H ⟨rfl,hi,p⟩
 have q:=hl i σ H hi p;by_cases hlt:i<xs.length
 ·have hx:xs[xs.length - 1 - i]? = some xs[xs.length - 1 - i]:=getElem?_eq_getElem (by omega)
  refine .inr ⟨⟨hlt,xs,_,q,hx⟩,Pv (i+1),fun σ' H' p'=>⟨xs.length - (i+1),by omega,rfl,hlt,p'⟩,fun x H' y=>?_⟩;obtain ⟨e,y⟩:=y;subst e;refine hs i x σ _ ?_ p;rw [getElem?_reverse hlt];exact y xs q
 have e:i=xs.length:=by omega
 subst e;exact .inl ⟨Nat.le_refl _,hd σ H p⟩
theorem je_ {K:PySem.W.Frag}{a:Addr}{g:TG}{tb:TS}{D:Ends}{σ:St}{H1:Hp} (xs:List V) (Pv:Nat->St->Hp->Prop) (h0:Pv 0 σ H1) (hl : ∀ i σ H,i<=xs.length->Pv i σ H->SqT K H a xs)
  (hs : ∀ i x σ H,xs.reverse[i]? = some x->Pv i σ H->g x σ H fun σ2 H2=>tb { D with nx:=Pv (i+1),ct:=Pv (i+1),bk:=D.nx } σ2 H2) (hd : ∀ σ H,Pv xs.length σ H->D.nx σ H):lj_ g tb D σ (Itw K a xs.length) H1:=by
 refine ⟨fun i m σ H=>m=xs.length - i/\i<=xs.length/\Pv i σ H,⟨xs.length,by simp,zero_le _,h0⟩,?_⟩
 rintro i m σ H ⟨rfl,hi,p⟩
 have q:=hl i σ H hi p;by_cases hlt:i<xs.length
 ·have hx:xs[xs.length - 1 - i]? = some xs[xs.length - 1 - i]:=getElem?_eq_getElem (by omega)
  refine .inr ⟨⟨hlt,xs,_,q,rfl,hx⟩,Pv (i+1),fun σ' H' p'=>⟨xs.length - (i+1),by omega,rfl,hlt,p'⟩,fun x H' y=>?_⟩;obtain ⟨e,y⟩:=y;subst e;refine hs i x σ _ ?_ p;rw [getElem?_reverse hlt];exact y xs q
 have e:i=xs.length:=by omega
 subst e;exact .inl ⟨Nat.le_refl _,hd σ H p⟩
theorem jf_ {K:PySem.W.Frag}{a:Addr}{g:TG}{tb:TS}{D:Ends}{σ:St}{H1:Hp} (xs:List V) (Pv:Nat->St->Hp->Prop) (h0:Pv 0 σ H1) (hl : ∀ i σ H,i<=xs.length->Pv i σ H->SqL K H a xs)
  (hs : ∀ i x σ H (T:Addr),xs[i]? = some x->Pv i σ H->H T=none->g (.ref T) σ (upd H T (.tup [.int (i:Nat),x])) fun σ2 H2=>tb { D with nx:=Pv (i+1),ct:=Pv (i+1),bk:=D.nx } σ2 H2) (hd : ∀ σ H,Pv xs.length σ H->D.nx σ H):lj_ g tb D σ (Ite K a) H1:=by
 refine ⟨fun i m σ H=>m=xs.length - i/\i<=xs.length/\Pv i σ H,⟨xs.length,by simp,zero_le _,h0⟩,?_⟩
 rintro i m σ H ⟨rfl,hi,p⟩
 have q:=hl i σ H hi p;by_cases hlt:i<xs.length
 ·have hx:xs[i]? = some xs[i]:=getElem?_eq_getElem hlt
  refine .inr ⟨⟨xs,_,q,hx⟩,Pv (i+1),fun σ' H' p'=>⟨xs.length - (i+1),by omega,rfl,hlt,p'⟩,fun v H' y=>?_⟩;obtain ⟨T,x,rfl,hT,rfl,hy⟩:=y;exact hs i x σ H T (hy xs q) p hT
 have e:i=xs.length:=by omega
 subst e;exact .inl ⟨⟨xs,q,Nat.le_refl _⟩,hd σ H p⟩
end L2
namespace L2
open PySem PySem.Spec PyProof.Rows TL
def dF_ (w:World) (p:Str×V) (e:DictEntry):Prop:=e.hash=PyData.keyHash w.params p.1/\(∃ t,e.key = .str p.1 t)/\RelV p.2 e.val
structure MDict (w:World) (K:PySem.W.Frag) (a:Addr) (tab:List (Str×V)):Prop where
 ex : ∃ (es:Array DictEntry) (ep:Nat),K.lookup a=some { cls := .type "dict",data := .dict es ep }/\Paired (dF_ w) tab es.toList
 nd:(tab.map (·.1)).Nodup
 ns:(a == sysModules)=false
def tkv (tab:List (Str×V)):List (Key×V):=tab.map fun p=>(Sum.inr p.1,p.2)
def bP_ (tab:List (Str×V)) (x:Str):Option V:=(tab.find? fun p=>decide (p.1=x)).map (·.2)
theorem hg_ (x:Str) : ∀ tab:List (Str×V),valV (tkv tab) (Sum.inr x)=bP_ tab x
 | []=>rfl
 | p::r=>by
  have ih:=hg_ x r;show valV ((Sum.inr p.1,p.2)::tkv r) _=_;unfold bP_;by_cases h:p.1=x
  ·rw [h0_ (by rw [h]),find?_cons]
   simp [h]
  rw [h1_ (fun e=>h (Sum.inr.inj e)),find?_cons,decide_eq_false h];exact ih
theorem fw_ {P:Program}{w:World} : ∀ {tab:List (Str×V)}{es:List DictEntry},Paired (dF_ w) tab es->∃ vs:List (Key×Value),KV (tkv tab) vs/\Pairs (bE_ P w) es vs/\(∀ e∈es,∃ k,(bE_ P w).is k e.key=true/\e.hash=(bE_ P w).hash k)/\vs.map (·.1)=(tkv tab).map (·.1)
 | _,_,.nil=>⟨[],.nil,.nil,fun e he=>by simp at he,rfl⟩
 | p::tab,e::es,.cons ⟨h1,⟨t,h2⟩,h3⟩ r=>by
  obtain ⟨vs,k1,k2,k3,k4⟩:=fw_ (P:=P) r;have hk:(bE_ P w).is (Sum.inr p.1) e.key=true:=by rw [h2];exact eF_ P w p.1 t
  refine ⟨(Sum.inr p.1,e.val)::vs,.cons ⟨rfl,h3⟩ k1,.cons hk rfl k2,fun e' he'=>?_,?_⟩
  ·rcases List.mem_cons.mp he' with z | z
   ·subst z
    exact ⟨Sum.inr p.1,hk,h1⟩
   exact k3 e' z
  show Sum.inr p.1::vs.map (·.1)=Sum.inr p.1::(tkv tab).map (·.1);rw [k4]
theorem gP_ : ∀ {l:List Str},l.Nodup->(l.map fun x=>(Sum.inr x:Key)).Nodup
 | [],_ => .nil
 | x::r,h=>by
  obtain ⟨h1,h2⟩:=List.nodup_cons.mp h;refine List.nodup_cons.mpr ⟨fun m=>?_,gP_ h2⟩;obtain ⟨y,hy,e⟩:=List.mem_map.mp m;exact h1 (Sum.inr.inj e ▸ hy)
theorem MDict.dictOf {P:Program}{w:World}{K:PySem.W.Frag}{a:Addr}{tab:List (Str×V)} (m:MDict w K a tab) {h:Heap} (X:K.In h) : ∃ vs:List (Key×Value),KV (tkv tab) vs/\h.DictOf (bE_ P w) a vs:=by
 obtain ⟨es,ep,lk,pr⟩:=m.ex;obtain ⟨vs,k1,k2,k3,k4⟩:=fw_ (P:=P) pr;refine ⟨vs,k1,_,es,ep,X _ _ lk,⟨rfl,rfl,rfl⟩,rfl,fun e he=>k3 e (Array.mem_toList_iff.mpr he),k2,?_⟩;rw [k4];unfold tkv;rw [map_map];have:=m.nd;have e:((·.1) ∘ fun (p:Str×V)=>((Sum.inr p.1:Key),p.2))=(fun x=>(Sum.inr x:Key)) ∘ (·.1):=rfl;rw [e,<- map_map];exact gP_ this
section
variable {X:Cx}{o i e f:Expr}{pos pos' apos cpos:Pos}{td ty tx:TE}
def ep_ (w:World) (K:PySem.W.Frag) (td ty:TE):TE:=fun σ H Q=>td σ H fun x H1=>ty σ H1 fun y H2=>∃ a tab z v,x = .ref a/\y = .str z/\MDict w K a tab/\bP_ tab z=some v/\Q v H2
def m6_ (w:World) (K:PySem.W.Frag) (ty td:TE):TE:=fun σ H Q=>ty σ H fun y H1=>td σ H1 fun x H2=>∃ a tab z,x = .ref a/\y = .str z/\MDict w K a tab/\Q (.bl (bP_ tab z).isSome) H2
theorem c4_ (ho:PE X o td) (hi:PE X i ty) (hs:NoSl i:=by intro _ _;rfl):PE X (.Subscript o i pos) (ep_ X.w X.K td ty):=by
 intro pins s σ H Q I h;refine na_ PySem.F.slot_dict_getitem.lookup hs (thn (ho pins s σ H _ I h) fun u s1 ⟨x,H1,I1,rx,q1⟩=>thn (hi pins s1 σ H1 _ I1 q1) fun iv s2 zq=>?_);obtain ⟨y,H2,I2,ry,a,tab,z,v,ex,ey,md,hv,q2⟩:=zq;subst ex ey;obtain rfl:u=Value.ref a:=rx;obtain ⟨vs,rel,dd⟩:=md.dictOf (P:=X.prog) I2.kIn;refine ⟨dd.typeIs,?_⟩;obtain ⟨w',hw,rw'⟩:=RelO.some_of (v:=v) (o:=valueAt vs (Sum.inr z)) (by rw [<- hv,<- hg_];exact rel.val _);exact wpAny_getItem_of (oO_ (k:=Sum.inr z) ry) dd.mapOf hw ⟨v,H2,I2.tok _,rw',q2⟩
theorem nt_ (hi:PE X i ty) (ho:PE X o td):PC X .In i o (m6_ X.w X.K ty td):=by
 intro pins s σ H Q I h;refine thn (hi pins s σ H _ I h) fun iv s1 ⟨y,H1,I1,ry,q1⟩=>thn (ho pins s1 σ H1 _ I1 q1) fun u s2 zq=>?_;obtain ⟨x,H2,I2,rx,a,tab,z,ex,ey,md,q2⟩:=zq;subst ex ey;obtain rfl:u=Value.ref a:=rx;obtain ⟨vs,rel,dd⟩:=md.dictOf (P:=X.prog) I2.kIn;refine wpAny_in_of (oO_ (k:=Sum.inr z) ry) md.ns dd.mapOf ?_;rw [<- (rel.val (Sum.inr z)).isSome_eq,hg_];exact ⟨.bl (bP_ tab z).isSome,H2,I2.tok _,rfl,q2⟩
theorem nn_ (hi:PE X i ty) (ho:PE X o td) (h1:behindInMarks .In o=false:=by rfl):PT X (.Compare i [.In] [o] pos) (tB (m6_ X.w X.K ty td)):=mF_ (nt_ hi ho) h1
end
end L2
namespace M
open PySem PySem.Spec PyProof.Rows L2 TL
inductive Tr where
 | mk (form:List Nat) (words:List (List Nat)) (b e:Nat) (parts:List Tr)
noncomputable def Tr.form:Tr->List Nat
 | .mk f _ _ _ _=>f
noncomputable def Tr.words:Tr->List (List Nat)
 | .mk _ w _ _ _=>w
noncomputable def Tr.b:Tr->Nat
 | .mk _ _ b _ _=>b
noncomputable def Tr.e:Tr->Nat
 | .mk _ _ _ e _=>e
noncomputable def Tr.parts:Tr->List Tr
 | .mk _ _ _ _ p=>p
noncomputable def bg_ (f:Str) (w p:Addr) (b e:Int):List (Str×V):=[("form",.str f),("words",.ref w),("parts",.ref p),("begin",.int b),("end",.int e)]
mutual
inductive TreeAt (Cn:Addr) (H:Hp):Addr->Tr->List Addr->Prop
 | mk {a dx w p:Addr}{f:List Nat}{ws:List (List Nat)}{b e:Nat}{as:List Addr}{ps:List Tr}{F:List Addr} :
   H a=some (.ins Cn dx (bg_ (S f) w p (b:Int) (e:Int)))->H w=some (.lst ((ws.map S).map V.str))->H p=some (.lst (as.map V.ref))->TreesAt Cn H as ps F->TreeAt Cn H a (.mk f ws b e ps) (a::w::p::F)
inductive TreesAt (Cn:Addr) (H:Hp):List Addr->List Tr->List Addr->Prop
 | nil:TreesAt Cn H [] [] []
 | cons {a:Addr}{t:Tr}{F G:List Addr}{as:List Addr}{ts:List Tr}:TreeAt Cn H a t F->TreesAt Cn H as ts G->TreesAt Cn H (a::as) (t::ts) (F++G)
end
theorem gn_ {Cn:Addr}{H H':Hp}:(∀ {a:Addr}{t:Tr}{F:List Addr},TreeAt Cn H a t F->(∀ b∈F,∀ o,H b=some o->H' b=some o)->TreeAt Cn H' a t F)/\∀ {as:List Addr}{ts:List Tr}{F:List Addr},TreesAt Cn H as ts F->(∀ b∈F,∀ o,H b=some o->H' b=some o)->TreesAt Cn H' as ts F:=by
 refine ⟨fun h=>TreeAt.rec (motive_1:=fun a t F _=>(∀ b∈F,∀ o,H b=some o->H' b=some o)->TreeAt Cn H' a t F) (motive_2:=fun as ts F _=>(∀ b∈F,∀ o,H b=some o->H' b=some o)->TreesAt Cn H' as ts F) ?_ ?_ ?_ h,fun h=>TreesAt.rec (motive_1:=fun a t F _=>(∀ b∈F,∀ o,H b=some o->H' b=some o)->TreeAt Cn H' a t F) (motive_2:=fun as ts F _=>(∀ b∈F,∀ o,H b=some o->H' b=some o)->TreesAt Cn H' as ts F) ?_ ?_ ?_ h⟩
 all_goals first
  | exact fun h1 h2 h3 _ ih k => .mk (k _ (by simp) _ h1) (k _ (by simp) _ h2) (k _ (by simp) _ h3) (ih fun b hb=>k b (by simp [hb]))
  | exact fun _ => .nil
  | exact fun _ _ i1 i2 k => .cons (i1 fun b hb=>k b (mem_append_left _ hb)) (i2 fun b hb=>k b (mem_append_right _ hb))
theorem TreeAt.keep {Cn:Addr}{H H':Hp}{a:Addr}{t:Tr}{F:List Addr} (h:TreeAt Cn H a t F) (k : ∀ b∈F,∀ o,H b=some o->H' b=some o):TreeAt Cn H' a t F:=gn_.1 h k
theorem TreesAt.keep {Cn:Addr}{H H':Hp}{as:List Addr}{ts:List Tr}{F:List Addr} (h:TreesAt Cn H as ts F) (k : ∀ b∈F,∀ o,H b=some o->H' b=some o):TreesAt Cn H' as ts F:=gn_.2 h k
theorem go_ {Cn:Addr}{H:Hp}:(∀ {a:Addr}{t:Tr}{F:List Addr},TreeAt Cn H a t F->∀ b∈F,∃ o,H b=some o)/\∀ {as:List Addr}{ts:List Tr}{F:List Addr},TreesAt Cn H as ts F->∀ b∈F,∃ o,H b=some o:=by
 refine ⟨fun h=>TreeAt.rec (motive_1:=fun _ _ F _=>∀ b∈F,∃ o,H b=some o) (motive_2:=fun _ _ F _=>∀ b∈F,∃ o,H b=some o) ?_ ?_ ?_ h,fun h=>TreesAt.rec (motive_1:=fun _ _ F _=>∀ b∈F,∃ o,H b=some o) (motive_2:=fun _ _ F _=>∀ b∈F,∃ o,H b=some o) ?_ ?_ ?_ h⟩
 all_goals first
  | exact fun h1 h2 h3 _ ih b hb=>(by simp only [mem_cons] at hb;rcases hb with rfl | rfl | rfl | hb;exact ⟨_,h1⟩;exact ⟨_,h2⟩;exact ⟨_,h3⟩;exact ih b hb)
  | exact fun _ _ i1 i2 b hb=>(List.mem_append.mp hb).elim (i1 b) (i2 b)
  | exact fun _ hb=>absurd hb (not_mem_nil)
theorem TreeAt.here {Cn:Addr}{H:Hp}{a:Addr}{t:Tr}{F:List Addr} (h:TreeAt Cn H a t F) : ∀ b∈F,∃ o,H b=some o:=go_.1 h
theorem TreesAt.here {Cn:Addr}{H:Hp}{as:List Addr}{ts:List Tr}{F:List Addr} (h:TreesAt Cn H as ts F) : ∀ b∈F,∃ o,H b=some o:=go_.2 h
theorem TreeAt.same {Cn:Addr}{H H':Hp}{a:Addr}{t:Tr}{F:List Addr} (h:TreeAt Cn H a t F) (s:Same H H'):TreeAt Cn H' a t F:=h.keep fun b _ o e=>s b o e
theorem TreesAt.snoc {Cn:Addr}{H:Hp}{as:List Addr}{ts:List Tr}{F:List Addr}{a:Addr}{t:Tr}{G:List Addr} (h:TreesAt Cn H as ts F) (q:TreeAt Cn H a t G):TreesAt Cn H (as++[a]) (ts++[t]) (F++G):=by
 refine TreesAt.rec (motive_1:=fun _ _ _ _=>True) (motive_2:=fun as ts F _=>TreesAt Cn H (as++[a]) (ts++[t]) (F++G)) (fun _ _ _ _ _=>trivial) ?_ (fun h1 _ _ ih=>?_) h
 ·have:=TreesAt.cons q .nil
  rw [append_nil] at this;exact this
 have:=TreesAt.cons h1 ih;rw [<- append_assoc] at this;exact this
theorem TreesAt.length {Cn:Addr}{H:Hp}{as:List Addr}{ts:List Tr}{F:List Addr} (h:TreesAt Cn H as ts F):as.length=ts.length :=
 TreesAt.rec (motive_1:=fun _ _ _ _=>True) (motive_2:=fun as ts _ _=>as.length=ts.length) (fun _ _ _ _ _=>trivial) rfl (fun _ _ _ ih=>congrArg (· + 1) ih) h
noncomputable def dd_:Leaf->String
 | .name _=>"name"
 | .num _=>"number"
 | .truth b=>if b=true then "true" else "false"
 | .nil=>"nil"
def ba_:Leaf->List (List Nat)
 | .name x=>[x]
 | .num v=>[Vaunid.shownLit v]
 | _=>[]
def jy_:Two->Fm
 | .app => .app | .pair => .pair | .cons => .cons | .plus => .plus | .minus => .minus | .times => .times | .over => .over | .less => .less | .equal => .equal | .floor => .floor | .rest => .rest
def eE_:Vaunid.One->Fm
 | .fst => .fst | .snd => .snd | .root => .root | .pow _ => .pow
noncomputable def a4_:Term->List Nat
 | .leaf l=>Vaunid.txt (dd_ l)
 | .one o _=>Vaunid.txt (eE_ o).word
 | .two o _ _=>Vaunid.txt (jy_ o).word
 | .three o _ _ _=>Vaunid.txt (match o with | .cond=>Fm.if_.word | .fold=>Fm.fold.word)
 | .fn _ _=>Vaunid.txt Fm.fn.word
 | .rec_ _ _ _=>Vaunid.txt Fm.rec_.word
 | .let_ _ _ _=>Vaunid.txt Fm.let_.word
 | .case _ _ _ _ _=>Vaunid.txt Fm.case.word
noncomputable def ee_:Term->List (List Nat)
 | .leaf l=>ba_ l
 | .one (.pow n) _=>[Vaunid.decimalInt n]
 | .fn x _=>[x]
 | .rec_ f x _=>[f,x]
 | .let_ x _ _=>[x]
 | .case _ _ h t _=>[h,t]
 | _=>[]
noncomputable def bD_:Term->List Term
 | .leaf _=>[]
 | .one _ a=>[a]
 | .two _ a b=>[a,b]
 | .three _ a b c=>[a,b,c]
 | .fn _ a=>[a]
 | .rec_ _ _ a=>[a]
 | .let_ _ a b=>[a,b]
 | .case l a _ _ b=>[l,a,b]
mutual
inductive Rep:Term->Tr->Prop
 | mk {t:Term}{b e:Nat}{ps:List Tr}:Reps (bD_ t) ps->Rep t (.mk (a4_ t) (ee_ t) b e ps)
inductive Reps:List Term->List Tr->Prop
 | nil:Reps [] []
 | cons {t:Term}{r:Tr}{ts:List Term}{rs:List Tr}:Rep t r->Reps ts rs->Reps (t::ts) (r::rs)
end
mutual
noncomputable def ct_:Tr->List Nat
 | .mk _ _ b _ ps=>b::cs_ ps
noncomputable def cs_:List Tr->List Nat
 | []=>[]
 | t::r=>ct_ t++cs_ r
end
noncomputable def e7_:List Fm:=[.fn,.rec_,.let_,.if_,.app,.pair,.fst,.snd,.cons,.case,.fold,.plus,.minus,.times,.over,.less,.equal,.floor,.rest,.root,.pow]
noncomputable def Fm.kt:Fm->List String
 | .fn=>["name","body"] | .rec_=>["name","name","body"] | .let_=>["name","part","body"] | .if_=>["part","part","part"] | .app=>["part","part"] | .pair=>["part","part"] | .fst=>["part"] | .snd=>["part"] | .cons=>["part","part"]
 | .case=>["part","part","name","name","body"] | .fold=>["part","part","part"] | .plus=>["part","part"] | .minus=>["part","part"] | .times=>["part","part"] | .over=>["part","part"] | .less=>["part","part"] | .equal=>["part","part"]
 | .floor=>["part","part"] | .rest=>["part","part"] | .root=>["part"] | .pow=>["part","power"]
noncomputable def bJ_ (ad:Fm->Addr):List (Str×V):=[("fn",.ref (ad .fn)),("rec",.ref (ad .rec_)),("let",.ref (ad .let_)),("if",.ref (ad .if_)),("apply",.ref (ad .app)),("pair",.ref (ad .pair)),("fst",.ref (ad .fst)),("snd",.ref (ad .snd)),("cons",.ref (ad .cons)),("case",.ref (ad .case)),("fold",.ref (ad .fold)),
 ("+",.ref (ad .plus)),("-",.ref (ad .minus)),("*",.ref (ad .times)),("/",.ref (ad .over)),("<",.ref (ad .less)),("=",.ref (ad .equal)),("floor",.ref (ad .floor)),("rest",.ref (ad .rest)),("root",.ref (ad .root)),("^",.ref (ad .pow))]
theorem l5_ {ad:Fm->Addr}:((bJ_ ad).map (·.1)).Nodup:=by
 have e:(bJ_ ad).map (·.1)=e7_.map fun f=>Str.ofString f.word:=rfl;rw [e];decide +kernel
theorem kP_ (ad:Fm->Addr) (f:Fm):bP_ (bJ_ ad) (Str.ofString f.word)=some (.ref (ad f)):=by
 cases f <;> rfl
noncomputable def de_ (x:List Nat):Bool:=e7_.any fun f=>Vaunid.txt f.word == x
theorem iD_ {A:Type} (p:A->Bool) : ∀ l:List A,(l.find? p).isSome=l.any p
 | []=>rfl
 | x::r=>by
  rw [find?_cons,any_cons,<- iD_ p r];cases p x <;> rfl
theorem jg_ (ad:Fm->Addr) (x:List Nat):(bP_ (bJ_ ad) (S x)).isSome=de_ x:=by
 unfold bP_ de_;rw [Option.isSome_map,iD_];have e2:(bJ_ ad).any (fun p=>decide (p.1=S x))=((bJ_ ad).map (·.1)).any fun s=>decide (s=S x):=by rw [any_map];rfl
 rw [e2,show (bJ_ ad).map (·.1)=e7_.map fun f=>Str.ofString f.word from rfl,any_map];congr 1
 funext f
 show decide (Str.ofString f.word=S x)=_;rw [aq_,Bool.eq_iff_iff];simp only [decide_eq_true_eq,beq_iff_eq,bH_]
open Vaunid (Token txt word sign)
inductive SK where
 | n | p (body:Bool) | pw
 deriving DecidableEq
noncomputable def SK.w:SK->String
 | .n=>"name" | .p false=>"part" | .p true=>"body" | .pw=>"power"
def SK.k:SK->Kind
 | .n => .name | .p _ => .part | .pw => .power
noncomputable def Fm.sk:Fm->List SK
 | .fn=>[.n,.p true] | .rec_=>[.n,.n,.p true] | .let_=>[.n,.p false,.p true] | .if_=>[.p false,.p false,.p false] | .app=>[.p false,.p false] | .pair=>[.p false,.p false] | .fst=>[.p false] | .snd=>[.p false] | .cons=>[.p false,.p false]
 | .case=>[.p false,.p false,.n,.n,.p true] | .fold=>[.p false,.p false,.p false] | .plus=>[.p false,.p false] | .minus=>[.p false,.p false] | .times=>[.p false,.p false] | .over=>[.p false,.p false] | .less=>[.p false,.p false] | .equal=>[.p false,.p false]
 | .floor=>[.p false,.p false] | .rest=>[.p false,.p false] | .root=>[.p false] | .pow=>[.p false,.pw]
theorem oq_ (f:Fm):f.sk.map SK.w=f.kt:=by cases f <;> rfl
theorem lz_ (f:Fm):f.sk.map SK.k=f.kinds:=by cases f <;> rfl
structure PF where
 form:List Nat
 ws:List (List Nat)
 b:Nat
 ts:List Tr
 ks:List SK
 c:String
 d:Nat
structure MS where
 fs:List PF
 l:Toks
 res:List Tr
noncomputable def sent (hl:Nat):Token:={ tok := .sign (txt "end"),start:=hl,halt_:=hl }
noncomputable def gT_ (t:Token) (x:Leaf):Tr := .mk (txt (dd_ x)) (ba_ x) t.start t.halt_ []
noncomputable def eg_:Vaunid.Tok->List Nat
 | .word w=>w
 | _=>[]
def hK_:Vaunid.Tok->List Nat
 | .num v _=>Vaunid.shownLit v
 | _=>[]
noncomputable def PF.done (pf:PF) (e:Nat):Tr := .mk pf.form pf.ws pf.b e pf.ts
noncomputable def dK_ (b d:Nat) (l:Toks):PF:={ form:=txt (an_ l).1.word,ws:=[],b:=b,ts:=[],ks:=(an_ l).1.sk,c:=")",d:=d }
noncomputable def b1_:MS->Option (Res MS)
 | ⟨pf::fs,t::l,res⟩=>match pf.ks with
  | []=>some (if kindOf t.tok=txt pf.c then (match fs with
    | [] => .ok ⟨[],l,[pf.done t.halt_]⟩
    | g::fs => .ok ⟨{ g with ts:=g.ts++[pf.done t.halt_] }::fs,l,res⟩) else fault 6 t.start)
  | .p _::ks =>
   if pf.d=40 then some (fault 8 t.start)
   else if kindOf t.tok=txt "(" then (if l.isEmpty=true then none else some (.ok ⟨dK_ t.start (pf.d+1) l::{ pf with ks:=ks }::fs,(an_ l).2,res⟩))
   else match Vaunid.leafOf t.tok with
    | some x=>some (.ok ⟨{ pf with ks:=ks,ts:=pf.ts++[gT_ t x] }::fs,l,res⟩)
    | none=>some (fault 6 t.start)
  | .n::ks=>some (if kindOf t.tok=txt "name" then .ok ⟨{ pf with ks:=ks,ws:=pf.ws++[eg_ t.tok] }::fs,l,res⟩ else fault 6 t.start)
  | .pw::ks=>some (if kindOf t.tok=txt "digit" then .ok ⟨{ pf with ks:=ks,ws:=pf.ws++[hK_ t.tok] }::fs,l,res⟩ else fault 6 t.start)
 | _=>none
inductive Run:MS->Res Tr->Nat->Prop
 | done {l:Toks}{tr:Tr}:Run ⟨[],l,[tr]⟩ (.ok tr) 0
 | bad {s:MS}{e:Vaunid.Fault}:b1_ s=some (.error e)->Run s (.error e) 1
 | go {s s':MS}{R:Res Tr}{n:Nat}:b1_ s=some (.ok s')->Run s' R n->Run s R (n+1)
def Goes (s s':MS):Prop:=∀ R n,Run s' R n->∃ m,Run s R m
theorem Goes.refl (s:MS):Goes s s:=fun R n h=>⟨n,h⟩
theorem Goes.trans {a b c:MS} (h:Goes a b) (g:Goes b c):Goes a c:=fun R n r=>let ⟨m,q⟩:=g R n r;h R m q
theorem Goes.one {s s':MS} (h:b1_ s=some (.ok s')):Goes s s':=fun R n r=>⟨n+1,.go h r⟩
def aP_:Vaunid.Tok->Prop
 | .word w=>Vaunid.isWord w=true/\w.length<=12
 | .num v d=>(∀ m,v.measure=some m->m≠[]/\m.length<=10000)/\v.top.natAbs<10 ^ 12/\v.low<10 ^ 12/\∀ n,d=some n->v=⟨n,1,none⟩
 | .sign s=>s∈coreSigns\/s=txt "end"
theorem eN_ {k:Vaunid.Tok} (g:aP_ k):kindOf k=txt "name"↔∃ w,k = .word w/\isName w=true:=by
 cases k with
 | word w =>
  simp only [kindOf];by_cases h:isTaken w=true
  ·rw [if_pos h]
   constructor
   ·intro e
    subst e;exact absurd h (by decide +kernel)
   rintro ⟨w',e,q⟩
   cases e;unfold isName at q;rw [h] at q;simp at q
  rw [if_neg h];refine ⟨fun _=>⟨w,rfl,?_⟩,fun _=>rfl⟩;unfold isName;rw [g.1,Bool.eq_false_iff.mpr h];simp only [MOSTSIGNS,Bool.not_false,Bool.and_true,Bool.true_and];exact decide_eq_true g.2
 | num v d =>
  constructor
  ·intro e
   simp only [kindOf] at e;split at e
   ·exact absurd e (by decide +kernel)
   exact absurd e (by decide +kernel)
  rintro ⟨w,e,_⟩;cases e
 | sign s =>
 constructor
 ·intro e
  have e:s=txt "name":=e;subst e;rcases g with q | q
  ·exact absurd q (by decide +kernel)
  exact absurd q (by decide +kernel)
 rintro ⟨w,e,_⟩;cases e
theorem dy_ {k:Vaunid.Tok} (g:aP_ k):kindOf k=txt "digit"↔∃ v n,k = .num v (some n):=by
 cases k with
 | word w =>
  simp only [kindOf]
  constructor
  ·intro e
   split at e
   ·rename_i h
    subst e;exact absurd h (by decide +kernel)
   exact absurd e (by decide +kernel)
  rintro ⟨v,n,e⟩;cases e
 | num v d =>
  simp only [kindOf];cases d with
  | none=>exact ⟨fun e=>absurd e (by decide +kernel),fun ⟨_,_,e⟩=>by cases e⟩
  | some n=>exact ⟨fun _=>⟨v,n,rfl⟩,fun _=>rfl⟩
 | sign s =>
 constructor
 ·intro e
  have e:s=txt "digit":=e;subst e;rcases g with q | q
  ·exact absurd q (by decide +kernel)
  exact absurd q (by decide +kernel)
 rintro ⟨v,n,e⟩;cases e
theorem eL_ {k:Vaunid.Tok} (g:aP_ k) {x:String} (h:isTaken (txt x)=false) (h1 : ¬ txt "name"=txt x) (h2 : ¬ txt "digit"=txt x) (h3 : ¬ txt "number"=txt x):kindOf k=txt x↔k=sign x:=by
 cases k with
 | word w =>
  simp only [kindOf]
  constructor
  ·intro e
   split at e
   ·rename_i q
    subst e;rw [h] at q;cases q
   exact absurd e h1
  intro e;cases e
 | num v d =>
  simp only [kindOf]
  constructor
  ·intro e
   split at e
   ·exact absurd e h2
   exact absurd e h3
  intro e;cases e
 | sign s=>exact ⟨fun e=>by show Vaunid.Tok.sign s=Vaunid.Tok.sign _;rw [show s=txt x from e],fun e=>by cases e;rfl⟩
theorem eM_ {k:Vaunid.Tok} (g:aP_ k):kindOf k=txt "("↔k=sign "(":=eL_ g (by decide +kernel) (by decide +kernel) (by decide +kernel) (by decide +kernel)
theorem jb_ {k:Vaunid.Tok} (g:aP_ k):kindOf k=txt ")"↔k=sign ")":=eL_ g (by decide +kernel) (by decide +kernel) (by decide +kernel) (by decide +kernel)
theorem l1_ {k:Vaunid.Tok} (g:aP_ k):kindOf k=txt "end"↔k=sign "end":=eL_ g (by decide +kernel) (by decide +kernel) (by decide +kernel) (by decide +kernel)
noncomputable def Fm.tok:Fm->Vaunid.Tok
 | .plus=>sign "+" | .minus=>sign "-" | .times=>sign "*" | .over=>sign "/" | .less=>sign "<" | .equal=>sign "=" | .pow=>sign "^"
 | f=>Vaunid.word f.word
theorem aH_ {c:Prop} [Decidable c] {a f:Fm}{r:Option Fm} (h:(if c then some a else r)=some f):(c/\a=f)\/r=some f:=by
 by_cases q:c
 ·rw [if_pos q] at h;exact .inl ⟨q,Option.some.inj h⟩
 rw [if_neg q] at h;exact .inr h
theorem nO_ {k:Vaunid.Tok}{f:Fm} (h:fmOf k=some f):k=f.tok:=by
 unfold fmOf at h;rcases aH_ h with ⟨q,rfl⟩ | h
 ·exact q
 rcases aH_ h with ⟨q,rfl⟩ | h
 ·exact q
 rcases aH_ h with ⟨q,rfl⟩ | h
 ·exact q
 rcases aH_ h with ⟨q,rfl⟩ | h
 ·exact q
 rcases aH_ h with ⟨q,rfl⟩ | h
 ·exact q
 rcases aH_ h with ⟨q,rfl⟩ | h
 ·exact q
 rcases aH_ h with ⟨q,rfl⟩ | h
 ·exact q
 rcases aH_ h with ⟨q,rfl⟩ | h
 ·exact q
 rcases aH_ h with ⟨q,rfl⟩ | h
 ·exact q
 rcases aH_ h with ⟨q,rfl⟩ | h
 ·exact q
 rcases aH_ h with ⟨q,rfl⟩ | h
 ·exact q
 rcases aH_ h with ⟨q,rfl⟩ | h
 ·exact q
 rcases aH_ h with ⟨q,rfl⟩ | h
 ·exact q
 rcases aH_ h with ⟨q,rfl⟩ | h
 ·exact q
 rcases aH_ h with ⟨q,rfl⟩ | h
 ·exact q
 rcases aH_ h with ⟨q,rfl⟩ | h
 ·exact q
 rcases aH_ h with ⟨q,rfl⟩ | h
 ·exact q
 rcases aH_ h with ⟨q,rfl⟩ | h
 ·exact q
 rcases aH_ h with ⟨q,rfl⟩ | h
 ·exact q
 rcases aH_ h with ⟨q,rfl⟩ | h
 ·exact q
 cases h
theorem kR_ {k:Vaunid.Tok}{f:Fm} (h:fmOf k=some f):kindOf k=txt f.word:=by
 have e:=nO_ h;rw [e];rw [e] at h;cases f <;> first | (decide +kernel) | exact absurd h (by decide +kernel)
theorem i6_ (x:List Nat):de_ x=true↔∃ f∈e7_,txt f.word=x:=by
 unfold de_;rw [List.any_eq_true];simp only [beq_iff_eq]
theorem jh_ : ∀ f∈e7_,isTaken (txt f.word)=true->fmOf (word f.word)=some f:=by
 intro f hf;cases f <;> first | (intro _;decide +kernel) | (intro h;exact absurd h (by decide +kernel))
theorem dB_ : ∀ f∈e7_,¬ txt f.word=txt "name"/\¬ txt f.word=txt "digit"/\¬ txt f.word=txt "number":=by
 intro f hf;cases f <;> decide +kernel
theorem ji_ : ∀ f∈e7_,(txt f.word∈coreSigns\/txt f.word=txt "end")->fmOf (sign f.word)=some f:=by
 intro f hf;cases f <;> first | (intro _;decide +kernel) | (intro h;exact absurd h (by decide +kernel))
theorem kM_ {k:Vaunid.Tok} (g:aP_ k):de_ (kindOf k)=(fmOf k).isSome:=by
 rw [Bool.eq_iff_iff,i6_]
 constructor
 ·rintro ⟨f,hf,e⟩
  cases k with
  | word w =>
   simp only [kindOf] at e;split at e
   ·rename_i q
    rw [<- e] at q;have:=jh_ f hf q;have e2:Vaunid.Tok.word w=word f.word:=by show _=Vaunid.Tok.word _;rw [e]
    rw [e2,this];rfl
   exact absurd e (dB_ f hf).1
  | num v d =>
   simp only [kindOf] at e;split at e
   ·exact absurd e (dB_ f hf).2.1
   exact absurd e (dB_ f hf).2.2
  | sign s =>
  have e:txt f.word=s:=e;have g:s∈coreSigns\/s=txt "end":=g;rw [<- e] at g;have:=ji_ f hf g;have e2:Vaunid.Tok.sign s=sign f.word:=by show _=Vaunid.Tok.sign _;rw [e]
  rw [e2,this];rfl
 intro h;cases q:fmOf k with
 | none=>rw [q] at h;cases h
 | some f=>exact ⟨f,by cases f <;> decide,(kR_ q).symm⟩
open Vaunid (Token txt word sign)
mutual
noncomputable def hM_:Tr->Nat
 | .mk _ _ _ _ ps=>1+hN_ ps
noncomputable def hN_:List Tr->Nat
 | []=>0
 | t::r=>max (hM_ t) (hN_ r)
end
def io_:List Item->List Term
 | []=>[]
 | .p t _::r=>t::io_ r
 | _::r=>io_ r
noncomputable def ef_:List Item->List (List Nat)
 | []=>[]
 | .w x::r=>x::ef_ r
 | .n m::r=>Vaunid.decimalInt m::ef_ r
 | .p _ _::r=>ef_ r
inductive ItemsOk:List Kind->List Item->Prop
 | nil:ItemsOk [] []
 | name {x:List Nat}{ks:List Kind}{is:List Item}:ItemsOk ks is->ItemsOk (.name::ks) (.w x::is)
 | part {t:Term}{l:List Nat}{ks:List Kind}{is:List Item}:ItemsOk ks is->ItemsOk (.part::ks) (.p t l::is)
 | power {m:Int}{ks:List Kind}{is:List Item}:ItemsOk ks is->ItemsOk (.power::ks) (.n m::is)
theorem i8_ {ks:List Kind}{is:List Item} (h:ItemsOk (.name::ks) is) : ∃ x r,is = .w x::r/\ItemsOk ks r:=by
 cases h with
 | name h=>exact ⟨_,_,rfl,h⟩
theorem a1_ {ks:List Kind}{is:List Item} (h:ItemsOk (.part::ks) is) : ∃ t l r,is = .p t l::r/\ItemsOk ks r:=by
 cases h with
 | part h=>exact ⟨_,_,_,rfl,h⟩
theorem pg_ {ks:List Kind}{is:List Item} (h:ItemsOk (.power::ks) is) : ∃ m r,is = .n m::r/\ItemsOk ks r:=by
 cases h with
 | power h=>exact ⟨_,_,rfl,h⟩
theorem bN_ {is:List Item} (h:ItemsOk [] is):is=[]:=by
 cases h;rfl
theorem lY_ (f:Fm) (is:List Item) (h:ItemsOk f.kinds is):a4_ (f.mk is)=txt f.word/\ee_ (f.mk is)=ef_ is/\bD_ (f.mk is)=io_ is:=by
 cases f with
 | fn=>obtain ⟨x0,i0,rfl,g0⟩:=i8_ h;obtain ⟨t1,l1,i1,rfl,g1⟩:=a1_ g0;cases bN_ g1;exact ⟨rfl,rfl,rfl⟩
 | rec_=>obtain ⟨x0,i0,rfl,g0⟩:=i8_ h;obtain ⟨x1,i1,rfl,g1⟩:=i8_ g0;obtain ⟨t2,l2,i2,rfl,g2⟩:=a1_ g1;cases bN_ g2;exact ⟨rfl,rfl,rfl⟩
 | let_=>obtain ⟨x0,i0,rfl,g0⟩:=i8_ h;obtain ⟨t1,l1,i1,rfl,g1⟩:=a1_ g0;obtain ⟨t2,l2,i2,rfl,g2⟩:=a1_ g1;cases bN_ g2;exact ⟨rfl,rfl,rfl⟩
 | if_=>obtain ⟨t0,l0,i0,rfl,g0⟩:=a1_ h;obtain ⟨t1,l1,i1,rfl,g1⟩:=a1_ g0;obtain ⟨t2,l2,i2,rfl,g2⟩:=a1_ g1;cases bN_ g2;exact ⟨rfl,rfl,rfl⟩
 | app=>obtain ⟨t0,l0,i0,rfl,g0⟩:=a1_ h;obtain ⟨t1,l1,i1,rfl,g1⟩:=a1_ g0;cases bN_ g1;exact ⟨rfl,rfl,rfl⟩
 | pair=>obtain ⟨t0,l0,i0,rfl,g0⟩:=a1_ h;obtain ⟨t1,l1,i1,rfl,g1⟩:=a1_ g0;cases bN_ g1;exact ⟨rfl,rfl,rfl⟩
 | fst=>obtain ⟨t0,l0,i0,rfl,g0⟩:=a1_ h;cases bN_ g0;exact ⟨rfl,rfl,rfl⟩
 | snd=>obtain ⟨t0,l0,i0,rfl,g0⟩:=a1_ h;cases bN_ g0;exact ⟨rfl,rfl,rfl⟩
 | cons=>obtain ⟨t0,l0,i0,rfl,g0⟩:=a1_ h;obtain ⟨t1,l1,i1,rfl,g1⟩:=a1_ g0;cases bN_ g1;exact ⟨rfl,rfl,rfl⟩
 | case=>obtain ⟨t0,l0,i0,rfl,g0⟩:=a1_ h;obtain ⟨t1,l1,i1,rfl,g1⟩:=a1_ g0;obtain ⟨x2,i2,rfl,g2⟩:=i8_ g1;obtain ⟨x3,i3,rfl,g3⟩:=i8_ g2;obtain ⟨t4,l4,i4,rfl,g4⟩:=a1_ g3;cases bN_ g4;exact ⟨rfl,rfl,rfl⟩
 | fold=>obtain ⟨t0,l0,i0,rfl,g0⟩:=a1_ h;obtain ⟨t1,l1,i1,rfl,g1⟩:=a1_ g0;obtain ⟨t2,l2,i2,rfl,g2⟩:=a1_ g1;cases bN_ g2;exact ⟨rfl,rfl,rfl⟩
 | plus=>obtain ⟨t0,l0,i0,rfl,g0⟩:=a1_ h;obtain ⟨t1,l1,i1,rfl,g1⟩:=a1_ g0;cases bN_ g1;exact ⟨rfl,rfl,rfl⟩
 | minus=>obtain ⟨t0,l0,i0,rfl,g0⟩:=a1_ h;obtain ⟨t1,l1,i1,rfl,g1⟩:=a1_ g0;cases bN_ g1;exact ⟨rfl,rfl,rfl⟩
 | times=>obtain ⟨t0,l0,i0,rfl,g0⟩:=a1_ h;obtain ⟨t1,l1,i1,rfl,g1⟩:=a1_ g0;cases bN_ g1;exact ⟨rfl,rfl,rfl⟩
 | over=>obtain ⟨t0,l0,i0,rfl,g0⟩:=a1_ h;obtain ⟨t1,l1,i1,rfl,g1⟩:=a1_ g0;cases bN_ g1;exact ⟨rfl,rfl,rfl⟩
 | less=>obtain ⟨t0,l0,i0,rfl,g0⟩:=a1_ h;obtain ⟨t1,l1,i1,rfl,g1⟩:=a1_ g0;cases bN_ g1;exact ⟨rfl,rfl,rfl⟩
 | equal=>obtain ⟨t0,l0,i0,rfl,g0⟩:=a1_ h;obtain ⟨t1,l1,i1,rfl,g1⟩:=a1_ g0;cases bN_ g1;exact ⟨rfl,rfl,rfl⟩
 | floor=>obtain ⟨t0,l0,i0,rfl,g0⟩:=a1_ h;obtain ⟨t1,l1,i1,rfl,g1⟩:=a1_ g0;cases bN_ g1;exact ⟨rfl,rfl,rfl⟩
 | rest=>obtain ⟨t0,l0,i0,rfl,g0⟩:=a1_ h;obtain ⟨t1,l1,i1,rfl,g1⟩:=a1_ g0;cases bN_ g1;exact ⟨rfl,rfl,rfl⟩
 | root=>obtain ⟨t0,l0,i0,rfl,g0⟩:=a1_ h;cases bN_ g0;exact ⟨rfl,rfl,rfl⟩
 | pow=>obtain ⟨t0,l0,i0,rfl,g0⟩:=a1_ h;obtain ⟨m,i1,rfl,g1⟩:=pg_ g0;cases bN_ g1;exact ⟨rfl,rfl,rfl⟩
theorem ho_ (n:Int):Vaunid.shownLit ⟨n,1,none⟩=Vaunid.decimalInt n:=by
 unfold Vaunid.shownLit;simp
theorem hf_ {hl:Nat}{t:Token}{l:Toks} (g:aP_ t.tok):wantName hl (t::l)=if kindOf t.tok=txt "name" then .ok (eg_ t.tok,l) else fault 6 t.start:=by
 have q:=eN_ g;obtain ⟨k,s,h⟩:=t;cases k with
 | word w =>
  by_cases e:kindOf (.word w)=txt "name"
  ·obtain ⟨w',e1,e2⟩:=q.mp e
   cases e1;rw [if_pos e];show (if isName w=true then _ else _)=_;rw [if_pos e2];rfl
  have : ¬ isName w=true:=fun z=>e (q.mpr ⟨w,rfl,z⟩);rw [if_neg e];show (if isName w=true then _ else _)=_;rw [if_neg this]
 | num v d =>
  rw [if_neg fun e=>by obtain ⟨_,z,_⟩:=q.mp e;cases z];rfl
 | sign x =>
 rw [if_neg fun e=>by obtain ⟨_,z,_⟩:=q.mp e;cases z];rfl
theorem gj_ {hl:Nat}{t:Token}{l:Toks} (g:aP_ t.tok) (e:kindOf t.tok=txt "digit") : ∃ n,wantDigit hl (t::l) = .ok (n,l)/\hK_ t.tok=Vaunid.decimalInt n:=by
 obtain ⟨v,n,z⟩:=(dy_ g).mp e;obtain ⟨k,s,h⟩:=t;dsimp only at z g;subst z;have:=g.2.2.2 n rfl;subst this;exact ⟨n,rfl,ho_ n⟩
theorem gk_ {hl:Nat}{t:Token}{l:Toks} (g:aP_ t.tok) (e : ¬ kindOf t.tok=txt "digit"):wantDigit hl (t::l)=fault 6 t.start:=by
 have q:=dy_ g;obtain ⟨k,s,h⟩:=t;cases k with
 | word w=>rfl
 | num v d =>
  cases d with
  | none=>rfl
  | some n=>exact absurd (q.mpr ⟨v,n,rfl⟩) e
 | sign x=>rfl
theorem mY_ {hl:Nat}{x:String}{t:Token}{l:Toks} (h:kindOf t.tok=txt x↔t.tok=sign x):want hl (sign x) (t::l)=if kindOf t.tok=txt x then .ok l else fault 6 t.start:=by
 show (if t.tok=sign x then _ else _)=_;by_cases e:t.tok=sign x
 ·rw [if_pos e,if_pos (h.mpr e)]
 rw [if_neg e,if_neg fun z=>e (h.mp z)]
theorem kL_ (hl:Nat):aP_ (sent hl).tok := .inr rfl
def bf_ (l:Toks):Prop:=∀ k∈l,aP_ k.tok
theorem bf_.suf {p r:Toks} (h:bf_ (p++r)):bf_ r:=fun k hk=>h k (mem_append_right _ hk)
theorem bf_.sent {l:Toks} (h:bf_ l) (hl:Nat):bf_ (l++[sent hl]):=fun k hk=>by
 rcases List.mem_append.mp hk with q | q
 ·exact h k q
 rw [List.mem_singleton.mp q];exact kL_ hl
def mR_ (hl d:Nat) (ts:Toks):Prop:=∀ (form:List Nat) (ws:List (List Nat)) (b:Nat) (tr:List Tr) (bb:Bool) (ks:List SK) (c:String) (fs:List PF) (res:List Tr),match bu_ hl d ts with
 | .error e=>∃ n,Run ⟨⟨form,ws,b,tr,.p bb::ks,c,40 - d⟩::fs,ts++[sent hl],res⟩ (.error e) n
 | .ok (a,pl,r)=>∃ t,Rep a t/\ct_ t=pl/\hM_ t<=d/\pl.length+r.length<=ts.length/\(∃ pre,ts=pre++r) /\
  Goes ⟨⟨form,ws,b,tr,.p bb::ks,c,40 - d⟩::fs,ts++[sent hl],res⟩ ⟨⟨form,ws,b,tr++[t],ks,c,40 - d⟩::fs,r++[sent hl],res⟩
def n1_ (hl d:Nat) (sks:List SK) (ts:Toks):Prop:=∀ (form:List Nat) (ws:List (List Nat)) (b:Nat) (tr:List Tr) (c:String) (fs:List PF) (res:List Tr),match as_ hl (bu_ hl d) (sks.map SK.k) ts with
 | .error e=>∃ n,Run ⟨⟨form,ws,b,tr,sks,c,40 - d⟩::fs,ts++[sent hl],res⟩ (.error e) n
 | .ok (is,r)=>∃ trs,Reps (io_ is) trs/\cs_ trs=br_ is/\hN_ trs<=d/\(br_ is).length+r.length<=ts.length/\(∃ pre,ts=pre++r)/\ItemsOk (sks.map SK.k) is /\
  Goes ⟨⟨form,ws,b,tr,sks,c,40 - d⟩::fs,ts++[sent hl],res⟩ ⟨⟨form,ws++ef_ is,b,tr++trs,[],c,40 - d⟩::fs,r++[sent hl],res⟩
theorem c0_ {hl d N:Nat} (IH : ∀ ts,ts.length<=N->bf_ ts->mR_ hl d ts) : ∀ (sks:List SK) (ts:Toks),ts.length<=N->bf_ ts->n1_ hl d sks ts
 | [],ts,hN,hg=>fun form ws b tr c fs res=>by
  refine ⟨[],.nil,rfl,zero_le _,by show 0+_<=_;omega,⟨[],rfl⟩,.nil,?_⟩;show Goes _ ⟨⟨form,ws++[],b,tr++[],[],c,40 - d⟩::fs,ts++[sent hl],res⟩;rw [append_nil,append_nil];exact Goes.refl _
 | .n::sks,[],hN,hg=>fun form ws b tr c fs res=>⟨1,.bad rfl⟩
 | .n::sks,t::l,hN,hg=>fun form ws b tr c fs res=>by
  have gt:=hg t (mem_cons_self ..);have gl:bf_ l:=fun k hk=>hg k (mem_cons_of_mem _ hk);rw [length_cons] at hN;have ih:=c0_ IH sks l (by omega) gl;show match as_ hl (bu_ hl d) (.name::sks.map SK.k) (t::l) with | .error e=>_ | .ok (is,r)=>_
  unfold as_;rw [hf_ gt];by_cases e:kindOf t.tok=txt "name"
  ·rw [if_pos e]
   dsimp only;have g1:Goes ⟨⟨form,ws,b,tr,.n::sks,c,40 - d⟩::fs,(t::l)++[sent hl],res⟩ ⟨⟨form,ws++[eg_ t.tok],b,tr,sks,c,40 - d⟩::fs,l++[sent hl],res⟩:=Goes.one (by
    show some (if kindOf t.tok=txt "name" then _ else _)=_;rw [if_pos e];rfl)
   have ih:=ih form (ws++[eg_ t.tok]) b tr c fs res;cases h2:as_ hl (bu_ hl d) (sks.map SK.k) l with
   | error e2 =>
    rw [h2] at ih;obtain ⟨n,hn⟩:=ih;exact g1 _ _ hn
   | ok v =>
   obtain ⟨is,r⟩:=v;rw [h2] at ih;obtain ⟨trs,i1,i2,i3,i4,⟨pre,i5⟩,i6,i7⟩:=ih;refine ⟨trs,i1,i2,i3,Nat.le_trans i4 (le_succ _),⟨t::pre,by rw [i5];rfl⟩,.name i6,g1.trans ?_⟩;rw [append_assoc] at i7;exact i7
  rw [if_neg e];exact ⟨1,.bad (by
   show some (if kindOf t.tok=txt "name" then _ else _)=_;rw [if_neg e];rfl)⟩
 | .pw::sks,[],hN,hg=>fun form ws b tr c fs res=>⟨1,.bad rfl⟩
 | .pw::sks,t::l,hN,hg=>fun form ws b tr c fs res=>by
  have gt:=hg t (mem_cons_self ..);have gl:bf_ l:=fun k hk=>hg k (mem_cons_of_mem _ hk);rw [length_cons] at hN;have ih:=c0_ IH sks l (by omega) gl;show match as_ hl (bu_ hl d) (.power::sks.map SK.k) (t::l) with | .error e=>_ | .ok (is,r)=>_
  unfold as_;by_cases e:kindOf t.tok=txt "digit"
  ·obtain ⟨m,e1,e2⟩:=gj_ (hl:=hl) (l:=l) gt e
   rw [e1];dsimp only;have g1:Goes ⟨⟨form,ws,b,tr,.pw::sks,c,40 - d⟩::fs,(t::l)++[sent hl],res⟩ ⟨⟨form,ws++[hK_ t.tok],b,tr,sks,c,40 - d⟩::fs,l++[sent hl],res⟩:=Goes.one (by
    show some (if kindOf t.tok=txt "digit" then _ else _)=_;rw [if_pos e];rfl)
   have ih:=ih form (ws++[hK_ t.tok]) b tr c fs res;cases h2:as_ hl (bu_ hl d) (sks.map SK.k) l with
   | error e2 =>
    rw [h2] at ih;obtain ⟨n,hn⟩:=ih;exact g1 _ _ hn
   | ok v =>
   obtain ⟨is,r⟩:=v;rw [h2] at ih;obtain ⟨trs,i1,i2,i3,i4,⟨pre,i5⟩,i6,i7⟩:=ih;refine ⟨trs,i1,i2,i3,Nat.le_trans i4 (le_succ _),⟨t::pre,by rw [i5];rfl⟩,.power i6,g1.trans ?_⟩;rw [append_assoc,e2] at i7;rw [e2];exact i7
  rw [gk_ gt e];exact ⟨1,.bad (by
   show some (if kindOf t.tok=txt "digit" then _ else _)=_;rw [if_neg e];rfl)⟩
 | .p bb::sks,ts,hN,hg=>fun form ws b tr c fs res=>by
  have it:=IH ts hN hg form ws b tr bb sks c fs res;show match as_ hl (bu_ hl d) (.part::sks.map SK.k) ts with | .error e=>_ | .ok (is,r)=>_
  unfold as_;cases h1:bu_ hl d ts with
  | error e=>rw [h1] at it;exact it
  | ok v =>
  obtain ⟨a,pl,r⟩:=v;rw [h1] at it;obtain ⟨t,t1,t2,t3,t4,⟨pre,t5⟩,t6⟩:=it;dsimp only;have hr:r.length<=N:=by omega
  have gr:bf_ r:=by rw [t5] at hg;exact hg.suf
  have ih:=c0_ IH sks r hr gr form ws b (tr++[t]) c fs res;cases h2:as_ hl (bu_ hl d) (sks.map SK.k) r with
  | error e2 =>
   rw [h2] at ih;obtain ⟨n,hn⟩:=ih;exact t6 _ _ hn
  | ok v =>
  obtain ⟨is,r2⟩:=v;rw [h2] at ih;obtain ⟨trs,i1,i2,i3,i4,⟨pre2,i5⟩,i6,i7⟩:=ih;refine ⟨t::trs,.cons t1 i1,?_,Nat.max_le.mpr ⟨t3,i3⟩,?_,⟨pre++pre2,by rw [t5,i5,append_assoc]⟩,.part i6,t6.trans ?_⟩
  ·show ct_ t++cs_ trs=pl++br_ is
   rw [t2,i2]
  ·show (pl++br_ is).length+_<=_
   rw [length_append];omega
  rw [append_assoc] at i7;exact i7
theorem eI_ (hl:Nat):kindOf (sent hl).tok=txt "end":=rfl
theorem fE_ (hl:Nat) (r:Toks):an_ (r++[sent hl])=((an_ r).1,(an_ r).2++[sent hl]):=by
 cases r with
 | nil=>rfl
 | cons k r =>
 show an_ (k::(r++[sent hl]))=_;unfold an_;dsimp only;cases fmOf k.tok <;> rfl
theorem eZ_ (r:Toks) : ∃ pre,r=pre++(an_ r).2:=by
 cases r with
 | nil=>exact ⟨[],rfl⟩
 | cons k r =>
 unfold an_;dsimp only;cases fmOf k.tok with
 | none=>exact ⟨[],rfl⟩
 | some f=>exact ⟨[k],rfl⟩
theorem kK_ (hl:Nat) (ts:Toks) : ∃ t l,ts++[sent hl]=t::l/\t.start=Vaunid.placeOf hl ts:=by
 cases ts with
 | nil=>exact ⟨_,_,rfl,rfl⟩
 | cons k r=>exact ⟨_,_,rfl,rfl⟩
theorem h5_ (hl:Nat) : ∀ (N:Nat) (ts:Toks) (d:Nat),ts.length<=N->d<=40->bf_ ts->mR_ hl d ts
 | N,ts,0,hN,hd,hg=>fun form ws b tr bb ks c fs res=>by
  rw [jo_];obtain ⟨t,l,e1,e2⟩:=kK_ hl ts;exact ⟨1,.bad (by rw [e1,<- e2];rfl)⟩
 | N,[],d+1,hN,hd,hg=>fun form ws b tr bb ks c fs res=>by
  rw [k4_];refine ⟨1,.bad ?_⟩;show (if 40 - (d+1)=40 then _ else if kindOf (sent hl).tok=txt "(" then _ else some (fault 6 hl))=_;rw [if_neg (by omega),if_neg (by rw [eI_];decide +kernel)];rfl
 | 0,k::r,d+1,hN,hd,hg=>by simp at hN
 | N+1,k::r,d+1,hN,hd,hg=>fun form ws b tr bb ks c fs res=>by
  have gk:=hg k (mem_cons_self ..);have gr:bf_ r:=fun k hk=>hg k (mem_cons_of_mem _ hk);rw [length_cons] at hN;by_cases hp:k.tok=sign "("
  ·rw [jq_ hp]
   obtain ⟨pre,epre⟩:=eZ_ r;have gb:bf_ (an_ r).2:=by rw [epre] at gr;exact gr.suf
   have lb:=e0_ r;have st:=c0_ (fun ts h g=>h5_ hl N ts d h (by omega) g) (an_ r).1.sk (an_ r).2 (by omega) gb (txt (an_ r).1.word) [] k.start [] ")" (⟨form,ws,b,tr,ks,c,40 - (d+1)⟩::fs) res;have g1:Goes ⟨⟨form,ws,b,tr,.p bb::ks,c,40 - (d+1)⟩::fs,k::r++[sent hl],res⟩ ⟨⟨txt (an_ r).1.word,[],k.start,[],(an_ r).1.sk,")",40 - d⟩::⟨form,ws,b,tr,ks,c,40 - (d+1)⟩::fs,(an_ r).2++[sent hl],res⟩:=Goes.one (by
    show (if 40 - (d+1)=40 then _ else if kindOf k.tok=txt "(" then (if (r++[sent hl]).isEmpty=true then none else some (Except.ok ⟨dK_ k.start (40 - (d+1)+1) (r++[sent hl])::_::fs,(an_ (r++[sent hl])).2,res⟩:Res MS)) else _)=_;rw [if_neg (by omega),if_pos ((eM_ gk).mpr hp),if_neg (by cases r <;> simp),fE_,show 40 - (d+1)+1=40 - d by omega]
    unfold dK_;rw [fE_])
   unfold co_;rw [lz_] at st;cases h1:as_ hl (bu_ hl d) (an_ r).1.kinds (an_ r).2 with
   | error e =>
    rw [h1] at st;obtain ⟨n,hn⟩:=st;exact g1 _ _ hn
   | ok v =>
   obtain ⟨is,q⟩:=v;rw [h1] at st;obtain ⟨trs,i1,i2,i3,i4,⟨pre2,i5⟩,i6,i7⟩:=st;rw [nil_append,nil_append] at i7;have g2:=g1.trans i7;have gq:bf_ q:=by rw [i5] at gb;exact gb.suf
   obtain ⟨m1,m2,m3⟩:=lY_ _ _ i6;unfold f8_;dsimp only;cases q with
   | nil =>
    obtain ⟨m,hm⟩:=g2 (.error ⟨6,hl⟩) 1 (.bad (by
     show some (if kindOf (sent hl).tok=txt ")" then _ else fault 6 hl)=_;rw [if_neg (by rw [eI_];decide +kernel)];rfl))
    exact ⟨m,hm⟩
   | cons x q =>
   have gx:=gq x (mem_cons_self ..);rw [mY_ (jb_ gx)];by_cases hx:kindOf x.tok=txt ")"
   ·rw [if_pos hx]
    dsimp only;have g3:=g2.trans (Goes.one (s':=⟨⟨form,ws,b,tr++[.mk (txt (an_ r).1.word) (ef_ is) k.start x.halt_ trs],ks,c,40 - (d+1)⟩::fs,q++[sent hl],res⟩) (by
     show some (if kindOf x.tok=txt ")" then _ else _)=_;rw [if_pos hx];rfl))
    refine ⟨.mk (txt (an_ r).1.word) (ef_ is) k.start x.halt_ trs,?_,?_,?_,?_,?_,g3⟩
    ·rw [<- m1,<- m2]
     rw [<- m3] at i1;exact .mk i1
    ·show k.start::cs_ trs=_
     rw [i2]
    ·show 1+hN_ trs<=d+1
     omega
    ·rw [length_cons] at i4 ⊢
     rw [length_cons];omega
    exact ⟨k::(pre++(pre2++[x])),by
     rw [cons_append,append_assoc,append_assoc];show _=k::(pre++(pre2++x::q));rw [<- i5,<- epre]⟩
   rw [if_neg hx];obtain ⟨m,hm⟩:=g2 (.error ⟨6,x.start⟩) 1 (.bad (by
    show some (if kindOf x.tok=txt ")" then _ else fault 6 x.start)=_;rw [if_neg hx];rfl))
   exact ⟨m,hm⟩
  rw [jp_ hp];cases h1:Vaunid.leafOf k.tok with
  | none =>
   refine ⟨1,.bad ?_⟩;show (if 40 - (d+1)=40 then _ else if kindOf k.tok=txt "(" then _ else match Vaunid.leafOf k.tok with | some x=>_ | none=>some (fault 6 k.start))=_
   rw [if_neg (by omega),if_neg (fun z=>hp ((eM_ gk).mp z)),h1];rfl
  | some x =>
  refine ⟨gT_ k x,?_,rfl,?_,?_,⟨[k],rfl⟩,Goes.one ?_⟩
  ·exact Rep.mk (t := .leaf x) .nil
  ·show 1+0<=d+1
   omega
  ·show 1+r.length<=r.length+1
   omega
  show (if 40 - (d+1)=40 then _ else if kindOf k.tok=txt "(" then _ else match Vaunid.leafOf k.tok with | some x=>_ | none=>some (fault 6 k.start))=_
  rw [if_neg (by omega),if_neg (fun z=>hp ((eM_ gk).mp z)),h1];rfl
noncomputable def fa_ (hl:Nat) (ts:Toks):MS:=⟨[⟨txt "whole",[],0,[],[.p false],"end",0⟩],ts++[sent hl],[]⟩
theorem ju_ (hl:Nat) (ts:Toks) (hg:bf_ ts) (h0 : ∀ k∈ts,¬ k.tok=sign "end"):match bu_ hl 40 ts with
  | .error e=>∃ n,Run (fa_ hl ts) (.error e) n
  | .ok (a,pl,r)=>match r with
   | k::_=>∃ n,Run (fa_ hl ts) (.error ⟨6,k.start⟩) n
   | []=>∃ t n e,Rep a t/\ct_ t=pl/\hM_ t<=40/\pl.length<=ts.length/\Run (fa_ hl ts) (.ok (.mk (txt "whole") [] 0 e [t])) n:=by
 have h:=h5_ hl ts.length ts 40 (Nat.le_refl _) (Nat.le_refl _) hg (txt "whole") [] 0 [] false [] "end" [] [];cases h1:bu_ hl 40 ts with
 | error e=>rw [h1] at h;exact h
 | ok v =>
 obtain ⟨a,pl,r⟩:=v;rw [h1] at h;obtain ⟨t,t1,t2,t3,t4,⟨pre,t5⟩,t6⟩:=h;cases r with
 | nil =>
  obtain ⟨m,hm⟩:=t6 (.ok (.mk (txt "whole") [] 0 hl [t])) 1 (.go (s':=⟨[],[],[.mk (txt "whole") [] 0 hl [t]]⟩) (by
   show some (if kindOf (sent hl).tok=txt "end" then _ else _)=_;rw [if_pos (eI_ hl)];rfl) .done)
  exact ⟨t,m,hl,t1,t2,t3,by have:([]:Toks).length=0:=rfl;omega,hm⟩
 | cons k q =>
 have gk:aP_ k.tok:=hg k (by rw [t5];exact mem_append_right _ (mem_cons_self ..));have hk : ¬ kindOf k.tok=txt "end":=fun z=>h0 k (by rw [t5];exact mem_append_right _ (mem_cons_self ..)) ((l1_ gk).mp z);obtain ⟨m,hm⟩:=t6 (.error ⟨6,k.start⟩) 1 (.bad (by
  show some (if kindOf k.tok=txt "end" then _ else fault 6 k.start)=_;rw [if_neg hk];rfl))
 exact ⟨m,hm⟩
open Vaunid (Token txt word sign isDigit isSmall inWord)
theorem lQ_ {s:List Nat}{c:Nat}{r:List Nat} (e:s=c::r) (hc:isDigit c=true) {o u:Nat} (h:(numberText s).2.1=some (o,u)):o<10 ^ 12/\u<10 ^ 12/\((numberText s).1=1->u=1):=by
 have key : ∀ (b:Bool) (T L o u:Nat),(if b=true then some (T / T.gcd L,L / T.gcd L) else none)=some (o,u)->b=true/\T / T.gcd L=o/\L / T.gcd L=u:=by
  intro b T L o u h;cases b with
  | true=>rw [if_pos rfl] at h;cases h;exact ⟨rfl,rfl,rfl⟩
  | false=>cases h
 unfold numberText at h ⊢;dsimp only at h ⊢;obtain ⟨hg,e1,e2⟩:=key _ _ _ _ _ h;rw [e1,e2] at hg;simp only [and_eq_true,decide_eq_true_eq,fits] at hg;refine ⟨hg.2.2.2.1,hg.2.2.2.2,fun h1=>?_⟩;have ha:1<=(s.takeWhile isDigit).length:=by
  rw [e,takeWhile_cons,hc];exact Nat.succ_le_succ (zero_le _)
 by_cases hx:(secondRow (s.dropWhile isDigit)).1=0
 ·rw [hx] at e2
  simp at e2;exact e2.symm
 rw [if_neg hx] at h1;omega
theorem i9_ {p:Nat}{s r:List Nat}{k:Token} (hl:s.length<=10000) (h:token true p s = .ok (k,r)):aP_ k.tok/\¬ k.tok=sign "end":=by
 unfold token at h;cases s with
 | nil=>cases h
 | cons c s =>
 dsimp only at h;split at h
 ·rename_i hc
  unfold wordToken at h;dsimp only at h;split at h
  ·cases h
  rename_i hn;cases h;refine ⟨⟨?_,by simp only [MOSTSIGNS] at hn;omega⟩,by intro z;cases z⟩;rw [takeWhile_cons,dp_ hc];show (isSmall c && (s.takeWhile inWord).all inWord)=true;rw [hc];exact List.all_eq_true.mpr (ek_ _)
 have num : ∀ neg:Bool,(∃ c' s',(if neg=true then (c::s).drop 1 else c::s)=c'::s'/\isDigit c'=true)->numberToken neg p (c::s) = .ok (k,r)->aP_ k.tok/\¬ k.tok=sign "end":=by
  rintro neg ⟨c',s',e1,e2⟩ h
  unfold numberToken at h;dsimp only at h;cases h1:(numberText (if neg=true then (c::s).drop 1 else c::s)).2.1 with
  | none=>rw [h1] at h;cases h
  | some v =>
  obtain ⟨o,u⟩:=v;rw [h1] at h;dsimp only at h;obtain ⟨b1,b2,b3⟩:=lQ_ e1 e2 h1;have bt:(if neg=true then -(o:Int) else (o:Int)).natAbs<10 ^ 12:=by
   split
   ·rw [Int.natAbs_neg];exact b1
   exact b1
  have nr:=fZ_ (if neg=true then (c::s).drop 1 else c::s);split at h
  ·rename_i r' hr
   split at h
   ·cases h
   rename_i hm;cases h;refine ⟨⟨fun m e=>?_,bt,b2,fun n e=>by cases e⟩,by intro z;cases z⟩;cases e;have hm2:measureText ((r'.takeWhile fun c=>c != 93).length+1) (r'.takeWhile fun c=>c != 93)=true:=by
    cases q:measureText ((r'.takeWhile fun c=>c != 93).length+1) (r'.takeWhile fun c=>c != 93) with
    | true=>rfl
    | false=>exact absurd (.inr q) hm
   refine ⟨iZ_ hm2,?_⟩;have l1:=dU_ (fun c=>c != 93) r';have l2:r'.length+1=((if neg=true then (c::s).drop 1 else c::s).drop (numberText (if neg=true then (c::s).drop 1 else c::s)).1).length:=by rw [<- nr.1,hr];rfl
   rw [length_drop] at l2;have l3:(if neg=true then (c::s).drop 1 else c::s).length<=(c::s).length:=by
    split
    ·rw [length_drop];omega
    exact Nat.le_refl _
   omega
  cases h;refine ⟨⟨fun m e=>(by cases e),bt,b2,fun n e=>?_⟩,by intro z;cases z⟩;by_cases h1:(numberText (if neg=true then (c::s).drop 1 else c::s)).1=1
  ·rw [if_pos h1] at e
   cases e;rw [b3 h1]
  rw [if_neg h1] at e;cases e
 split at h
 ·rename_i hd
  exact num false ⟨c,s,rfl,hd⟩ h
 split at h
 ·rename_i hm
  refine num true ?_ h;obtain ⟨_,hm⟩:=hm;unfold minusDigit at hm;split at hm
  ·rename_i d s' e
   cases e;exact ⟨d,s',rfl,hm⟩
  cases hm
 unfold signToken at h;rw [if_pos rfl] at h;cases h1:Vaunid.coreSigns.find? (fun x=>x.isPrefixOf (c::s)) with
 | none=>rw [h1] at h;cases h
 | some x =>
 rw [h1] at h;cases h;have hm:=List.mem_of_find?_eq_some h1;refine ⟨.inl hm,fun z=>?_⟩;have z:Vaunid.Tok.sign x=Vaunid.Tok.sign _:=z;injection z with z;rw [z] at hm;exact absurd hm (by decide +kernel)
theorem cO_ : ∀ (n p:Nat) (s:List Nat) (l:List Token),s.length<=10000->tokens true n p s = .ok l->∀ k∈l,aP_ k.tok/\¬ k.tok=sign "end"
 | n,p,[],l,hl,h=>by
  have:l=[]:=by cases n <;> (cases h;rfl)
  subst this;simp
 | 0,p,c::r,l,hl,h=>by
  cases h;simp
 | n+1,p,c::r,l,hl,h=>by
  unfold tokens at h;have hl':r.length+1<=10000:=hl;split at h
  ·exact cO_ n _ r l (by omega) h
  split at h
  ·rename_i hz
   cases hz.1
  cases q:token true p (c::r) with
  | error e=>rw [q] at h;cases h
  | ok x =>
  obtain ⟨k,s⟩:=x;rw [q] at h;dsimp only at h;have tf:=bO_ q;have hs:s.length<=r.length:=by
   have h3:=tf.lt;rw [tf.rest,length_drop,length_cons];omega
  cases q2:tokens true n k.halt_ s with
  | error e=>rw [q2] at h;cases h
  | ok l2 =>
  rw [q2] at h;cases h;have:=cO_ n _ s l2 (by omega) q2;intro y hy;rcases List.mem_cons.mp hy with e | e
  ·rw [e];exact i9_ hl q
  exact this y e
open Vaunid (Token txt word sign)
noncomputable def hp_ (la:Addr) (i:Int):List (Str×V):=[("ahead",.ref la),("index",.int i)]
noncomputable def gr_ (k:Str) (o:Addr) (d:Int):List (Str×V):=[("kind",.str k),("owner",.ref o),("depth",.int d)]
def ap_ (xs:List Addr) (H H':Hp):Prop:=∀ a o,a∉xs->H a=some o->H' a=some o
theorem ap_.of {xs:List Addr}{H H':Hp} (s:Same H H'):ap_ xs H H':=fun a o _ e=>s a o e
theorem ap_.trans {xs:List Addr}{H H1 H2:Hp} (s:ap_ xs H H1) (r:ap_ xs H1 H2):ap_ xs H H2:=fun a o n e=>r a o n (s a o n e)
theorem ap_.more {xs ys:List Addr}{H H':Hp} (s:ap_ xs H H') (h : ∀ a∈xs,a∈ys):ap_ ys H H':=fun a o n e=>s a o (fun m=>n (h a m)) e
theorem ap_.upd {xs:List Addr}{H:Hp}{a:Addr}{o:HO} (h:a∈xs):ap_ xs H (L2.upd H a o):=fun b u n e=>by rw [al_ (fun (z:b=a)=>n (z ▸ h))];exact e
theorem ap_.base {xs:List Addr}{H0 H H':Hp} (s:ap_ xs H H') (b:Same H0 H) (h : ∀ a∈xs,H0 a=none):Same H0 H':=fun a o e=>s a o (fun m=>by rw [h a m] at e;cases e) (b a o e)
structure Imm (H H':Hp):Prop where
 tok : ∀ a C dx g k b e c,H a=some (.ins C dx (dW_ g k b e c))->H' a=some (.ins C dx (dW_ g k b e c))
 amt : ∀ a C dx o u m,H a=some (.ins C dx (afs o u m))->H' a=some (.ins C dx (afs o u m))
theorem m1_ {g:Int}{k:Str}{b e:Int}{c:V}{la:Addr}{i:Int}:dW_ g k b e c≠hp_ la i:=fun h=>by
 have:=congrArg (List.map Prod.fst) h;have q:([("group":Str),"kind","begin","end","content"]:List Str)=[("ahead":Str),"index"]:=this;exact absurd q (by decide +kernel)
theorem ln_ {g:Int}{k:Str}{b e:Int}{c:V}{f:Str}{w p:Addr}{b' e':Int}:dW_ g k b e c≠bg_ f w p b' e':=fun h=>by
 have:=congrArg (List.map Prod.fst) h;have q:([("group":Str),"kind","begin","end","content"]:List Str)=[("form":Str),"words","parts","begin","end"]:=this;exact absurd q (by decide +kernel)
theorem nZ_ {o u:Int}{m:Str}{la:Addr}{i:Int}:afs o u m≠hp_ la i:=fun h=>by
 have:=congrArg (List.map Prod.fst) h;have q:([("over":Str),"under","measure"]:List Str)=[("ahead":Str),"index"]:=this;exact absurd q (by decide +kernel)
theorem ml_ {o u:Int}{m:Str}{f:Str}{w p:Addr}{b' e':Int}:afs o u m≠bg_ f w p b' e':=fun h=>by
 have:=congrArg (List.map Prod.fst) h;have q:([("over":Str),"under","measure"]:List Str)=[("form":Str),"words","parts","begin","end"]:=this;exact absurd q (by decide +kernel)
inductive NT (H:Hp) (x:Addr):Prop
 | lst {l:List V}:H x=some (.lst l)->NT H x
 | row {C dx la:Addr}{i:Int}:H x=some (.ins C dx (hp_ la i))->NT H x
 | node {C dx:Addr}{f:Str}{w p:Addr}{b e:Int}:H x=some (.ins C dx (bg_ f w p b e))->NT H x
theorem NT.tok {H:Hp}{x C dx:Addr}{g:Int}{k:Str}{b e:Int}{c:V} (h:NT H x) (q:H x=some (.ins C dx (dW_ g k b e c))):False:=by
 rcases h with h | h | h
 ·rw [h] at q;cases q
 ·rw [h] at q;injection q with q;injection q with _ _ q;exact m1_ q.symm
 rw [h] at q;injection q with q;injection q with _ _ q;exact ln_ q.symm
theorem NT.amt {H:Hp}{x C dx:Addr}{o u:Int}{m:Str} (h:NT H x) (q:H x=some (.ins C dx (afs o u m))):False:=by
 rcases h with h | h | h
 ·rw [h] at q;cases q
 ·rw [h] at q;injection q with q;injection q with _ _ q;exact nZ_ q.symm
 rw [h] at q;injection q with q;injection q with _ _ q;exact ml_ q.symm
theorem Imm.of {xs:List Addr}{H H':Hp} (s:ap_ xs H H') (h : ∀ x∈xs,NT H x):Imm H H' :=
 ⟨fun a C dx g k b e c q=>s a _ (fun m=>(h a m).tok q) q,fun a C dx o u m q=>s a _ (fun n=>(h a n).amt q) q⟩
def pm_ (Ca:Addr) (H:Hp) (c:V):Vaunid.Tok->Prop
 | .sign _=>True
 | k=>he_ Ca H c k
def TokB (Ca Ct:Addr) (H:Hp) (a:Addr) (k:Token):Prop:=∃ dx c,H a=some (.ins Ct dx (dW_ (Vaunid.sortOf k.tok) (S (kindOf k.tok)) (k.start:Int) (k.halt_:Int) c))/\pm_ Ca H c k.tok
theorem cD_.b {Ca Ct:Addr}{H:Hp}{a:Addr}{k:Token} (h:cD_ Ca Ct H a k):TokB Ca Ct H a k:=by
 obtain ⟨dx,c,e,q⟩:=h;refine ⟨dx,c,e,?_⟩;cases hk:k.tok with
 | word w=>rw [hk] at q;exact q
 | num v d=>rw [hk] at q;exact q
 | sign x=>trivial
theorem TokB.imm {Ca Ct:Addr}{H H':Hp}{a:Addr}{k:Token} (h:TokB Ca Ct H a k) (s:Imm H H'):TokB Ca Ct H' a k:=by
 obtain ⟨dx,c,e,q⟩:=h;refine ⟨dx,c,s.tok _ _ _ _ _ _ _ _ e,?_⟩;cases hk:k.tok with
 | word w=>rw [hk] at q;exact q
 | num v d=>rw [hk] at q;obtain ⟨b,e1,dx',e2⟩:=q;exact ⟨b,e1,dx',s.amt _ _ _ _ _ _ e2⟩
 | sign x=>trivial
def bh_ (Ca Ct Cr:Addr) (H:Hp) (row la:Addr) (l:Toks):Prop:=∃ (dx:Addr) (as:List Addr) (i:Nat),H row=some (.ins Cr dx (hp_ la (i:Int)))/\H la=some (.lst (as.map V.ref))/\Paired (fun a k=>TokB Ca Ct H a k) (as.drop i) l
theorem bh_.keep {Ca Ct Cr:Addr}{H H':Hp}{row la:Addr}{l:Toks} (h:bh_ Ca Ct Cr H row la l) {xs:List Addr} (s:ap_ xs H H') (nt : ∀ x∈xs,NT H x) (n1:row∉xs) (n2:la∉xs):bh_ Ca Ct Cr H' row la l:=by
 obtain ⟨dx,as,i,h1,h2,h3⟩:=h;exact ⟨dx,as,i,s _ _ n1 h1,s _ _ n2 h2,Paired.mapP h3 fun a k z=>z.imm (Imm.of s nt)⟩
theorem bh_.same {Ca Ct Cr:Addr}{H H':Hp}{row la:Addr}{l:Toks} (h:bh_ Ca Ct Cr H row la l) (s:Same H H'):bh_ Ca Ct Cr H' row la l:=h.keep (xs:=[]) (ap_.of s) (by simp) (by simp) (by simp)
theorem bh_.nt {Ca Ct Cr:Addr}{H:Hp}{row la:Addr}{l:Toks} (h:bh_ Ca Ct Cr H row la l):NT H row:=let ⟨_,_,_,h1,_,_⟩:=h;.row h1
def cX_ (Cs:Addr) (H:Hp) (ss:List Addr) (ks:List String) (o:Addr) (d:Nat):Prop:=Paired (fun s k=>∃ dx,H s=some (.ins Cs dx (gr_ (Str.ofString k) o (d:Int)))) ss ks
def Kp (xs:List Addr) (H H':Hp):Prop:=∀ a∈xs,∀ o,H a=some o->H' a=some o
theorem Kp.sub {xs ys:List Addr}{H H':Hp} (k:Kp xs H H') (h : ∀ a∈ys,a∈xs):Kp ys H H':=fun a m=>k a (h a m)
theorem Kp.of {xs ys:List Addr}{H H':Hp} (s:ap_ ys H H') (d : ∀ a∈xs,a∉ys):Kp xs H H':=fun a m o e=>s a o (d a m) e
theorem hv_ {A B:Type}{R S:A->B->Prop}{l:List A}{m:List B} (h:Paired R l m) (k : ∀ a∈l,∀ b,R a b->S a b):Paired S l m:=by
 induction h with
 | nil=>exact .nil
 | cons h t ih=>exact .cons (k _ (mem_cons_self ..) _ h) (ih fun a m=>k a (mem_cons_of_mem _ m))
theorem cX_.keep {Cs:Addr}{H H':Hp}{ss:List Addr}{ks:List String}{o:Addr}{d:Nat} (h:cX_ Cs H ss ks o d) (k:Kp ss H H'):cX_ Cs H' ss ks o d:=hv_ h fun a m b ⟨dx,e⟩=>⟨dx,k a m _ e⟩
theorem cX_.here {Cs:Addr}{H:Hp}{o:Addr}{d:Nat}{ss:List Addr}{ks:List String} (h:cX_ Cs H ss ks o d) : ∀ a∈ss,∃ u,H a=some u:=by
 unfold cX_ at h
 induction h with
 | nil=>intro a m;cases m
 | cons h t ih =>
 obtain ⟨dx,e⟩:=h;intro a m;rcases List.mem_cons.mp m with q | q
 ·exact ⟨_,q ▸ e⟩
 exact ih a q
structure FrAt (Cn Cs:Addr) (H:Hp) (n:Addr) (pf:PF) (next ss:List Addr) (dx wl pl:Addr) (as F:List Addr) (e:Nat):Prop where
 node:H n=some (.ins Cn dx (bg_ (S pf.form) wl pl (pf.b:Int) (e:Int)))
 words:H wl=some (.lst ((pf.ws.map S).map V.str))
 parts:H pl=some (.lst ((as++next).map V.ref))
 trees:TreesAt Cn H as pf.ts F
 steps:cX_ Cs H ss (pf.ks.map SK.w++[pf.c]) n pf.d
theorem FrAt.keep {Cn Cs:Addr}{H H':Hp}{n:Addr}{pf:PF}{next ss:List Addr}{dx wl pl:Addr}{as F:List Addr}{e:Nat} (h:FrAt Cn Cs H n pf next ss dx wl pl as F e) (k:Kp ((n::wl::pl::F)++ss) H H'):FrAt Cn Cs H' n pf next ss dx wl pl as F e :=
 ⟨k n (by simp) _ h.node,k wl (by simp) _ h.words,k pl (by simp) _ h.parts,h.trees.keep fun b m o q=>k b (by simp [m]) o q,h.steps.keep fun a m o q=>k a (by simp [m]) o q⟩
theorem FrAt.here {Cn Cs:Addr}{H:Hp}{n:Addr}{pf:PF}{next ss:List Addr}{dx wl pl:Addr}{as F:List Addr}{e:Nat} (h:FrAt Cn Cs H n pf next ss dx wl pl as F e) : ∀ a∈(n::wl::pl::F)++ss,∃ u,H a=some u:=fun a m=>by
 rcases List.mem_append.mp m with m | m
 ·rcases List.mem_cons.mp m with q | m
  ·exact ⟨_,q ▸ h.node⟩
  rcases List.mem_cons.mp m with q | m
  ·exact ⟨_,q ▸ h.words⟩
  rcases List.mem_cons.mp m with q | m
  ·exact ⟨_,q ▸ h.parts⟩
  exact h.trees.here a m
 exact h.steps.here a m
inductive Stk (Cn Cs:Addr) (H:Hp) (wh:Addr):List PF->List Addr->List Addr->List Addr->Prop
 | bot {pf:PF}{next ss:List Addr}{dx wl pl:Addr}{as F:List Addr}{e:Nat}:FrAt Cn Cs H wh pf next ss dx wl pl as F e->Stk Cn Cs H wh [pf] next ss (wh::wl::pl::F)
 | cons {n:Addr}{pf g:PF}{r:List PF}{next ss ss2 own2:List Addr}{dx wl pl:Addr}{as F:List Addr}{e:Nat}:FrAt Cn Cs H n pf next ss dx wl pl as F e->Stk Cn Cs H wh (g::r) [n] ss2 own2->Stk Cn Cs H wh (pf::g::r) next (ss++ss2) ((n::wl::pl::F)++own2)
theorem Stk.keep {Cn Cs:Addr}{H H':Hp}{wh:Addr}{fs:List PF}{next ss own:List Addr} (h:Stk Cn Cs H wh fs next ss own) (k:Kp (own++ss) H H'):Stk Cn Cs H' wh fs next ss own:=by
 induction h with
 | bot h=>exact .bot (h.keep k)
 | cons h t ih=>exact .cons (h.keep (k.sub fun a m=>by simp at m ⊢;rcases m with m | m | m | m | m <;> simp [m])) (ih (k.sub fun a m=>by simp at m ⊢;rcases m with m | m <;> simp [m]))
theorem Stk.here {Cn Cs:Addr}{H:Hp}{wh:Addr}{fs:List PF}{next ss own:List Addr} (h:Stk Cn Cs H wh fs next ss own) : ∀ a∈own++ss,∃ u,H a=some u:=by
 induction h with
 | bot h=>exact h.here
 | cons h t ih =>
 intro a m;rw [mem_append,mem_append,mem_append] at m;rcases m with (m | m) | (m | m)
 ·exact h.here a (mem_append_left _ m)
 ·exact ih a (mem_append_left _ m)
 ·exact h.here a (mem_append_right _ m)
 exact ih a (mem_append_right _ m)
def cnt (pf:PF):Nat:=pf.ts.length+pf.ws.length+pf.ks.length
def LvB:List PF->Prop
 | []=>True
 | pf::r=>cnt pf<=4/\(pf.c=")"\/pf.c="end")/\pf.d=r.length/\pf.d<=40/\LvB r
def Lv:List PF->Prop
 | []=>True
 | pf::r=>cnt pf<=5/\(pf.c=")"\/pf.c="end")/\pf.d=r.length/\pf.d<=40/\LvB r
theorem LvB.lv {l:List PF} (h:LvB l):Lv l:=by
 cases l with
 | nil=>trivial
 | cons pf r=>exact ⟨Nat.le_succ_of_le h.1,h.2⟩
theorem mA_ (f:Fm):f.sk.length<=5:=by cases f <;> decide
theorem cX_.length {Cs:Addr}{H:Hp}{ss:List Addr}{ks:List String}{o:Addr}{d:Nat} (h:cX_ Cs H ss ks o d):ss.length=ks.length:=Paired.length h
theorem Stk.len {Cn Cs:Addr}{H:Hp}{wh:Addr}{fs:List PF}{next ss own:List Addr} (h:Stk Cn Cs H wh fs next ss own) (k:LvB fs):ss.length<=6 * fs.length:=by
 induction h with
 | bot h =>
  have:=h.steps.length;rw [length_append,length_map] at this;have h1:=k.1;unfold cnt at h1;simp at this ⊢;omega
 | cons h t ih =>
 have:=h.steps.length;rw [length_append,length_map] at this;have h1:=k.1;unfold cnt at h1;have:=ih k.2.2.2.2;simp at *;omega
theorem nG_ {s s':MS} (h:Lv s.fs) (e:b1_ s=some (.ok s')):Lv s'.fs:=by
 obtain ⟨fs,l,res⟩:=s;cases fs with
 | nil=>cases e
 | cons pf fs =>
 cases l with
 | nil=>cases e
 | cons t l =>
 obtain ⟨form,ws,b,ts,ks,c,d⟩:=pf;obtain ⟨h1,hc,h2,h3,h4⟩:=h;simp only [cnt] at h1;cases ks with
 | nil =>
  simp only [b1_] at e;split at e
  ·cases fs with
   | nil=>cases e;trivial
   | cons g r =>
    cases e;obtain ⟨g1,gc,g2,g3,g4⟩:=h4;refine ⟨?_,gc,g2,g3,g4⟩;simp only [cnt,length_append,length_singleton] at g1 ⊢;omega
  cases e
 | cons k ks =>
 rw [length_cons] at h1;cases k with
 | n =>
  simp only [b1_] at e;split at e
  ·cases e
   refine ⟨?_,hc,h2,h3,h4⟩;simp only [cnt,length_append,length_singleton];omega
  cases e
 | pw =>
  simp only [b1_] at e;split at e
  ·cases e
   refine ⟨?_,hc,h2,h3,h4⟩;simp only [cnt,length_append,length_singleton];omega
  cases e
 | p bb =>
 simp only [b1_] at e;split at e
 ·cases e
 rename_i hd;split at e
 ·split at e
  ·cases e
  cases e;have:=mA_ (an_ l).1;refine ⟨?_,.inl rfl,?_,?_,⟨?_,hc,h2,h3,h4⟩⟩
  ·simp only [cnt,dK_,length_nil]
   omega
  ·simp only [dK_,length_cons]
   simp only at h2;omega
  ·simp only [dK_]
   simp only at h3;omega
  simp only [cnt];omega
 split at e
 ·cases e
  refine ⟨?_,hc,h2,h3,h4⟩;simp only [cnt,length_append,length_singleton];omega
 cases e
theorem m0_ (a b:String):Vaunid.txt (a++b)=Vaunid.txt a++Vaunid.txt b:=by
 unfold Vaunid.txt;rw [String.toList_append,map_append]
theorem jx_ (n:Nat):Vaunid.txt (Nat.repr n)=decimal n:=by
 unfold Vaunid.txt decimal Nat.repr;rw [String.toList_ofList]
theorem mZ_ (z:Int):Vaunid.txt (toString z)=Vaunid.decimalInt z:=by
 unfold Vaunid.decimalInt;cases z with
 | ofNat m =>
  rw [if_neg (show ¬ (Int.ofNat m<0) from Int.not_lt.mpr (Int.natCast_nonneg m))];exact jx_ m
 | negSucc m =>
 rw [if_pos (by omega)];show Vaunid.txt ("-"++Nat.repr (m+1))=_;rw [m0_,jx_];rfl
theorem str_int (z:Int):Str.ofString (toString z)=S (Vaunid.decimalInt z):=by rw [aq_,mZ_]
theorem gA_ {z:Int} (h:z.natAbs<10 ^ 12):z.natAbs.log2<1920:=by
 by_cases h0:z.natAbs=0
 ·rw [h0];decide
 exact Nat.lt_trans ((Nat.log2_lt h0).mpr (Nat.lt_trans h (show 10 ^ 12<2 ^ 40 by decide))) (by decide)
theorem cS_ {n:Nat} (h:n<10 ^ 12):(decimal n).length<=12:=by
 unfold decimal;rw [length_map];exact (Nat.length_toDigits_le_iff (by decide) (by decide)).mpr h
theorem cF_ {z:Int} (h:z.natAbs<10 ^ 12):(Vaunid.decimalInt z).length<=13:=by
 unfold Vaunid.decimalInt;have:=cS_ h;split
 ·rw [length_cons];omega
 omega
theorem e6_ (n:Nat):Vaunid.decimalInt (n:Int)=decimal n:=by
 unfold Vaunid.decimalInt;rw [if_neg (by omega)];rfl
def gd_ (v:Lit):Prop:=(∀ m,v.measure=some m->m≠[]/\m.length<=10000)/\v.top.natAbs<10 ^ 12/\v.low<10 ^ 12
theorem gC_:Str.ofString "/"=S [47]:=by decide +kernel
theorem lO_:Str.ofString "["=S [91]:=by decide +kernel
theorem k6_:Str.ofString "]"=S [93]:=by decide +kernel
theorem kU_:Str.ofString ""=S []:=by decide +kernel
theorem gD_ (v:Lit) (g:gd_ v):Vaunid.shownLit v=(Vaunid.decimalInt v.top++(if v.low=1 then [] else 47::decimal v.low))++(if v.measure.getD []=[] then [] else 91::(v.measure.getD []++[93])):=by
 unfold Vaunid.shownLit;rw [append_assoc];congr 2;cases h:v.measure with
 | none=>rfl
 | some m =>
 show 91::(m++[93])=if m=[] then [] else 91::(m++[93]);rw [if_neg (g.1 m h).1]
theorem ck_ {C:Addr}{names:List Str}{vs:List V}{H:Hp}{E:XK}{R:Addr->Hp->Prop} (hl:vs.length=names.length) (k : ∀ x dx H1,H x=none->Same H H1->H1 x=some (.ins C dx (names.zip vs))->R x H1) :
  ∀ x dx,H x=none->H dx=none->dx≠x->bz_ C names (.ref x::vs) (upd (upd H dx (.own x)) x (.ins C dx [])) (fun v H2=>v = .non/\R x H2) E:=fun x dx hx hdx hne=>by
 refine ⟨x,dx,vs,rfl,hl,ab_,rfl,?_⟩;rw [fH_];exact k x dx _ hx (aX_ hx hdx) ab_
theorem none_of {H H1:Hp}{a:Addr} (s:Same H H1) (h:H1 a=none):H a=none:=by
 cases q:H a with
 | none=>rfl
 | some o=>rw [s _ _ q] at h;cases h
theorem is_ {xs:List Addr}{H H1:Hp}{a:Addr} (s:ap_ xs H H1) (n:a∉xs) (h:H1 a=none):H a=none:=by
 cases q:H a with
 | none=>rfl
 | some o=>rw [s _ _ n q] at h;cases h
theorem nin {a b:Addr} (h:a≠b):a∉[b]:=fun m=>h (List.mem_singleton.mp m)
theorem bd_ {A B:Type}{R:A->B->Prop}{l:List A}{m:List B}{a:A}{b:B} (h:Paired R l m) (r:R a b):Paired R (l++[a]) (m++[b]):=by
 induction h with
 | nil=>exact .cons r .nil
 | cons h t ih=>exact .cons h ih
structure BI (Ca Ct Cr Cn Cs:Addr) (H:Hp) (row la todo:Addr) (xs:List V) (r:Toks) (n dx wl pl:Addr) (f:Str) (b:Int) (d:Nat) (H':Hp) (ss:List Addr) (ks:List String):Prop where
 sx:ap_ [row,todo] H H'
 row:bh_ Ca Ct Cr H' row la r
 todo:H' todo=some (.lst (xs++ss.reverse.map V.ref))
 steps:cX_ Cs H' ss ks n d
 node:H' n=some (.ins Cn dx (bg_ f wl pl b b))
 words:H' wl=some (.lst [])
 parts:H' pl=some (.lst [])
 nd:(n::wl::pl::ss).Nodup
 fr : ∀ a∈n::wl::pl::ss,H a=none
theorem BI.add {Ca Ct Cr Cn Cs:Addr}{H:Hp}{row la todo:Addr}{xs:List V}{r:Toks}{n dx wl pl:Addr}{f:Str}{b:Int}{d:Nat}{H' H2:Hp}{ss:List Addr}{ks:List String} (h:BI Ca Ct Cr Cn Cs H row la todo xs r n dx wl pl f b d H' ss ks) (ht:H todo=some (.lst xs)) (nla:la≠todo) {s dxs:Addr}{k:String}
  (hs:H' s=none) (sm:Same H' H2) (e:H2 s=some (.ins Cs dxs (gr_ (Str.ofString k) n (d:Int)))):BI Ca Ct Cr Cn Cs H row la todo xs r n dx wl pl f b d (upd H2 todo (.lst (xs++ss.reverse.map V.ref++[.ref s]))) (s::ss) (k::ks):=by
 have ht2:=sm _ _ h.todo;have sx2:ap_ [todo] H' (upd H2 todo (.lst (xs++ss.reverse.map V.ref++[.ref s]))):=(ap_.of sm).trans (ap_.upd (List.mem_singleton.mpr rfl));have fr : ∀ a∈n::wl::pl::ss,a∉[todo]:=fun a ha m=>by
  rw [List.mem_singleton.mp m] at ha;have:=h.fr _ ha;rw [ht] at this;cases this
 have ns:s≠todo:=fun z=>by rw [z,h.todo] at hs;cases hs
 have nt : ∀ x∈[todo],NT H' x:=fun x hx=>by rw [List.mem_singleton.mp hx];exact .lst h.todo
 have nrow:row≠todo:=fun z=>by
  obtain ⟨_,_,_,q,_,_⟩:=h.row;rw [z,h.todo] at q;cases q
 have nr : ∀ a,H' a=none->a≠row:=fun a ha z=>by
  obtain ⟨_,_,_,q,_,_⟩:=h.row;rw [z,q] at ha;cases ha
 refine ⟨h.sx.trans (sx2.more (by simp)),h.row.keep sx2 nt (nin nrow) (nin nla),?_,?_,sx2 _ _ (fr n (by simp)) h.node,sx2 _ _ (fr wl (by simp)) h.words,sx2 _ _ (fr pl (by simp)) h.parts,?_,?_⟩
 ·rw [ab_,reverse_cons,map_append,<- append_assoc]
  rfl
 ·refine .cons ⟨dxs,by rw [al_ ns];exact e⟩ (h.steps.keep (Kp.of sx2 fun a ha=>fr a (by simp [ha])))
 ·have n1 : ∀ a∈n::wl::pl::ss,a≠s:=fun a ha z=>by
   have q : ∃ o,H' a=some o:=by
    simp at ha;rcases ha with rfl | rfl | rfl | ha
    ·exact ⟨_,h.node⟩
    ·exact ⟨_,h.words⟩
    ·exact ⟨_,h.parts⟩
    exact h.steps.here a ha
   obtain ⟨o,q⟩:=q;rw [z,hs] at q;cases q
  have nd:=h.nd;simp only [List.nodup_cons,mem_cons,not_or] at nd ⊢;have m1:=n1 n (by simp);have m2:=n1 wl (by simp);have m3:=n1 pl (by simp);exact ⟨⟨nd.1.1,nd.1.2.1,m1,nd.1.2.2⟩,⟨nd.2.1.1,m2,nd.2.1.2⟩,⟨m3,nd.2.2.1⟩,⟨fun z=>n1 s (by simp [z]) rfl,nd.2.2.2⟩⟩
 intro a ha;rw [mem_cons,mem_cons,mem_cons,mem_cons] at ha;rcases ha with q | q | q | q | q
 ·exact h.fr a (by simp [q])
 ·exact h.fr a (by simp [q])
 ·exact h.fr a (by simp [q])
 ·rw [q]
  exact is_ h.sx (by simp [nr s hs,ns]) hs
 exact h.fr a (by simp [q])
def dZ_ (Cn Cs:Addr) (H:Hp) (wh n:Addr) (fs:List PF) (ss own:List Addr):Prop:=match fs with
 | []=>n=wh/\ss=[]/\own=[]
 | g::r=>Stk Cn Cs H wh (g::r) [n] ss own
theorem dZ_.keep {Cn Cs:Addr}{H H':Hp}{wh n:Addr}{fs:List PF}{ss own:List Addr} (h:dZ_ Cn Cs H wh n fs ss own) (k:Kp (own++ss) H H'):dZ_ Cn Cs H' wh n fs ss own:=by
 cases fs with
 | nil=>exact h
 | cons g r=>exact Stk.keep h k
theorem Stk.top {Cn Cs:Addr}{H:Hp}{wh:Addr}{pf:PF}{fs:List PF}{next ss own:List Addr} (h:Stk Cn Cs H wh (pf::fs) next ss own) : ∃ n ss1 ss2 own2 dx wl pl as F e,FrAt Cn Cs H n pf next ss1 dx wl pl as F e/\dZ_ Cn Cs H wh n fs ss2 own2/\ss=ss1++ss2/\own=(n::wl::pl::F)++own2:=by
 cases h with
 | bot h=>exact ⟨_,_,[],[],_,_,_,_,_,_,h,⟨rfl,rfl,rfl⟩,by simp,by simp⟩
 | cons h t=>exact ⟨_,_,_,_,_,_,_,_,_,_,h,t,rfl,rfl⟩
theorem Stk.mk {Cn Cs:Addr}{H:Hp}{wh n:Addr}{pf:PF}{fs:List PF}{next ss1 ss2 own2:List Addr}{dx wl pl:Addr}{as F:List Addr}{e:Nat} (h:FrAt Cn Cs H n pf next ss1 dx wl pl as F e) (b:dZ_ Cn Cs H wh n fs ss2 own2):Stk Cn Cs H wh (pf::fs) next (ss1++ss2) ((n::wl::pl::F)++own2):=by
 cases fs with
 | nil =>
  obtain ⟨rfl,rfl,rfl⟩:=b;rw [append_nil,append_nil];exact .bot h
 | cons g r=>exact .cons h b
structure AtM (Ca Ct Cr Cn Cs:Addr) (H0 H:Hp) (row la todo wh:Addr) (s:MS):Prop where
 same:Same H0 H
 rowAt:bh_ Ca Ct Cr H row la s.l
 goods:bf_ s.l
 lv:Lv s.fs
 frames:(s.fs≠[]/\∃ ss own,Stk Cn Cs H wh s.fs [] ss own/\H todo=some (.lst (ss.reverse.map V.ref))/\(row::todo::la::(own++ss)).Nodup/\∀ a∈row::todo::own,H0 a=none)\/(s.fs=[]/\H todo=some (.lst [])/\∃ tr F,s.res=[tr]/\TreeAt Cn H wh tr F)
structure Dj (row todo la n wl pl:Addr) (rest:List Addr):Prop where
 out : ∀ a∈rest,a∉[row,todo,n,wl,pl]
 rt:row≠todo
 rla:row≠la
 tla:todo≠la
 ra:row∉[n,wl,pl]
 ta:todo∉[n,wl,pl]
 laa:la∉[n,wl,pl]
 nw:n≠wl
 np:n≠pl
 wp:wl≠pl
 nd:rest.Nodup
theorem mf_ {row todo la n wl pl:Addr}{F own2 ss:List Addr} (h:(row::todo::la::(((n::wl::pl::F)++own2)++ss)).Nodup):Dj row todo la n wl pl (F++(own2++ss)):=by
 simp only [cons_append,append_assoc,List.nodup_cons,mem_cons,not_or] at h;obtain ⟨⟨a1,a2,a3,a4,a5,a6⟩,⟨b1,b2,b3,b4,b5⟩,⟨c1,c2,c3,c4⟩,⟨d1,d2,d3⟩,⟨e1,e2⟩,f1,g⟩:=h;refine ⟨fun a ha m=>?_,a1,a2,b1,by simp [a3,a4,a5],by simp [b2,b3,b4],by simp [c1,c2,c3],d1,d2,e1,g⟩;simp only [mem_cons,not_mem_nil,or_false] at m;rcases m with rfl | rfl | rfl | rfl | rfl
 ·exact a6 ha
 ·exact b5 ha
 ·exact d3 ha
 ·exact e2 ha
 exact f1 ha
theorem kr_ {X Y Z:List Addr} (hX:X.Nodup) (hY:Y.Nodup) (h : ∀ a∈Y,a∉X) (p:Z.Perm (Y++X)):Z.Nodup :=
 p.nodup_iff.mpr (List.nodup_append.mpr ⟨hY,hX,fun a ha b hb e=>h a ha (e ▸ hb)⟩)
open Vaunid (Token txt word sign)
section
variable {Ca Ct Cr Cn Cs:Addr}{H0 H H':Hp}{row la todo wh n dx wl pl st:Addr}{pf pf':PF}{fs:List PF}{l:Toks}{res:List Tr}{as F own2 ss1 ss2:List Addr}{e e':Nat}
theorem dZ_.len {fs:List PF}{ss own:List Addr} (h:dZ_ Cn Cs H wh n fs ss own) (k:LvB fs):ss.length<=6 * fs.length:=by
 cases fs with
 | nil =>
  obtain ⟨_,rfl,_⟩:=h;exact zero_le _
 | cons g r=>exact Stk.len h k
theorem iy_ {r:Toks} (hrow:bh_ Ca Ct Cr H row la r) {xs:List V} (hto:H todo=some (.lst xs)) {next:List Addr} (hf:FrAt Cn Cs H n pf next ss1 dx wl pl as F e) (hb:dZ_ Cn Cs H wh n fs ss2 own2) : ∀ a∈row::todo::la::(((n::wl::pl::F)++own2)++(ss1++ss2)),∃ o,H a=some o:=fun a ha=>by
 obtain ⟨_,_,_,q1,q2,_⟩:=hrow;rw [mem_cons,mem_cons,mem_cons] at ha;rcases ha with rfl | rfl | rfl | ha
 ·exact ⟨_,q1⟩
 ·exact ⟨_,hto⟩
 ·exact ⟨_,q2⟩
 exact (Stk.mk hf hb).here a ha
theorem hV_ (sm0:Same H0 H) (hto:H todo=some (.lst ((ss1++ss2).reverse.map V.ref))) {r:Toks} (hrow0:bh_ Ca Ct Cr H row la r) {next:List Addr} (hf:FrAt Cn Cs H n pf next (st::ss1) dx wl pl as F e) (hb:dZ_ Cn Cs H wh n fs ss2 own2)
  (hnd:(row::todo::la::(((n::wl::pl::F)++own2)++(st::ss1++ss2))).Nodup) (hfr : ∀ a∈row::todo::((n::wl::pl::F)++own2),H0 a=none)
  (sx:ap_ [row,n,wl,pl] H H') (hrow:bh_ Ca Ct Cr H' row la l) (gl:bf_ l) (lv:Lv (pf'::fs)) {as' G:List Addr} (node:H' n=some (.ins Cn dx (bg_ (S pf'.form) wl pl (pf'.b:Int) (e':Int)))) (words:H' wl=some (.lst ((pf'.ws.map S).map V.str)))
  (parts:H' pl=some (.lst (as'.map V.ref))) (trees:TreesAt Cn H' as' pf'.ts (F++G)) (hG:G.Nodup) (fG : ∀ a∈G,H a=none) (steps:cX_ Cs H ss1 (pf'.ks.map SK.w++[pf'.c]) n pf'.d):AtM Ca Ct Cr Cn Cs H0 H' row la todo wh ⟨pf'::fs,l,res⟩:=by
 have dj:=mf_ hnd;have sx5:ap_ [row,todo,n,wl,pl] H H':=sx.more (by simp);have keep : ∀ a,a∈F++(own2++(st::ss1++ss2))->∀ o,H a=some o->H' a=some o:=fun a ha o q=>sx5 a o (dj.out a ha) q;have hh:=iy_ hrow0 hto hf hb;refine ⟨sx.base sm0 (fun a ha=>hfr a (by simp at ha ⊢;rcases ha with h | h | h | h <;> simp [h])),hrow,gl,lv,.inl ⟨by simp,ss1++ss2,(n::wl::pl::(F++G))++own2,Stk.mk (e:=e') (next:=[]) (as:=as') ⟨node,words,by rw [append_nil];exact parts,trees,steps.keep fun a ha=>keep a (by simp [ha])⟩ (hb.keep fun a ha=>keep a ?_),?_,?_,?_⟩⟩
 ·simp at ha ⊢
  rcases ha with h | h <;> simp [h]
 ·exact sx _ _ (by have:=dj.ta;have:=dj.rt;simp at *;exact ⟨Ne.symm dj.rt,this.1,this.2.1,this.2.2⟩) hto
 ·refine kr_ (X:=row::todo::la::(((n::wl::pl::F)++own2)++(ss1++ss2))) (Y:=G) ?_ hG (fun a ha m=>?_) ?_
  ·refine hnd.sublist ?_
   simp only [cons_append,append_assoc];refine List.Sublist.cons_cons _ (List.Sublist.cons_cons _ (List.Sublist.cons_cons _ (List.Sublist.cons_cons _ (List.Sublist.cons_cons _ (List.Sublist.cons_cons _ (List.Sublist.append_left (List.Sublist.append_left (List.sublist_cons_self ..) _) _))))))
  ·obtain ⟨o,q⟩:=hh a (by simp at m ⊢;rcases m with h | h | h | h | h | h | h | h | h | h <;> simp [h])
   rw [fG a ha] at q;cases q
  refine List.perm_iff_count.mpr fun a=>?_;simp only [cons_append,append_assoc,List.count_cons,List.count_append];omega
 intro a ha;rw [mem_cons,mem_cons,mem_append,mem_cons,mem_cons,mem_cons,mem_append] at ha;rcases ha with h | h | (h | h | h | h | h) | h
 ·exact hfr a (by simp [h])
 ·exact hfr a (by simp [h])
 ·exact hfr a (by simp [h])
 ·exact hfr a (by simp [h])
 ·exact hfr a (by simp [h])
 ·exact hfr a (by simp [h])
 ·exact none_of sm0 (fG a h)
 exact hfr a (by simp [h])
theorem mj_ (sm0:Same H0 H) (hto:H todo=some (.lst ((ss1++ss2).reverse.map V.ref))) {r:Toks} (hrow0:bh_ Ca Ct Cr H row la r) (hf:FrAt Cn Cs H n pf [] (st::ss1) dx wl pl as F e) (hb:dZ_ Cn Cs H wh n fs ss2 own2)
  (hnd:(row::todo::la::(((n::wl::pl::F)++own2)++(st::ss1++ss2))).Nodup) (hfr : ∀ a∈row::todo::((n::wl::pl::F)++own2),H0 a=none) {pn:PF} (lv:Lv (pn::pf'::fs))
  {n' dx' wl' pl':Addr}{ss':List Addr} (sx:ap_ [row,todo,pl] H H') (hrow:bh_ Ca Ct Cr H' row la l) (gl:bf_ l) (hto':H' todo=some (.lst ((ss1++ss2).reverse.map V.ref++ss'.reverse.map V.ref))) (steps':cX_ Cs H' ss' (pn.ks.map SK.w++[pn.c]) n' pn.d) (parts:H' pl=some (.lst (as.map V.ref++[.ref n'])))
  (node':H' n'=some (.ins Cn dx' (bg_ (S pn.form) wl' pl' (pn.b:Int) (e':Int)))) (words':H' wl'=some (.lst [])) (parts':H' pl'=some (.lst [])) (w0:pn.ws=[]) (t0:pn.ts=[]) (nd':(n'::wl'::pl'::ss').Nodup) (fr' : ∀ a∈n'::wl'::pl'::ss',H a=none)
  (f1:pf'.form=pf.form) (f2:pf'.ws=pf.ws) (f3:pf'.b=pf.b) (f4:pf'.ts=pf.ts) (steps:cX_ Cs H ss1 (pf'.ks.map SK.w++[pf'.c]) n pf'.d):AtM Ca Ct Cr Cn Cs H0 H' row la todo wh ⟨pn::pf'::fs,l,res⟩:=by
 have dj:=mf_ hnd;have sx5:ap_ [row,todo,n,wl,pl] H H':=sx.more (by simp);have keep : ∀ a,a∈F++(own2++(st::ss1++ss2))->∀ o,H a=some o->H' a=some o:=fun a ha o q=>sx5 a o (dj.out a ha) q;have hh:=iy_ hrow0 hto hf hb;have nn:n∉[row,todo,pl]:=by
  have h1:=dj.ra;have h2:=dj.ta;simp at h1 h2 ⊢;exact ⟨Ne.symm h1.1,Ne.symm h2.1,dj.np⟩
 have nw:wl∉[row,todo,pl]:=by
  have h1:=dj.ra;have h2:=dj.ta;simp at h1 h2 ⊢;exact ⟨Ne.symm h1.2.1,Ne.symm h2.2.1,dj.wp⟩
 have par:FrAt Cn Cs H' n pf' [n'] ss1 dx wl pl as F e:=⟨by rw [f1,f3];exact sx _ _ nn hf.node,by rw [f2];exact sx _ _ nw hf.words,by rw [map_append];exact parts,by rw [f4];exact hf.trees.keep fun a ha=>keep a (by simp [ha]),steps.keep fun a ha=>keep a (by simp [ha])⟩;have top:FrAt Cn Cs H' n' pn [] ss' dx' wl' pl' [] [] e':=⟨node',by rw [w0];exact words',parts',by rw [t0];exact .nil,steps'⟩;have bel:dZ_ Cn Cs H' wh n fs ss2 own2:=hb.keep fun a ha=>keep a (by simp at ha ⊢;rcases ha with h | h <;> simp [h])
 refine ⟨sx.base sm0 (fun a ha=>hfr a (by simp at ha ⊢;rcases ha with h | h | h <;> simp [h])),hrow,gl,lv,.inl ⟨by simp,ss'++(ss1++ss2),(n'::wl'::pl'::[])++((n::wl::pl::F)++own2),.cons top (Stk.mk par bel),?_,?_,?_⟩⟩
 ·rw [hto']
  simp only [reverse_append,map_append,append_assoc]
 ·refine kr_ (X:=row::todo::la::(((n::wl::pl::F)++own2)++(ss1++ss2))) (Y:=n'::wl'::pl'::ss') ?_ nd' (fun a ha m=>?_) ?_
  ·refine hnd.sublist ?_
   simp only [cons_append,append_assoc];refine List.Sublist.cons_cons _ (List.Sublist.cons_cons _ (List.Sublist.cons_cons _ (List.Sublist.cons_cons _ (List.Sublist.cons_cons _ (List.Sublist.cons_cons _ (List.Sublist.append_left (List.Sublist.append_left (List.sublist_cons_self ..) _) _))))))
  ·obtain ⟨o,q⟩:=hh a (by simp at m ⊢;rcases m with h | h | h | h | h | h | h | h | h | h <;> simp [h])
   rw [fr' a ha] at q;cases q
  refine List.perm_iff_count.mpr fun a=>?_;simp only [cons_append,nil_append,append_assoc,List.count_cons,List.count_append];omega
 intro a ha;rw [mem_cons,mem_cons,mem_append,mem_cons,mem_cons,mem_cons] at ha;rcases ha with h | h | (h | h | h | h) | h
 ·exact hfr a (by simp [h])
 ·exact hfr a (by simp [h])
 ·exact none_of sm0 (fr' a (by simp [h]))
 ·exact none_of sm0 (fr' a (by simp [h]))
 ·exact none_of sm0 (fr' a (by simp [h]))
 ·simp at h
 exact hfr a (by simp only [mem_cons,mem_append] at h ⊢;exact .inr (.inr h))
theorem ld_ (sm0:Same H0 H) (hto:H todo=some (.lst (ss2.reverse.map V.ref))) {r:Toks} (hrow0:bh_ Ca Ct Cr H row la r) (hf:FrAt Cn Cs H n pf [] [st] dx wl pl as F e) (hb:dZ_ Cn Cs H wh n fs ss2 own2)
  (hnd:(row::todo::la::(((n::wl::pl::F)++own2)++([st]++ss2))).Nodup) (hfr : ∀ a∈row::todo::((n::wl::pl::F)++own2),H0 a=none)
  (sx:ap_ [row,n] H H') (hrow:bh_ Ca Ct Cr H' row la l) (gl:bf_ l) (node:H' n=some (.ins Cn dx (bg_ (S pf.form) wl pl (pf.b:Int) (e':Int)))) :
  match fs with
  | []=>AtM Ca Ct Cr Cn Cs H0 H' row la todo wh ⟨[],l,[pf.done e']⟩
  | g::fs=>Lv ({ g with ts:=g.ts++[pf.done e'] }::fs)->AtM Ca Ct Cr Cn Cs H0 H' row la todo wh ⟨{ g with ts:=g.ts++[pf.done e'] }::fs,l,res⟩:=by
 have dj:=mf_ hnd;have sx5:ap_ [row,todo,n,wl,pl] H H':=sx.more (by simp);have keep : ∀ a,a∈F++(own2++([st]++ss2))->∀ o,H a=some o->H' a=some o:=fun a ha o q=>sx5 a o (dj.out a ha) q;have base:Same H0 H':=sx.base sm0 (fun a ha=>hfr a (by simp at ha ⊢;rcases ha with h | h <;> simp [h]))
 have ra:=dj.ra;have ta:=dj.ta;simp at ra ta;have nw:wl∉[row,n]:=by simp;exact ⟨Ne.symm ra.2.1,Ne.symm dj.nw⟩
 have np:pl∉[row,n]:=by simp;exact ⟨Ne.symm ra.2.2,Ne.symm dj.np⟩
 have tt:todo∉[row,n]:=by simp;exact ⟨Ne.symm dj.rt,ta.1⟩
 have tree:TreeAt Cn H' n (pf.done e') (n::wl::pl::F):=by
  refine .mk (as:=as) node (sx _ _ nw hf.words) ?_ (hf.trees.keep fun a ha=>keep a (by simp [ha]));rw [sx _ _ np hf.parts,append_nil]
 cases fs with
 | nil =>
  obtain ⟨rfl,rfl,rfl⟩:=hb;exact ⟨base,hrow,gl,trivial,.inr ⟨rfl,sx _ _ tt hto,_,_,rfl,tree⟩⟩
 | cons g fs =>
 intro lv;have hb':Stk Cn Cs H' wh (g::fs) [n] ss2 own2:=Stk.keep hb fun a ha=>keep a (by simp at ha ⊢;rcases ha with h | h <;> simp [h])
 obtain ⟨n2,s1,s2,own3,dx2,wl2,pl2,as2,F2,e2,hf2,hb2,rfl,rfl⟩:=hb'.top;have par:FrAt Cn Cs H' n2 { g with ts:=g.ts++[pf.done e'] } [] s1 dx2 wl2 pl2 (as2++[n]) (F2++(n::wl::pl::F)) e2:=⟨hf2.node,hf2.words,by rw [append_nil];exact hf2.parts,hf2.trees.snoc tree,hf2.steps⟩;refine ⟨base,hrow,gl,lv,.inl ⟨by simp,s1++s2,(n2::wl2::pl2::(F2++(n::wl::pl::F)))++own3,Stk.mk par hb2,sx _ _ tt hto,?_,?_⟩⟩
 ·refine kr_ (X:=row::todo::la::(((n::wl::pl::F)++((n2::wl2::pl2::F2)++own3))++(s1++s2))) (Y:=[]) ?_ .nil (fun a ha=>by simp at ha) ?_
  ·refine hnd.sublist ?_
   simp only [cons_append,append_assoc,nil_append];refine List.Sublist.cons_cons _ (List.Sublist.cons_cons _ (List.Sublist.cons_cons _ (List.Sublist.cons_cons _ (List.Sublist.cons_cons _ (List.Sublist.cons_cons _ (List.Sublist.append_left (List.Sublist.cons_cons _ (List.Sublist.cons_cons _ (List.Sublist.cons_cons _ (List.Sublist.append_left (List.Sublist.append_left (List.sublist_cons_self ..) _) _)))) _))))))
  refine List.perm_iff_count.mpr fun a=>?_;simp only [cons_append,nil_append,append_assoc,List.count_cons,List.count_append];omega
 intro a ha;refine hfr a ?_;simp only [mem_cons,mem_append] at ha ⊢;rcases ha with h | h | (h | h | h | h | h | h | h | h) | h <;> simp [h]
end
open Vaunid (Token txt word sign)
mutual
noncomputable def bb_ (d:Nat):Tr->List (Nat×Tr)
 | .mk f ws b e ps=>(d,.mk f ws b e ps)::cB_ (d+1) ps
noncomputable def cB_ (d:Nat):List Tr->List (Nat×Tr)
 | []=>[]
 | t::r=>bb_ d t++cB_ d r
end
mutual
theorem cW_ (d:Nat) : ∀ t:Tr,(bb_ d t).map (fun p=>p.2.b)=ct_ t
 | .mk f ws b e ps=>by
  show b::(cB_ (d+1) ps).map (fun p=>p.2.b)=b::cs_ ps;rw [dT_ (d+1) ps]
theorem dT_ (d:Nat) : ∀ ts:List Tr,(cB_ d ts).map (fun p=>p.2.b)=cs_ ts
 | []=>rfl
 | t::r=>by
  show (bb_ d t++cB_ d r).map (fun p=>p.2.b)=ct_ t++cs_ r;rw [map_append,cW_ d t,dT_ d r]
end
mutual
theorem g4_ (d:Nat) : ∀ (t:Tr) (p:Nat×Tr),p∈bb_ d t->p.1+1<=d+hM_ t
 | .mk f ws b e ps,p,h=>by
  have h:p∈(d,Tr.mk f ws b e ps)::cB_ (d+1) ps:=h;show p.1+1<=d+(1+hN_ ps);rcases List.mem_cons.mp h with q | q
  ·rw [q]
   show d+1<=_;omega
  have:=fB_ (d+1) ps p q;omega
theorem fB_ (d:Nat) : ∀ (ts:List Tr) (p:Nat×Tr),p∈cB_ d ts->p.1+1<=d+hN_ ts
 | [],p,h=>by
  have h:p∈([]:List (Nat×Tr)):=h;simp at h
 | t::r,p,h=>by
  have h:p∈bb_ d t++cB_ d r:=h;show p.1+1<=d+max (hM_ t) (hN_ r);rcases List.mem_append.mp h with q | q
  ·have:=g4_ d t p q
   omega
  have:=fB_ d r p q;omega
end
theorem mb_ (d:Nat) (t:Tr):1<=(bb_ d t).length:=by
 cases t with
 | mk f ws b e ps =>
 show 1<=(_::_:List (Nat×Tr)).length;rw [length_cons];omega
noncomputable def limT:Nat->List (Nat×Tr)->Option (Nat×Nat)
 | _,[]=>none
 | i,p::r=>if 40<p.1 then some (8,p.2.b) else if i=300 then some (9,p.2.b) else limT (i+1) r
theorem kz_ : ∀ (l:List (Nat×Tr)) (i:Nat),i<=300->(∀ p∈l,p.1<=40)->limT i l=if 300<i+l.length then some (9,(l.map (fun p=>p.2.b)).getD (300 - i) 0) else none
 | [],i,hi,h=>by
  rw [if_neg (by simp;omega)];rfl
 | p::r,i,hi,h=>by
  unfold limT;have hp:=h p (mem_cons_self ..);rw [if_neg (by omega)];by_cases e:i=300
  ·subst e
   rw [if_pos rfl,if_pos (by rw [length_cons];omega)];rfl
  rw [if_neg e,kz_ r (i+1) (by omega) fun q hq=>h q (mem_cons_of_mem _ hq),length_cons];by_cases h3:300<i+1+r.length
  ·rw [if_pos h3,if_pos (by omega),map_cons,show 300 - i=300 - (i+1)+1 by omega]
   rfl
  rw [if_neg h3,if_neg (by omega)]
def bY_ (Cn:Addr) (H H':Hp) (it:Addr) (p:Nat×Tr):Prop:=∃ a F,H' it=some (.tup [.ref a,.int (p.1:Int)])/\TreeAt Cn H a p.2 F
noncomputable def dg_ (sl:List (Nat×Tr)):List (Nat×Tr):=sl.reverse.flatMap fun p=>bb_ p.1 p.2
theorem cy_ (sl:List (Nat×Tr)) (p:Nat×Tr):dg_ (sl++[p])=bb_ p.1 p.2++dg_ sl:=by
 unfold dg_;rw [reverse_append];rfl
theorem g2_ (d:Nat) : ∀ ps:List Tr,cB_ d ps=ps.flatMap fun t=>bb_ d t
 | []=>rfl
 | t::r=>by
  show bb_ d t++cB_ d r=_;rw [g2_ d r];rfl
theorem cQ_ (sl:List (Nat×Tr)) (d:Nat) (ps:List Tr):dg_ (sl++(ps.reverse.map fun t=>(d,t)))=cB_ d ps++dg_ sl:=by
 unfold dg_;rw [reverse_append,flatMap_append,<- List.map_reverse,List.reverse_reverse,List.flatMap_map,g2_]
theorem kS_ : ∀ sl:List (Nat×Tr),sl.length<=(dg_ sl).length:=by
 intro sl;unfold dg_;rw [<- length_reverse];generalize sl.reverse=m
 induction m with
 | nil=>exact zero_le _
 | cons p r ih =>
 rw [flatMap_cons,length_append,length_cons];have:=mb_ p.1 p.2;omega
theorem TreesAt.get {Cn:Addr}{H:Hp}{as:List Addr}{ts:List Tr}{F:List Addr} (h:TreesAt Cn H as ts F) {i:Nat}{a:Addr} (e:as[i]? = some a) : ∃ t G,ts[i]? = some t/\TreeAt Cn H a t G :=
 TreesAt.rec (motive_1:=fun _ _ _ _=>True) (motive_2:=fun as ts _ _=>∀ (i:Nat) (a:Addr),as[i]? = some a->∃ t G,ts[i]? = some t/\TreeAt Cn H a t G) (fun _ _ _ _ _=>trivial) (fun i a h=>by simp at h) (fun h1 _ _ ih i a h=>by
  cases i with
  | zero=>cases h;exact ⟨_,_,rfl,h1⟩
  | succ i=>exact ih i a h) h i a e
theorem eC_ {A B:Type}{R:A->B->Prop}{l:List A}{m:List B} (h:Paired R l m) (hn:l≠[]) : ∃ l' a m' b,l=l'++[a]/\m=m'++[b]/\Paired R l' m'/\R a b:=by
 induction h with
 | nil=>exact absurd rfl hn
 | @cons a b l m r t ih =>
 cases t with
 | nil=>exact ⟨[],a,[],b,rfl,rfl,.nil,r⟩
 | cons r2 t2 =>
 obtain ⟨l',a',m',b',e1,e2,p,q⟩:=ih (by simp);exact ⟨a::l',a',b::m',b',by rw [e1];rfl,by rw [e2];rfl,.cons r p,q⟩
end M
namespace L2
open PySem PySem.Spec PyProof.Rows TL
def pk_ (K:PySem.W.Frag) (b:Addr) (ys:List Str):Prop:=∃ (its:Array Value) (n:Nat) (sl:Array (Option Value)),K.lookup b=some ⟨.type "tuple",none,.seq its n,sl⟩/\Vals (ys.map V.str) its.toList
section
variable {X:Cx}{o e:Expr}{apos cpos apos2 cpos2 tp kp:Pos}{td ty:TE}{x1:Nat}{key:Str}{kk:Nat}
end
end L2
namespace L2
open PySem PySem.Spec PyProof.Rows TL
theorem n7_ {wi:TI}{g:TG}{tt:TT}{te:TE}{vs:List Nat}{σ:St}{H H1:Hp}{Q:VK} (J:It) (xs ys:List V) (hw : ∀ R:It->Hp->Prop,R J H1->wi σ H R) (hn:xs.length<=sizeLine) (hy:ys.length=xs.length)
  (hgo:(∀ i x H,Same H1 H->xs[i]? = some x->J.go i H/\∀ y H',J.yld i H y H'->H'=H/\y=x)/\∀ H,Same H1 H->J.stop xs.length H)
  (hs : ∀ (i:Nat) x y H D acc (Nx:Hp->Prop),xs[i]? = some x->ys[i]? = some y->Same H1 H->H D=some (.lst acc)->acc.length<sizeLine->(∀ H',Same H H'->Nx (upd H' D (.lst (acc++[y])))) ->
   g x (wipe σ vs) H fun σ2 H2=>wipe σ2 vs=wipe σ vs/\tt σ2 H2 fun b H3=>if b=true then te σ2 H3 fun y H4=>∃ acc,H4 D=some (.lst acc)/\acc.length<sizeLine/\Nx (upd H4 D (.lst (acc++[y]))) else Nx H3)
  (hd : ∀ D H,H1 D=none->Same H1 H->H D=some (.lst ys)->Q (.ref D) H):tLc wi g tt te vs σ H Q:=by
 refine hw _ fun D hD=>?_;refine ⟨fun i m H=>m=xs.length - i/\i<=xs.length/\Same H1 H/\H D=some (.lst (ys.take i)),⟨_,rfl,zero_le _,Same.upd hD,ab_⟩,?_⟩
 rintro i m H ⟨rfl,hi,sm,hd1⟩
 by_cases hlt:i<xs.length
 ·have hx:xs[i]? = some xs[i]:=getElem?_eq_getElem hlt
  have hyi:ys[i]? = some (ys[i]'(by omega)):=getElem?_eq_getElem (by omega);obtain ⟨go,yl⟩:=hgo.1 i xs[i] H sm hx;refine .inr ⟨go,fun H'=>Same H1 H'/\H' D=some (.lst (ys.take (i+1))),fun H' z=>⟨_,by omega,rfl,hlt,z.1,z.2⟩,fun y H' q=>?_⟩;obtain ⟨rfl,rfl⟩:=yl y H' q;refine hs i _ _ H' D _ _ hx hyi sm hd1 (by rw [length_take];omega) fun H2 s2=>⟨fun b o e=>?_,?_⟩
  ·rw [al_ (ag_ e hD)]
   exact s2 _ _ (sm _ _ e)
  rw [ab_,take_succ,hyi];rfl
 have e:i=xs.length:=by omega
 subst e;rw [<- hy,take_length] at hd1;exact .inl ⟨hgo.2 H sm,hd D H hD sm hd1⟩
end L2
namespace M
open PySem PySem.Spec PyProof.Rows L2 TL
def mm_ (w:World) (K:PySem.W.Frag) (a:Addr):Prop:=∃ ad:Fm->Addr,MDict w K a (bJ_ ad)/\(∀ f H,SqT K H (ad f) ((f.kt.map fun s=>Str.ofString s).map V.str))/\∀ f,pk_ K (ad f) (f.kt.map fun s=>Str.ofString s)
theorem g3_ (d:Nat) (t:Term):depths d t=d::(bD_ t).flatMap (depths (d+1)):=by
 cases t <;> simp [depths,bD_]
theorem iR_ {x:Term}{tr:Tr} (h:Rep x tr) : ∀ d,(bb_ d tr).map (·.1)=depths d x :=
 Rep.rec (motive_1:=fun x tr _=>∀ d,(bb_ d tr).map (·.1)=depths d x) (motive_2:=fun xs ts _=>∀ d,(cB_ d ts).map (·.1)=xs.flatMap (depths d)) (fun _ ih d=>by
  rw [g3_];show d::(cB_ (d+1) _).map (·.1)=_;rw [ih (d+1)]) (fun _=>rfl) (fun _ _ i1 i2 d=>by
  show (bb_ d _++cB_ d _).map (·.1)=_;rw [map_append,i1 d,i2 d];rfl) h
end M
namespace L2
open PySem PySem.Spec PyProof.Rows TL
def mq_ (K:PySem.W.Frag) (te:TE):TE:=fun σ H Q=>te σ H fun x H1=>∃ t b,TyOf K H1 x t/\kitOne K t (.type "str")=some b/\Q (.bl b) H1
theorem dX_:bootBuiltins "isinstance"=some (.builtin "isinstance"):=by decide +kernel
section
variable {X:Cx}{e:Expr}{te:TE}{p1 p2 pos:Pos}
theorem lI_ (he:PE X e te) (hg:Gl X "isinstance") (hm:X.mg "isinstance"=none) (hg2:Gl X "str") (hm2:X.mg "str"=none)
  (hs:starEach [e,.Name "str" p2] X.env=[(false,eval e X.env),(false,eval (.Name "str" p2) X.env)]:=by rfl) (hpl:(backTo pos (starEach [.Name "str" p2] X.env)).any (·.1)=false:=by rfl)
  (hs2:starEach [.Name "str" p2] X.env=[(false,eval (.Name "str" p2) X.env)]:=by rfl) (hs1:starEach [e,.Name "str" p2] X.env=(false,eval e X.env)::starEach [.Name "str" p2] X.env:=by rfl):PE X (.Call (.Name "isinstance" p1) [e,.Name "str" p2] [] pos) (mq_ X.K te):=by
 intro pins s σ H Q I h;refine wpAny_Call_Name_kw (dN_ I hg hm dX_ ?_ (by decide) (by decide));refine PyProof.Rows.callWith_builtin1 ?_ hs1 hpl;rw [hs];show wpAny _ _ (spliced ((false,eval e X.env)::[(false,eval (.Name "str" p2) X.env)])) _ _ s;refine Calls.spliced_cons (thn (he pins s σ H _ I h) fun u s1 ⟨x,H1,I1,r1,t,b,ty,ke,q1⟩=>Calls.spliced_cons ?_);refine dN_ I1 hg2 hm2 eY_ (Calls.spliced_nil ?_) (by decide) (by decide);exact kG_ I1 r1 ty ke fun tk=>⟨.bl b,H1,I1.tok tk,rfl,q1⟩
end
end L2
namespace M
open PySem PySem.Spec PyProof.Rows L2 TL
open Vaunid (Token txt word sign)
structure NotStr (K:PySem.W.Frag) (C:Addr):Prop where
 ha:PySem.W.findIn K (.ref C) "__class__"=some (some (.builtin "object.__class__"))
 hn:PySem.W.specialIn K (.builtin "object.__class__") "__get__"=some (some (.builtin "getset_descriptor.__get__"))
 htk:PySem.W.takesIn K (.builtin "object.__class__")=some true
 hm:mroIn K C (.type "object")=some true
 ks:kitOne K (.ref C) (.type "str")=some false
abbrev Pc (A:Type):=Sum (List Nat) A
noncomputable def fmX:Term->Option Fm
 | .leaf _=>none
 | .one o _=>some (eE_ o)
 | .two o _ _=>some (jy_ o)
 | .three o _ _ _=>some (match o with | .cond => .if_ | .fold => .fold)
 | .fn _ _=>some .fn
 | .rec_ _ _ _=>some .rec_
 | .let_ _ _ _=>some .let_
 | .case _ _ _ _ _=>some .case
theorem f4_ {x:Term}{f:Fm} (h:fmX x=some f):a4_ x=txt f.word:=by
 cases x with
 | leaf l=>cases h
 | one o a=>cases h;rfl
 | two o a b=>cases h;rfl
 | three o a b c=>cases o <;> (cases h;rfl)
 | fn=>cases h;rfl
 | rec_=>cases h;rfl
 | let_=>cases h;rfl
 | case=>cases h;rfl
theorem hE_ (l:Leaf):de_ (txt (dd_ l))=false:=by
 cases l with
 | truth b=>cases b <;> decide +kernel
 | nil=>decide +kernel
 | name x =>
  show de_ (txt "name")=false;decide +kernel
 | num v =>
 show de_ (txt "number")=false;decide +kernel
noncomputable def pcT {A:Type} (tx:A->List Nat):Pc A->List Nat
 | .inl w=>w
 | .inr a=>tx a
noncomputable def pcsT {A:Type} (tx:A->List Nat) (l:List (Pc A)):List Nat:=l.flatMap (pcT tx)
noncomputable def szX:Term->Nat
 | .leaf _=>1
 | .one _ a=>1+szX a
 | .two _ a b=>1+szX a+szX b
 | .three _ a b c=>1+szX a+szX b+szX c
 | .fn _ a=>1+szX a
 | .rec_ _ _ a=>1+szX a
 | .let_ _ a b=>1+szX a+szX b
 | .case l a _ _ b=>1+szX l+szX a+szX b
theorem aQ_ : ∀ (x:Term) (d:Nat),(depths d x).length=szX x
 | .leaf _,d=>rfl
 | .one _ a,d=>by simp [depths,szX,aQ_ a];omega
 | .two _ a b,d=>by simp [depths,szX,aQ_ a,aQ_ b];omega
 | .three _ a b c,d=>by simp [depths,szX,aQ_ a,aQ_ b,aQ_ c];omega
 | .fn _ a,d=>by simp [depths,szX,aQ_ a];omega
 | .rec_ _ _ a,d=>by simp [depths,szX,aQ_ a];omega
 | .let_ _ a b,d=>by simp [depths,szX,aQ_ a,aQ_ b];omega
 | .case l a _ _ b,d=>by simp [depths,szX,aQ_ a,aQ_ b,aQ_ l];omega
theorem or_ {x:Term}{tr:Tr} (h:Rep x tr) (d:Nat):(bb_ d tr).length=szX x:=by
 rw [<- aQ_ x d,<- iR_ h d,length_map]
def pcC {A:Type} (c:A->Nat):Pc A->Nat
 | .inl _=>1
 | .inr a=>c a
def pcsC {A:Type} (c:A->Nat) (l:List (Pc A)):Nat:=(l.map (pcC c)).sum
mutual
noncomputable def allW:Tr->List (List Nat)
 | .mk _ ws _ _ ps=>ws++cC_ ps
noncomputable def cC_:List Tr->List (List Nat)
 | []=>[]
 | t::r=>allW t++cC_ r
end
noncomputable def allX:Term->List (List Nat)
 | .leaf l=>ba_ l
 | .one (.pow n) a=>Vaunid.decimalInt n::allX a
 | .one _ a=>allX a
 | .two _ a b=>allX a++allX b
 | .three _ a b c=>allX a++(allX b++allX c)
 | .fn x a=>x::allX a
 | .rec_ f x a=>f::x::allX a
 | .let_ x a b=>x::(allX a++allX b)
 | .case l a h t b=>h::t::(allX l++(allX a++allX b))
theorem js_ (x:Term):allX x=ee_ x++(bD_ x).flatMap allX:=by
 cases x with
 | one o a=>cases o <;> simp [allX,ee_,bD_]
 | _=>simp [allX,ee_,bD_]
theorem j0_ {x:Term}{tr:Tr} (h:Rep x tr):allX x=allW tr :=
 Rep.rec (motive_1:=fun x tr _=>allX x=allW tr) (motive_2:=fun xs ts _=>xs.flatMap allX=cC_ ts) (fun _ ih=>by
  rw [js_,ih];rfl) rfl (fun _ _ i1 i2=>by
  rw [flatMap_cons,i1,i2];rfl) h
def WB (l:List (List Nat)):Prop:=∀ w∈l,w.length<=10100
theorem WB.app {l m:List (List Nat)}:WB (l++m)↔WB l/\WB m:=⟨fun h=>⟨fun w q=>h w (mem_append_left _ q),fun w q=>h w (mem_append_right _ q)⟩,fun h w q=>(List.mem_append.mp q).elim (h.1 w) (h.2 w)⟩
theorem WB.cons {w:List Nat}{m:List (List Nat)}:WB (w::m)↔w.length<=10100/\WB m:=⟨fun h=>⟨h w (mem_cons_self ..),fun u q=>h u (mem_cons_of_mem _ q)⟩,fun h u q=>(List.mem_cons.mp q).elim (fun e=>e ▸ h.1) (h.2 u)⟩
theorem iA_ {k:Vaunid.Tok} (g:aP_ k):(hK_ k).length<=10100:=by
 cases k with
 | word w=>exact zero_le _
 | sign s=>exact zero_le _
 | num v d =>
 obtain ⟨h1,h2,h3,_⟩:=g;show (Vaunid.shownLit v).length<=_;have q1:=cF_ h2;have q2:=cS_ h3;rw [gD_ v ⟨h1,h2,h3⟩];have q3:(v.measure.getD []).length<=10000:=by
  cases e:v.measure with
  | none=>exact zero_le _
  | some m=>exact (h1 m e).2
 simp only [length_append];have q4:(if v.low=1 then [] else 47::decimal v.low).length<=13:=by
  split
  ·exact zero_le _
  rw [length_cons];omega
 have q5:(if v.measure.getD []=[] then [] else 91::(v.measure.getD []++[93])).length<=10002:=by
  split
  ·exact zero_le _
  simp only [length_cons,length_append,length_nil];omega
 omega
theorem dO_ {k:Vaunid.Tok} (g:aP_ k):(eg_ k).length<=10100:=by
 cases k with
 | word w=>exact Nat.le_trans g.2 (by decide)
 | sign s=>exact zero_le _
 | num v d=>exact zero_le _
theorem ja_ {k:Vaunid.Tok}{x:Leaf} (g:aP_ k) (h:Vaunid.leafOf k=some x):WB (ba_ x):=by
 cases k with
 | word w =>
  have hw:=dO_ g;simp only [Vaunid.leafOf] at h
  repeat' split at h
  all_goals cases h
  all_goals intro u hu
  all_goals simp [ba_] at hu
  subst hu;exact hw
 | sign s=>cases h
 | num v d =>
 cases h;intro u hu;simp [ba_] at hu;subst hu;exact iA_ g
theorem e3_ : ∀ (l m:List Tr),cC_ (l++m)=cC_ l++cC_ m
 | [],m=>rfl
 | t::l,m=>by
  show allW t++cC_ (l++m)=(allW t++cC_ l)++cC_ m;rw [e3_ l m,append_assoc]
structure MB (s:MS):Prop where
 fs : ∀ pf∈s.fs,WB pf.ws/\WB (cC_ pf.ts)
 l:bf_ s.l
 res:WB (cC_ s.res)
theorem hU_ {l:Toks} (h:bf_ l):bf_ (an_ l).2:=by
 obtain ⟨pre,e⟩:=eZ_ l;rw [e] at h;exact h.suf
theorem MB.step {s s':MS} (h:MB s) (e:b1_ s=some (.ok s')):MB s':=by
 obtain ⟨fs,l,res⟩:=s;obtain ⟨h1,h2,h3⟩:=h;cases fs with
 | nil=>cases e
 | cons pf fs =>
 cases l with
 | nil=>cases e
 | cons t l =>
 have g:=h2 t (mem_cons_self ..);have hl:bf_ l:=fun k hk=>h2 k (mem_cons_of_mem _ hk);have hpf:=h1 pf (mem_cons_self ..);have hfs : ∀ q∈fs,WB q.ws/\WB (cC_ q.ts):=fun q hq=>h1 q (mem_cons_of_mem _ hq);have done : ∀ e,WB (allW (pf.done e)):=fun e=>WB.app.mpr hpf;have more : ∀ (q:PF),(WB q.ws/\WB (cC_ q.ts))->∀ q0∈q::fs,WB q0.ws/\WB (cC_ q0.ts):=fun q hq q0 h0=>(List.mem_cons.mp h0).elim (fun e=>e ▸ hq) (hfs q0);simp only [b1_] at e;split at e
 ·split at e
  ·cases fs with
   | nil =>
    cases e;refine ⟨by simp,hl,?_⟩;show WB (allW _++[]);rw [append_nil];exact done _
   | cons q fs =>
    cases e;refine ⟨fun q0 h0=>?_,hl,h3⟩;rcases List.mem_cons.mp h0 with e | h0
    ·subst e
     have hq:=hfs q (mem_cons_self ..);refine ⟨hq.1,?_⟩;show WB (cC_ (q.ts++[_]));rw [e3_];refine WB.app.mpr ⟨hq.2,?_⟩;show WB (allW _++[]);rw [append_nil];exact done _
    exact hfs q0 (mem_cons_of_mem _ h0)
  cases e
 ·split at e
  ·cases e
  split at e
  ·split at e
   ·cases e
   cases e;refine ⟨fun q0 h0=>?_,hU_ hl,h3⟩;rcases List.mem_cons.mp h0 with e | h0
   ·subst e
    exact ⟨show WB [] from fun _ q=>(by cases q),show WB [] from fun _ q=>(by cases q)⟩
   exact more _ (by exact hpf) q0 h0
  split at e
  ·rename_i x hx
   cases e;refine ⟨more _ ⟨hpf.1,?_⟩,hl,h3⟩;show WB (cC_ (pf.ts++[_]));rw [e3_];refine WB.app.mpr ⟨hpf.2,?_⟩;show WB ((ba_ x++[])++[]);rw [append_nil,append_nil];exact ja_ g hx
  cases e
 ·split at e
  ·cases e
   refine ⟨more _ ⟨?_,hpf.2⟩,hl,h3⟩;exact WB.app.mpr ⟨hpf.1,WB.cons.mpr ⟨dO_ g,fun _ q=>by cases q⟩⟩
  cases e
 split at e
 ·cases e
  refine ⟨more _ ⟨?_,hpf.2⟩,hl,h3⟩;exact WB.app.mpr ⟨hpf.1,WB.cons.mpr ⟨iA_ g,fun _ q=>by cases q⟩⟩
 cases e
theorem gH_ : ∀ {s:MS}{R:Res Tr}{n:Nat},Run s R n->MB s->∀ tr,R = .ok tr->WB (allW tr)
 | _,_,_,.done,h,tr,e=>by
  cases e;have:=h.res;exact (WB.app.mp this).1
 | _,_,_,.bad _,h,tr,e=>by cases e
 | _,_,_,.go h1 h2,h,tr,e=>gH_ h2 (h.step h1) tr e
open Vaunid (Token txt word sign surface endsNil decimalInt shownLeaf shownLit)
abbrev SI:=Term×Nat
noncomputable def bA_:Term->Nat
 | .leaf (.num v)=>if v.top<0 then 9 else 10
 | .leaf _=>10
 | .one (.pow _) _=>8
 | .one _ _=>9
 | .two o _ b=>match o with
  | .app=>9 | .pair=>10 | .cons=>if endsNil b=true then 10 else 5 | .plus=>6 | .minus=>6 | .times=>7 | .over=>7 | .less=>4 | .equal=>4 | .floor=>9 | .rest=>9
 | .three .cond _ _ _=>0
 | .three .fold _ _ _=>9
 | .fn _ _=>0
 | .rec_ _ _ _=>0
 | .let_ _ _ _=>0
 | .case _ _ _ _ _=>0
def aO_ (sep:List Nat):Term->List (Pc SI)
 | .fn x a => .inl (32::x)::aO_ sep a
 | u=>[.inl sep,.inr (u,0)]
def fnP (names:List (List Nat)) (u:Term) (sep:List Nat):List (Pc SI):=names.map (fun n => .inl (32::n))++aO_ sep u
noncomputable def aF_:Term->List Term
 | .two .pair a b=>a::aF_ b
 | u=>[u]
noncomputable def aY_:Term->List Term
 | .two .cons a b=>a::aY_ b
 | _=>[]
def dj_:List Term->List (Pc SI)
 | []=>[]
 | m::r => .inr (m,0)::r.flatMap fun x=>[.inl [44,32],.inr (x,0)]
noncomputable def opW:Two->Option (String×Nat×Nat)
 | .less=>some ("<",5,5) | .equal=>some ("=",5,5) | .plus=>some ("+",6,7) | .minus=>some ("-",6,7) | .times=>some ("*",7,8) | .over=>some ("/",7,8) | _=>none
noncomputable def ca_ (s:String) (x y:Nat) (a b:Term):List (Pc SI):=[.inr (a,x),.inl (32::(txt s++[32])),.inr (b,y)]
noncomputable def cf_ (w:List Nat) (ts:List Term):List (Pc SI) := .inl w::ts.flatMap fun t=>[.inl [32],.inr (t,10)]
noncomputable def letP (x:List Nat) (a b:Term):List (Pc SI):=(match a with
 | .rec_ f y c=>if f=x then .inl (txt "let rec")::fnP [f,y] c (txt " = ") else .inl (txt "let")::fnP [x] a (txt " = ")
 | _ => .inl (txt "let")::fnP [x] a (txt " = "))++[.inl (txt " in "),.inr (b,0)]
noncomputable def aw_:Term->List (Pc SI)
 | .leaf .nil=>[.inl (txt "[]")]
 | .leaf l=>[.inl (shownLeaf l)]
 | .one (.pow n) a=>[.inr (a,8),.inl (txt " ^ "++decimalInt n)]
 | .one o a=>cf_ (txt (eE_ o).word) [a]
 | .two o a b=>match o with
  | .app=>[.inr (a,9),.inl [32],.inr (b,10)]
  | .pair => .inl [40]::(dj_ (aF_ (.two .pair a b))++[.inl [41]])
  | .cons=>if endsNil b=true then .inl [91]::(dj_ (aY_ (.two .cons a b))++[.inl [93]]) else ca_ "::" 6 5 a b
  | .floor=>cf_ (txt "floor") [a,b]
  | .rest=>cf_ (txt "rest") [a,b]
  | o=>match opW o with
   | some (s,x,y)=>ca_ s x y a b
   | none=>[]
 | .three .cond a b c=>[.inl (txt "if "),.inr (a,0),.inl (txt " then "),.inr (b,0),.inl (txt " else "),.inr (c,0)]
 | .three .fold a b c=>cf_ (txt "fold") [a,b,c]
 | .fn x a => .inl (txt "fun")::fnP [] (.fn x a) (txt " -> ")
 | .rec_ f x a => .inl (txt "rec")::fnP [f,x] a (txt " -> ")
 | .let_ x a b=>letP x a b
 | .case l a h t b=>[.inl (txt "match "),.inr (l,0),.inl (txt " with [] -> "),.inr (a,0),.inl (txt " | "++(h++(txt " :: "++(t++txt " -> ")))),.inr (b,0)]
noncomputable def pcsS (i:SI):List (Pc SI):=if bA_ i.1<i.2 then .inl [40]::(aw_ i.1++[.inl [41]]) else aw_ i.1
def txS (i:SI):List Nat:=surface (.at i.2) i.1
theorem eo_ (l m:List (Pc SI)):pcsT txS (l++m)=pcsT txS l++pcsT txS m:=by
 unfold pcsT;rw [flatMap_append]
theorem tS_l (w:List Nat) (m:List (Pc SI)):pcsT txS (.inl w::m)=w++pcsT txS m:=rfl
theorem tS_r (i:SI) (m:List (Pc SI)):pcsT txS (.inr i::m)=surface (.at i.2) i.1++pcsT txS m:=rfl
theorem aV_:pcsT txS []=[]:=rfl
theorem fit0 (own:Nat) (t:List Nat):fitted (.at 0) own t=t:=by
 unfold fitted;simp
theorem a6_ (sep:List Nat) (u:Term) (h : ∀ x a,¬ u = .fn x a):surface (.behind sep) u=sep++surface (.at 0) u:=by
 have f1 : ∀ (own:Nat) (t:List Nat),fitted (.behind sep) own t=sep++t:=fun _ _=>rfl;cases u with
 | leaf l=>cases l <;> simp only [surface,f1,fit0]
 | one o a=>cases o <;> simp only [surface,f1,fit0]
 | two o a b =>
  unfold surface;split
  ·simp only [f1,fit0]
  split
  ·simp only [f1,fit0]
  split<;>simp only [f1,fit0]
 | three o a b c=>cases o <;> simp only [surface,f1,fit0]
 | fn x a=>exact absurd rfl (h x a)
 | rec_ f x a=>simp only [surface,f1,fit0]
 | let_ x a b =>
  cases a with
  | rec_ f y c =>
   unfold surface;split <;> simp only [f1,fit0]
  | _=>simp only [surface,f1,fit0]
 | case l a h t b=>simp only [surface,f1,fit0]
theorem aA_ (u:Term) (h : ∀ a b,¬ u = .two .pair a b):surface .pairs u=txt ", "++(surface (.at 0) u++[41]):=by
 have f1 : ∀ (own:Nat) (t:List Nat),fitted .pairs own t=txt ", "++(t++[41]):=fun _ _=>rfl;cases u with
 | leaf l=>cases l <;> simp only [surface,f1,fit0]
 | one o a=>cases o <;> simp only [surface,f1,fit0]
 | two o a b =>
  unfold surface;by_cases hp:o = .pair
  ·subst hp
   exact absurd rfl (h a b)
  rw [if_neg hp,if_neg hp];split
  ·simp only [f1,fit0]
  split<;>simp only [f1,fit0]
 | three o a b c=>cases o <;> simp only [surface,f1,fit0]
 | fn x a=>simp only [surface,f1,fit0]
 | rec_ f x a=>simp only [surface,f1,fit0]
 | let_ x a b =>
  cases a with
  | rec_ f y c =>
   unfold surface;split <;> simp only [f1,fit0]
  | _=>simp only [surface,f1,fit0]
 | case l a h t b=>simp only [surface,f1,fit0]
theorem eP_ (sep:List Nat) : ∀ u:Term,surface (.behind sep) u=pcsT txS (aO_ sep u)
 | .fn x a=>by
  unfold aO_;rw [tS_l,<- eP_ sep a];simp only [surface];rfl
 | .leaf l=>by rw [a6_ sep _ (by intro x a z;cases z)];show _=sep++(_++[]);rw [append_nil];rfl
 | .one o a=>by rw [a6_ sep _ (by intro x a z;cases z)];show _=sep++(_++[]);rw [append_nil];rfl
 | .two o a b=>by rw [a6_ sep _ (by intro x a z;cases z)];show _=sep++(_++[]);rw [append_nil];rfl
 | .three o a b c=>by rw [a6_ sep _ (by intro x a z;cases z)];show _=sep++(_++[]);rw [append_nil];rfl
 | .rec_ f x a=>by rw [a6_ sep _ (by intro x a z;cases z)];show _=sep++(_++[]);rw [append_nil];rfl
 | .let_ x a b=>by rw [a6_ sep _ (by intro x a z;cases z)];show _=sep++(_++[]);rw [append_nil];rfl
 | .case l a h t b=>by rw [a6_ sep _ (by intro x a z;cases z)];show _=sep++(_++[]);rw [append_nil];rfl
theorem m7_ (a b:Term):surface .pairs (.two .pair a b)=txt ", "++(surface (.at 0) a++surface .pairs b):=by
 conv=>lhs;unfold surface
 rw [if_pos rfl]
theorem m8_ (a b:Term) (h:endsNil b=true):surface .items (.two .cons a b)=txt ", "++(surface (.at 0) a++surface .items b):=by
 conv=>lhs;unfold surface
 rw [if_neg (by intro z;cases z),if_pos ⟨rfl,h⟩]
theorem fi_ : ∀ u:Term,surface .pairs u=pcsT txS ((aF_ u).flatMap fun x=>[.inl [44,32],.inr (x,0)])++[41]
 | .two .pair a b=>by
  have ih:=fi_ b;show surface .pairs (.two .pair a b)=pcsT txS ((.inl [44,32])::(.inr (a,0))::(aF_ b).flatMap _)++[41];rw [tS_l,tS_r,m7_,ih];simp [txt]
 | .leaf l=>by rw [aA_ _ (by intro x a z;cases z)];simp [aF_,tS_l,tS_r,aV_,txt]
 | .one o a=>by rw [aA_ _ (by intro x a z;cases z)];simp [aF_,tS_l,tS_r,aV_,txt]
 | .three o a b c=>by rw [aA_ _ (by intro x a z;cases z)];simp [aF_,tS_l,tS_r,aV_,txt]
 | .fn f a=>by rw [aA_ _ (by intro x a z;cases z)];simp [aF_,tS_l,tS_r,aV_,txt]
 | .rec_ f x a=>by rw [aA_ _ (by intro x a z;cases z)];simp [aF_,tS_l,tS_r,aV_,txt]
 | .let_ x a b=>by rw [aA_ _ (by intro x a z;cases z)];simp [aF_,tS_l,tS_r,aV_,txt]
 | .case l a h t b=>by rw [aA_ _ (by intro x a z;cases z)];simp [aF_,tS_l,tS_r,aV_,txt]
 | .two .app a b=>by rw [aA_ _ (by intro x a z;cases z)];simp [aF_,tS_l,tS_r,aV_,txt]
 | .two .cons a b=>by rw [aA_ _ (by intro x a z;cases z)];simp [aF_,tS_l,tS_r,aV_,txt]
 | .two .plus a b=>by rw [aA_ _ (by intro x a z;cases z)];simp [aF_,tS_l,tS_r,aV_,txt]
 | .two .minus a b=>by rw [aA_ _ (by intro x a z;cases z)];simp [aF_,tS_l,tS_r,aV_,txt]
 | .two .times a b=>by rw [aA_ _ (by intro x a z;cases z)];simp [aF_,tS_l,tS_r,aV_,txt]
 | .two .over a b=>by rw [aA_ _ (by intro x a z;cases z)];simp [aF_,tS_l,tS_r,aV_,txt]
 | .two .less a b=>by rw [aA_ _ (by intro x a z;cases z)];simp [aF_,tS_l,tS_r,aV_,txt]
 | .two .equal a b=>by rw [aA_ _ (by intro x a z;cases z)];simp [aF_,tS_l,tS_r,aV_,txt]
 | .two .floor a b=>by rw [aA_ _ (by intro x a z;cases z)];simp [aF_,tS_l,tS_r,aV_,txt]
 | .two .rest a b=>by rw [aA_ _ (by intro x a z;cases z)];simp [aF_,tS_l,tS_r,aV_,txt]
theorem fx_ {u:Term} (h:endsNil u=true):u = .leaf .nil\/∃ a b,u = .two .cons a b/\endsNil b=true:=by
 cases u with
 | leaf l=>cases l with
  | nil=>exact .inl rfl
  | _=>cases h
 | two o a b=>cases o with
  | cons=>exact .inr ⟨a,b,rfl,h⟩
  | _=>cases h
 | _=>cases h
theorem fm_ : ∀ (n:Nat) (u:Term),szX u<=n->endsNil u=true->surface .items u=pcsT txS ((aY_ u).flatMap fun x=>[.inl [44,32],.inr (x,0)])++[93]
 | 0,u,hn,h=>by
  have:1<=szX u:=by cases u <;> simp only [szX] <;> omega
  omega
 | n+1,u,hn,h=>by
  rcases fx_ h with rfl | ⟨a,b,rfl,hb⟩
  ·rfl
  have ih:=fm_ n b (by simp only [szX] at hn;omega) hb;show _=pcsT txS ((.inl [44,32])::(.inr (a,0))::(aY_ b).flatMap _)++[93];rw [tS_l,tS_r,m8_ a b hb,ih];simp [txt]
theorem eT_ (m:Term) (r:List Term):pcsT txS (dj_ (m::r))=surface (.at 0) m++pcsT txS (r.flatMap fun x=>[.inl [44,32],.inr (x,0)]):=rfl
theorem dm_ (w:List Nat) (ts:List Term):pcsT txS (cf_ w ts)=w++ts.flatMap fun t=>32::surface (.at 10) t:=by
 unfold cf_;rw [tS_l];congr 1
 induction ts with
 | nil=>rfl
 | cons t r ih =>
 rw [flatMap_cons,flatMap_cons,eo_,ih];simp [tS_l,tS_r,aV_]
theorem d9_ (names:List (List Nat)) (u:Term) (sep:List Nat):pcsT txS (fnP names u sep)=(names.flatMap fun n=>32::n)++surface (.behind sep) u:=by
 unfold fnP;rw [eo_,<- eP_];congr 1
 induction names with
 | nil=>rfl
 | cons n r ih=>rw [map_cons,tS_l,ih];rfl
theorem jG_ (t:Term) (k:Nat):surface (.at k) t=fitted (.at k) (bA_ t) (pcsT txS (aw_ t)):=by
 cases t with
 | leaf l=>cases l <;> simp [surface,aw_,bA_,tS_l,aV_,shownLeaf]
 | one o a=>cases o <;> simp [surface,aw_,bA_,dm_,tS_l,tS_r,aV_,eE_,Fm.word,txt]
 | two o a b =>
  cases o with
  | pair =>
   conv=>lhs;unfold surface
   rw [if_pos rfl,fi_];simp [aw_,bA_,aF_,tS_l,eo_,eT_,aV_]
  | cons =>
   conv=>lhs;unfold surface
   rw [if_neg (by intro z;cases z)];by_cases hb:endsNil b=true
   ·rw [if_pos ⟨rfl,hb⟩,fm_ (szX b) b (Nat.le_refl _) hb]
    simp [aw_,bA_,aY_,tS_l,eo_,eT_,aV_,hb]
   rw [if_neg fun z=>hb z.2];simp! [aw_,bA_,hb,ca_,tS_l,tS_r,aV_,txt]
  | _ =>
  conv=>lhs;unfold surface
  rw [if_neg (by intro z;cases z),if_neg (by rintro ⟨z,_⟩;cases z)];simp! [aw_,bA_,opW,ca_,dm_,tS_l,tS_r,aV_,Vaunid.Two.word,txt]
 | three o a b c=>cases o <;> simp [surface,aw_,bA_,dm_,tS_l,tS_r,aV_,txt]
 | fn x a =>
  simp only [surface,aw_,bA_,tS_l,d9_];simp [txt]
 | rec_ f x a =>
  simp only [surface,aw_,bA_,tS_l,d9_];simp [txt]
 | let_ x a b =>
  have two : ∀ (n:List Nat),surface (.at k) (.let_ x a b)=fitted (.at k) 0 (txt "let "++(x++(surface (.behind (txt " = ")) a++(txt " in "++surface (.at 0) b))))->letP x a b = .inl (txt "let")::fnP [x] a (txt " = ")++[.inl (txt " in "),.inr (b,0)]->surface (.at k) (.let_ x a b)=fitted (.at k) (bA_ (.let_ x a b)) (pcsT txS (aw_ (.let_ x a b))):=by
   intro _ h1 h2;rw [h1];show _=fitted (.at k) 0 (pcsT txS (letP x a b));rw [h2,eo_,tS_l,d9_];simp [txt,tS_l,tS_r,aV_]
  cases a with
  | rec_ f y c =>
   by_cases hf:f=x
   ·conv=>lhs;unfold surface
    rw [if_pos hf];show _=fitted (.at k) 0 (pcsT txS (letP x (.rec_ f y c) b));unfold letP;simp only [if_pos hf,eo_,tS_l,d9_];simp [txt,tS_l,tS_r,aV_,hf]
   refine two [] ?_ ?_
   ·conv=>lhs;unfold surface
    rw [if_neg hf,a6_ (txt " = ") (.rec_ f y c) (by intro x a z;cases z)];simp [surface,fit0,txt]
   unfold letP;simp only [if_neg hf]
  | _=>exact two [] (by simp only [surface]) rfl
 | case l a h t b=>simp [surface,aw_,bA_,tS_l,tS_r,aV_,txt]
theorem gL_ (i:SI):txS i=pcsT txS (pcsS i):=by
 obtain ⟨t,k⟩:=i;show surface (.at k) t=_;rw [jG_];unfold pcsS fitted Vaunid.bracketed;dsimp only;split
 ·rw [tS_l,eo_]
  rfl
 rfl
noncomputable def cS (i:SI):Nat:=12 * szX i.1
theorem fD_ (l m:List (Pc SI)):pcsC cS (l++m)=pcsC cS l+pcsC cS m:=by
 unfold pcsC;rw [map_append,List.sum_append]
theorem cS_l (w:List Nat) (m:List (Pc SI)):pcsC cS (.inl w::m)=1+pcsC cS m:=by
 unfold pcsC;rw [map_cons,sum_cons];rfl
theorem cS_r (t:Term) (k:Nat) (m:List (Pc SI)):pcsC cS (.inr (t,k)::m)=12 * szX t+pcsC cS m:=by
 unfold pcsC;rw [map_cons,sum_cons];rfl
theorem bm_:pcsC cS []=0:=rfl
theorem nU_ (sep:List Nat) : ∀ u:Term,pcsC cS (aO_ sep u)<=1+12 * szX u
 | .fn x a=>by
  have ih:=nU_ sep a;unfold aO_;rw [cS_l];simp only [szX];omega
 | .leaf l=>by simp [aO_,cS_l,cS_r,bm_]
 | .one o a=>by simp [aO_,cS_l,cS_r,bm_]
 | .two o a b=>by simp [aO_,cS_l,cS_r,bm_]
 | .three o a b c=>by simp [aO_,cS_l,cS_r,bm_]
 | .rec_ f x a=>by simp [aO_,cS_l,cS_r,bm_]
 | .let_ x a b=>by simp [aO_,cS_l,cS_r,bm_]
 | .case l a h t b=>by simp [aO_,cS_l,cS_r,bm_]
theorem iM_ (names:List (List Nat)) (u:Term) (sep:List Nat):pcsC cS (fnP names u sep)<=names.length+1+12 * szX u:=by
 unfold fnP;rw [fD_];have h:=nU_ sep u;have h2:pcsC cS (names.map fun n=>(.inl (32::n):Pc SI))=names.length:=by
  induction names with
  | nil=>rfl
  | cons n r ih=>rw [map_cons,cS_l,ih,length_cons];omega
 omega
theorem eX_ : ∀ l:List Term,pcsC cS (l.flatMap fun x=>[.inl [44,32],.inr (x,0)])=(l.map fun x=>1+12 * szX x).sum
 | []=>rfl
 | x::r=>by
  rw [flatMap_cons,fD_,eX_ r,map_cons,sum_cons,cS_l,cS_r,bm_];omega
theorem f9_ : ∀ u:Term,((aF_ u).map fun x=>1+12 * szX x).sum<=12 * szX u+1
 | .two .pair a b=>by
  have ih:=f9_ b;show ((a::aF_ b).map _).sum<=_;rw [map_cons,sum_cons];simp only [szX];omega
 | .leaf l=>by simp [aF_];omega
 | .one o a=>by simp [aF_];omega
 | .three o a b c=>by simp [aF_];omega
 | .fn f a=>by simp [aF_];omega
 | .rec_ f x a=>by simp [aF_];omega
 | .let_ x a b=>by simp [aF_];omega
 | .case l a h t b=>by simp [aF_];omega
 | .two .app a b=>by simp [aF_];omega
 | .two .cons a b=>by simp [aF_];omega
 | .two .plus a b=>by simp [aF_];omega
 | .two .minus a b=>by simp [aF_];omega
 | .two .times a b=>by simp [aF_];omega
 | .two .over a b=>by simp [aF_];omega
 | .two .less a b=>by simp [aF_];omega
 | .two .equal a b=>by simp [aF_];omega
 | .two .floor a b=>by simp [aF_];omega
 | .two .rest a b=>by simp [aF_];omega
theorem ga_ : ∀ u:Term,((aY_ u).map fun x=>1+12 * szX x).sum<=12 * szX u
 | .two .cons a b=>by
  have ih:=ga_ b;show ((a::aY_ b).map _).sum<=_;rw [map_cons,sum_cons];simp only [szX];omega
 | .leaf l=>by simp [aY_]
 | .one o a=>by simp [aY_]
 | .three o a b c=>by simp [aY_]
 | .fn f a=>by simp [aY_]
 | .rec_ f x a=>by simp [aY_]
 | .let_ x a b=>by simp [aY_]
 | .case l a h t b=>by simp [aY_]
 | .two .app a b=>by simp [aY_]
 | .two .pair a b=>by simp [aY_]
 | .two .plus a b=>by simp [aY_]
 | .two .minus a b=>by simp [aY_]
 | .two .times a b=>by simp [aY_]
 | .two .over a b=>by simp [aY_]
 | .two .less a b=>by simp [aY_]
 | .two .equal a b=>by simp [aY_]
 | .two .floor a b=>by simp [aY_]
 | .two .rest a b=>by simp [aY_]
theorem h3_ (o:Two) (a b:Term) (h1:o ≠ .pair) (h2:o ≠ .cons):(∃ x w y,aw_ (.two o a b)=[.inr (a,x),.inl w,.inr (b,y)]/\w.length<=5)\/∃ w,aw_ (.two o a b)=cf_ w [a,b]/\w.length<=5:=by
 cases o <;> first | exact absurd rfl h1 | exact absurd rfl h2 | exact .inl ⟨_,_,_,rfl,by decide⟩ | exact .inr ⟨_,rfl,by decide⟩
theorem g6_ (t:Term):3+pcsC cS (aw_ t)<=12 * szX t:=by
 cases t with
 | leaf l=>cases l <;> simp [aw_,cS_l,bm_,szX]
 | one o a=>cases o <;> (simp [aw_,cf_,cS_l,cS_r,bm_,szX];omega)
 | two o a b =>
  by_cases hp:o = .pair
  ·subst hp
   have h:=f9_ b;have e:pcsC cS (aw_ (.two .pair a b))=1+(12 * szX a+((aF_ b).map fun x=>1+12 * szX x).sum+1):=by
    show pcsC cS (.inl [40]::(.inr (a,0)::((aF_ b).flatMap fun x=>[.inl [44,32],.inr (x,0)])++[.inl [41]]))=_;rw [cS_l,cons_append,cS_r,fD_,eX_,cS_l,bm_];omega
   rw [e];simp only [szX];omega
  by_cases hc:o = .cons
  ·subst hc
   by_cases hb:endsNil b=true
   ·have h:=ga_ b
    have e:pcsC cS (aw_ (.two .cons a b))=1+(12 * szX a+((aY_ b).map fun x=>1+12 * szX x).sum+1):=by
     simp only [aw_,if_pos hb];show pcsC cS (.inl [91]::(.inr (a,0)::((aY_ b).flatMap fun x=>[.inl [44,32],.inr (x,0)])++[.inl [93]]))=_;rw [cS_l,cons_append,cS_r,fD_,eX_,cS_l,bm_];omega
    rw [e];simp only [szX];omega
   simp only [aw_,if_neg hb,ca_,cS_l,cS_r,bm_,szX];omega
  rcases h3_ o a b hp hc with ⟨x,w,y,e,hw⟩ | ⟨w,e,hw⟩
  ·rw [e,cS_r,cS_l,cS_r,bm_]
   simp only [szX];omega
  rw [e];simp only [cf_,flatMap_cons,List.flatMap_nil,cons_append,nil_append,length_cons,length_nil,cS_l,cS_r,bm_,szX];omega
 | three o a b c=>cases o <;> (simp [aw_,cf_,cS_l,cS_r,bm_,szX];omega)
 | fn x a =>
  have h:=iM_ [] (.fn x a) (txt " -> ");have h2:=nU_ (txt " -> ") a;show 3+pcsC cS (.inl (txt "fun")::(.inl (32::x)::aO_ (txt " -> ") a))<=_;rw [cS_l,cS_l];simp only [szX];omega
 | rec_ f x a =>
  have h:=iM_ [f,x] a (txt " -> ");show 3+pcsC cS (.inl (txt "rec")::fnP [f,x] a (txt " -> "))<=_;rw [cS_l];simp only [szX,length_cons,length_nil] at h ⊢;omega
 | let_ x a b =>
  show 3+pcsC cS (letP x a b)<=_;unfold letP;rw [fD_,cS_l,cS_r,bm_];have main:pcsC cS (.inl (txt "let")::fnP [x] a (txt " = "))<=3+12 * szX a:=by
   have h:=iM_ [x] a (txt " = ");rw [cS_l];simp only [length_cons,length_nil] at h;omega
  cases a with
  | rec_ f y c =>
   by_cases hf:f=x
   ·simp only [if_pos hf,cS_l]
    have h:=iM_ [f,y] c (txt " = ");simp only [szX,length_cons,length_nil] at h ⊢;omega
   simp only [if_neg hf];simp only [szX] at main ⊢;omega
  | _ =>
  simp only [szX] at main ⊢;omega
 | case l a h t b=>simp [aw_,cS_l,cS_r,bm_,szX];omega
theorem mQ_ (i:SI):1+pcsC cS (pcsS i)<=cS i:=by
 obtain ⟨t,k⟩:=i;have h:=g6_ t;show 1+pcsC cS (pcsS (t,k))<=12 * szX t;unfold pcsS;dsimp only;split
 ·rw [cS_l,fD_,cS_l,bm_]
  omega
 omega
abbrev SubT (Cn:Addr) (H:Hp) (a:Addr) (t:Term):Prop:=∃ (tr:Tr) (F:List Addr),Rep t tr/\TreeAt Cn H a tr F
theorem m9_ {Cn:Addr}{H:Hp}{xs:List Term}{ts:List Tr}{as F:List Addr} (h:Reps xs ts) (t:TreesAt Cn H as ts F):Paired (SubT Cn H) as xs :=
 Reps.rec (motive_1:=fun _ _ _=>True) (motive_2:=fun xs ts _=>∀ as F,TreesAt Cn H as ts F->Paired (SubT Cn H) as xs) (fun _ _=>trivial) (fun _ _ t=>by cases t;exact .nil) (fun h1 _ _ ih _ _ t=>by
  cases t with
  | cons t1 t2=>exact .cons ⟨_,_,h1,t1⟩ (ih _ _ t2)) h as F t
theorem a3_ {Cn:Addr}{H:Hp}{n:Addr}{x:Term} (h:SubT Cn H n x) : ∃ (dx wl pl:Addr) (b e:Nat) (as:List Addr),H n=some (.ins Cn dx (bg_ (S (a4_ x)) wl pl (b:Int) (e:Int)))/\H wl=some (.lst (((ee_ x).map S).map V.str))/\H pl=some (.lst (as.map V.ref))/\Paired (SubT Cn H) as (bD_ x):=by
 obtain ⟨tr,F,hr,ht⟩:=h;cases hr with
 | @mk _ b e ps hps =>
 cases ht with
 | @mk _ dx wl pl _ _ _ _ as _ G t1 t2 t3 t4=>exact ⟨dx,wl,pl,b,e,as,t1,t2,t3,m9_ hps t4⟩
theorem iV_ {A B:Type}{R:A->B->Prop}{l:List A}{m:List B} (h:Paired R l m):Paired R l.reverse m.reverse:=by
 induction h with
 | nil=>exact .nil
 | cons r t ih =>
 rw [reverse_cons,reverse_cons];exact bd_ ih r
noncomputable def pcW:Pc SI->Nat
 | .inl w=>w.length
 | .inr i=>20400 * szX i.1
noncomputable def pcsW (l:List (Pc SI)):Nat:=(l.map pcW).sum
theorem fC_ (l m:List (Pc SI)):pcsW (l++m)=pcsW l+pcsW m:=by
 unfold pcsW;rw [map_append,List.sum_append]
theorem cW_l (w:List Nat) (m:List (Pc SI)):pcsW (.inl w::m)=w.length+pcsW m:=by
 unfold pcsW;rw [map_cons,sum_cons];rfl
theorem cW_r (t:Term) (k:Nat) (m:List (Pc SI)):pcsW (.inr (t,k)::m)=20400 * szX t+pcsW m:=by
 unfold pcsW;rw [map_cons,sum_cons];rfl
theorem bF_:pcsW []=0:=rfl
theorem dP_ (sep:List Nat) (u:Term) (h : ∀ x a,¬ u = .fn x a):aO_ sep u=[.inl sep,.inr (u,0)]:=by
 cases u with
 | fn x a=>exact absurd rfl (h x a)
 | _=>rfl
theorem oV_ (u:Term):(∃ x a,u = .fn x a)\/∀ x a,¬ u = .fn x a:=by
 cases u with
 | fn x a=>exact .inl ⟨x,a,rfl⟩
 | _=>exact .inr fun x a z=>by cases z
theorem nT_ (sep:List Nat) : ∀ (n:Nat) (u:Term),szX u<=n->WB (allX u)->pcsW (aO_ sep u)<=sep.length+20400 * szX u
 | 0,u,hn,_=>by
  have:1<=szX u:=by cases u <;> simp only [szX] <;> omega
  omega
 | n+1,u,hn,hw=>by
  rcases oV_ u with ⟨x,a,rfl⟩ | h
  ·simp only [szX] at hn
   obtain ⟨h1,h2⟩:=WB.cons.mp hw;have ih:=nT_ sep n a (by omega) h2;show pcsW (.inl (32::x)::aO_ sep a)<=_;rw [cW_l,length_cons];simp only [szX];omega
  rw [dP_ sep u h,cW_l,cW_r,bF_];omega
theorem mh_ (names:List (List Nat)) (h:WB names):pcsW (names.map fun n=>(.inl (32::n):Pc SI))<=10101 * names.length:=by
 induction names with
 | nil=>exact Nat.le_refl _
 | cons n r ih =>
 obtain ⟨h1,h2⟩:=WB.cons.mp h;have:=ih h2;rw [map_cons,cW_l,length_cons,length_cons];omega
theorem k9_ (names:List (List Nat)) (u:Term) (sep:List Nat) (h:WB names) (hw:WB (allX u)):pcsW (fnP names u sep)<=10101 * names.length+sep.length+20400 * szX u:=by
 unfold fnP;rw [fC_];have h1:=nT_ sep (szX u) u (Nat.le_refl _) hw;have h2:=mh_ names h;omega
theorem eW_ : ∀ l:List Term,pcsW (l.flatMap fun x=>[.inl [44,32],.inr (x,0)])=(l.map fun x=>2+20400 * szX x).sum
 | []=>rfl
 | x::r=>by
  rw [flatMap_cons,fC_,eW_ r,map_cons,sum_cons,cW_l,cW_r,bF_];show 2+(20400 * szX x+0)+_=_;omega
theorem eD_ {u:Term} (h : ∀ a b,¬ u = .two .pair a b):aF_ u=[u]:=by
 cases u with
 | two o a b=>cases o with
  | pair=>exact absurd rfl (h a b)
  | _=>rfl
 | _=>rfl
theorem kj_ (u:Term):(∃ a b,u = .two .pair a b)\/∀ a b,¬ u = .two .pair a b:=by
 cases u with
 | two o a b=>cases o with
  | pair=>exact .inl ⟨a,b,rfl⟩
  | _=>exact .inr fun x y z=>by cases z
 | _=>exact .inr fun x y z=>by cases z
theorem eG_ {u:Term} (h : ∀ a b,¬ u = .two .cons a b):aY_ u=[]:=by
 cases u with
 | two o a b=>cases o with
  | cons=>exact absurd rfl (h a b)
  | _=>rfl
 | _=>rfl
theorem k5_ (u:Term):(∃ a b,u = .two .cons a b)\/∀ a b,¬ u = .two .cons a b:=by
 cases u with
 | two o a b=>cases o with
  | cons=>exact .inl ⟨a,b,rfl⟩
  | _=>exact .inr fun x y z=>by cases z
 | _=>exact .inr fun x y z=>by cases z
theorem iK_ : ∀ (n:Nat) (u:Term),szX u<=n->((aF_ u).map fun x=>2+20400 * szX x).sum<=20400 * szX u+2
 | 0,u,hn=>by
  have:1<=szX u:=by cases u <;> simp only [szX] <;> omega
  omega
 | n+1,u,hn=>by
  rcases kj_ u with ⟨a,b,rfl⟩ | h
  ·simp only [szX] at hn
   have ih:=iK_ n b (by omega);show ((a::aF_ b).map _).sum<=_;rw [map_cons,sum_cons];simp only [szX];omega
  rw [eD_ h];simp;omega
theorem iL_ : ∀ (n:Nat) (u:Term),szX u<=n->((aY_ u).map fun x=>2+20400 * szX x).sum<=20400 * szX u
 | 0,u,hn=>by
  have:1<=szX u:=by cases u <;> simp only [szX] <;> omega
  omega
 | n+1,u,hn=>by
  rcases k5_ u with ⟨a,b,rfl⟩ | h
  ·simp only [szX] at hn
   have ih:=iL_ n b (by omega);show ((a::aY_ b).map _).sum<=_;rw [map_cons,sum_cons];simp only [szX];omega
  rw [eG_ h];exact zero_le _
theorem lV_ (t:Term) (hw:WB (allX t)):pcsW (aw_ t)+2<=20400 * szX t:=by
 cases t with
 | leaf l =>
  cases l with
  | name x=>have:=hw x (by simp [allX,ba_]);simp [aw_,cW_l,bF_,szX,shownLeaf];omega
  | num v=>have:=hw (shownLit v) (by simp [allX,ba_]);simp [aw_,cW_l,bF_,szX,shownLeaf];omega
  | truth b=>cases b <;> decide
  | nil=>decide
 | one o a =>
  cases o with
  | pow n =>
   obtain ⟨h1,h2⟩:=WB.cons.mp hw;simp [aw_,cW_l,cW_r,bF_,szX,txt];omega
  | _=>simp [aw_,cf_,cW_l,cW_r,bF_,szX,eE_,Fm.word,txt];omega
 | two o a b =>
  by_cases hp:o = .pair
  ·subst hp
   have h:=iK_ (szX b) b (Nat.le_refl _);have e:pcsW (aw_ (.two .pair a b))=1+(20400 * szX a+((aF_ b).map fun x=>2+20400 * szX x).sum+1):=by
    show pcsW (.inl [40]::(.inr (a,0)::((aF_ b).flatMap fun x=>[.inl [44,32],.inr (x,0)])++[.inl [41]]))=_;rw [cW_l,cons_append,cW_r,fC_,eW_,cW_l,bF_];simp;omega
   rw [e];simp only [szX];omega
  by_cases hc:o = .cons
  ·subst hc
   by_cases hb:endsNil b=true
   ·have h:=iL_ (szX b) b (Nat.le_refl _)
    have e:pcsW (aw_ (.two .cons a b))=1+(20400 * szX a+((aY_ b).map fun x=>2+20400 * szX x).sum+1):=by
     simp only [aw_,if_pos hb];show pcsW (.inl [91]::(.inr (a,0)::((aY_ b).flatMap fun x=>[.inl [44,32],.inr (x,0)])++[.inl [93]]))=_;rw [cW_l,cons_append,cW_r,fC_,eW_,cW_l,bF_];simp;omega
    rw [e];simp only [szX];omega
   simp [aw_,if_neg hb,ca_,cW_l,cW_r,bF_,szX,txt];omega
  rcases h3_ o a b hp hc with ⟨x,w,y,e,hw⟩ | ⟨w,e,hw⟩
  ·rw [e,cW_r,cW_l,cW_r,bF_]
   simp only [szX];omega
  rw [e];simp only [cf_,flatMap_cons,List.flatMap_nil,cons_append,nil_append,length_cons,length_nil,cW_l,cW_r,bF_,szX];omega
 | three o a b c=>cases o <;> (simp [aw_,cf_,cW_l,cW_r,bF_,szX,txt];omega)
 | fn x a =>
  obtain ⟨h1,h2⟩:=WB.cons.mp hw;have h:=nT_ (txt " -> ") (szX a) a (Nat.le_refl _) h2;have e:(txt " -> ").length=4:=rfl;show pcsW (.inl (txt "fun")::(.inl (32::x)::aO_ (txt " -> ") a))+2<=_;rw [cW_l,cW_l,length_cons,show (txt "fun").length=3 from rfl];simp only [szX];omega
 | rec_ f x a =>
  obtain ⟨h1,h2⟩:=WB.cons.mp hw;obtain ⟨h2,h3⟩:=WB.cons.mp h2;have h:=k9_ [f,x] a (txt " -> ") (WB.cons.mpr ⟨h1,WB.cons.mpr ⟨h2,fun _ q=>(by cases q)⟩⟩) h3;have e:(txt " -> ").length=4:=rfl;show pcsW (.inl (txt "rec")::fnP [f,x] a (txt " -> "))+2<=_;rw [cW_l,show (txt "rec").length=3 from rfl];simp only [szX,length_cons,length_nil] at h ⊢;omega
 | let_ x a b =>
  obtain ⟨h1,h2⟩:=WB.cons.mp hw;obtain ⟨h2,h3⟩:=WB.app.mp h2;have e:(txt " = ").length=3:=rfl;have e2:(txt " in ").length=4:=rfl;have e3:(txt "let").length=3:=rfl;have e4:(txt "let rec").length=7:=rfl;show pcsW (letP x a b)+2<=_;unfold letP;rw [fC_,cW_l,cW_r,bF_];have main:pcsW (.inl (txt "let")::fnP [x] a (txt " = "))<=10110+20400 * szX a:=by
   have h:=k9_ [x] a (txt " = ") (WB.cons.mpr ⟨h1,fun _ q=>(by cases q)⟩) h2;rw [cW_l];simp only [length_cons,length_nil] at h;omega
  cases a with
  | rec_ f y c =>
   by_cases hf:f=x
   ·simp only [if_pos hf,cW_l]
    obtain ⟨g1,g2⟩:=WB.cons.mp h2;obtain ⟨g2,g3⟩:=WB.cons.mp g2;have h:=k9_ [f,y] c (txt " = ") (WB.cons.mpr ⟨g1,WB.cons.mpr ⟨g2,fun _ q=>(by cases q)⟩⟩) g3;simp only [szX,length_cons,length_nil] at h ⊢;omega
   simp only [if_neg hf];simp only [szX] at main ⊢;omega
  | _ =>
  simp only [szX] at main ⊢;omega
 | case l a h t b =>
 obtain ⟨h1,h2⟩:=WB.cons.mp hw;obtain ⟨h2,h3⟩:=WB.cons.mp h2;simp [aw_,cW_l,cW_r,bF_,szX,txt];omega
theorem ku_ {A:Type} (f:A->Nat) {x:A} : ∀ {l:List A},x∈l->f x<=(l.map f).sum
 | y::r,h=>by
  rw [map_cons,sum_cons];rcases List.mem_cons.mp h with rfl | h
  ·omega
  have:=ku_ f h;omega
theorem mt_ {i j:SI} (h:(.inr j:Pc SI)∈pcsS i):szX j.1<szX i.1:=by
 have h1:=mQ_ i;have h2:=ku_ (pcC cS) h;have h3:12 * szX j.1<=pcsC cS (pcsS i):=h2;have h4:1+pcsC cS (pcsS i)<=12 * szX i.1:=h1;omega
theorem od_ {i j:SI} (h:(.inr j:Pc SI)∈pcsS i) (hs:szX i.1<=300):szX j.1<=300:=by
 have:=mt_ h;omega
def WP (l:List (Pc SI)):Prop:=∀ j,(.inr j:Pc SI)∈l->WB (allX j.1)
theorem WP.nil:WP []:=fun j h=>by cases h
theorem WP.l {w:List Nat}{m:List (Pc SI)} (h:WP m):WP (.inl w::m):=fun j q=>by
 rcases List.mem_cons.mp q with z | q
 ·cases z
 exact h j q
theorem WP.r {t:Term}{k:Nat}{m:List (Pc SI)} (h1:WB (allX t)) (h:WP m):WP (.inr (t,k)::m):=fun j q=>by
 rcases List.mem_cons.mp q with z | q
 ·cases z
  exact h1
 exact h j q
theorem WP.app {l m:List (Pc SI)} (h1:WP l) (h2:WP m):WP (l++m):=fun j q=>(List.mem_append.mp q).elim (h1 j) (h2 j)
theorem n4_ (sep:List Nat) : ∀ (n:Nat) (u:Term),szX u<=n->WB (allX u)->WP (aO_ sep u)
 | 0,u,hn,_=>by
  have:1<=szX u:=by cases u <;> simp only [szX] <;> omega
  omega
 | n+1,u,hn,hw=>by
  rcases oV_ u with ⟨x,a,rfl⟩ | h
  ·simp only [szX] at hn
   exact .l (n4_ sep n a (by omega) (WB.cons.mp hw).2)
  rw [dP_ sep u h];exact .l (.r hw .nil)
theorem gf_ (names:List (List Nat)) (u:Term) (sep:List Nat) (hw:WB (allX u)):WP (fnP names u sep):=by
 refine .app (fun j q=>?_) (n4_ sep (szX u) u (Nat.le_refl _) hw);obtain ⟨n,_,e⟩:=List.mem_map.mp q;cases e
theorem gg_ {l:List Term} (h : ∀ t∈l,WB (allX t)):WP (l.flatMap fun x=>[.inl [44,32],.inr (x,0)]):=by
 induction l with
 | nil=>exact .nil
 | cons t r ih=>exact .l (.r (h t (mem_cons_self ..)) (ih fun u hu=>h u (mem_cons_of_mem _ hu)))
theorem hY_ : ∀ (n:Nat) (u:Term),szX u<=n->WB (allX u)->∀ t∈aF_ u,WB (allX t)
 | 0,u,hn,_=>by
  have:1<=szX u:=by cases u <;> simp only [szX] <;> omega
  omega
 | n+1,u,hn,hw=>by
  rcases kj_ u with ⟨a,b,rfl⟩ | h
  ·simp only [szX] at hn
   intro t ht;rcases List.mem_cons.mp ht with rfl | ht
   ·exact (WB.app.mp hw).1
   exact hY_ n b (by omega) (WB.app.mp hw).2 t ht
  rw [eD_ h];intro t ht;rw [List.mem_singleton.mp ht];exact hw
theorem hZ_ : ∀ (n:Nat) (u:Term),szX u<=n->WB (allX u)->∀ t∈aY_ u,WB (allX t)
 | 0,u,hn,_=>by
  have:1<=szX u:=by cases u <;> simp only [szX] <;> omega
  omega
 | n+1,u,hn,hw=>by
  rcases k5_ u with ⟨a,b,rfl⟩ | h
  ·simp only [szX] at hn
   intro t ht;rcases List.mem_cons.mp ht with rfl | ht
   ·exact (WB.app.mp hw).1
   exact hZ_ n b (by omega) (WB.app.mp hw).2 t ht
  rw [eG_ h];intro t ht;cases ht
theorem mX_ (t:Term) (hw:WB (allX t)):WP (aw_ t):=by
 cases t with
 | leaf l=>cases l <;> exact .l .nil
 | one o a =>
  cases o with
  | pow n=>exact .r (WB.cons.mp hw).2 (.l .nil)
  | _=>exact .l (.l (.r hw .nil))
 | two o a b =>
  obtain ⟨ha,hb⟩:=WB.app.mp hw;cases o with
  | pair=>exact .l (.app (.r ha (gg_ (hY_ _ b (Nat.le_refl _) hb))) (.l .nil))
  | cons =>
   by_cases he:endsNil b=true
   ·simp only [aw_,if_pos he]
    exact .l (.app (.r ha (gg_ (hZ_ _ b (Nat.le_refl _) hb))) (.l .nil))
   simp only [aw_,if_neg he];exact .r ha (.l (.r hb .nil))
  | floor=>exact .l (.l (.r ha (.l (.r hb .nil))))
  | rest=>exact .l (.l (.r ha (.l (.r hb .nil))))
  | _=>exact .r ha (.l (.r hb .nil))
 | three o a b c =>
  obtain ⟨ha,hb⟩:=WB.app.mp hw;obtain ⟨hb,hc⟩:=WB.app.mp hb;cases o with
  | cond=>exact .l (.r ha (.l (.r hb (.l (.r hc .nil)))))
  | fold=>exact .l (.l (.r ha (.l (.r hb (.l (.r hc .nil))))))
 | fn x a=>exact .l (gf_ [] (.fn x a) _ hw)
 | rec_ f x a=>exact .l (gf_ [f,x] a _ (WB.cons.mp (WB.cons.mp hw).2).2)
 | let_ x a b =>
  obtain ⟨h1,h2⟩:=WB.cons.mp hw;obtain ⟨h2,h3⟩:=WB.app.mp h2;show WP (letP x a b);unfold letP;refine .app ?_ (.l (.r h3 .nil));cases a with
  | rec_ f y c =>
   by_cases hf:f=x
   ·simp only [if_pos hf]
    exact .l (gf_ _ _ _ (WB.cons.mp (WB.cons.mp h2).2).2)
   simp only [if_neg hf];exact .l (gf_ _ _ _ h2)
  | _=>exact .l (gf_ _ _ _ h2)
 | case l a h t b =>
 obtain ⟨h1,h2⟩:=WB.cons.mp hw;obtain ⟨h2,h3⟩:=WB.cons.mp h2;obtain ⟨h3,h4⟩:=WB.app.mp h3;obtain ⟨h4,h5⟩:=WB.app.mp h4;exact .l (.r h3 (.l (.r h4 (.l (.r h5 .nil)))))
theorem ms_ {i j:SI} (h:(.inr j:Pc SI)∈pcsS i) (hw:WB (allX i.1)):WB (allX j.1):=by
 have h1:=mX_ i.1 hw;have h2:WP (pcsS i):=by
  unfold pcsS;split
  ·exact .l (.app h1 (.l .nil))
  exact h1
 exact h2 j h
theorem jF_ : ∀ (n:Nat) (i:SI),szX i.1<=n->WB (allX i.1)->(txS i).length<=20400 * szX i.1
 | 0,i,hn,_=>by
  have:1<=szX i.1:=by obtain ⟨u,k⟩:=i;cases u <;> simp only [szX] <;> omega
  omega
 | n+1,i,hn,hw=>by
  rw [gL_ i];have key : ∀ l:List (Pc SI),(∀ j,(.inr j:Pc SI)∈l->(txS j).length<=20400 * szX j.1)->(pcsT txS l).length<=pcsW l:=by
   intro l
   induction l with
   | nil=>intro _;exact Nat.le_refl _
   | cons c r ih =>
   intro h;have h2:=ih fun j hj=>h j (mem_cons_of_mem _ hj);show (pcT txS c++pcsT txS r).length<=(pcW c::r.map pcW).sum;rw [length_append,sum_cons];have h3:(pcT txS c).length<=pcW c:=by
    cases c with
    | inl w=>exact Nat.le_refl _
    | inr j=>exact h j (mem_cons_self ..)
   have h4:pcsW r=(r.map pcW).sum:=rfl;omega
  have h1:=key (pcsS i) fun j hj=>jF_ n j (by have:=mt_ hj;omega) (ms_ hj hw);have h2:=lV_ i.1 hw;have h3:pcsW (pcsS i)<=pcsW (aw_ i.1)+2:=by
   unfold pcsS;split
   ·rw [cW_l,fC_,cW_l,bF_]
    simp;omega
   omega
  omega
theorem h6_ (x:Term) (hs:szX x<=300) (hw:WB (allX x)):(txS (x,0)).length<=7000000:=by
 have:=jF_ (szX x) (x,0) (Nat.le_refl _) hw;have:(txS (x,0)).length<=20400 * szX x:=this;omega
theorem ki_ {A B:Type}{R S:A->B->Prop}{l:List A}{m:List B} (h:Paired R l m) (k : ∀ a b,b∈m->R a b->S a b):Paired S l m:=by
 induction h with
 | nil=>exact .nil
 | cons r t ih=>exact .cons (k _ _ (mem_cons_self ..) r) (ih fun a b hb=>k a b (mem_cons_of_mem _ hb))
end M
section
set_option maxHeartbeats 2000000
namespace L2
open PySem PySem.Spec PyProof.Rows
open PySem.W (WData Codec OpenSpec Well WellAll ReadsW ReadsAllW)
mutual
inductive Dw (K:PySem.W.Frag) (H:Hp):V->WData->Prop
 | non:Dw K H .non .none
 | bl (b:Bool):Dw K H (.bl b) (.bool b)
 | int (i:Int):Dw K H (.int i) (.int i)
 | str (x:Str):Dw K H (.str x) (.str x)
 | byt (b:Array UInt8):Dw K H (.byt b) (.bytes b.toList)
 | lst {a:Addr}{xs:List V}{ds:List WData}:SqL K H a xs->DwAll K H xs ds->Dw K H (.ref a) (.list ds)
 | tup {a:Addr}{xs:List V}{ds:List WData}:SqT K H a xs->DwAll K H xs ds->Dw K H (.ref a) (.tuple ds)
inductive DwAll (K:PySem.W.Frag) (H:Hp):List V->List WData->Prop
 | nil:DwAll K H [] []
 | cons {v:V}{vs:List V}{d:WData}{ds:List WData}:Dw K H v d->DwAll K H vs ds->DwAll K H (v::vs) (d::ds)
end
theorem kW_ {K:PySem.W.Frag}{H:Hp} : ∀ ns:List Int,DwAll K H (ns.map V.int) (ns.map WData.int)
 | [] => .nil
 | n::r => .cons (.int n) (kW_ r)
theorem kI_ {K:PySem.W.Frag}{H:Hp} : ∀ (ns:List Int) (xs:List V),DwAll K H xs (ns.map WData.int)->xs=ns.map V.int
 | [],xs,h=>by
  cases h;rfl
 | n::r,xs,h=>by
  cases h with
  | cons h1 h2 =>
  cases h1;rw [kI_ r _ h2] <;> rfl
section
variable {P:Program}{w:World}{K:PySem.W.Frag}{H:Hp}{h:Heap}{R:PySem.W.WRecords}{cl:Str->Option Addr}
theorem og_ {a:Addr}{xs:List V} (hok:HOk P w H h) (KX:K.In h) (q:SqL K H a xs) : ∃ (its:List Value) (o:Obj) (n:Nat),Vals xs its/\h.get? a=some o/\o.cls = .type "list"/\o.data = .seq its.toArray n:=by
 rcases q with q | ⟨o,its,n,e,hc,_,hd,_,hv⟩
 ·obtain ⟨_,its,n,hv,e⟩:=(show a8_ P w H h a (.lst xs) from q.ok hok)
  exact ⟨its,_,n,hv,e,rfl,rfl⟩
 exact ⟨its.toList,o,n,hv,KX _ _ e,hc,by simp [hd]⟩
theorem oe_ {a:Addr}{xs:List V} (hok:HOk P w H h) (KX:K.In h) (q:SqT K H a xs) : ∃ (its:List Value) (o:Obj) (n:Nat),Vals xs its/\h.get? a=some o/\o.cls = .type "tuple"/\o.data = .seq its.toArray n:=by
 rcases q with q | ⟨o,its,n,e,hc,hd,_,hv⟩
 ·obtain ⟨_,its,hv,o,e,hc,n,hd⟩:=(show a8_ P w H h a (.tup xs) from q.ok hok)
  exact ⟨its,o,n,hv,e,hc,hd⟩
 exact ⟨its.toList,o,n,hv,KX _ _ e,hc,by simp [hd]⟩
mutual
theorem Dw.reads (hok:HOk P w H h) (KX:K.In h) : ∀ (d:WData) (v:V) (u:Value),Dw K H v d->RelV v u->∃ as,ReadsW R cl h u d as
 | .none,_,_,x,r=>by
  cases x;cases r;exact ⟨_,ReadsW.none⟩
 | .bool b,_,_,x,r=>by
  cases x;cases r;exact ⟨_,ReadsW.bool b⟩
 | .int i,_,_,x,r=>by
  cases x;obtain ⟨t,rfl⟩:=r;exact ⟨_,ReadsW.int i t⟩
 | .str s,_,_,x,r=>by
  cases x;obtain ⟨t,rfl⟩:=r;exact ⟨_,ReadsW.str s t⟩
 | .bytes b,_,_,x,r=>by
  cases x;obtain ⟨t,rfl⟩:=r;exact ⟨_,ReadsW.bytes _ t⟩
 | .list ds,_,_,x,r=>by
  cases x with
  | lst hs ha =>
  cases r;obtain ⟨its,o,n,rv,ho,hc,hd⟩:=og_ hok KX hs;obtain ⟨as,hr⟩:=Dw.readsAll hok KX ds _ its ha rv;exact ⟨_,ReadsW.list ho hc hd hr⟩
 | .tuple ds,_,_,x,r=>by
  cases x with
  | tup hs ha =>
  cases r;obtain ⟨its,o,n,rv,ho,hc,hd⟩:=oe_ hok KX hs;obtain ⟨as,hr⟩:=Dw.readsAll hok KX ds _ its ha rv;exact ⟨_,ReadsW.tuple ho hc hd hr⟩
 | .float _,_,_,x,_=>by cases x
 | .dict _,_,_,x,_=>by cases x
 | .bytearray _,_,_,x,_=>by cases x
 | .set _,_,_,x,_=>by cases x
 | .frozenset _,_,_,x,_=>by cases x
 | .obj _ _,_,_,x,_=>by cases x
theorem Dw.readsAll (hok:HOk P w H h) (KX:K.In h) : ∀ (ds:List WData) (vs:List V) (us:List Value),DwAll K H vs ds->Vals vs us->∃ as,ReadsAllW R cl h us ds as
 | [],_,_,x,r=>by
  cases x;cases r;exact ⟨_,ReadsAllW.nil⟩
 | d::ds,_,_,x,r=>by
  cases x with
  | cons h1 h2 =>
  cases r with
  | cons r1 r2 =>
  obtain ⟨as,q1⟩:=Dw.reads hok KX d _ _ h1 r1;obtain ⟨bs,q2⟩:=Dw.readsAll hok KX ds _ _ h2 r2;exact ⟨_,ReadsAllW.cons q1 q2⟩
end
end
mutual
def plW:WData->Bool
 | .none=>true
 | .bool _=>true
 | .int _=>true
 | .str _=>true
 | .bytes _=>true
 | .list xs=>plWs xs
 | .tuple xs=>plWs xs
 | _=>false
def plWs:List WData->Bool
 | []=>true
 | x::r=>plW x && plWs r
end
theorem ii_ {α:Type}{f:α->WData} (h : ∀ a,plW (f a)=true) : ∀ l:List α,plWs (l.map f)=true
 | []=>rfl
 | x::r=>by
  show (plW (f x) && plWs (r.map f))=true;rw [h x,ii_ h r] <;> rfl
theorem dL_ : ∀ (c:Codec) (a:c.denote),plW (c.enc a)=true
 | .unit,_=>rfl
 | .bool,_=>rfl
 | .int _ _,_=>rfl
 | .nat _ _,_=>rfl
 | .u8,_=>rfl
 | .bytes _ _,_=>rfl
 | .text _ _ _ _,_=>rfl
 | .list _ _ c,a=>ii_ (fun x=>dL_ c x) a
 | .pair c d,a=>by
  show (plW (c.enc a.1) && (plW (d.enc a.2) && true))=true;rw [dL_ c a.1,dL_ d a.2] <;> rfl
 | .triple c d e,a=>by
  show (plW (c.enc a.1) && (plW (d.enc a.2.1) && (plW (e.enc a.2.2) && true)))=true;rw [dL_ c a.1,dL_ d a.2.1,dL_ e a.2.2] <;> rfl
 | .option c,none=>rfl
 | .option c,some x=>dL_ c x
theorem gI_ : ∀ (cs:List Codec) (a:Codec.denoteAll cs),plWs (Codec.encAll cs a)=true
 | [],_=>rfl
 | c::cs,a=>by
  show (plW (c.enc a.1) && plWs (Codec.encAll cs a.2))=true;rw [dL_ c a.1,gI_ cs a.2] <;> rfl
theorem dn_ : ∀ {xs:List WData}{d:WData},d∈xs->d.weight<=WData.weightAll xs
 | [],d,h=>absurd h (by simp)
 | x::r,d,h=>by
  show d.weight<=x.weight+1+WData.weightAll r;rcases List.mem_cons.mp h with e | m
  ·rw [e]
   omega
  have z:=dn_ m;omega
noncomputable def toV:Value->V
 | .none => .non
 | .bool b => .bl b
 | .int i _ => .int i
 | .str x _ => .str x
 | .bytes b _ => .byt b
 | .ref a => .ref a
 | _ => .non
def OkU (A:List Addr):Value->Prop
 | .none=>True
 | .bool _=>True
 | .int _ _=>True
 | .str _ _=>True
 | .bytes _ _=>True
 | .ref a=>a∈A
 | _=>False
theorem OkU.mono {A B:List Addr} (h : ∀ a∈A,a∈B) : ∀ {u:Value},OkU A u->OkU B u:=fun {u} x=>by
 cases u with
 | ref a=>exact h a x
 | none=>trivial
 | bool b=>trivial
 | int i t=>trivial
 | str s t=>trivial
 | bytes b t=>trivial
 | _=>exact False.elim x
theorem lC_ {A:List Addr}{u:Value} (x:OkU A u):RelV (toV u) u:=by
 cases u with
 | ref a=>rfl
 | none=>rfl
 | bool b=>rfl
 | int i t=>exact ⟨t,rfl⟩
 | str s t=>exact ⟨t,rfl⟩
 | bytes b t=>exact ⟨t,rfl⟩
 | _=>exact False.elim x
theorem cu_ {A:List Addr} : ∀ {vs:List Value},(∀ u∈vs,OkU A u)->Vals (vs.map toV) vs
 | [],_ => .nil
 | u::r,h => .cons (lC_ (h u (mem_cons_self ..))) (cu_ fun x hx=>h x (mem_cons_of_mem _ hx))
def d0_ (h:Heap) (A:List Addr) (a:Addr):Prop:=∃ vs:List Value,vs.length<=sizeLine/\(∀ u∈vs,OkU A u) /\
 (h.get? a=some { cls := .type "list",data := .seq vs.toArray }\/h.get? a=some { cls := .type "tuple",data := .seq vs.toArray })
theorem d0_.mono {h:Heap}{A B:List Addr}{a:Addr} (k : ∀ a∈A,a∈B) (x:d0_ h A a):d0_ h B a:=by
 obtain ⟨vs,h1,h2,h3⟩:=x;exact ⟨vs,h1,fun u hu=>(h2 u hu).mono k,h3⟩
theorem bZ_ {P:Params}{h:Heap} : ∀ {vs:List Value}{ds:List WData},WellAll P h vs ds->vs.length=ds.length
 | _,_,.nil=>rfl
 | _,_,.cons _ b=>by
  show _+1=_+1;rw [bZ_ b]
theorem gh_ {P:Params}{h:Heap}{v:Value}{ds:List WData} (x:Well P h v (.list ds)) : ∃ (a:Addr) (vs:List Value),v = .ref a/\h.get? a=some { cls := .type "list",data := .seq vs.toArray }/\WellAll P h vs ds:=by
 cases x with
 | list ho hall=>exact ⟨_,_,rfl,ho,hall⟩
theorem e9_ {P:Params}{h:Heap}{v:Value}{ds:List WData} (x:Well P h v (.tuple ds)) : ∃ (a:Addr) (vs:List Value),v = .ref a/\h.get? a=some { cls := .type "tuple",data := .seq vs.toArray }/\WellAll P h vs ds:=by
 cases x with
 | tuple ho hall=>exact ⟨_,_,rfl,ho,hall⟩
theorem gi_ {P:Params}{h:Heap}{us:List Value}{d:WData}{ds:List WData} (x:WellAll P h us (d::ds)) : ∃ (v:Value) (vs:List Value),us=v::vs/\Well P h v d/\WellAll P h vs ds:=by
 cases x with
 | cons a b=>exact ⟨_,_,rfl,a,b⟩
theorem ky_ {n:Nat} (h:n<=1048576):n<=sizeLine:=Nat.le_trans h (by decide)
section
variable {P:Params}{h:Heap}
mutual
theorem mk_ : ∀ (d:WData) (v:Value),Well P h v d->plW d=true->d.weight<=1048576->∃ A:List Addr,OkU A v/\∀ a∈A,d0_ h A a
 | .none,_,x,_,_=>by
  cases x;exact ⟨[],trivial,fun a m=>absurd m (by simp)⟩
 | .bool b,_,x,_,_=>by
  cases x;exact ⟨[],trivial,fun a m=>absurd m (by simp)⟩
 | .int i,_,x,_,_=>by
  cases x;exact ⟨[],trivial,fun a m=>absurd m (by simp)⟩
 | .str s,_,x,_,_=>by
  cases x;exact ⟨[],trivial,fun a m=>absurd m (by simp)⟩
 | .bytes b,_,x,_,_=>by
  cases x;exact ⟨[],trivial,fun a m=>absurd m (by simp)⟩
 | .list ds,_,x,p,z=>by
  obtain ⟨a,vs,rfl,ho,hall⟩:=gh_ x;have z2:WData.weightAll ds<=1048576:=z;obtain ⟨A,h1,h2⟩:=ed_ ds _ hall p fun d hd=>Nat.le_trans (dn_ hd) z2;have k : ∀ b∈A,b∈a::A:=fun b hb=>mem_cons_of_mem _ hb;refine ⟨a::A,mem_cons_self ..,fun b hb=>?_⟩;rcases List.mem_cons.mp hb with e | m
  ·rw [e]
   exact ⟨vs,ky_ (by rw [bZ_ hall];exact Nat.le_trans (PySem.W.length_le_weightAllW ds) z2),fun u hu=>(h1 u hu).mono k,.inl ho⟩
  exact (h2 b m).mono k
 | .tuple ds,_,x,p,z=>by
  obtain ⟨a,vs,rfl,ho,hall⟩:=e9_ x;have z2:WData.weightAll ds<=1048576:=z;obtain ⟨A,h1,h2⟩:=ed_ ds _ hall p fun d hd=>Nat.le_trans (dn_ hd) z2;have k : ∀ b∈A,b∈a::A:=fun b hb=>mem_cons_of_mem _ hb;refine ⟨a::A,mem_cons_self ..,fun b hb=>?_⟩;rcases List.mem_cons.mp hb with e | m
  ·rw [e]
   exact ⟨vs,ky_ (by rw [bZ_ hall];exact Nat.le_trans (PySem.W.length_le_weightAllW ds) z2),fun u hu=>(h1 u hu).mono k,.inr ho⟩
  exact (h2 b m).mono k
 | .float _,_,_,p,_=>Bool.noConfusion (show false=true from p)
 | .dict _,_,_,p,_=>Bool.noConfusion (show false=true from p)
 | .bytearray _,_,_,p,_=>Bool.noConfusion (show false=true from p)
 | .set _,_,_,p,_=>Bool.noConfusion (show false=true from p)
 | .frozenset _,_,_,p,_=>Bool.noConfusion (show false=true from p)
 | .obj _ _,_,_,p,_=>Bool.noConfusion (show false=true from p)
theorem ed_ : ∀ (ds:List WData) (vs:List Value),WellAll P h vs ds->plWs ds=true->(∀ d∈ds,d.weight<=1048576)->∃ A:List Addr,(∀ u∈vs,OkU A u)/\∀ a∈A,d0_ h A a
 | [],_,x,_,_=>by
  cases x;exact ⟨[],fun u m=>absurd m (by simp),fun a m=>absurd m (by simp)⟩
 | d::ds,_,x,p,z=>by
  obtain ⟨v,vs,rfl,x1,x2⟩:=gi_ x;have q:plW d=true/\plWs ds=true:=Bool.and_eq_true_iff.mp p;obtain ⟨A,a1,a2⟩:=mk_ d v x1 q.1 (z d (mem_cons_self ..));obtain ⟨B,b1,b2⟩:=ed_ ds vs x2 q.2 fun e he=>z e (mem_cons_of_mem _ he);have kA : ∀ b∈A,b∈A++B:=fun b hb=>List.mem_append.mpr (.inl hb);have kB : ∀ b∈B,b∈A++B:=fun b hb=>List.mem_append.mpr (.inr hb);refine ⟨A++B,fun u hu=>?_,fun b hb=>?_⟩
  ·rcases List.mem_cons.mp hu with e | m
   ·rw [e]
    exact a1.mono kA
   exact (b1 u m).mono kB
  rcases List.mem_append.mp hb with m | m
  ·exact (a2 b m).mono kA
  exact (b2 b m).mono kB
end
end
noncomputable def hoOf (o:Obj):Option HO:=match o.data with
 | .seq vs _=>if (o.cls == Value.type "list")=true then some (.frz o (.lst (vs.toList.map toV))) else some (.frz o (.tup (vs.toList.map toV)))
 | _=>none
noncomputable def argH (K:PySem.W.Frag) (h:Heap) (A:List Addr):Hp:=fun b=>if b∈A then (if (K.lookup b).isNone=true then (h.get? b).bind hoOf else none) else none
def li_ (H:Hp):Prop:=∀ b,H b=none\/∃ o u,H b=some (.frz o u)
theorem ix_ (vs:List Value):hoOf { cls := .type "list",data := .seq vs.toArray }=some (.frz { cls := .type "list",data := .seq vs.toArray } (.lst (vs.map toV))):=by
 show (if (Value.type "list" == Value.type "list")=true then some (HO.frz { cls := .type "list",data := .seq vs.toArray } (.lst (vs.toArray.toList.map toV))) else some (HO.frz { cls := .type "list",data := .seq vs.toArray } (.tup (vs.toArray.toList.map toV))))=_;rw [if_pos (beq_self_eq_true _)]
theorem iw_ (vs:List Value):hoOf { cls := .type "tuple",data := .seq vs.toArray }=some (.frz { cls := .type "tuple",data := .seq vs.toArray } (.tup (vs.map toV))):=by
 show (if (Value.type "tuple" == Value.type "list")=true then some (HO.frz { cls := .type "tuple",data := .seq vs.toArray } (.lst (vs.toArray.toList.map toV))) else some (HO.frz { cls := .type "tuple",data := .seq vs.toArray } (.tup (vs.toArray.toList.map toV))))=_;rw [if_neg (by decide)]
section
variable {P:Program}{w:World}{K:PySem.W.Frag}{h:Heap}{A:List Addr}
theorem gc_ {b:Addr}{o:Obj} (hb:b∈A) (hk:K.lookup b=none) (e:h.get? b=some o):argH K h A b=hoOf o:=by
 unfold argH;rw [if_pos hb,hk,if_pos (show (none:Option Obj).isNone=true from rfl),e] <;> rfl
theorem nB_ {b:Addr}{u:HO} (q:argH K h A b=some u):b∈A/\K.lookup b=none:=by
 unfold argH at q;by_cases hb:b∈A
 ·rw [if_pos hb] at q
  cases hk:K.lookup b with
  | none=>exact ⟨hb,rfl⟩
  | some o =>
  rw [hk,if_neg (by simp)] at q;cases q
 rw [if_neg hb] at q;cases q
theorem gb_ (ar : ∀ a∈A,d0_ h A a) {b:Addr}{u:HO} (q:argH K h A b=some u):K.lookup b=none/\∃ vs:List Value,vs.length<=sizeLine/\(∀ u∈vs,OkU A u) /\
  ((h.get? b=some { cls := .type "list",data := .seq vs.toArray }/\u = .frz { cls := .type "list",data := .seq vs.toArray } (.lst (vs.map toV))) \/
   (h.get? b=some { cls := .type "tuple",data := .seq vs.toArray }/\u = .frz { cls := .type "tuple",data := .seq vs.toArray } (.tup (vs.map toV)))):=by
 obtain ⟨hb,hk⟩:=nB_ q;obtain ⟨vs,h1,h2,h3⟩:=ar b hb;refine ⟨hk,vs,h1,h2,?_⟩;rcases h3 with e | e
 ·rw [gc_ hb hk e,ix_] at q
  exact .inl ⟨e,(Option.some.inj q).symm⟩
 rw [gc_ hb hk e,iw_] at q;exact .inr ⟨e,(Option.some.inj q).symm⟩
theorem le_ (ar : ∀ a∈A,d0_ h A a):li_ (argH K h A):=fun b=>by
 cases q:argH K h A b with
 | none=>exact .inl rfl
 | some u =>
 obtain ⟨_,vs,_,_,⟨_,e⟩ | ⟨_,e⟩⟩:=gb_ ar q
 ·exact .inr ⟨_,_,by rw [e]⟩
 exact .inr ⟨_,_,by rw [e]⟩
theorem nY_ (ar : ∀ a∈A,d0_ h A a):HOk P w (argH K h A) h:=fun b u q=>by
 obtain ⟨_,vs,h1,h2,⟨e,rfl⟩ | ⟨e,rfl⟩⟩:=gb_ ar q
 ·exact ⟨e,by rw [length_map];exact h1,vs,_,cu_ h2,e⟩
 exact ⟨e,by rw [length_map];exact h1,vs,cu_ h2,_,e,rfl,_,rfl⟩
theorem fQ_ {c c':Value}{vs us:List Value} (e:(some { cls:=c,data := .seq vs.toArray }:Option Obj)=some { cls:=c',data := .seq us.toArray }):c=c'/\vs=us:=by
 have e1:=Option.some.inj e;have e2:c=c':=congrArg Obj.cls e1;have e3:Data.seq vs.toArray=Data.seq us.toArray:=congrArg Obj.data e1;injection e3 with e4;refine ⟨e2,?_⟩;have e5:=congrArg Array.toList e4;simpa using e5
theorem argL (KX:K.In h) (ar : ∀ a∈A,d0_ h A a) {a:Addr}{vs:List Value} (ha:a∈A) (e:h.get? a=some { cls := .type "list",data := .seq vs.toArray }):(∀ u∈vs,OkU A u)/\SqL K (argH K h A) a (vs.map toV):=by
 obtain ⟨us,h1,h2,h3⟩:=ar a ha;have hu:us=vs:=by
  rcases h3 with q | q
  ·rw [e] at q
   exact (fQ_ q).2.symm
  rw [e] at q;exact absurd (Value.type.inj (fQ_ q).1) (by decide)
 subst hu;refine ⟨h2,?_⟩;cases hk:K.lookup a with
 | none=>exact .inl (.inr ⟨_,by rw [gc_ ha hk e,ix_]⟩)
 | some o =>
 have e2:=KX a o hk;rw [e] at e2;obtain rfl:=Option.some.inj e2;exact .inr ⟨_,us.toArray,_,hk,rfl,rfl,rfl,by rw [size_toArray];exact h1,by simpa using cu_ h2⟩
theorem argT (KX:K.In h) (ar : ∀ a∈A,d0_ h A a) {a:Addr}{vs:List Value} (ha:a∈A) (e:h.get? a=some { cls := .type "tuple",data := .seq vs.toArray }):(∀ u∈vs,OkU A u)/\SqT K (argH K h A) a (vs.map toV):=by
 obtain ⟨us,h1,h2,h3⟩:=ar a ha;have hu:us=vs:=by
  rcases h3 with q | q
  ·rw [e] at q
   exact absurd (Value.type.inj (fQ_ q).1) (by decide)
  rw [e] at q;exact (fQ_ q).2.symm
 subst hu;refine ⟨h2,?_⟩;cases hk:K.lookup a with
 | none=>exact .inl (.inr ⟨_,by rw [gc_ ha hk e,iw_]⟩)
 | some o =>
 have e2:=KX a o hk;rw [e] at e2;obtain rfl:=Option.some.inj e2;exact .inr ⟨_,us.toArray,_,hk,rfl,rfl,by rw [size_toArray];exact h1,by simpa using cu_ h2⟩
mutual
theorem oZ_ {Pm:Params} (KX:K.In h) (ar : ∀ a∈A,d0_ h A a) : ∀ (d:WData) (v:Value),Well Pm h v d->plW d=true->OkU A v->Dw K (argH K h A) (toV v) d
 | .none,_,x,_,_=>by
  cases x;exact .non
 | .bool b,_,x,_,_=>by
  cases x;exact .bl b
 | .int i,_,x,_,_=>by
  cases x;exact .int i
 | .str s,_,x,_,_=>by
  cases x;exact .str s
 | .bytes b,_,x,_,_=>by
  cases x;have z:=Dw.byt (K:=K) (H:=argH K h A) b.toArray;exact z
 | .list ds,_,x,p,hu=>by
  obtain ⟨a,vs,rfl,ho,hall⟩:=gh_ x;obtain ⟨h2,hs⟩:=argL KX ar hu ho;exact .lst hs (iE_ KX ar ds _ hall p h2)
 | .tuple ds,_,x,p,hu=>by
  obtain ⟨a,vs,rfl,ho,hall⟩:=e9_ x;obtain ⟨h2,hs⟩:=argT KX ar hu ho;exact .tup hs (iE_ KX ar ds _ hall p h2)
 | .float _,_,_,p,_=>Bool.noConfusion (show false=true from p)
 | .dict _,_,_,p,_=>Bool.noConfusion (show false=true from p)
 | .bytearray _,_,_,p,_=>Bool.noConfusion (show false=true from p)
 | .set _,_,_,p,_=>Bool.noConfusion (show false=true from p)
 | .frozenset _,_,_,p,_=>Bool.noConfusion (show false=true from p)
 | .obj _ _,_,_,p,_=>Bool.noConfusion (show false=true from p)
theorem iE_ {Pm:Params} (KX:K.In h) (ar : ∀ a∈A,d0_ h A a) : ∀ (ds:List WData) (vs:List Value),WellAll Pm h vs ds->plWs ds=true->(∀ u∈vs,OkU A u)->DwAll K (argH K h A) (vs.map toV) ds
 | [],_,x,_,_=>by
  cases x;exact .nil
 | d::ds,_,x,p,hu=>by
  obtain ⟨v,vs,rfl,x1,x2⟩:=gi_ x;have q:plW d=true/\plWs ds=true:=Bool.and_eq_true_iff.mp p;exact .cons (oZ_ KX ar d v x1 q.1 (hu _ (mem_cons_self ..))) (iE_ KX ar ds vs x2 q.2 fun u m=>hu u (mem_cons_of_mem _ m))
end
end
theorem jI_ {P:Program}{w:World}{K:PySem.W.Frag}{mg mb:Str->Option Value}{CX:CXT}{k:Nat}{fa:Addr}{fd:FuncData}{ps:List Str}{sp:Sp}{s₁:Shared}{vals:List Value}{ds:List WData}{R:PySem.W.WRecords}{cl:Str->Option Addr}{d0:WData}
  (KX:K.In s₁.heap) (hns:s₁.heap.Ns mainGlobals mg) (hb:s₁.heap.Ns builtinsNs mb) (hbb : ∀ x:Str,x≠"__name__"->mb x=bootBuiltins x) (hlim:s₁.heap.NoLimit) (hg:s₁.gens = #[])
  (hwl:WellAll w.params s₁.heap vals ds) (hpl:plWs ds=true) (hwt : ∀ d∈ds,d.weight<=1048576) (hr:Room k callerA)
  (F : ∀ base:Heap,K.In base->base.Ns mainGlobals mg->FnOk P w K mg base CX k fa fd ps sp) (hbind : ∀ (s:Shared) (us:List Value),us.length=ps.length->BindsTo s fd ⟨us,[]⟩ (ps.zip us)) (hlen:ds.length=ps.length)
  (hsp : ∀ (H:Hp) (xs:List V),li_ H->DwAll K H xs ds->sp xs H (fun v H'=>Dw K H' v d0) fun _ _ _=>False)
  (hCX : ∀ H e s',CX [] H s₁ (fun _ _ _=>False) e s'->False) :
  codeAny (model P w) callerA (.call (.ref fa) ⟨vals,[]⟩) (fun r s'=>∃ u as,r = .ok (.ret u)/\ReadsW R cl s'.heap u d0 as/\OldK s₁.heap s'.heap/\s'.os=s₁.os/\AllBare s'.gens) s₁:=by
 obtain ⟨A,ho,ar⟩:=ed_ ds vals hwl hpl hwt;have hO:li_ (argH K s₁.heap A):=le_ ar;have hok:HOk P w (argH K s₁.heap A) s₁.heap:=nY_ ar;have hS:=iE_ KX ar ds vals hwl hpl ho;have hV:=cu_ ho;have hK : ∀ b u,argH K s₁.heap A b=some u->K.lookup b=none:=fun b u q=>(gb_ ar q).1;have noA : ∀ {b:Addr}{o:Obj}{es:Array DictEntry}{ep:Nat},s₁.heap.get? b=some o->o.data = .dict es ep->argH K s₁.heap A b=none:=fun {b o es ep} e d=>by
  cases q:argH K s₁.heap A b with
  | none=>rfl
  | some u =>
  obtain ⟨_,vs,_,_,⟨e2,_⟩ | ⟨e2,_⟩⟩:=gb_ ar q
  ·rw [e2] at e
   cases e;have d':Data.seq vs.toArray _=Data.dict es ep:=d;cases d'
  rw [e2] at e;cases e;have d':Data.seq vs.toArray _=Data.dict es ep:=d;cases d'
 generalize argH K s₁.heap A=H at hO hok hS hK noA;have base_of : ∀ {b:Addr}{o:Obj},s₁.heap.get? b=some o->H b=none->(hidT s₁.heap H).get? b=some o:=fun e n=>l0_ e n;have nsK : ∀ {b:Addr}{m:Str->Option Value},s₁.heap.Ns b m->(hidT s₁.heap H).Ns b m:=fun {b m} ⟨o,es,ep,e,d,r⟩=>⟨o,es,ep,base_of e (noA e d),d,r⟩;have nK : ∀ b o,K.lookup b=some o->H b=none:=fun b o e=>by
  cases q:H b with
  | none=>rfl
  | some u =>
  rw [hK b u q] at e;cases e
 have hKb:K.In (hidT s₁.heap H):=fun b o e=>base_of (KX b o e) (nK b o e);have hM:Mod K mg (hidT s₁.heap H):=⟨hKb,nsK hns,⟨mb,nsK hb,hbb⟩,let ⟨mc,h1,h2⟩:=hlim;⟨mc,nsK h1,h2⟩⟩;have e0:Env0 P w K mg (hidT s₁.heap H) callerA [] s₁ H:=⟨rfl,hM,fun b o e=>nA_ e,Nat.le_of_eq (kJ_ _ _),trivial,fun b hb=>absurd (show b∈([]:List Addr) from hb) (by simp),hok,.of_eq hg⟩;have hl:vals.length=ps.length:=by rw [bZ_ hwl];exact hlen
 refine codeAny_mono ((F _ hKb (nsK hns)).run callerA [] s₁ H ⟨vals,[]⟩ vals (vals.map toV) _ _ hr e0 (hbind s₁ vals hl) hV (hsp H _ hO hS)) fun r s' x=>?_;cases r with
 | error e=>exact (hCX H e s' x).elim
 | ok fl =>
 cases fl with
 | next=>exact False.elim x
 | brk=>exact False.elim x
 | cont=>exact False.elim x
 | ret u =>
 obtain ⟨v,H',os,bare,un,hok',r',q⟩:=x;have kept : ∀ b o,s₁.heap.get? b=some o->s'.heap.get? b=some o:=fun b o e=>by
  cases q2:H b with
  | none=>exact un.keep b o e q2 (by intro z;exact absurd (show b∈([]:List Addr) from z) (by simp)) (by simp)
  | some u2 =>
  rcases hO b with z | ⟨ob,u3,z⟩
  ·rw [q2] at z
   cases z
  have z2:=un.frzs b ob _ z;obtain ⟨e1,_⟩:=hok b _ z;obtain ⟨e2,_⟩:=hok' b _ z2;rw [e] at e1;cases e1;exact e2
 have KX':K.In s'.heap:=fun b o e=>kept b o (KX b o e);obtain ⟨as,hrd⟩:=Dw.reads (R:=R) (cl:=cl) hok' KX' d0 v u q r';exact ⟨u,as,rfl,hrd,OldK.of_keep kept,os,bare⟩
theorem e5_ {ds:List WData} (h:WData.layableAll ds=true) : ∀ d∈ds,d.weight<=1048576:=fun d hd =>
 (PySem.W.layableW_iff.mp (List.all_eq_true.mp h d hd)).2.2
theorem fy_ : ∀ (cs:List Codec) (a:Codec.denoteAll cs),(Codec.encAll cs a).length=cs.length
 | [],_=>rfl
 | c::cs,a=>by
  show (Codec.encAll cs a.2).length+1=cs.length+1;rw [fy_ cs a.2]
theorem jv_ {r:OpenSpec}{k:Nat}{q:Program}{loose:List Str}{XP:(Str->Option Value)->Heap->Prop}{YP:World->Heap->Prop}{d:DefRec}{K:Params->PySem.W.Frag}{CX:World->CXT}{ps:List Str}{sp:World->Sp}
  (hwell:r.wellSaid=true) (hdf:d.params.defaults=[]) (hlen:r.args.length=ps.length) (hr:Room k callerA)
  (hY : ∀ (w:World) (h:Heap),YP w h->(K w.params).In h)
  (F : ∀ (w:World) (mg:Str->Option Value) (fa:Addr) (h:Heap),YP w h->(K w.params).In h->h.Ns mainGlobals mg->mg d.name=some (.ref fa) ->
   ∃ fd:FuncData,(∀ (s:Shared) (us:List Value),us.length=ps.length->BindsTo s fd ⟨us,[]⟩ (ps.zip us)) /\
    ∀ base:Heap,(K w.params).In base->base.Ns mainGlobals mg->FnOk r.prog w (K w.params) mg base (CX w) k fa fd ps (sp w))
  (hsp : ∀ (w:World) (H:Hp) (xs:List V) (a:Codec.denoteAll r.args),li_ H->Codec.withinAll r.args a=true->Codec.app r.args r.asked a=true->DwAll (K w.params) H xs (Codec.encAll r.args a) ->
   sp w xs H (fun v H'=>Dw (K w.params) H' v (r.ret.enc (Codec.app r.args r.f a))) fun _ _ _=>False)
  (hCX : ∀ (w:World) (H:Hp) (s:Shared) (e:Value) (s':Shared),CX w [] H s (fun _ _ _=>False) e s'->False) :
  PySem.W.WalkOS q loose XP YP r d [] (fun f vs=>PySem.call f vs):=by
 intro w s_0 s₁ mg mb G Y fa o pm cd doc dV kV ho hd hcd hD hmg hg args vals as hpre hlay hrd hwl hlo;obtain ⟨a,e1,e2⟩:=PySem.W.os_pre_some hpre;obtain ⟨e3,hwi⟩:=Codec.encAll_of_decAll r.args args a e1;subst e3;have KX:=hY w _ Y;obtain ⟨fd,hb,hF⟩:=F w mg fa _ Y KX G.T.g hmg;refine PySem.W.enter_call (codeAny_mono (jI_ (R:=[]) (cl:=classAt s_0.heap) (d0:=r.ret.enc (Codec.app r.args r.f a)) KX G.T.g G.T.b G.T.builtins G.T.nolimit hg hwl (gI_ _ _) (e5_ hlay) hr hF hb (by rw [fy_];exact hlen)
  (fun H xs hO hS=>hsp w H xs a hO hwi e2 hS) fun H e s'=>hCX w H s₁ e s') fun r' s' hq=>?_)
 obtain ⟨u,as',rfl,h1,h2,h3,h4⟩:=hq;exact ⟨.inl ⟨u,_,as',rfl,fun _=>rfl,h1,(OpenSpec.post_iff hwell hwi _ _).mpr rfl,fun z=>Bool.noConfusion (show false=true from z)⟩,h2,h3,h4⟩
theorem iN_ {r:OpenSpec}{k:Nat}{q:Program}{loose:List Str}{XP:(Str->Option Value)->Heap->Prop}{YP:World->Heap->Prop}{d:DefRec}{K:Params->PySem.W.Frag}{CX:CXT}{ps:List Str}{sp:PySem.W.Frag->Sp}
  (hwell:r.wellSaid=true) (hdf:d.params.defaults=[]) (hlen:r.args.length=ps.length) (hr:Room k callerA)
  (hY : ∀ (w:World) (h:Heap),YP w h->(K w.params).In h)
  (F : ∀ (w:World) (mg:Str->Option Value) (fa:Addr) (h:Heap),YP w h->(K w.params).In h->h.Ns mainGlobals mg->mg d.name=some (.ref fa) ->
   ∃ fd:FuncData,(∀ (s:Shared) (us:List Value),us.length=ps.length->BindsTo s fd ⟨us,[]⟩ (ps.zip us)) /\
    ∀ base:Heap,(K w.params).In base->base.Ns mainGlobals mg->FnOk r.prog w (K w.params) mg base CX k fa fd ps (sp (K w.params)))
  (hsp : ∀ (K:PySem.W.Frag) (H:Hp) (xs:List V) (a:Codec.denoteAll r.args),li_ H->Codec.withinAll r.args a=true->Codec.app r.args r.asked a=true->DwAll K H xs (Codec.encAll r.args a) ->
   sp K xs H (fun v H'=>Dw K H' v (r.ret.enc (Codec.app r.args r.f a))) fun _ _ _=>False)
  (hCX : ∀ (H:Hp) (s:Shared) (e:Value) (s':Shared),CX [] H s (fun _ _ _=>False) e s'->False) :
  PySem.W.WalkOS q loose XP YP r d [] (fun f vs=>PySem.call f vs) :=
 jv_ (K:=K) (CX:=fun _=>CX) (sp:=fun w=>sp (K w.params)) hwell hdf hlen hr hY F (fun w H xs a h1 h2 h3 h4=>hsp (K w.params) H xs a h1 h2 h3 h4) fun _ H s e s'=>hCX H s e s'
end L2
end
set_option maxHeartbeats 2000000
namespace M
open PySem PySem.Spec PyProof.Rows L2 TL
set_option hygiene false
local macro_rules
 | `(tactic| simp! [$l,*]) => `(tactic| ((try dsimp only [tRet,pb_,oa_,jE_,tC,tVar,tOp,tUn,rI0,rI,rU,lp_,isB,tB,tIfS,tIf,tAnd,tOr,tNot,oc_,tOrV,pc_,tAsg,tCB,fK_,tNil,iP_,ob_,tAug,ipI,tSl,n9_,jD_,tM0,tM1,rEq,rNe,tIsN,pd_,rIxS,rIxL,rIxT,rAll,rMax,rSum,rSlL,rSlS,rIn,tLst,tTup,iStr,lZ_,iTup,tYes,if_true,if_false,ite_true,ite_false,dz_,cx_K,cx_P,cx_w,pj_,nR_,cx_N,wipe,L2.start,map_cons,map_nil,cons_append,nil_append,List.getElem?_cons_zero,List.getElem?_cons_succ,List.set_cons_zero,List.set_cons_succ,$(⟨l.elemsAndSeps⟩),*]);(try simp only [ni_,nh_,nj_,map_cons,map_nil,length_cons,length_nil,List.replicate,cons_append,nil_append,append_nil,List.getElem?_cons_zero,List.getElem?_cons_succ,List.set_cons_zero,List.set_cons_succ,Nat.reduceSub,Nat.reduceAdd,add_zero,zero_add,Option.some.injEq,V.int.injEq,V.bl.injEq,V.str.injEq,V.ref.injEq,List.cons.injEq,and_true,true_and,exists_eq_left,exists_eq_left',exists_and_left,exists_eq,exists_eq',reduceCtorEq,false_and,false_eq_true,if_true,if_false,ite_true,ite_false,decide_eq_true_eq,nx_,ny_,S_eq,aM_,and_assoc,natCast_inj,ab_,fH_,HO.ins.injEq,List.zip_cons_cons,List.zip_nil_left,List.zip_nil_right,$l,*])))
set_option hygiene true
def top (i:Nat):Stmt:=PySem.Challenge.pw_measuretext_s04_show.main.body.getD i (.Pass ⟨0,0,0,0⟩)
abbrev s_q103:Stmt:=top 9
theorem sc_q103:FnScope ["term","found","todo","item","part"] ["term"] (af_ s_q103):=by constructor <;> first | rfl | decide +kernel
abbrev s_q37:Stmt:=top 10
theorem sc_q37:FnScope ["term","number","item"] ["term"] (af_ s_q37):=by constructor <;> first | rfl | decide +kernel
abbrev s_q105:Stmt:=top 11
theorem sc_q105:FnScope ["whole","pieces_of","shown","todo","item","piece"] ["whole","pieces_of"] (af_ s_q105):=by constructor <;> first | rfl | decide +kernel
abbrev s_q86:Stmt:=top 23
theorem sc_q86:FnScope ["byte"] ["byte"] (af_ s_q86):=by constructor <;> first | rfl | decide +kernel
abbrev s_q99:Stmt:=top 24
theorem sc_q99:FnScope ["byte"] ["byte"] (af_ s_q99):=by constructor <;> first | rfl | decide +kernel
abbrev s_q62:Stmt:=top 25
theorem sc_q62:FnScope ["byte"] ["byte"] (af_ s_q62):=by constructor <;> first | rfl | decide +kernel
abbrev s_q17:Stmt:=top 26
theorem sc_q17:FnScope ["text","sign"] ["text"] (af_ s_q17):=by constructor <;> first | rfl | decide +kernel
abbrev s_q104:Stmt:=top 27
theorem sc_q104:FnScope ["byte"] ["byte"] (af_ s_q104):=by constructor <;> first | rfl | decide +kernel
abbrev s_q0:Stmt:=top 28
theorem sc_q0:FnScope ["byte"] ["byte"] (af_ s_q0):=by constructor <;> first | rfl | decide +kernel
abbrev s_q107:Stmt:=top 29
theorem sc_q107:FnScope ["text","place","belongs"] ["text","place","belongs"] (af_ s_q107):=by constructor <;> first | rfl | decide +kernel
abbrev s_q111:Stmt:=top 30
theorem sc_q111:FnScope ["byte"] ["byte"] (af_ s_q111):=by constructor <;> first | rfl | decide +kernel
abbrev s_q100:Stmt:=top 31
theorem sc_q100:FnScope ["some_bytes","byte"] ["some_bytes"] (af_ s_q100):=by constructor <;> first | rfl | decide +kernel
abbrev s_q77:Stmt:=top 37
theorem sc_q77:FnScope ["text","begin","end"] ["text","begin"] (af_ s_q77):=by constructor <;> first | rfl | decide +kernel
abbrev s_q51:Stmt:=top 38
theorem sc_q51:FnScope ["spelling","divided","rows","row"] ["spelling"] (af_ s_q51):=by constructor <;> first | rfl | decide +kernel
abbrev s_q115:Stmt:=top 39
theorem sc_q115:FnScope ["over","under","divisor"] ["over","under"] (af_ s_q115):=by constructor <;> first | rfl | decide +kernel
abbrev s_q10:Stmt:=top 40
theorem sc_q10:FnScope ["first","second","remainder"] ["first","second"] (af_ s_q10):=by constructor <;> first | rfl | decide +kernel
abbrev s_q57:Stmt:=top 41
theorem sc_q57:FnScope ["measure","factor"] ["measure"] (af_ s_q57):=by constructor <;> first | rfl | decide +kernel
abbrev s_q83:Stmt:=top 42
theorem sc_q83:FnScope ["factor","halves"] ["factor"] (af_ s_q83):=by constructor <;> first | rfl | decide +kernel
abbrev s_q101:Stmt:=top 43
theorem sc_q101:FnScope ["power","digits","sign"] ["power"] (af_ s_q101):=by constructor <;> first | rfl | decide +kernel
abbrev s_q102:Stmt:=top 44
theorem sc_q102:FnScope ["amount","measure"] ["amount","measure"] (af_ s_q102):=by constructor <;> first | rfl | decide +kernel
abbrev s_q109:Stmt:=top 45
theorem sc_q109:FnScope ["amount"] ["amount"] (af_ s_q109):=by constructor <;> first | rfl | decide +kernel
abbrev s_q48:Stmt:=top 46
theorem sc_q48:FnScope ["amount","shown"] ["amount"] (af_ s_q48):=by constructor <;> first | rfl | decide +kernel
abbrev s_q53:Stmt:=top 54
theorem sc_q53:FnScope ["text"] ["text"] (af_ s_q53):=by constructor <;> first | rfl | decide +kernel
abbrev s_q11:Stmt:=top 55
theorem sc_q11:FnScope ["text","gap_end","token_at","found","place","token"] ["text","gap_end","token_at"] (af_ s_q11):=by constructor <;> first | rfl | decide +kernel
abbrev s_q32:Stmt:=top 56
theorem sc_q32:FnScope ["text","place"] ["text","place"] (af_ s_q32):=by constructor <;> first | rfl | decide +kernel
abbrev s_q75:Stmt:=top 57
theorem sc_q75:FnScope ["text","begin","digits"] ["text","begin"] (af_ s_q75):=by constructor <;> first | rfl | decide +kernel
abbrev s_q65:Stmt:=top 58
theorem sc_q65:FnScope ["text","begin","end","word","kind"] ["text","begin"] (af_ s_q65):=by constructor <;> first | rfl | decide +kernel
abbrev s_q35:Stmt:=top 59
theorem sc_q35:FnScope ["text","begin","digits","end","amount","measure","kind"] ["text","begin","digits"] (af_ s_q35):=by constructor <;> first | rfl | decide +kernel
abbrev s_q56:Stmt:=top 60
theorem sc_q56:FnScope ["text","begin","end","measure"] ["text","begin"] (af_ s_q56):=by constructor <;> first | rfl | decide +kernel
abbrev s_q60:Stmt:=top 61
theorem sc_q60:FnScope ["text","begin","signs","sign"] ["text","begin","signs"] (af_ s_q60):=by constructor <;> first | rfl | decide +kernel
abbrev s_q92:Stmt:=top 64
theorem sc_q92:FnScope ["text","row","whole","todo","term"] ["text"] (af_ s_q92):=by constructor <;> first | rfl | decide +kernel
abbrev s_q117:Stmt:=top 65
theorem sc_q117:FnScope ["row","todo","step","owner"] ["row","todo","step"] (af_ s_q117):=by constructor <;> first | rfl | decide +kernel
abbrev s_q69:Stmt:=top 66
theorem sc_q69:FnScope ["row","todo","step","node","kind"] ["row","todo","step"] (af_ s_q69):=by constructor <;> first | rfl | decide +kernel
abbrev s_q20:Stmt:=top 67
theorem sc_q20:FnScope ["row","begin","form"] ["row"] (af_ s_q20):=by constructor <;> first | rfl | decide +kernel
abbrev s_q126:Stmt:=top 68
theorem sc_q126:FnScope ["token"] ["token"] (af_ s_q126):=by constructor <;> first | rfl | decide +kernel
abbrev s_q29:Stmt:=top 76
theorem sc_q29:FnScope ["term"] ["term"] (af_ s_q29):=by constructor <;> first | rfl | decide +kernel
abbrev s_q21:Stmt:=top 77
theorem sc_q21:FnScope ["item","node","laid_out","pieces"] ["item"] (af_ s_q21):=by constructor <;> first | rfl | decide +kernel
abbrev s_q112:Stmt:=top 78
theorem sc_q112:FnScope ["node"] ["node"] (af_ s_q112):=by constructor <;> first | rfl | decide +kernel
abbrev s_q106:Stmt:=top 79
theorem sc_q106:FnScope ["node"] ["node"] (af_ s_q106):=by constructor <;> first | rfl | decide +kernel
abbrev s_q7:Stmt:=top 80
theorem sc_q7:FnScope ["node"] ["node"] (af_ s_q7):=by constructor <;> first | rfl | decide +kernel
abbrev s_q27:Stmt:=top 81
theorem sc_q27:FnScope ["node"] ["node"] (af_ s_q27):=by constructor <;> first | rfl | decide +kernel
abbrev s_q82:Stmt:=top 82
theorem sc_q82:FnScope ["node"] ["node"] (af_ s_q82):=by constructor <;> first | rfl | decide +kernel
abbrev s_q71:Stmt:=top 83
theorem sc_q71:FnScope ["node"] ["node"] (af_ s_q71):=by constructor <;> first | rfl | decide +kernel
abbrev s_q63:Stmt:=top 84
theorem sc_q63:FnScope ["node","value","pieces"] ["node"] (af_ s_q63):=by constructor <;> first | rfl | decide +kernel
abbrev s_q2:Stmt:=top 85
theorem sc_q2:FnScope ["names","body","sign","pieces","name"] ["names","body","sign"] (af_ s_q2):=by constructor <;> first | rfl | decide +kernel
abbrev s_q90:Stmt:=top 86
theorem sc_q90:FnScope ["node"] ["node"] (af_ s_q90):=by constructor <;> first | rfl | decide +kernel
abbrev s_q41:Stmt:=top 87
theorem sc_q41:FnScope ["node","pattern"] ["node"] (af_ s_q41):=by constructor <;> first | rfl | decide +kernel
abbrev s_q3:Stmt:=top 88
theorem sc_q3:FnScope ["node"] ["node"] (af_ s_q3):=by constructor <;> first | rfl | decide +kernel
abbrev s_q108:Stmt:=top 89
theorem sc_q108:FnScope ["node","sign","ranks"] ["node","sign"] (af_ s_q108):=by constructor <;> first | rfl | decide +kernel
abbrev s_q33:Stmt:=top 90
theorem sc_q33:FnScope ["node"] ["node"] (af_ s_q33):=by constructor <;> first | rfl | decide +kernel
abbrev s_q28:Stmt:=top 91
theorem sc_q28:FnScope ["node"] ["node"] (af_ s_q28):=by constructor <;> first | rfl | decide +kernel
abbrev s_q50:Stmt:=top 92
theorem sc_q50:FnScope ["node","pieces","part"] ["node"] (af_ s_q50):=by constructor <;> first | rfl | decide +kernel
abbrev s_q79:Stmt:=top 93
theorem sc_q79:FnScope ["node"] ["node"] (af_ s_q79):=by constructor <;> first | rfl | decide +kernel
abbrev s_q45:Stmt:=top 94
theorem sc_q45:FnScope ["node","members"] ["node"] (af_ s_q45):=by constructor <;> first | rfl | decide +kernel
abbrev s_q39:Stmt:=top 95
theorem sc_q39:FnScope ["node","members"] ["node"] (af_ s_q39):=by constructor <;> first | rfl | decide +kernel
abbrev s_q38:Stmt:=top 96
theorem sc_q38:FnScope ["members","pieces","member"] ["members"] (af_ s_q38):=by constructor <;> first | rfl | decide +kernel
abbrev s_q125:Stmt:=top 102
theorem sc_q125:FnScope ["text"] ["text"] (af_ s_q125):=by constructor <;> first | rfl | decide +kernel
abbrev s_q97:Stmt:=top 103
theorem sc_q97:FnScope ["text","reading","answering","found","fault"] ["text","reading","answering"] (af_ s_q97):=by constructor <;> first | rfl | decide +kernel
abbrev s_q8:Stmt:=top 104
theorem sc_q8:FnScope ["term"] ["term"] (af_ s_q8):=by constructor <;> first | rfl | decide +kernel
abbrev s_q40:Stmt:=top 105
theorem sc_q40:FnScope ["shown"] ["shown"] (af_ s_q40):=by constructor <;> first | rfl | decide +kernel
abbrev s_q95:Stmt:=top 106
theorem sc_q95:FnScope ["shown","sign"] ["shown"] (af_ s_q95):=by constructor <;> first | rfl | decide +kernel
abbrev s_q13:Stmt:=b7_ (top 1) 0
theorem sc_q13:FnScope ["self","kind","place"] ["self","kind","place"] (af_ s_q13):=by constructor <;> first | rfl | decide +kernel
abbrev s_q15:Stmt:=b7_ (top 8) 0
theorem sc_q15:FnScope ["self","form","words","parts","begin","end"] ["self","form","words","parts","begin","end"] (af_ s_q15):=by constructor <;> first | rfl | decide +kernel
abbrev s_q4:Stmt:=b7_ (top 36) 0
theorem sc_q4:FnScope ["self","over","under","measure"] ["self","over","under","measure"] (af_ s_q4):=by constructor <;> first | rfl | decide +kernel
abbrev s_q6:Stmt:=b7_ (top 52) 0
theorem sc_q6:FnScope ["self","group","kind","begin","end","content"] ["self","group","kind","begin","end","content"] (af_ s_q6):=by constructor <;> first | rfl | decide +kernel
abbrev s_q25:Stmt:=b7_ (top 53) 0
theorem sc_q25:FnScope ["self","found","length"] ["self","found","length"] (af_ s_q25):=by constructor <;> first | rfl | decide +kernel
abbrev s_q26:Stmt:=b7_ (top 53) 1
theorem sc_q26:FnScope ["self"] ["self"] (af_ s_q26):=by constructor <;> first | rfl | decide +kernel
abbrev s_q96:Stmt:=b7_ (top 53) 2
theorem sc_q96:FnScope ["self","token"] ["self"] (af_ s_q96):=by constructor <;> first | rfl | decide +kernel
abbrev s_q19:Stmt:=b7_ (top 53) 3
theorem sc_q19:FnScope ["self","kind"] ["self","kind"] (af_ s_q19):=by constructor <;> first | rfl | decide +kernel
abbrev s_q23:Stmt:=b7_ (top 63) 0
theorem sc_q23:FnScope ["self","kind","owner","depth"] ["self","kind","owner","depth"] (af_ s_q23):=by constructor <;> first | rfl | decide +kernel
set_option genInjectivity false in
set_option genSizeOfSpec false in
set_option genSizeOf false in
structure TX (w:World) (K:PySem.W.Frag) (mg:Str->Option Value) where
 g_q64 : ∃ u,mg "MOST_DEPTH"=some u/\RelV (.int 40) u
 g_q74 : ∃ u,mg "MOST_NODES"=some u/\RelV (.int 300) u
 a_q42:Addr
 g_q42:mg "PLAIN_FORMS"=some (.ref a_q42)
 t_q42 : ∀ H,SqT K H a_q42 [V.str "true",V.str "false",V.str "nil"]
 a_q66:Addr
 g_q66:mg "PART_KINDS"=some (.ref a_q66)
 t_q66 : ∀ H,SqT K H a_q66 [V.str "part",V.str "body"]
 a_q119:Addr
 g_q119:mg "FORMS"=some (.ref a_q119)
 t_q119:mm_ w K a_q119
 g_q116 : ∃ u,mg "BLANK"=some u/\RelV (.int 32) u
 g_q18 : ∃ u,mg "MEASURE_BEGIN"=some u/\RelV (.int 91) u
 g_q49 : ∃ u,mg "MEASURE_END"=some u/\RelV (.int 93) u
 g_q121 : ∃ u,mg "MINUS"=some u/\RelV (.int 45) u
 a_q12:Addr
 g_q12:mg "FRACTION_SIGNS"=some (.ref a_q12)
 t_q12 : ∀ H,SqT K H a_q12 [V.int 46,V.int 47]
 g_q16 : ∃ u,mg "FIRST_PRINTED"=some u/\RelV (.int 32) u
 g_q34 : ∃ u,mg "LAST_PRINTED"=some u/\RelV (.int 126) u
 g_q67 : ∃ u,mg "MOST_SIGNS"=some u/\RelV (.int 12) u
 g_q110 : ∃ u,mg "PRINTED"=some u/\RelV (.str " !\"#$?&'()*+,-./0123456789:;<=>?@ABCDEFGHIJKLMNOPQRSTUVWXYZ[\\]^_`abcdefghijklmnopqrstuvwxyz{|}~") u
 a_q43:Addr
 g_q43:mg "TAKEN_WORDS"=some (.ref a_q43)
 t_q43 : ∀ H,SqT K H a_q43 [V.str "fn",V.str "let",V.str "rec",V.str "if",V.str "cons",V.str "case",V.str "pair",V.str "fst",V.str "snd",V.str "fold",V.str "root",V.str "floor",V.str "rest",V.str "true",V.str "false",V.str "nil",V.str "truth",V.str "num",V.str "list",V.str "base",V.str "unit",V.str "def",V.str "fun",V.str "in",V.str "then",V.str "else",V.str "match",V.str "with",V.str "and",V.str "or",V.str "not"]
 g_q44 : ∃ u,mg "MOST_DIGITS"=some u/\RelV (.int 12) u
 g_q5 : ∃ u,mg "FIRST_TOO_GREAT"=some u/\RelV (.int 1000000000000) u
 g_q1 : ∃ u,mg "MOST_POWER_DIGITS"=some u/\RelV (.int 2) u
 g_q59 : ∃ u,mg "WORD_GROUP"=some u/\RelV (.int 0) u
 g_q36 : ∃ u,mg "NUMBER_GROUP"=some u/\RelV (.int 1) u
 g_q76 : ∃ u,mg "SIGN_GROUP"=some u/\RelV (.int 2) u
 a_q72:Addr
 g_q72:mg "CORE_SIGNS"=some (.ref a_q72)
 t_q72 : ∀ H,SqT K H a_q72 [V.str "(",V.str ")",V.str "+",V.str "-",V.str "*",V.str "/",V.str "^",V.str "<",V.str "="]
 g_q91 : ∃ u,mg "OPEN_RANK"=some u/\RelV (.int 0) u
 g_q31 : ∃ u,mg "CONSING_RANK"=some u/\RelV (.int 5) u
 g_q73 : ∃ u,mg "APPLY_RANK"=some u/\RelV (.int 9) u
 g_q88 : ∃ u,mg "ATOM_RANK"=some u/\RelV (.int 10) u
 a_q118:Addr
 g_q118:mg "RANKS"=some (.ref a_q118)
 t_q118:MDict w K a_q118 [("name",.int 10),("true",.int 10),("false",.int 10),("nil",.int 10),("pair",.int 10),("fn",.int 0),("rec",.int 0),("let",.int 0),("if",.int 0),("case",.int 0),("<",.int 4),("=",.int 4),("+",.int 6),("-",.int 6),("*",.int 7),("/",.int 7),("^",.int 8),("apply",.int 9),("fst",.int 9),("snd",.int 9),("root",.int 9),("floor",.int 9),("rest",.int 9),("fold",.int 9)]
 a_q22:Addr
 g_q22:mg "OPERAND_RANKS"=some (.ref a_q22)
 o_OPERAND_RANKS_0:Addr
 u_OPERAND_RANKS_0 : ∀ H,SqT K H o_OPERAND_RANKS_0 [V.int 5,V.int 5]
 o_OPERAND_RANKS_1:Addr
 u_OPERAND_RANKS_1 : ∀ H,SqT K H o_OPERAND_RANKS_1 [V.int 5,V.int 5]
 o_OPERAND_RANKS_2:Addr
 u_OPERAND_RANKS_2 : ∀ H,SqT K H o_OPERAND_RANKS_2 [V.int 6,V.int 5]
 o_OPERAND_RANKS_3:Addr
 u_OPERAND_RANKS_3 : ∀ H,SqT K H o_OPERAND_RANKS_3 [V.int 6,V.int 7]
 o_OPERAND_RANKS_4:Addr
 u_OPERAND_RANKS_4 : ∀ H,SqT K H o_OPERAND_RANKS_4 [V.int 6,V.int 7]
 o_OPERAND_RANKS_5:Addr
 u_OPERAND_RANKS_5 : ∀ H,SqT K H o_OPERAND_RANKS_5 [V.int 7,V.int 8]
 o_OPERAND_RANKS_6:Addr
 u_OPERAND_RANKS_6 : ∀ H,SqT K H o_OPERAND_RANKS_6 [V.int 7,V.int 8]
 t_q22:MDict w K a_q22 [("<",.ref o_OPERAND_RANKS_0),("=",.ref o_OPERAND_RANKS_1),("::",.ref o_OPERAND_RANKS_2),("+",.ref o_OPERAND_RANKS_3),("-",.ref o_OPERAND_RANKS_4),("*",.ref o_OPERAND_RANKS_5),("/",.ref o_OPERAND_RANKS_6)]
 a_q113:Addr
 g_q113:mg "PIECES"=some (.ref a_q113)
 g_q81 : ∃ u,mg "MOST_BYTES"=some u/\RelV (.int 2000) u
 g_q14 : ∃ u,mg "TEXT_TOO_LONG"=some u/\RelV (.int (-1)) u
 g_q84 : ∃ u,mg "TOO_GREAT"=some u/\RelV (.int (-4)) u
 b_all:mg "all"=none
 b_enumerate:mg "enumerate"=none
 b_int:mg "int"=none
 b_isinstance:mg "isinstance"=none
 b_len:mg "len"=none
 b_max:mg "max"=none
 b_ord:mg "ord"=none
 b_reversed:mg "reversed"=none
 b_str:mg "str"=none
 C_q122:Addr
 G_q122:mg "Fault"=some (.ref C_q122)
 f_q13:Addr
 d_q13:FuncData
 F_q13:Fun K "__init__" "Fault.__init__" s_q13 f_q13 d_q13
 b_q13:a9_ K d_q13 ["self","kind","place"] []
 X_q122:XCls K C_q122 f_q13
 n_q61:aD_ K C_q122 "kind"
 n_q54:aD_ K C_q122 "place"
 C_q124:Addr
 G_q124:mg "Node"=some (.ref C_q124)
 f_q15:Addr
 d_q15:FuncData
 F_q15:Fun K "__init__" "Node.__init__" s_q15 f_q15 d_q15
 b_q15:a9_ K d_q15 ["self","form","words","parts","begin","end"] []
 cl_q124:Cls K C_q124
 M_q124:Mk K C_q124 f_q15
 ns_q124:NotStr K C_q124
 n_q94:aD_ K C_q124 "form"
 n_q55:aD_ K C_q124 "words"
 n_q70:aD_ K C_q124 "parts"
 n_q58:aD_ K C_q124 "begin"
 n_q98:aD_ K C_q124 "end"
 C_q114:Addr
 G_q114:mg "Amount"=some (.ref C_q114)
 f_q4:Addr
 d_q4:FuncData
 F_q4:Fun K "__init__" "Amount.__init__" s_q4 f_q4 d_q4
 b_q4:a9_ K d_q4 ["self","over","under","measure"] []
 cl_q114:Cls K C_q114
 M_q114:Mk K C_q114 f_q4
 n_q46:aD_ K C_q114 "over"
 n_q30:aD_ K C_q114 "under"
 n_q9:aD_ K C_q114 "measure"
 C_q120:Addr
 G_q120:mg "Token"=some (.ref C_q120)
 f_q6:Addr
 d_q6:FuncData
 F_q6:Fun K "__init__" "Token.__init__" s_q6 f_q6 d_q6
 b_q6:a9_ K d_q6 ["self","group","kind","begin","end","content"] []
 cl_q120:Cls K C_q120
 M_q120:Mk K C_q120 f_q6
 n_q52:aD_ K C_q120 "group"
 n_q80:aD_ K C_q120 "kind"
 n_q47:aD_ K C_q120 "begin"
 n_q93:aD_ K C_q120 "end"
 n_q24:aD_ K C_q120 "content"
 C_Row:Addr
 G_Row:mg "Row"=some (.ref C_Row)
 f_q25:Addr
 d_q25:FuncData
 F_q25:Fun K "__init__" "Row.__init__" s_q25 f_q25 d_q25
 b_q25:a9_ K d_q25 ["self","found","length"] []
 f_q26:Addr
 d_q26:FuncData
 F_q26:Fun K "upcoming" "Row.upcoming" s_q26 f_q26 d_q26
 b_q26:a9_ K d_q26 ["self"] []
 m_q26:Meth K C_Row "upcoming" f_q26
 f_q96:Addr
 d_q96:FuncData
 F_q96:Fun K "take" "Row.take" s_q96 f_q96 d_q96
 b_q96:a9_ K d_q96 ["self"] []
 m_q96:Meth K C_Row "take" f_q96
 f_q19:Addr
 d_q19:FuncData
 F_q19:Fun K "take_kind" "Row.take_kind" s_q19 f_q19 d_q19
 b_q19:a9_ K d_q19 ["self","kind"] []
 m_q19:Meth K C_Row "take_kind" f_q19
 cl_Row:Cls K C_Row
 M_Row:Mk K C_Row f_q25
 n_q85:aD_ K C_Row "ahead"
 n_q89:aD_ K C_Row "index"
 C_q123:Addr
 G_q123:mg "Step"=some (.ref C_q123)
 f_q23:Addr
 d_q23:FuncData
 F_q23:Fun K "__init__" "Step.__init__" s_q23 f_q23 d_q23
 b_q23:a9_ K d_q23 ["self","kind","owner","depth"] []
 cl_q123:Cls K C_q123
 M_q123:Mk K C_q123 f_q23
 n_q87:aD_ K C_q123 "kind"
 n_q78:aD_ K C_q123 "owner"
 n_q68:aD_ K C_q123 "depth"
 f_q103:Addr
 d_q103:FuncData
 F_q103:FG K mg "numbered" s_q103 ["term"] f_q103 d_q103
 f_q37:Addr
 d_q37:FuncData
 F_q37:FG K mg "check_limits" s_q37 ["term"] f_q37 d_q37
 f_q105:Addr
 d_q105:FuncData
 F_q105:FG K mg "unfolded" s_q105 ["whole","pieces_of"] f_q105 d_q105
 f_q86:Addr
 d_q86:FuncData
 F_q86:FG K mg "is_letter" s_q86 ["byte"] f_q86 d_q86
 f_q99:Addr
 d_q99:FuncData
 F_q99:FG K mg "is_digit" s_q99 ["byte"] f_q99 d_q99
 f_q62:Addr
 d_q62:FuncData
 F_q62:FG K mg "is_in_word" s_q62 ["byte"] f_q62 d_q62
 f_q17:Addr
 d_q17:FuncData
 F_q17:FG K mg "is_short_word" s_q17 ["text"] f_q17 d_q17
 f_q104:Addr
 d_q104:FuncData
 F_q104:FG K mg "is_blank" s_q104 ["byte"] f_q104 d_q104
 f_q0:Addr
 d_q0:FuncData
 F_q0:FG K mg "is_before_measure_end" s_q0 ["byte"] f_q0 d_q0
 f_q107:Addr
 d_q107:FuncData
 F_q107:FG K mg "run_end" s_q107 ["text","place","belongs"] f_q107 d_q107
 f_q111:Addr
 d_q111:FuncData
 F_q111:FG K mg "sign_of" s_q111 ["byte"] f_q111 d_q111
 f_q100:Addr
 d_q100:FuncData
 F_q100:FG K mg "signs_of" s_q100 ["some_bytes"] f_q100 d_q100
 f_q77:Addr
 d_q77:FuncData
 F_q77:FG K mg "number_end" s_q77 ["text","begin"] f_q77 d_q77
 f_q51:Addr
 d_q51:FuncData
 F_q51:FG K mg "fraction_of" s_q51 ["spelling"] f_q51 d_q51
 f_q115:Addr
 d_q115:FuncData
 F_q115:FG K mg "lowest" s_q115 ["over","under"] f_q115 d_q115
 f_q10:Addr
 d_q10:FuncData
 F_q10:FG K mg "common_divisor" s_q10 ["first","second"] f_q10 d_q10
 f_q57:Addr
 d_q57:FuncData
 F_q57:FG K mg "is_measure" s_q57 ["measure"] f_q57 d_q57
 f_q83:Addr
 d_q83:FuncData
 F_q83:FG K mg "is_factor" s_q83 ["factor"] f_q83 d_q83
 f_q101:Addr
 d_q101:FuncData
 F_q101:FG K mg "is_power" s_q101 ["power"] f_q101 d_q101
 f_q102:Addr
 d_q102:FuncData
 F_q102:FG K mg "measured" s_q102 ["amount","measure"] f_q102 d_q102
 f_q109:Addr
 d_q109:FuncData
 F_q109:FG K mg "negated" s_q109 ["amount"] f_q109 d_q109
 f_q48:Addr
 d_q48:FuncData
 F_q48:FG K mg "amount_text" s_q48 ["amount"] f_q48 d_q48
 f_q53:Addr
 d_q53:FuncData
 F_q53:FG K mg "core_tokens" s_q53 ["text"] f_q53 d_q53
 f_q11:Addr
 d_q11:FuncData
 F_q11:FG K mg "tokens_between" s_q11 ["text","gap_end","token_at"] f_q11 d_q11
 f_q32:Addr
 d_q32:FuncData
 F_q32:FG K mg "core_gap_end" s_q32 ["text","place"] f_q32 d_q32
 f_q75:Addr
 d_q75:FuncData
 F_q75:FG K mg "core_token" s_q75 ["text","begin"] f_q75 d_q75
 f_q65:Addr
 d_q65:FuncData
 F_q65:FG K mg "word_token" s_q65 ["text","begin"] f_q65 d_q65
 f_q35:Addr
 d_q35:FuncData
 F_q35:FG K mg "number_token" s_q35 ["text","begin","digits"] f_q35 d_q35
 f_q56:Addr
 d_q56:FuncData
 F_q56:FG K mg "measure_at" s_q56 ["text","begin"] f_q56 d_q56
 f_q60:Addr
 d_q60:FuncData
 F_q60:FG K mg "sign_token" s_q60 ["text","begin","signs"] f_q60 d_q60
 f_q92:Addr
 d_q92:FuncData
 F_q92:FG K mg "core_term" s_q92 ["text"] f_q92 d_q92
 f_q117:Addr
 d_q117:FuncData
 F_q117:FG K mg "go_on" s_q117 ["row","todo","step"] f_q117 d_q117
 f_q69:Addr
 d_q69:FuncData
 F_q69:FG K mg "begin_term" s_q69 ["row","todo","step"] f_q69 d_q69
 f_q20:Addr
 d_q20:FuncData
 F_q20:FG K mg "bracket_begin" s_q20 ["row"] f_q20 d_q20
 f_q126:Addr
 d_q126:FuncData
 F_q126:FG K mg "leaf" s_q126 ["token"] f_q126 d_q126
 f_q29:Addr
 d_q29:FuncData
 F_q29:FG K mg "surface_text" s_q29 ["term"] f_q29 d_q29
 f_q21:Addr
 d_q21:FuncData
 F_q21:FG K mg "ranked_pieces" s_q21 ["item"] f_q21 d_q21
 f_q112:Addr
 d_q112:FuncData
 F_q112:FG K mg "rank_of" s_q112 ["node"] f_q112 d_q112
 f_q106:Addr
 d_q106:FuncData
 F_q106:FG K mg "is_list" s_q106 ["node"] f_q106 d_q106
 f_q7:Addr
 d_q7:FuncData
 F_q7:FG K mg "spelled_pieces" s_q7 ["node"] f_q7 d_q7
 f_q27:Addr
 d_q27:FuncData
 F_q27:FG K mg "truth_pieces" s_q27 ["node"] f_q27 d_q27
 f_q82:Addr
 d_q82:FuncData
 F_q82:FG K mg "fn_pieces" s_q82 ["node"] f_q82 d_q82
 f_q71:Addr
 d_q71:FuncData
 F_q71:FG K mg "rec_pieces" s_q71 ["node"] f_q71 d_q71
 f_q63:Addr
 d_q63:FuncData
 F_q63:FG K mg "let_pieces" s_q63 ["node"] f_q63 d_q63
 f_q2:Addr
 d_q2:FuncData
 F_q2:FG K mg "function_pieces" s_q2 ["names","body","sign"] f_q2 d_q2
 f_q90:Addr
 d_q90:FuncData
 F_q90:FG K mg "if_pieces" s_q90 ["node"] f_q90 d_q90
 f_q41:Addr
 d_q41:FuncData
 F_q41:FG K mg "case_pieces" s_q41 ["node"] f_q41 d_q41
 f_q3:Addr
 d_q3:FuncData
 F_q3:FG K mg "operator_pieces" s_q3 ["node"] f_q3 d_q3
 f_q108:Addr
 d_q108:FuncData
 F_q108:FG K mg "between" s_q108 ["node","sign"] f_q108 d_q108
 f_q33:Addr
 d_q33:FuncData
 F_q33:FG K mg "power_pieces" s_q33 ["node"] f_q33 d_q33
 f_q28:Addr
 d_q28:FuncData
 F_q28:FG K mg "apply_pieces" s_q28 ["node"] f_q28 d_q28
 f_q50:Addr
 d_q50:FuncData
 F_q50:FG K mg "word_pieces" s_q50 ["node"] f_q50 d_q50
 f_q79:Addr
 d_q79:FuncData
 F_q79:FG K mg "nil_pieces" s_q79 ["node"] f_q79 d_q79
 f_q45:Addr
 d_q45:FuncData
 F_q45:FG K mg "cons_pieces" s_q45 ["node"] f_q45 d_q45
 f_q39:Addr
 d_q39:FuncData
 F_q39:FG K mg "pair_pieces" s_q39 ["node"] f_q39 d_q39
 f_q38:Addr
 d_q38:FuncData
 F_q38:FG K mg "with_commas" s_q38 ["members"] f_q38 d_q38
 f_q125:Addr
 d_q125:FuncData
 F_q125:FG K mg "show" s_q125 ["text"] f_q125 d_q125
 f_q97:Addr
 d_q97:FuncData
 F_q97:FG K mg "answered" s_q97 ["text","reading","answering"] f_q97 d_q97
 f_q8:Addr
 d_q8:FuncData
 F_q8:FG K mg "surface_answer" s_q8 ["term"] f_q8 d_q8
 f_q40:Addr
 d_q40:FuncData
 F_q40:FG K mg "text_answer" s_q40 ["shown"] f_q40 d_q40
 f_q95:Addr
 d_q95:FuncData
 F_q95:FG K mg "bytes_of" s_q95 ["shown"] f_q95 d_q95
 t_q113:MDict w K a_q113 [("name",.ref f_q7),("number",.ref f_q7),("true",.ref f_q27),("false",.ref f_q27),("fn",.ref f_q82),("rec",.ref f_q71),("let",.ref f_q63),("if",.ref f_q90),("case",.ref f_q41),("<",.ref f_q3),("=",.ref f_q3),("+",.ref f_q3),("-",.ref f_q3),("*",.ref f_q3),("/",.ref f_q3),("^",.ref f_q33),("apply",.ref f_q28),("fst",.ref f_q50),("snd",.ref f_q50),("root",.ref f_q50),("floor",.ref f_q50),("rest",.ref f_q50),("fold",.ref f_q50),("nil",.ref f_q79),("cons",.ref f_q45),("pair",.ref f_q39)]
section
variable {P:Program}{w:World}{K:PySem.W.Frag}{mg:Str->Option Value}{base:Heap}
theorem ok_q86 (T:TX w K mg):FnOk P w K mg base CX0 1 T.f_q86 T.d_q86 ["byte"] (spB Vaunid.isSmall):=by
 refine T.F_q86.fn.ok sc_q86 (fun _ _ _ _ h=>?_) (fun _ _ _ _ H _ Q E hr h=>?_)
 ·obtain ⟨n,rfl,_⟩:=h
  rfl
 obtain ⟨n,rfl,k⟩:=h;refine ⟨_,(ae_ (aj_ (im_ iX_ iX_ ai_ (pv 0) ai_))),?_⟩;simp! [tSeq];have e:Vaunid.isSmall n=(decide ((97:Int)<=n) && decide ((n:Int)<=122)):=by unfold Vaunid.isSmall;congr 1 <;> exact decide_eq_decide.mpr (by omega)
 rw [e] at k;split <;> rename_i q <;> simpa [q] using k
theorem ok_q99 (T:TX w K mg):FnOk P w K mg base CX0 1 T.f_q99 T.d_q99 ["byte"] (spB Vaunid.isDigit):=by
 refine T.F_q99.fn.ok sc_q99 (fun _ _ _ _ h=>?_) (fun _ _ _ _ H _ Q E hr h=>?_)
 ·obtain ⟨n,rfl,_⟩:=h
  rfl
 obtain ⟨n,rfl,k⟩:=h;refine ⟨_,(ae_ (aj_ (im_ iX_ iX_ ai_ (pv 0) ai_))),?_⟩;simp! [tSeq];have e:Vaunid.isDigit n=(decide ((48:Int)<=n) && decide ((n:Int)<=57)):=by unfold Vaunid.isDigit;congr 1 <;> exact decide_eq_decide.mpr (by omega)
 rw [e] at k;split <;> rename_i q <;> simpa [q] using k
theorem ok_q62 (T:TX w K mg):FnOk P w K mg base CX0 2 T.f_q62 T.d_q62 ["byte"] (spB Vaunid.inWord):=by
 have G_q86:=ok_q86 (P:=P) (base:=base) T;have G_q99:=ok_q99 (P:=P) (base:=base) T;refine T.F_q62.fn.ok sc_q62 (fun _ _ _ _ h=>?_) (fun _ _ _ _ H _ Q E hr h=>?_)
 ·obtain ⟨n,rfl,_⟩:=h
  rfl
 obtain ⟨n,rfl,k⟩:=h;refine ⟨_,(ae_ (aj_ (oy_ (aE_ T.F_q86 G_q86 hr.m ar_ (aa_ (pv 0) ac_)) (oy_ (aE_ T.F_q99 G_q99 hr.m ar_ (aa_ (pv 0) ac_)) (mH_ (eB_ bn_ (pv 0) ai_ (au_ _))))))),?_⟩;simp! [tSeq,spB,natCast_inj];have e:decide ((n:Int)=95)=(n == 95):=hF_ n 95;unfold Vaunid.inWord at k;rw [e];cases h1:Vaunid.isSmall n <;> cases h2:Vaunid.isDigit n <;> rw [h1,h2] at k <;> simpa using k
def nb_:Sp:=fun vs H Q _=>∃ l:List Nat,vs=[.str (S l)]/\l.length<=sizeLine/\∀ H',Same H H'->Q (.bl (ay_ l)) H'
theorem ok_q17 (T:TX w K mg):FnOk P w K mg base CX0 3 T.f_q17 T.d_q17 ["text"] nb_:=by
 have G_q86:=ok_q86 (P:=P) (base:=base) T;have G_q62:=ok_q62 (P:=P) (base:=base) T;refine T.F_q17.fn.ok sc_q17 (fun _ _ _ _ h=>?_) (fun _ _ _ _ H _ Q E hr h=>?_)
 ·obtain ⟨n,rfl,_⟩:=h
  rfl
 obtain ⟨l,rfl,hl,k⟩:=h;refine ⟨_,(ad_ (aT_ (PW.pt (pw_or (am_ bn_ (pv 0) ak_ (au_ _)) (pw_or (am_ hx_ (aG_ aS_ rfl T.b_len PySem.boot_len (aa_ (pv 0) ac_)) (pe_g T.g_q67) (au_ _)) (pw_or1 (j1_ (bR_ (aE_ T.F_q86 G_q86 hr.m ar_ (aa_ (aG_ ec_ rfl T.b_ord dl_ (aa_ (aC_ mJ_ (pv 0) ai_ (fun _ _=>rfl)) ac_)) ac_)))))))) (ae_ (aj_ kg_)) atz_)
  (ae_ (aj_ (aG_ (mP_ rfl) rfl T.b_all g8_ (aa_ (kb_ rfl sc_q17.nd (j7_ (pv 0)) (cz_ (own:=[("sign",1)]) (by kernel_rfl)) (fun _ _ _ _ _=>pg_q 1 sc_q17.nd) (fun _ _ _ _ _=>ds_) (fun _ _ _ _ _=>(aE_ T.F_q62 G_q62 hr.m ar_ (aa_ (aG_ ec_ rfl T.b_ord dl_ (aa_ (pv 1) ac_)) ac_)))) ac_))))),?_⟩
 simp! [tSeq,spB,natCast_inj];have k0:=k H (Same.refl H)
 match l,hl,k,k0 with
 | [],hl,k,k0 =>
  exact ite2 (fun _=>k0) fun z=>absurd rfl z
 | c::r,hl,k,k0 =>
  rw [if_neg (by intro z;cases z)];refine ⟨hl,ite2 (fun h=>?_) fun h=>⟨hl,c,bv_ (j:=0) rfl,ite2 (fun h2=>?_) fun h2=>?_⟩⟩
  ·have e:ay_ (c::r)=false:=by
    unfold ay_;rw [decide_eq_false (by omega)];simp
   rw [e] at k0;exact k0
  ·have e:ay_ (c::r)=false:=by
    have h3:Vaunid.isSmall c=false:=by simpa using h2
    unfold ay_;rw [headD_cons,h3];simp
   rw [e] at k0;exact k0
  have h3:Vaunid.isSmall c=true:=by simpa using h2
  refine gp_ (Its (S (c::r))) ((c::r).map fun d=>V.str ⟨#[d]⟩) (fun v=>match v with | .str x=>V.bl (Vaunid.inWord (x.cps.getD 0 0)) | _ => .non) (H1:=H) (fun R h=>?_) (by rw [length_map];exact hl) (kO_ (x:=S (c::r))) (fun x H' D acc Nx hx sm hD hacc nx=>?_) fun D H' hD sm e=>?_
  ·simp! [tSeq]
   exact h
  ·obtain ⟨d,hd,rfl⟩:=List.mem_map.mp hx
   simp! [tSeq,spB,natCast_inj];exact ⟨acc,hD,hacc,nx H' (Same.refl _)⟩
  simp! [tSeq];refine ⟨(c::r).map Vaunid.inWord,SqL.of ?_,?_⟩
  ·rw [e,map_map,map_map]
   rfl
  have e2:ay_ (c::r)=((c::r).map Vaunid.inWord).all id:=by
   unfold ay_;rw [headD_cons,h3,decide_eq_true (by omega),all_map];rfl
  rw [<- e2];exact k H' sm
theorem ok_q104 (T:TX w K mg):FnOk P w K mg base CX0 1 T.f_q104 T.d_q104 ["byte"] (spB fun c=>c == 32):=by
 refine T.F_q104.fn.ok sc_q104 (fun _ _ _ _ h=>?_) (fun _ _ _ _ H _ Q E hr h=>?_)
 ·obtain ⟨n,rfl,_⟩:=h
  rfl
 obtain ⟨n,rfl,k⟩:=h;refine ⟨_,(ae_ (aj_ (eB_ bn_ (pv 0) (pe_g T.g_q116) (au_ _)))),?_⟩;simp! [tSeq];have e:decide ((n:Int)=32)=(n == 32):=hF_ n 32;rw [e];exact k
theorem ok_q0 (T:TX w K mg):FnOk P w K mg base CX0 1 T.f_q0 T.d_q0 ["byte"] (spB fun c=>c != 93):=by
 refine T.F_q0.fn.ok sc_q0 (fun _ _ _ _ h=>?_) (fun _ _ _ _ H _ Q E hr h=>?_)
 ·obtain ⟨n,rfl,_⟩:=h
  rfl
 obtain ⟨n,rfl,k⟩:=h;refine ⟨_,(ae_ (aj_ (eB_ km_ (pv 0) (pe_g T.g_q49) (au_ _)))),?_⟩;simp! [tSeq];have e:decide ((n:Int)=93)=(n == 93):=hF_ n 93;rw [e];exact k
def jK_ (P:Program) (w:World) (K:PySem.W.Frag) (mg:Str->Option Value) (base:Heap):Sp:=fun vs H Q _=>∃ (a f:Addr) (t:List Nat) (p:Nat) (b:Nat->Bool),vs=[.ref a,.int (p:Int),.ref f]/\SqL K H a (bs t)/\lh_ P w K mg base 2 f b /\
 Q (.int ((p+((t.drop p).takeWhile b).length:Nat):Int)) H
theorem ok_q107 (T:TX w K mg):FnOk P w K mg base CX0 3 T.f_q107 T.d_q107 ["text","place","belongs"] (jK_ P w K mg base):=by
 refine T.F_q107.fn.ok sc_q107 (fun _ _ _ _ h=>?_) (fun _ _ _ _ H _ Q E hr h=>?_)
 ·obtain ⟨a,f,t,p,b,rfl,_⟩:=h
  rfl
 obtain ⟨a,f,t,p,b,rfl,ht,⟨fd,ps,F,hb,hk⟩,k⟩:=h;refine ⟨_,(ad_ (bq_ PassesOwn.never (PW.pt (pw_and (am_ hw_ (pv 1) (aG_ aZ_ rfl T.b_len PySem.boot_len (aa_ (pv 0) ac_)) (au_ _)) (pw_and1 (bR_ (bI_ (CX:=CX0) (k:=2) 2 hr.m ar_ (aa_ (aC_ ao_ (pv 0) (pv 1) (fun _ _=>rfl)) ac_)))))) (ae_ (ou_ (i:=1) sc_q107.nd rfl (Or.inl rfl) ai_ oP_)))
  (ae_ (aj_ (pv 1)))),?_⟩
 simp! [tSeq];obtain ⟨Pv,hPv⟩ : ∃ Pv:Nat->L2.St->Hp->Prop,Pv=fun m σ H'=>H'=H/\∃ j,m=t.length - (p+j)/\σ=[some (.ref a),some (.int ((p+j:Nat):Int)),some (.ref f)]/\((t.drop p).takeWhile b).length=j+((t.drop (p+j)).takeWhile b).length:=⟨_,rfl⟩;refine bL_ Pv _ (by rw [hPv];exact ⟨rfl,0,rfl,rfl,by simp⟩) fun m σ H' hp=>?_;rw [hPv] at hp;obtain ⟨rfl,j,rfl,rfl,hj⟩:=hp;simp! [tSeq,dI_];refine ⟨bs t,.inl ht,ite2 (fun h=>?_) fun h=>?_⟩
 ·rw [bW_] at h
  have hlt:p+j<t.length:=by omega
  refine ⟨fd,ps,spB b,F,hb,hk,bs t,ht,_,bv_ (dS_ (getElem?_eq_getElem hlt)),?_⟩;simp! [tSeq,spB,natCast_inj];have hd:t.drop (p+j)=t[p+j]::t.drop (p+j+1):=drop_eq_getElem_cons hlt;rw [hd,takeWhile_cons] at hj;refine b6_ (fun q=>⟨_,fun _ _ z=>z,t.length - (p+(j+1)),by omega,?_⟩) fun q=>?_
  ·rw [hPv]
   refine ⟨rfl,j+1,rfl,?_,?_⟩
   ·have e:((p+j:Nat):Int)+1=((p+(j+1):Nat):Int):=by omega
    rw [e]
   rw [q,if_pos rfl,length_cons] at hj;rw [hj,show p+(j+1)=p+j+1 by omega];omega
  rw [q,if_neg (by simp)] at hj;have e:p+(List.takeWhile b (List.drop p t)).length=p+j:=by rw [hj];rfl
  rw [e] at k;exact k
 rw [bW_] at h;have hd:t.drop (p+j)=[]:=drop_eq_nil_of_le (by omega);rw [hd] at hj;have e:p+(List.takeWhile b (List.drop p t)).length=p+j:=by rw [hj];rfl
 rw [e] at k;exact k
def mx_:Sp:=fun vs H Q _=>∃ n:Nat,vs=[.int (n:Int)]/\Q (.str ⟨#[sgn n]⟩) H
theorem iS_ (n:Nat) (h1:32<=n) (h2:n<=126):(tl (Str.ofString " !\"#$?&'()*+,-./0123456789:;<=>?@ABCDEFGHIJKLMNOPQRSTUVWXYZ[\\]^_`abcdefghijklmnopqrstuvwxyz{|}~"))[n - 32]? = some (sgn n):=by
 have key : ∀ m:Fin 95,(tl (Str.ofString " !\"#$?&'()*+,-./0123456789:;<=>?@ABCDEFGHIJKLMNOPQRSTUVWXYZ[\\]^_`abcdefghijklmnopqrstuvwxyz{|}~"))[m.1]? = some (sgn (m.1+32)):=by decide +kernel
 have e:=key ⟨n - 32,by omega⟩;rw [show n=n - 32+32 by omega];simpa using e
theorem ok_q111 (T:TX w K mg):FnOk P w K mg base CX0 1 T.f_q111 T.d_q111 ["byte"] mx_:=by
 refine T.F_q111.fn.ok sc_q111 (fun _ _ _ _ h=>?_) (fun _ _ _ _ H _ Q E hr h=>?_)
 ·obtain ⟨n,rfl,_⟩:=h
  rfl
 obtain ⟨n,rfl,k⟩:=h;refine ⟨_,(ad_ (aT_ (lD_ iX_ iX_ (pe_g T.g_q16) (pv 0) (pe_g T.g_q34)) (ae_ (aj_ (aC_ mJ_ (pe_g T.g_q110) (aI_ kl_ (pv 0) (pe_g T.g_q16)) (fun _ _=>rfl)))) atz_)
  (ae_ (aj_ ak_))),?_⟩
 simp! [tSeq];refine ite2 (fun h1=>ite2 (fun h2=>?_) fun h2=>?_) fun h1=>?_
 ·refine ⟨by decide +kernel,sgn n,?_,k⟩
  have e:(n:Int) - 32=((n - 32:Nat):Int):=by omega
  rw [e];exact bv_ (iS_ n (by omega) (by omega))
 ·have e:sgn n=63:=by unfold sgn;rw [if_neg (by omega)]
  rw [e] at k;exact k
 have e:sgn n=63:=by unfold sgn;rw [if_neg (by omega)]
 rw [e] at k;exact k
def eu_ (K:PySem.W.Frag):Sp:=fun vs H Q _=>∃ (a:Addr) (t:List Nat),vs=[.ref a]/\SqL K H a (bs t)/\t.length<=1000000/\∀ H',Same H H'->Q (.str (S (t.map sgn))) H'
theorem gU_ : ∀ l:List Nat,dx_ [] (l.map fun c=>[c])=l
 | []=>rfl
 | [c]=>rfl
 | c::d::r=>by
  have ih:=gU_ (d::r);show c::([]++dx_ [] ((d::r).map fun c=>[c]))=_;rw [ih];rfl
theorem h7_ : ∀ l:List Nat,((l.map fun c=>(⟨#[c]⟩:Str)).map (·.length)).sum=l.length
 | []=>rfl
 | c::r=>by
  have ih:=h7_ r;simp only [map_cons,sum_cons,length_cons,ih];show 1+r.length=r.length+1;omega
theorem ok_q100 (T:TX w K mg):FnOk P w K mg base CX0 2 T.f_q100 T.d_q100 ["some_bytes"] (eu_ K):=by
 have G_q111:=ok_q111 (P:=P) (base:=base) T;refine T.F_q100.fn.ok sc_q100 (fun _ _ _ _ h=>?_) (fun _ _ _ _ H _ Q E hr h=>?_)
 ·obtain ⟨a,t,rfl,_⟩:=h
  rfl
 obtain ⟨a,t,rfl,ht,hl,k⟩:=h;refine ⟨_,(ae_ (aj_ (kc_ ak_ (kb_ rfl sc_q100.nd (eA_ (pv 0)) (cz_ (own:=[("byte",1)]) (by kernel_rfl)) (fun _ _ _ _ _=>pg_q 1 sc_q100.nd) (fun _ _ _ _ _=>ds_) (fun _ _ _ _ _=>(aE_ T.F_q111 G_q111 hr.m ar_ (aa_ (pv 1) ac_))))))),?_⟩;simp! [tSeq];refine gp_ (Itl K a) (bs t) (fun v=>match v with | .int n=>V.str ⟨#[sgn n.toNat]⟩ | _ => .non) (H1:=H) (fun R h=>?_) (by rw [bW_];exact Nat.le_trans hl (by decide)) (hG_ ht) (fun x H' D acc Nx hx sm hD hacc nx=>?_) fun D H' hD sm e=>?_
 ·simp! [tSeq]
  exact ⟨⟨_,ht⟩,h⟩
 ·obtain ⟨d,hd,rfl⟩:=List.mem_map.mp hx
  simp! [tSeq,mx_,natCast_inj];exact ⟨acc,hD,hacc,nx H' (Same.refl _)⟩
 simp! [tSeq];refine ⟨t.map fun c=>⟨#[sgn c]⟩,.inl (SqL.of ?_),?_,?_⟩
 ·rw [e]
  unfold bs;rw [map_map,map_map];rfl
 ·have e1:(t.map fun c=>(⟨#[sgn c]⟩:Str))=(t.map sgn).map fun c=>(⟨#[c]⟩:Str):=by rw [map_map];rfl
  rw [e1,h7_,length_map,length_map];show t.length+t.length * 0<=16777216;omega
 have e1:Txt.join (Str.ofString "") (t.map fun c=>(⟨#[sgn c]⟩:Str))=S (t.map sgn):=by
  refine cd_ ?_;rw [kF_,fI_,map_map];have e2:(t.map (tl ∘ fun c=>(⟨#[sgn c]⟩:Str)))=(t.map sgn).map fun c=>[c]:=by rw [map_map];rfl
  rw [e2];exact gU_ _
 rw [e1];exact k H' sm
end
set_option maxHeartbeats 2000000
section
variable {P:Program}{w:World}{K:PySem.W.Frag}{mg:Str->Option Value}{base:Heap}
theorem ok_q114 (T:TX w K mg):FnOk P w K mg base CX0 1 T.f_q4 T.d_q4 ["self","over","under","measure"] (bz_ T.C_q114 ["over","under","measure"]):=by
 refine T.F_q4.ok sc_q4 (fun _ _ _ _ h=>?_) (fun _ _ _ _ H _ Q E hr h=>?_)
 ·obtain ⟨p,dx,args,rfl,hl,_⟩:=h
  simp only [length_cons,length_nil] at hl ⊢;rw [hl]
 obtain ⟨p,dx,args,rfl,hl,hp,k⟩:=h;obtain ⟨a,b,c,rfl⟩:=len3 hl;refine ⟨_,(ad_ (bj_ (pv 0) (pv 1) rfl)
  (ad_ (bj_ (pv 0) (pv 2) rfl)
  (ae_ (bj_ (pv 0) (pv 3) rfl)))),?_⟩
 simp! [tSeq,sFld];refine ⟨_,_,_,hp,T.cl_q114,T.n_q46,(by decide),T.cl_q114,T.n_q30,few1,T.cl_q114,T.n_q9,few2,?_⟩;exact k
def ia_ (K:PySem.W.Frag):Sp:=fun vs H Q _=>∃ (a:Addr) (t:List Nat) (p:Nat),vs=[.ref a,.int (p:Int)]/\SqL K H a (bs t)/\p<=t.length/\∀ H',Same H H'->Q (.int ((p+(numberText (t.drop p)).1:Nat):Int)) H'
theorem ok_q77 (T:TX w K mg):FnOk P w K mg base CX0 4 T.f_q77 T.d_q77 ["text","begin"] (ia_ K):=by
 have G_q99:=ok_q99 (P:=P) (base:=base) T;have G_q107:=ok_q107 (P:=P) (base:=base) T;have PD:lh_ P w K mg base 2 T.f_q99 Vaunid.isDigit:=⟨_,_,G_q99.mono (by decide),T.F_q99.b,T.F_q99.fn.kp⟩;refine T.F_q77.fn.ok sc_q77 (fun _ _ _ _ h=>?_) (fun _ _ _ _ H _ Q E hr h=>?_)
 ·obtain ⟨a,t,p,rfl,_⟩:=h
  rfl
 obtain ⟨a,t,p,rfl,ht,hp,k⟩:=h;refine ⟨_,(ad_ (az_ 2 sc_q77.nd (aE_ T.F_q107 G_q107 hr.m ar_ (aa_ (pv 0) (aa_ (pv 1) (aa_ (pe_r T.F_q99.mg) ac_)))))
  (ad_ (aT_ (PW.pt (pw_and (am_ hw_ (aI_ cc_ (pv 2) ai_) (aG_ aZ_ rfl T.b_len PySem.boot_len (aa_ (pv 0) ac_)) (au_ _)) (pw_and (am_ c7_ (aC_ ao_ (pv 0) (pv 2) (fun _ _=>rfl)) (pe_r T.g_q12) rfl) (pw_and1 (bR_ (aE_ T.F_q99 G_q99 hr.m ar_ (aa_ (aC_ ao_ (pv 0) (aI_ cc_ (pv 2) ai_) (fun _ _=>rfl)) ac_))))))) (ae_ (az_ 2 sc_q77.nd (aE_ T.F_q107 G_q107 hr.m ar_ (aa_ (pv 0) (aa_ (aI_ cc_ (pv 2) ai_) (aa_ (pe_r T.F_q99.mg) ac_)))))) atz_)
  (ae_ (aj_ (pv 2))))),?_⟩
 simp! [tSeq,jK_];refine ⟨t,ht,Vaunid.isDigit,PD,bs t,.inl ht,?_⟩;rw [bW_];have k0:=k H (Same.refl H);refine ite2 (fun h=>?_) fun h=>?_
 ·have hlt:p+((t.drop p).takeWhile Vaunid.isDigit).length+1<t.length:=by omega
  have h1:t[p+((t.drop p).takeWhile Vaunid.isDigit).length]? = some _:=getElem?_eq_getElem (by omega);have h2:t[p+((t.drop p).takeWhile Vaunid.isDigit).length+1]? = some _:=getElem?_eq_getElem hlt;refine ⟨bs t,ht,_,bv_ (dS_ h1),_,.inr (T.t_q12 H),rfl,rfl,?_⟩;rw [nL_];have nl:=lP_ h1 h2;refine ite2 (fun q=>⟨bs t,ht,_,bv_ (dS_ h2),?_⟩) fun q=>?_
  ·simp! [tSeq,spB]
   have q':=of_decide_eq_true q;refine b6_ (fun r=>?_) fun r=>?_
   ·rw [if_pos ⟨q'.symm,r⟩] at nl
    refine ⟨_,_,_,rfl,rfl,ht,_,PD,?_⟩;rw [nl,<- add_assoc,<- add_assoc] at k0;exact k0
   rw [if_neg (by rw [r];simp)] at nl;rw [nl] at k0;exact k0
  rw [if_neg (fun z=>q (decide_eq_true z.1.symm))] at nl;rw [nl] at k0;exact k0
 rw [kp_ (by omega)] at k0;exact k0
def om_:Sp:=fun vs H Q _=>∃ o u:Nat,vs=[.int (o:Int),.int (u:Int)]/\Q (.int (Nat.gcd o u:Int)) H
theorem ok_q10 (T:TX w K mg):FnOk P w K mg base CX0 1 T.f_q10 T.d_q10 ["first","second"] om_:=by
 refine T.F_q10.fn.ok sc_q10 (fun _ _ _ _ h=>?_) (fun _ _ _ _ H _ Q E hr h=>?_)
 ·obtain ⟨o,u,rfl,_⟩:=h
  rfl
 obtain ⟨o,u,rfl,k⟩:=h;refine ⟨_,(ad_ (bq_ PassesOwn.never (am_ km_ (pv 1) ai_ (au_ _)) (ad_ (az_ 2 sc_q10.nd (aI_ oC_ (pv 0) (pv 1)))
  (ad_ (az_ 0 sc_q10.nd (pv 1))
  (ae_ (az_ 1 sc_q10.nd (pv 2))))))
  (ae_ (aj_ (pv 0)))),?_⟩
 simp! [tSeq];obtain ⟨Pv,hPv⟩ : ∃ Pv:Nat->L2.St->Hp->Prop,Pv=fun m σ H'=>H'=H/\∃ (x y:Nat) (z:Option V),m=y/\σ=[some (.int (x:Int)),some (.int (y:Int)),z]/\Nat.gcd x y=Nat.gcd o u:=⟨_,rfl⟩;refine bL_ Pv _ (by rw [hPv];exact ⟨rfl,o,u,none,rfl,rfl,rfl⟩) fun m σ H' hp=>?_;rw [hPv] at hp;obtain ⟨rfl,x,y,z,rfl,rfl,hg⟩:=hp;simp! [tSeq];refine ite2 (fun h=>⟨_,fun _ _ q=>q,?_,x % m,?_,?_⟩) fun h=>?_
 ·simp at h
  omega
 ·have:m≠0:=by
   intro e;subst e;simp at h
  exact Nat.mod_lt _ (Nat.pos_of_ne_zero this)
 ·rw [hPv]
  refine ⟨rfl,m,x % m,_,rfl,by rw [<- Int.natCast_emod],?_⟩;rw [<- hg,Nat.gcd_comm x m,Nat.gcd_rec m x,Nat.gcd_comm]
 have e:m=0:=by simp at h;omega
 subst e;rw [Nat.gcd_zero_right] at hg;rw [hg];exact k
def lw_ (C:Addr):Sp:=fun vs H Q _=>∃ o u:Nat,vs=[.int (o:Int),.int (u:Int)]/\u<2 ^ 200/\e2_ C H Q (M.iv_ o u)
theorem ok_q115 (T:TX w K mg):FnOk P w K mg base CX0 3 T.f_q115 T.d_q115 ["over","under"] (lw_ T.C_q114):=by
 have G_q10:=ok_q10 (P:=P) (base:=base) T;have G_q114:=ok_q114 (P:=P) (base:=base) T;refine T.F_q115.fn.ok sc_q115 (fun _ _ _ _ h=>?_) (fun _ _ _ _ H _ Q E hr h=>?_)
 ·obtain ⟨o,u,rfl,_⟩:=h
  rfl
 obtain ⟨o,u,rfl,hu,k⟩:=h;refine ⟨_,(ad_ (aT_ (am_ bn_ (pv 1) ai_ (au_ _)) (ae_ (aj_ j9_)) atz_)
  (ad_ (az_ 2 sc_q115.nd (aE_ T.F_q10 G_q10 hr.m ar_ (aa_ (pv 0) (aa_ (pv 1) ac_))))
  (ad_ (az_ 0 sc_q115.nd (aI_ iq_ (pv 0) (pv 2)))
  (ad_ (az_ 1 sc_q115.nd (aI_ iq_ (pv 1) (pv 2)))
  (ad_ (aT_ (PW.pt (pw_or (am_ oD_ (pv 0) (pe_g T.g_q5) (au_ _)) (pw_or1 (am_ oD_ (pv 1) (pe_g T.g_q5) (au_ _))))) (ae_ (aj_ j9_)) atz_)
  (ae_ (aj_ (a5_ T.M_q114 G_q114 hr.m rfl T.G_q114 T.b_q4 .nil ar_ (aa_ (pv 0) (aa_ (pv 1) (aa_ ak_ ac_))))))))))),?_⟩
 simp! [tSeq,om_,cg_,bz_];unfold M.iv_ at k;refine ite2 (fun h=>?_) fun h=>?_
 ·rw [if_pos (by omega)] at k
  exact k H (Same.refl H)
 have hu0:u≠0:=by omega
 have hg:0<o.gcd u:=Nat.gcd_pos_of_pos_right _ (Nat.pos_of_ne_zero hu0);have hg2:o.gcd u<=u:=Nat.gcd_le_right _ (Nat.pos_of_ne_zero hu0);have cd : ∀ i:Int,o9_ i ((o.gcd u:Nat):Int):=fun i=>⟨by omega,i2_ (by rw [Int.natAbs_natCast];omega)⟩;rw [if_neg hu0] at k;refine ⟨cd _,cd _,?_⟩;rw [<- Int.natCast_ediv,<- Int.natCast_ediv];refine ite2 (fun h1=>?_) fun h1=>ite2 (fun h2=>?_) fun h2=>?_
 ·rw [if_pos (.inl (by omega))] at k
  exact k H (Same.refl H)
 ·rw [if_pos (.inr (by omega))] at k
  exact k H (Same.refl H)
 rw [if_neg (by omega)] at k;intro x dx hx hdx hne;exact k x _ (aX_ hx hdx) ⟨dx,ab_⟩
def oo_ (C:Addr):Sp:=fun vs H Q _=>∃ (a b:List Nat) (c:Nat),vs=[.str (S (a++(if c=0 then [] else c::b)))]/\(∀ x∈a,Vaunid.isDigit x=true)/\a≠[]/\a.length+b.length<=100000 /\
 ((c=0/\b=[])\/((c=46\/c=47)/\b≠[]/\∀ x∈b,Vaunid.isDigit x=true))/\e2_ C H Q (frac a c b)
theorem ok_q51 (T:TX w K mg):FnOk P w K mg base CX0 4 T.f_q51 T.d_q51 ["spelling"] (oo_ T.C_q114):=by
 have G_q115:=ok_q115 (P:=P) (base:=base) T;refine T.F_q51.fn.ok sc_q51 (fun _ _ _ _ h=>?_) (fun _ _ _ _ H _ Q E hr h=>?_)
 ·obtain ⟨a,b,c,rfl,_⟩:=h
  rfl
 obtain ⟨a,b,c,rfl,ha,hne,hl,hc,k⟩:=h;refine ⟨_,(ad_ (az_ 1 sc_q51.nd (eB_ iY_ ak_ (pv 0) rfl))
  (ad_ (az_ 2 sc_q51.nd (b3_ (bR_ (pv 1)) (il_ (pv 0) ak_) (il_ (pv 0) ak_)))
  (ad_ (aT_ (am_ hx_ (aG_ (o3_ rfl) rfl T.b_max la_ (aa_ (kb_ rfl sc_q51.nd (eA_ (pv 2)) (cz_ (own:=[("row",3)]) (by kernel_rfl)) (fun _ _ _ _ _=>pg_q 3 sc_q51.nd) (fun _ _ _ _ _=>ds_) (fun _ _ _ _ _=>(aG_ aS_ rfl T.b_len PySem.boot_len (aa_ (pv 3) ac_)))) ac_)) (pe_g T.g_q44) (au_ _)) (ae_ (aj_ j9_)) atz_)
  (ad_ (aT_ (bR_ (pv 1)) (ae_ (aj_ (aE_ T.F_q115 G_q115 hr.m ar_ (aa_ (bC_ bs_ rfl T.b_int cr_ (aa_ (aC_ ao_ (pv 2) ai_ (fun _ _=>rfl)) ac_)) (aa_ (bC_ bs_ rfl T.b_int cr_ (aa_ (aC_ ao_ (pv 2) ai_ (fun _ _=>rfl)) ac_)) ac_))))) atz_)
  (ad_ (aT_ (am_ bn_ (aG_ aZ_ rfl T.b_len PySem.boot_len (aa_ (pv 2) ac_)) ai_ (au_ _)) (ae_ (aj_ (aE_ T.F_q115 G_q115 hr.m ar_ (aa_ (bC_ bs_ rfl T.b_int cr_ (aa_ (aI_ aB_ (aC_ ao_ (pv 2) ai_ (fun _ _=>rfl)) (aC_ ao_ (pv 2) ai_ (fun _ _=>rfl))) ac_)) (aa_ (bC_ bs_ rfl T.b_int cr_ (aa_ (aI_ aB_ ak_ (aI_ iW_ ak_ (aG_ aS_ rfl T.b_len PySem.boot_len (aa_ (aC_ ao_ (pv 2) ai_ (fun _ _=>rfl)) ac_)))) ac_)) ac_))))) atz_)
  (ae_ (aj_ (aE_ T.F_q115 G_q115 hr.m ar_ (aa_ (bC_ bs_ rfl T.b_int cr_ (aa_ (aC_ ao_ (pv 2) ai_ (fun _ _=>rfl)) ac_)) (aa_ ai_ ac_)))))))))),?_⟩
 simp! [tSeq];refine ⟨47,jQ_,?_⟩;have big : ∀ n:Nat,n<=100001->n+2<=sizeLine:=fun n h=>Nat.le_trans (Nat.add_le_add_right h 2) (by decide);have big2 : ∀ n:Nat,n<=100001->n<=sizeLine:=fun n h=>Nat.le_trans (Nat.le_add_right n 2) (big n h);have p12:(10:Nat) ^ 12<2 ^ 200:=by decide
 have n47:47∉a:=fun m=>by have:=ha _ m;revert this;decide
 have dotne:((Str.ofString ".").length == 0)=false:=by decide +kernel
 have slane:((Str.ofString "/").length == 0)=false:=by decide +kernel
 rcases hc with ⟨rfl,rfl⟩ | ⟨rfl | rfl,hb,hbd⟩
 ·simp only [if_true,append_nil]
  rw [if_neg (by rw [e8_];exact n47)];refine ⟨dotne,big _ (by simp at hl;omega),?_⟩;rw [me_ ha];intro p hp;refine f1_ ab_ (by intro y hy;rw [List.mem_singleton.mp hy,aM_];exact big2 _ (by simp at hl;omega)) (by show 1<=sizeLine;decide) fun D H' sm e=>?_;have hpp:H' p=some (.lst [.str (S a)]):=sm _ _ ab_;have sm2:Same H H':=(Same.upd hp).trans sm;simp! [tSeq];refine ⟨[((S a).length:Int)],SqL.of e,by simp,fun m hm hmax=>?_⟩;rw [List.mem_singleton.mp hm,aM_];refine ite2 (fun h=>?_) fun h=>?_
  ·rw [eO_ (.inl (by omega))] at k
   exact k _ sm2
  rw [if_neg (by rw [e8_];exact n47)];refine ⟨_,.inl (SqL.of hpp),?_⟩;rw [if_neg (by simp)];refine ⟨_,SqL.of hpp,_,rfl,_,rfl,_,gX_ ha hne (by omega),by rw [aM_];omega,?_⟩;rw [cP_ (by omega) (by decide)] at k;exact ⟨_,1,rfl,by decide,k.mono sm2⟩
 ·have e0:(a++if 46=0 then [] else 46::b)=a++46::b:=rfl
  rw [e0];have n47b:47∉a++46::b:=fun m=>by
   rcases List.mem_append.mp m with q | q
   ·exact n47 q
   rcases List.mem_cons.mp q with q | q
   ·cases q
   have:=hbd _ q;revert this;decide
  have hlen:(a++46::b).length<=100001:=by rw [length_append,length_cons];omega
  rw [if_neg (by rw [e8_];exact n47b)];refine ⟨dotne,big _ hlen,?_⟩;rw [nP_ ha hbd];intro p hp;refine f1_ ab_ (by intro y hy;exact (List.mem_cons.mp hy).elim (fun q=>by rw [q,aM_];exact big2 _ (by omega)) fun q=>by rw [List.mem_singleton.mp q,aM_];exact big2 _ (by omega)) (by show 2<=sizeLine;decide) fun D H' sm e=>?_;have hpp:H' p=some (.lst [.str (S a),.str (S b)]):=sm _ _ ab_;have sm2:Same H H':=(Same.upd hp).trans sm;simp! [tSeq];refine ⟨[((S a).length:Int),((S b).length:Int)],SqL.of e,by simp,fun m hm hmax=>?_⟩;have m1:=hmax ((S a).length:Int) (by simp);have m2:=hmax ((S b).length:Int) (by simp);rw [aM_] at m1 m2;have m3:m=(a.length:Int)\/m=(b.length:Int):=by
   rcases List.mem_cons.mp hm with q | q
   ·rw [q,aM_];exact .inl rfl
   rw [List.mem_singleton.mp q,aM_];exact .inr rfl
  refine ite2 (fun h=>?_) fun h=>?_
  ·rw [eO_ (by omega)] at k
   exact k _ sm2
  rw [if_neg (by rw [e8_];exact n47b)];refine ⟨_,.inl (SqL.of hpp),?_⟩;rw [if_pos (by simp)];have hl24:(a++b).length<=24:=by rw [length_append];omega
  have hab : ∀ x∈a++b,Vaunid.isDigit x=true:=fun x hx=>(List.mem_append.mp hx).elim (ha x) (hbd x);obtain ⟨t1,t2,t3⟩:=nv_ b.length (by omega);refine ⟨_,SqL.of hpp,_,rfl,_,SqL.of hpp,_,rfl,_,rfl,_,rfl,?_⟩;rw [bX_,aM_,aM_,aM_];refine ⟨big2 _ (by omega),_,gX_ hab (by simp [hne]) (by omega),by omega,_,SqL.of hpp,_,rfl,_,rfl,?_⟩;rw [aM_];refine ⟨big2 _ (by omega),oG_ _ (by omega),t3,_,t1,t2,?_⟩;rw [cP_ (by omega) (by omega)] at k;exact ⟨_,10 ^ b.length,rfl,Nat.lt_of_le_of_lt (fg_ (by omega)) p12,k.mono sm2⟩
 have e0:(a++if 47=0 then [] else 47::b)=a++47::b:=rfl;rw [e0];have i47:47∈a++47::b:=by simp
 have hlen:(a++47::b).length<=100001:=by rw [length_append,length_cons];omega
 rw [if_pos (by rw [e8_];exact i47)];refine ⟨slane,big _ hlen,?_⟩;rw [jR_ ha hbd];intro p hp;refine f1_ ab_ (by intro y hy;exact (List.mem_cons.mp hy).elim (fun q=>by rw [q,aM_];exact big2 _ (by omega)) fun q=>by rw [List.mem_singleton.mp q,aM_];exact big2 _ (by omega)) (by show 2<=sizeLine;decide) fun D H' sm e=>?_;have hpp:H' p=some (.lst [.str (S a),.str (S b)]):=sm _ _ ab_;have sm2:Same H H':=(Same.upd hp).trans sm;simp! [tSeq];refine ⟨[((S a).length:Int),((S b).length:Int)],SqL.of e,by simp,fun m hm hmax=>?_⟩;have m1:=hmax ((S a).length:Int) (by simp);have m2:=hmax ((S b).length:Int) (by simp);rw [aM_] at m1 m2;have m3:m=(a.length:Int)\/m=(b.length:Int):=by
  rcases List.mem_cons.mp hm with q | q
  ·rw [q,aM_];exact .inl rfl
  rw [List.mem_singleton.mp q,aM_];exact .inr rfl
 refine ite2 (fun h=>?_) fun h=>?_
 ·rw [eO_ (by omega)] at k
  exact k _ sm2
 rw [if_pos (by rw [e8_];exact i47)];refine ⟨_,SqL.of hpp,_,rfl,_,rfl,_,gX_ ha hne (by omega),by rw [aM_];omega,_,SqL.of hpp,_,rfl,_,rfl,_,gX_ hbd hb (by omega),by rw [aM_];omega,?_⟩;rw [cP_ (by omega) (by omega)] at k;exact ⟨_,_,rfl,Nat.lt_trans (o1_ hbd (by omega)) p12,k.mono sm2⟩
def nc_:Sp:=fun vs H Q _=>∃ l:List Nat,vs=[.str (S l)]/\l.length<=sizeLine/\∀ H',Same H H'->Q (.bl (be_ l)) H'
theorem ok_q101 (T:TX w K mg):FnOk P w K mg base CX0 2 T.f_q101 T.d_q101 ["power"] nc_:=by
 have G_q99:=ok_q99 (P:=P) (base:=base) T;refine T.F_q101.fn.ok sc_q101 (fun _ _ _ _ h=>?_) (fun _ _ _ _ H _ Q E hr h=>?_)
 ·obtain ⟨n,rfl,_⟩:=h
  rfl
 obtain ⟨l,rfl,hl,k⟩:=h;refine ⟨_,(ad_ (az_ 1 sc_q101.nd (b3_ (bR_ (ka_ F.slot_str_startswith F.type_str_startswith c9_ (pv 0) ak_)) (b2_ mz_ (pv 0) (bB_ ai_) hs_) (pv 0)))
  (ad_ (aT_ (PW.pt (pw_or (am_ bn_ (pv 1) ak_ (au_ _)) (pw_or1 (am_ hx_ (aG_ aS_ rfl T.b_len PySem.boot_len (aa_ (pv 1) ac_)) (pe_g T.g_q1) (au_ _))))) (ae_ (aj_ kg_)) atz_)
  (ae_ (aj_ (aG_ (mP_ rfl) rfl T.b_all g8_ (aa_ (kb_ rfl sc_q101.nd (j7_ (pv 1)) (cz_ (own:=[("sign",2)]) (by kernel_rfl)) (fun _ _ _ _ _=>pg_q 2 sc_q101.nd) (fun _ _ _ _ _=>ds_) (fun _ _ _ _ _=>(aE_ T.F_q99 G_q99 hr.m ar_ (aa_ (aG_ ec_ rfl T.b_ord dl_ (aa_ (pv 2) ac_)) ac_)))) ac_)))))),?_⟩
 simp! [tSeq];have k0:=k H (Same.refl H);have part : ∀ d:List Nat,be_ l=(!d.isEmpty && (decide (d.length<=2) && d.all Vaunid.isDigit))->d.length<=sizeLine->(if S d=Str.ofString "" then Q (V.bl false) H else (S d).length<=sizeLine/\if 2<((S d).length:Int) then Q (V.bl false) H else
   tLc (iStr (tVar 1)) (dz_ 2) tYes (iP_ (spB Vaunid.isDigit) [] E0 (fK_ (tCB (fun xs H Q=>∃ x,xs=[V.str x]/\x.length=1/\Q (V.int ↑(x.cps.getD 0 0)) H) (fK_ (tVar 2) tNil)) tNil)) [2] [some (V.str (S l)),some (V.str (S d)),none] H fun x H1 =>
    ∃ a,x=V.ref a/\∃ x,SqL K H1 a (List.map V.bl x)/\Q (V.bl (x.all id)) H1):=fun d hd hdl=>by
  rw [hd] at k0 k;rw [aM_];refine ite2 (fun z=>?_) fun z=>⟨hdl,ite2 (fun z2=>?_) fun z2=>?_⟩
  ·have e:d=[]:=by rw [S_eq] at z;exact z
   subst e;exact k0
  ·rw [decide_eq_false (by omega)] at k0
   simpa using k0
  refine k8_ hdl fun D H' sm e=>⟨D,rfl,d.map Vaunid.isDigit,SqL.of e,?_⟩;have k1:=k H' sm;have e2:(!d.isEmpty && (decide (d.length<=2) && d.all Vaunid.isDigit))=(d.map Vaunid.isDigit).all id:=by
   rw [decide_eq_true (by omega),all_map];cases d with
   | nil=>exact absurd (by rw [S_eq];rfl) z
   | cons c r=>rfl
  rw [e2] at k1;exact k1
 have ec:cutS (S l) (some 1) none=S (l.drop 1):=mg_ l 1;rw [dJ_,ec];refine ite2 (fun h=>?_) fun h=>?_
 ·have hh:=of_decide_eq_true h
  refine ⟨hl,part (l.drop 1) ?_ (by rw [length_drop];omega)⟩;unfold be_;rw [if_pos hh];cases l with
  | nil=>cases hh
  | cons c r=>rfl
 have hh : ¬ l.head? = some 45:=fun z=>h (decide_eq_true z);have:=part l (by unfold be_;rw [if_neg hh]) hl;simp only [S_eq,aM_] at this;exact this
def ly_:Sp:=fun vs H Q _=>∃ l:List Nat,vs=[.str (S l)]/\l.length<=sizeLine/\∀ H',Same H H'->Q (.bl (av_ l)) H'
theorem ok_q83 (T:TX w K mg):FnOk P w K mg base CX0 4 T.f_q83 T.d_q83 ["factor"] ly_:=by
 have G_q17:=ok_q17 (P:=P) (base:=base) T;have G_q101:=ok_q101 (P:=P) (base:=base) T;refine T.F_q83.fn.ok sc_q83 (fun _ _ _ _ h=>?_) (fun _ _ _ _ H _ Q E hr h=>?_)
 ·obtain ⟨n,rfl,_⟩:=h
  rfl
 obtain ⟨l,rfl,hl,k⟩:=h;refine ⟨_,(ad_ (aT_ (am_ bn_ (pv 0) ak_ (au_ _)) (ae_ (aj_ kg_)) atz_)
  (ad_ (aT_ (am_ fY_ ak_ (pv 0) rfl) (ae_ (aj_ (aE_ T.F_q17 G_q17 hr.m ar_ (aa_ (pv 0) ac_)))) atz_)
  (ad_ (az_ 1 sc_q83.nd (gK_ (pv 0) ak_))
  (ae_ (aj_ (oA_ (aE_ T.F_q17 G_q17 hr.m ar_ (aa_ (aC_ cn_ (pv 1) ai_ (fun _ _=>rfl)) ac_)) (mH_ (aE_ T.F_q101 G_q101 hr.m ar_ (aa_ (aC_ cn_ (pv 1) ai_ (fun _ _=>rfl)) ac_))))))))),?_⟩
 simp! [tSeq];have k0:=k H (Same.refl H);refine ite2 (fun h=>?_) fun h=>⟨94,nM_,?_⟩
 ·have e:av_ l=true:=by rw [h];decide +kernel
  rw [e] at k0;exact k0
 have h1:(l == [49])=false:=by
  cases q:l == [49] with
  | false=>rfl
  | true=>exact absurd ((eq_of_beq q).trans (by decide +kernel)) h
 rw [e8_];have hc:l.contains 94=decide (94∈l):=by rw [Bool.eq_iff_iff];simp
 refine ite2 (fun q=>?_) fun q=>?_
 ·have q' : ¬ 94∈l:=by simpa using q
  have e:av_ l=ay_ l:=by
   unfold av_;rw [h1,hc,decide_eq_false q'];rfl
  refine ⟨l,rfl,hl,?_⟩;rw [e] at k;exact k
 have q':94∈l:=by simpa using q
 have e:av_ l=(ay_ (l.takeWhile (· != 94)) && be_ ((l.dropWhile (· != 94)).drop 1)):=by
  unfold av_;rw [h1,hc,decide_eq_true q'];rfl
 rw [e] at k;refine ⟨by decide +kernel,hl,fun p hp=>⟨_,SqT.of ab_,_,rfl,?_⟩⟩;rw [lL_ q'];refine ⟨_,rfl,Nat.le_trans (dU_ _ _) hl,fun H' sm=>⟨_,rfl,?_⟩⟩;have sm2:Same H H':=(Same.upd hp).trans sm;refine b6_ (fun r=>?_) fun r=>?_
 ·refine ⟨_,SqT.of (sm _ _ ab_),_,rfl,_,rfl,?_,fun H2 s2=>?_⟩
  ·rw [length_drop,bt_,length_drop]
   omega
  have:=k H2 (sm2.trans s2);rw [r] at this;exact this
 have:=k H' sm2;rw [r] at this;exact this
def jM_:Sp:=fun vs H Q _=>∃ l:List Nat,vs=[.str (S l)]/\l.length<=1000000/\∀ H',Same H H'->Q (.bl (measureText (l.length+1) l)) H'
theorem ok_q57 (T:TX w K mg):FnOkT P w K mg base CX0 5 T.f_q57 T.d_q57 ["measure"] jM_:=by
 have G_q83:=ok_q83 (P:=P) (base:=base) T;refine T.F_q57.fn.okT sc_q57 (fun _ _ _ _ h=>?_) (fun _ _ _ _ H _ Q E hr h=>?_)
 ·obtain ⟨n,rfl,_⟩:=h
  rfl
 obtain ⟨l,rfl,hl,k⟩:=h;refine ⟨_,(j2_ (np_ PassesOwn.never rfl (lH_ (oz_ PySem.F.slot_str_split PySem.F.type_str_split iu_ (ht_ (pv 0)) ak_)) (j8_ (i:=1) (sc_q57).nd rfl (Or.inl rfl)) (ae_ (aT_ (j1_ (bR_ (fT_ G_q83 (hr.mono (by decide)) rfl T.F_q83.mg T.F_q83.fn.kp T.F_q83.b .nil ar_ (aa_ (pv 1) ac_)))) (ae_ (aj_ kg_)) atz_)))
  (ae_ (aj_ kg_))),?_⟩
 have ea:(Txt.split (Txt.replace (S l) (Str.ofString "/") (Str.ofString ".")) (Str.ofString ".")).map tl=cut sep [] l:=by rw [ey_,er_,hl_]
 have ea2:Txt.split (Txt.replace (S l) (Str.ofString "/") (Str.ofString ".")) (Str.ofString ".")=(cut sep [] l).map S:=by
  refine bU_ ?_;rw [ea,map_map];exact (List.map_id _).symm
 refine bo_ ?_;simp! [tSeq,d5_];rw [ea2];have me:=bT_ (l.length+1) l (by omega);rw [me] at k;have sz:(1000000:Nat)+2<=sizeLine:=by decide
 refine ⟨by omega,by decide +kernel,by rw [ey_,aM_,length_map];omega,fun p hp=>⟨⟨_,SqL.of ab_⟩,?_⟩⟩;refine dA_ (((cut sep [] l).map S).map V.str) (fun i σ H'=>Same (upd H p (HO.lst (List.map V.str (List.map S (cut sep [] l))))) H'/\(∃ z,σ=[some (.str (S l)),z])/\((cut sep [] l).take i).all av_=true) ⟨Same.refl _,⟨_,rfl⟩,rfl⟩ (fun i σ H' _ hp=>SqL.of (hp.1 _ _ ab_)) (fun i x σ H' hx hp=>?_) fun σ H' hp=>?_
 ·obtain ⟨sm,⟨z,rfl⟩,hall⟩:=hp
  rw [getElem?_map,getElem?_map] at hx;cases q:(cut sep [] l)[i]? with
  | none=>rw [q] at hx;cases hx
  | some f =>
  rw [q] at hx;cases hx;simp! [tSeq];have hf:=hQ_ sep l [] f (mem_of_getElem? q);rw [length_nil] at hf;refine ⟨f,rfl,by omega,fun H2 s2=>⟨_,rfl,?_⟩⟩;have sm2:Same H H2:=((Same.upd hp).trans sm).trans s2;cases r:av_ f with
  | false =>
   have k1:=k H2 sm2;rw [o6_ q r] at k1;exact iteT k1
  | true =>
  refine iteF ⟨sm.trans s2,?_⟩;rw [lo_ q,hall,r];rfl
 obtain ⟨sm,⟨z,rfl⟩,hall⟩:=hp;rw [length_map,length_map,take_length] at hall;have k1:=k H' ((Same.upd hp).trans sm);rw [hall] at k1;exact k1
def fd_ (C:Addr):Sp:=fun vs H Q _=>∃ (a:Addr) (o u:Int) (m l:List Nat),vs=[.ref a,.str (S l)]/\aW_ C H a o u m/\∀ (b:Addr) (H':Hp),Same H H'->aW_ C H' b o u l->Q (.ref b) H'
theorem ok_q102 (T:TX w K mg):FnOk P w K mg base CX0 3 T.f_q102 T.d_q102 ["amount","measure"] (fd_ T.C_q114):=by
 have G_q114:=ok_q114 (P:=P) (base:=base) T;refine T.F_q102.fn.ok sc_q102 (fun _ _ _ _ h=>?_) (fun _ _ _ _ H _ Q E hr h=>?_)
 ·obtain ⟨a,o,u,m,l,rfl,_⟩:=h
  rfl
 obtain ⟨a,o,u,m,l,rfl,⟨dx,ha⟩,k⟩:=h;refine ⟨_,(ae_ (aj_ (a5_ T.M_q114 G_q114 hr.m rfl T.G_q114 T.b_q4 .nil ar_ (aa_ (ah_ (pv 0) rfl) (aa_ (ah_ (pv 0) rfl) (aa_ (pv 1) ac_)))))),?_⟩;simp! [tSeq,tFld,cg_,bz_,ha];refine ⟨T.cl_q114,T.n_q46,_,rfl,T.cl_q114,T.n_q30,_,rfl,fun x dx hx hdx hne=>?_⟩;exact k x _ (aX_ hx hdx) ⟨dx,ab_⟩
def gx_ (C:Addr):Sp:=fun vs H Q _=>∃ (a:Addr) (o u:Int) (m:List Nat),vs=[.ref a]/\aW_ C H a o u m/\∀ (b:Addr) (H':Hp),Same H H'->aW_ C H' b (-o) u m->Q (.ref b) H'
theorem ok_q109 (T:TX w K mg):FnOk P w K mg base CX0 3 T.f_q109 T.d_q109 ["amount"] (gx_ T.C_q114):=by
 have G_q114:=ok_q114 (P:=P) (base:=base) T;refine T.F_q109.fn.ok sc_q109 (fun _ _ _ _ h=>?_) (fun _ _ _ _ H _ Q E hr h=>?_)
 ·obtain ⟨a,o,u,m,rfl,_⟩:=h
  rfl
 obtain ⟨a,o,u,m,rfl,⟨dx,ha⟩,k⟩:=h;refine ⟨_,(ae_ (aj_ (a5_ T.M_q114 G_q114 hr.m rfl T.G_q114 T.b_q4 .nil ar_ (aa_ (pe_ n5_ (ah_ (pv 0) rfl)) (aa_ (ah_ (pv 0) rfl) (aa_ (ah_ (pv 0) rfl) ac_)))))),?_⟩;simp! [tSeq,tFld,cg_,bz_,ha];refine ⟨T.cl_q114,T.n_q46,_,rfl,_,rfl,T.cl_q114,T.n_q30,_,rfl,T.cl_q114,T.n_q9,_,rfl,fun x dx hx hdx hne=>?_⟩;exact k x _ (aX_ hx hdx) ⟨dx,ab_⟩
end
set_option maxHeartbeats 2000000
section
variable {P:Program}{w:World}{K:PySem.W.Frag}{mg:Str->Option Value}{base:Heap}
theorem ok_q122 (T:TX w K mg):FnOk P w K mg base CX0 1 T.f_q13 T.d_q13 ["self","kind","place"] (ev_ T.C_q122):=by
 refine T.F_q13.ok sc_q13 (fun _ _ _ _ h=>?_) (fun _ _ _ _ H _ Q E hr h=>?_)
 ·obtain ⟨p,k,q,rfl,_⟩:=h
  rfl
 obtain ⟨p,k,q,rfl,hp,kk⟩:=h;refine ⟨_,(ad_ (lG_ (pv 0) (pv 1) rfl)
  (ae_ (lF_ (pv 0) (pv 2) rfl))),?_⟩
 simp! [tSeq,mD_,mC_];refine ⟨_,hp,_,T.X_q122,T.n_q61,fun dx hdx hne=>⟨_,_,_,rfl,_,(by rw [al_ hne];exact ab_),T.X_q122,T.n_q54,(by show 1<1000;decide),?_⟩⟩;have e:upd (upd (upd H dx (XDic dx [(Str.ofString "kind",k)])) p (XNew T.C_q122 p (some dx))) dx (XDic dx (putF (Str.ofString "place") q [(Str.ofString "kind",k)]))=upd (upd H dx (XDic dx [("kind",k),("place",q)])) p (XNew T.C_q122 p (some dx)):=by
  rw [h2_ (fun z=>hne z.symm),fH_];rfl
 rw [e];exact kk dx hdx hne
theorem ok_q120 (T:TX w K mg):FnOk P w K mg base CX0 1 T.f_q6 T.d_q6 ["self","group","kind","begin","end","content"] (bz_ T.C_q120 ["group","kind","begin","end","content"]):=by
 refine T.F_q6.ok sc_q6 (fun _ _ _ _ h=>?_) (fun _ _ _ _ H _ Q E hr h=>?_)
 ·obtain ⟨p,dx,args,rfl,hl,_⟩:=h
  simp only [length_cons,length_nil] at hl ⊢;rw [hl]
 obtain ⟨p,dx,args,rfl,hl,hp,k⟩:=h;obtain ⟨a,b,c,d,e,rfl⟩:=len5 hl;refine ⟨_,(ad_ (bj_ (pv 0) (pv 1) rfl)
  (ad_ (bj_ (pv 0) (pv 2) rfl)
  (ad_ (bj_ (pv 0) (pv 3) rfl)
  (ad_ (bj_ (pv 0) (pv 4) rfl)
  (ae_ (bj_ (pv 0) (pv 5) rfl)))))),?_⟩
 simp! [tSeq,sFld];refine ⟨_,_,_,hp,T.cl_q120,T.n_q52,few0,T.cl_q120,T.n_q80,few1,T.cl_q120,T.n_q47,few2,T.cl_q120,T.n_q93,few3,T.cl_q120,T.n_q24,few4,?_⟩;exact k
def on_ (core:Bool) (C:Addr) (K:PySem.W.Frag):Sp:=fun vs H Q E=>∃ (a:Addr) (t:List Nat) (p:Nat),vs=[.ref a,.int (p:Int)]/\SqL K H a (bs t)/\p<=t.length/\RES C H Q E (gapT core p (t.drop p)) (fun x v _=>v = .int (x.1:Int))
def oh_ (Ca Ct C:Addr) (K:PySem.W.Frag):Sp:=fun vs H Q E=>∃ (a:Addr) (t:List Nat) (p:Nat),vs=[.ref a,.int (p:Int)]/\SqL K H a (bs t)/\p<=t.length/\t.length<=10000 /\
 RES C H Q E (wordToken p (t.drop p)) (fun x v H'=>∃ b,v = .ref b/\cD_ Ca Ct H' b x.1)
theorem ok_q65 (T:TX w K mg):FnOk P w K mg base (CX1 P w) 4 T.f_q65 T.d_q65 ["text","begin"] (oh_ T.C_q114 T.C_q120 T.C_q122 K):=by
 have G_q107:=ok_q107 (P:=P) (base:=base) T;have G_q122:=ok_q122 (P:=P) (base:=base) T;have G_q120:=ok_q120 (P:=P) (base:=base) T;have G_q100:=ok_q100 (P:=P) (base:=base) T;have G_q62:=ok_q62 (P:=P) (base:=base) T;have PD:lh_ P w K mg base 2 T.f_q62 Vaunid.inWord:=⟨_,_,G_q62,T.F_q62.b,T.F_q62.fn.kp⟩;refine T.F_q65.fn.okX sc_q65 (fun _ _ _ _ h=>?_) (fun _ _ _ _ H _ Q E hr h=>?_)
 ·obtain ⟨a,t,p,rfl,_⟩:=h
  rfl
 obtain ⟨a,t,p,rfl,ht,hp,hl,k⟩:=h;refine ⟨_,(ad_ (az_ 2 sc_q65.nd (aE_ T.F_q107 G_q107 hr.m ar_ (aa_ (pv 0) (aa_ (pv 1) (aa_ (pe_r T.F_q62.mg) ac_)))))
  (ad_ (aT_ (am_ hx_ (aI_ kl_ (pv 2) (pv 1)) (pe_g T.g_q67) (au_ _)) (ae_ (bx_ T.X_q122 G_q122 hr.m rfl T.G_q122 T.b_q13 bi_ rfl (aa_ ai_ (aa_ (pv 1) ac_)))) atz_)
  (ad_ (az_ 3 sc_q65.nd (aE_ T.F_q100 G_q100 hr.m ar_ (aa_ (b2_ ew_ (pv 0) (bB_ (pv 1)) (bB_ (pv 2))) ac_)))
  (ad_ (az_ 4 sc_q65.nd (b3_ (am_ c7_ (pv 3) (pe_r T.g_q43) rfl) (pv 3) ak_))
  (ae_ (aj_ (a5_ T.M_q120 G_q120 hr.m rfl T.G_q120 T.b_q6 .nil ar_ (aa_ (pe_g T.g_q59) (aa_ (pv 4) (aa_ (pv 1) (aa_ (pv 2) (aa_ (pv 3) ac_)))))))))))),?_⟩
 simp! [tSeq,jK_,cE_,eu_];refine ⟨t,ht,_,PD,?_⟩;unfold wordToken at k;dsimp only at k;have hw:=ek_ (p:=Vaunid.inWord) (t.drop p);have htk:=ej_ Vaunid.inWord (t.drop p);have hle:=dU_ Vaunid.inWord (t.drop p);rw [length_drop] at hle;generalize (t.drop p).takeWhile Vaunid.inWord=wd at k hw htk hle ⊢;refine ite2 (fun h=>?_) fun h=>⟨bs t,ht,fun q hq=>?_⟩
 ·rw [if_pos (show MOSTSIGNS<wd.length by show 12<_;omega)] at k
  exact ⟨by decide,bp_ k⟩
 rw [if_neg (show ¬ MOSTSIGNS<wd.length by show ¬ 12<_;omega)] at k;rw [di_ t p _ hp,add_sub_cancel_left,htk];refine ⟨wd,SqL.of ab_,by omega,fun H' sm=>⟨_,.inr (T.t_q43 H'),rfl,rfl,?_⟩⟩;rw [iO_,lT_ hw,in_S,<- jB_];have sm2:Same H H':=(Same.upd hq).trans sm;refine b6_ (fun r=>?_) fun r=>?_
 ·simp! [tSeq,cg_,bz_]
  intro x dx hx hdx hne;refine k _ _ (sm2.trans (aX_ hx hdx)) ⟨x,rfl,dx,.str (S wd),?_,rfl⟩;rw [ab_];have hk:kindOf (.word wd)=wd:=if_pos r;show _=some (HO.ins T.C_q120 dx (dW_ 0 (S (kindOf (.word wd))) _ _ _));rw [hk];rfl
 simp! [tSeq,cg_,bz_];intro x dx hx hdx hne;refine k _ _ (sm2.trans (aX_ hx hdx)) ⟨x,rfl,dx,.str (S wd),?_,rfl⟩;rw [ab_];have hk:kindOf (.word wd)=Vaunid.txt "name":=if_neg (by rw [r];simp);show _=some (HO.ins T.C_q120 dx (dW_ 0 (S (kindOf (.word wd))) _ _ _));rw [hk,<- aq_];rfl
def hm_ (C:Addr) (K:PySem.W.Frag):Sp:=fun vs H Q E=>∃ (a:Addr) (t:List Nat) (p:Nat) (r:List Nat),vs=[.ref a,.int (p:Int)]/\SqL K H a (bs t)/\t.drop p=91::r/\t.length<=10000 /\
 RES C H Q E (if (r.takeWhile fun c=>c != 93).length=r.length\/measureText ((r.takeWhile fun c=>c != 93).length+1) (r.takeWhile fun c=>c != 93)=false then fault 5 p else (.ok (r.takeWhile fun c=>c != 93):Res (List Nat))) (fun m v _=>v = .str (S m))
theorem ok_q56 (T:TX w K mg):FnOk P w K mg base (CX1 P w) 6 T.f_q56 T.d_q56 ["text","begin"] (hm_ T.C_q122 K):=by
 have G_q107:=ok_q107 (P:=P) (base:=base) T;have G_q122:=ok_q122 (P:=P) (base:=base) T;have G_q100:=ok_q100 (P:=P) (base:=base) T;have G_q57:=ok_q57 (P:=P) (base:=base) T;have G_q0:=ok_q0 (P:=P) (base:=base) T;have PD:lh_ P w K mg base 2 T.f_q0 (fun c=>c != 93):=⟨_,_,G_q0.mono (by decide),T.F_q0.b,T.F_q0.fn.kp⟩;refine T.F_q56.fn.okX sc_q56 (fun _ _ _ _ h=>?_) (fun _ _ _ _ H _ Q E hr h=>?_)
 ·obtain ⟨a,t,p,r,rfl,_⟩:=h
  rfl
 obtain ⟨a,t,p,r,rfl,ht,hd,hl,k⟩:=h;refine ⟨_,(ad_ (ie_ (i:=2) (sc_q56).nd rfl (Or.inl rfl) (fT_ G_q107 (hr.mono (by decide)) rfl T.F_q107.mg T.F_q107.fn.kp T.F_q107.b .nil ar_ (aa_ (pv 0) (aa_ (pv 1) (aa_ (pe_r T.F_q0.mg) ac_)))))
  (ad_ (ie_ (i:=3) (sc_q56).nd rfl (Or.inl rfl) (fT_ G_q100 (hr.mono (by decide)) rfl T.F_q100.mg T.F_q100.fn.kp T.F_q100.b .nil ar_ (aa_ (b2_ ew_ (pv 0) (bB_ (aI_ cc_ (pv 1) ai_)) (bB_ (pv 2))) ac_)))
  (ad_ (aT_ (pw_orP (no_ bn_ (pv 2) (ns_ rfl T.b_len (pv 0)) (au_ _)) (pw_or1T (nm_ (nl_ (lJ_ G_q57 (hr.mono (by decide)) rfl T.F_q57.mg T.F_q57.fn.kp T.F_q57.b ar_ (aa_ (pv 3) ac_))))))
    (ae_ (bx_ T.X_q122 G_q122 (hr.mono (by decide)) rfl T.G_q122 T.b_q13 bi_ rfl (aa_ ai_ (aa_ (pv 1) ac_)))) atz_)
  (ae_ (aj_ (pv 3)))))),?_⟩
 simp! [tSeq,jK_,cE_,eu_];refine ⟨t,ht,_,PD,bs t,ht,fun q hq=>?_⟩;have e1:((t.drop p).takeWhile fun c=>c != 93)=91::r.takeWhile fun c=>c != 93:=by rw [hd];rfl
 have hp:=cx_ hd;have hlen:=iF_ hd (Nat.le_of_lt hp);rw [length_cons] at hlen;have hm:=hC_ (r.takeWhile fun c=>c != 93);have hmm:=hD_ (m:=r.takeWhile fun c=>c != 93);have htk:=ej_ (fun c=>c != 93) r;have hle:=dU_ (fun c=>c != 93) r;rw [e1,length_cons];generalize (r.takeWhile fun c=>c != 93)=m at k hm hmm htk hle ⊢;have ec:cutV (bs t) (some ((p:Int)+1)) (some ((p+(m.length+1):Nat):Int))=bs m:=by
  have:=di_ t (p+1) (p+(m.length+1)) (by omega);rw [show ((p:Int)+1)=((p+1:Nat):Int) by omega,this,show p+(m.length+1) - (p+1)=m.length by omega,kY_ hd];show bs (r.take m.length)=_;rw [htk]
 rw [ec];refine ⟨m,SqL.of ab_,by omega,fun H' sm=>?_⟩;have sm2:Same H H':=(Same.upd hq).trans sm;refine ⟨bs t,sm2.seq ht,?_⟩;rw [bW_];refine ite2 (fun h=>?_) fun h=>?_
 ·rw [if_pos (.inl (by omega))] at k
  exact ⟨by decide,bp_ (ExF.mono k sm2)⟩
 refine ⟨m.map sgn,rfl,by rw [length_map];omega,fun H2 s2=>⟨_,rfl,?_⟩⟩;rw [hm];cases q2:measureText (m.length+1) m with
 | false =>
  rw [if_pos (.inr q2)] at k;exact iteT ⟨by decide,bp_ (ExF.mono k (sm2.trans s2))⟩
 | true =>
 rw [if_neg (fun z=>z.elim (by omega) (by rw [q2];simp))] at k;refine iteF ?_;rw [hmm q2];exact k _ H2 (sm2.trans s2) rfl
def gv_ (Ca Ct C:Addr) (K:PySem.W.Frag):Sp:=fun vs H Q E=>∃ (a b:Addr) (t:List Nat) (p:Nat) (L:List (List Nat)),vs=[.ref a,.int (p:Int),.ref b]/\SqL K H a (bs t)/\p<t.length/\t.length<=10000/\GoodSigns L/\(∀ H,SqT K H b ((L.map S).map V.str)) /\
 RES C H Q E (signToken L p (t.drop p)) (fun x v H'=>∃ b,v = .ref b/\cD_ Ca Ct H' b x.1)
theorem ok_q60 (T:TX w K mg):FnOk P w K mg base (CX1 P w) 3 T.f_q60 T.d_q60 ["text","begin","signs"] (gv_ T.C_q114 T.C_q120 T.C_q122 K):=by
 have G_q122:=ok_q122 (P:=P) (base:=base) T;have G_q120:=ok_q120 (P:=P) (base:=base) T;have G_q100:=ok_q100 (P:=P) (base:=base) T;refine T.F_q60.fn.okX sc_q60 (fun _ _ _ _ h=>?_) (fun _ _ _ _ H _ Q E hr h=>?_)
 ·obtain ⟨a,b,t,p,L,rfl,_⟩:=h
  rfl
 obtain ⟨a,b,t,p,L,rfl,ht,hp,hl,hL,hb,k⟩:=h;refine ⟨_,(ad_ (az_ 3 sc_q60.nd (aE_ T.F_q100 G_q100 hr.m ar_ (aa_ (b2_ ew_ (pv 0) (bB_ (pv 1)) (bB_ (aI_ cc_ (pv 1) ai_))) ac_)))
  (ad_ (aT_ (am_ dM_ (pv 3) (pv 2) rfl) (ae_ (az_ 3 sc_q60.nd (b2_ mz_ (pv 3) hs_ (bB_ ai_)))) atz_)
  (ad_ (aT_ (am_ dM_ (pv 3) (pv 2) rfl) (ae_ (bx_ T.X_q122 G_q122 hr.m rfl T.G_q122 T.b_q13 bi_ rfl (aa_ ai_ (aa_ (pv 1) ac_)))) atz_)
  (ae_ (aj_ (a5_ T.M_q120 G_q120 hr.m rfl T.G_q120 T.b_q6 .nil ar_ (aa_ (pe_g T.g_q76) (aa_ (pv 3) (aa_ (pv 1) (aa_ (aI_ cc_ (pv 1) (aG_ aS_ rfl T.b_len PySem.boot_len (aa_ (pv 3) ac_))) (aa_ (pv 3) ac_))))))))))),?_⟩
 simp! [tSeq,cE_,eu_];refine ⟨bs t,ht,fun q hq=>?_⟩;have ec:cutV (bs t) (some (p:Int)) (some ((p:Int)+2))=bs ((t.drop p).take 2):=by
  have:=di_ t p (p+2) (by omega);rw [show ((p:Int)+2)=((p+2:Nat):Int) by omega,this,add_sub_cancel_left]
 rw [ec];refine ⟨(t.drop p).take 2,SqL.of ab_,by rw [length_take];omega,fun H' sm=>?_⟩;have sm2:Same H H':=(Same.upd hq).trans sm;unfold signToken at k;rw [jk_ hL] at k;unfold jT_ at k;have et:((t.drop p).take 2).take 1=(t.drop p).take 1:=by rw [List.take_take];rfl
 have ec2:cutS (S (((t.drop p).take 2).map sgn)) none (some 1)=S (((t.drop p).take 1).map sgn):=by
  have:=o2_ (((t.drop p).take 2).map sgn) 1;rw [<- List.map_take,et] at this;exact this
 have l2:(((t.drop p).take 2).map sgn).length<=sizeLine:=by
  rw [length_map,length_take];exact Nat.le_trans (Nat.min_le_left _ _) (by decide)
 rw [ec2];have plain : ∀ {x},x∈L->x.map sgn=x:=fun hx=>dv_ fun c hc=>(hL.plain _ hx c hc).1;generalize (t.drop p).take 2=s2 at k l2 ⊢;generalize (t.drop p).take 1=s1 at k ⊢;have inL : ∀ l:List Nat,inV (.str (S (l.map sgn))) ((L.map S).map V.str)=decide (l∈L):=fun l=>by
  rw [in_S,decide_eq_decide];exact nE_ hL l
 refine ⟨_,.inr (hb H'),rfl,eR_ _,?_⟩;rw [inL];by_cases m2:s2∈L
 ·rw [if_pos m2] at k
  rw [decide_eq_true m2];refine iteF ⟨_,.inr (hb H'),rfl,eR_ _,?_⟩;rw [inL,decide_eq_true m2];refine iteF ?_;rw [plain m2];simp! [tSeq,cg_,bz_,aS_];refine ⟨by rw [<- plain m2];exact l2,fun x dx hx hdx hne=>?_⟩;refine k _ _ (sm2.trans (aX_ hx hdx)) ⟨x,rfl,dx,.str (S s2),?_,rfl⟩;rw [ab_];rfl
 rw [if_neg m2] at k;rw [decide_eq_false m2];refine iteT ⟨l2,_,.inr (hb H'),rfl,eR_ _,?_⟩;rw [inL];by_cases m1:s1∈L
 ·rw [if_pos m1] at k
  rw [decide_eq_true m1];refine iteF ?_;rw [plain m1];simp! [tSeq,cg_,bz_,aS_];refine ⟨?_,fun x dx hx hdx hne=>?_⟩
  ·have:s1.length=1\/s1.length=2:=by
    obtain ⟨L2,L1,rfl,h2,h1⟩:=hL.parts;rcases List.mem_append.mp m1 with z | z
    ·exact .inr (h2 _ z)
    exact .inl (h1 _ z)
   exact Nat.le_trans (show s1.length<=2 by omega) (by decide)
  refine k _ _ (sm2.trans (aX_ hx hdx)) ⟨x,rfl,dx,.str (S s1),?_,rfl⟩;rw [ab_];rfl
 rw [if_neg m1] at k;rw [decide_eq_false m1];exact iteT ⟨by decide,bp_ (ExF.mono k sm2)⟩
def lv_ (Ca Ct C:Addr) (K:PySem.W.Frag):Sp:=fun vs H Q E=>∃ (a:Addr) (t:List Nat) (p d c:Nat) (r:List Nat) (neg:Bool),vs=[.ref a,.int (p:Int),.int (d:Int)]/\SqL K H a (bs t)/\t.length<=10000/\d=p+(if neg=true then 1 else 0) /\
 t.drop d=c::r/\Vaunid.isDigit c=true/\RES C H Q E (numberToken neg p (t.drop p)) (fun x v H'=>∃ b,v = .ref b/\cD_ Ca Ct H' b x.1)
theorem ok_q35 (T:TX w K mg):FnOk P w K mg base (CX1 P w) 7 T.f_q35 T.d_q35 ["text","begin","digits"] (lv_ T.C_q114 T.C_q120 T.C_q122 K):=by
 have G_q122:=ok_q122 (P:=P) (base:=base) T;have G_q120:=ok_q120 (P:=P) (base:=base) T;have G_q100:=ok_q100 (P:=P) (base:=base) T;have G_q77:=ok_q77 (P:=P) (base:=base) T;have G_q51:=ok_q51 (P:=P) (base:=base) T;have G_q56:=ok_q56 (P:=P) (base:=base) T;have G_q102:=ok_q102 (P:=P) (base:=base) T;have G_q109:=ok_q109 (P:=P) (base:=base) T;refine T.F_q35.fn.okX sc_q35 (fun _ _ _ _ h=>?_) (fun _ _ _ _ H _ Q E hr h=>?_)
 ·obtain ⟨a,t,p,d,c,r,neg,rfl,_⟩:=h
  rfl
 obtain ⟨a,t,p,d,c,r,neg,rfl,ht,hl,hd,hdr,hc,k⟩:=h;refine ⟨_,(ad_ (az_ 3 sc_q35.nd (aE_ T.F_q77 G_q77 hr.m ar_ (aa_ (pv 0) (aa_ (pv 2) ac_))))
  (ad_ (az_ 4 sc_q35.nd (aE_ T.F_q51 G_q51 hr.m ar_ (aa_ (aE_ T.F_q100 G_q100 hr.m ar_ (aa_ (b2_ ew_ (pv 0) (bB_ (pv 2)) (bB_ (pv 3))) ac_)) ac_)))
  (ad_ (aT_ (mF_ (oB_ (pv 4))) (ae_ (bx_ T.X_q122 G_q122 hr.m rfl T.G_q122 T.b_q13 bi_ rfl (aa_ ai_ (aa_ (pv 1) ac_)))) atz_)
  (ad_ (aT_ (PW.pt (pw_and (am_ hw_ (pv 3) (aG_ aZ_ rfl T.b_len PySem.boot_len (aa_ (pv 0) ac_)) (au_ _)) (pw_and1 (am_ bn_ (aC_ ao_ (pv 0) (pv 3) (fun _ _=>rfl)) (pe_g T.g_q18) (au_ _))))) (ad_ (az_ 5 sc_q35.nd (aE_ T.F_q56 G_q56 hr.m aK_ (aa_ (pv 0) (aa_ (pv 3) ac_))))
  (ad_ (az_ 4 sc_q35.nd (aE_ T.F_q102 G_q102 hr.m ar_ (aa_ (pv 4) (aa_ (pv 5) ac_))))
  (ae_ (az_ 3 sc_q35.nd (aI_ cc_ (aI_ cc_ (pv 3) (aG_ aS_ rfl T.b_len PySem.boot_len (aa_ (pv 5) ac_))) ai_))))) atz_)
  (ad_ (aT_ (am_ hw_ (pv 1) (pv 2) (au_ _)) (ae_ (az_ 4 sc_q35.nd (aE_ T.F_q109 G_q109 hr.m ar_ (aa_ (pv 4) ac_)))) atz_)
  (ad_ (az_ 6 sc_q35.nd (b3_ (am_ bn_ (aI_ kl_ (pv 3) (pv 2)) ai_ (au_ _)) ak_ ak_))
  (ae_ (aj_ (a5_ T.M_q120 G_q120 hr.m rfl T.G_q120 T.b_q6 .nil ar_ (aa_ (pe_g T.g_q36) (aa_ (pv 6) (aa_ (pv 1) (aa_ (pv 3) (aa_ (pv 4) ac_)))))))))))))),?_⟩
 have es:(if neg=true then (t.drop p).drop 1 else t.drop p)=t.drop d:=by
  cases neg with
  | false=>rw [hd];rfl
  | true=>rw [hd,if_pos rfl,drop_drop];rfl
 unfold numberToken at k;dsimp only at k;rw [es] at k;obtain ⟨hrest,hsz⟩:=fZ_ (t.drop d);have hpos:=kq_ hdr hc;obtain ⟨b2,c2,sp1,sp2,sp3,sp4⟩:=ko_ (t.drop d);have hdlt:=cx_ hdr;generalize hx:numberText (t.drop d)=x at k hrest hsz hpos sp1 sp3;obtain ⟨n,o,rest⟩:=x;dsimp only at k hrest hsz hpos sp1 sp3;rw [length_drop] at hsz sp4;refine dr_ (fun σ' H'=>Same H H'/\σ'=[some (.ref a),some (.int (p:Int)),some (.int (d:Int)),some (.int ((d+n:Nat):Int)),none,none,none]) (fun X hX=>?_) ?_
 ·simp! [tSeq,ia_]
  refine ⟨t,ht,by omega,fun H' sm=>?_⟩;rw [hx];exact hX _ _ ⟨sm,rfl⟩
 rintro σ' H1 ⟨sm1,rfl⟩
 have ht1:=sm1.seq ht;refine dr_ (fun σ' H'=>Same H H'/\∃ am,σ'=[some (.ref a),some (.int (p:Int)),some (.int (d:Int)),some (.int ((d+n:Nat):Int)),some am,none,none]/\(match o with | none=>am = .non | some (tp,lw)=>∃ b,am = .ref b/\aW_ T.C_q114 H' b (tp:Int) (lw:Int) [])) (fun X hX=>?_) ?_
 ·simp! [tSeq,eu_]
  refine ⟨bs t,ht1,fun q hq=>?_⟩;rw [di_ t d (d+n) (by omega),add_sub_cancel_left];refine ⟨_,SqL.of ab_,by rw [length_take];omega,fun H2 s2=>?_⟩;have sm2:Same H H2:=sm1.trans ((Same.upd hq).trans s2);rw [sp1];have hall:=ek_ (p:=Vaunid.isDigit) (t.drop d);have hpl:((t.drop d).takeWhile Vaunid.isDigit++(if c2=0 then [] else c2::b2)).map sgn=(t.drop d).takeWhile Vaunid.isDigit++(if c2=0 then [] else c2::b2):=dv_ fun y hy=>by
   rcases List.mem_append.mp hy with z | z
   ·have:=dh_ (hall y z);omega
   rcases sp2 with ⟨rfl,rfl⟩ | ⟨h46,_,hbd⟩
   ·simp at z
   rw [if_neg (by omega)] at z;rcases List.mem_cons.mp z with z | z
   ·omega
   have:=dh_ (hbd y z);omega
  rw [hpl];refine ⟨_,b2,c2,rfl,hall,?_,by omega,sp2,?_⟩
  ·rw [hdr,takeWhile_cons,hc]
   simp
  rw [<- sp3];cases o with
  | none=>exact fun H3 s3=>hX _ _ ⟨sm2.trans s3,.non,rfl,rfl⟩
  | some tp=>exact fun b H3 s3 hb=>hX _ _ ⟨sm2.trans s3,.ref b,rfl,b,rfl,hb⟩
 rintro σ' H2 ⟨sm2,am,rfl,ham⟩
 have ht2:=sm2.seq ht;cases o with
 | none =>
  subst ham;simp! [tSeq,cE_];exact ⟨by decide,bp_ (ExF.mono k sm2)⟩
 | some tl =>
 obtain ⟨tp,lw⟩:=tl;obtain ⟨b,rfl,hb⟩:=ham;dsimp only at k;refine dr_ (fun σ' H'=>H'=H2/\σ'=[some (.ref a),some (.int (p:Int)),some (.int (d:Int)),some (.int ((d+n:Nat):Int)),some (.ref b),none,none]) (fun X hX=>?_) ?_
 ·simp! [tSeq,cE_]
  exact hX _ _ ⟨rfl,rfl⟩
 rintro σ' H2' ⟨rfl,rfl⟩
 have hrest':rest=t.drop (d+n):=by rw [hrest,drop_drop]
 have hpd:p+(n+if neg=true then 1 else 0)=d+n:=by omega
 rw [hpd] at k;refine dr_ (fun σ' H'=>Same H H'/\∃ (am:Addr) (m:Option (List Nat)) (e:Nat) (dg:Option Int) (mz:Option V),σ'=[some (.ref a),some (.int (p:Int)),some (.int (d:Int)),some (.int (e:Int)),some (.ref am),mz,none]/\aW_ T.C_q114 H' am (tp:Int) (lw:Int) (m.getD [])/\(dg.isSome=decide (e=d+1))/\d<e /\
   (∀ v H',Same H H'->(∃ b,v = .ref b/\cD_ T.C_q114 T.C_q120 H' b { tok := .num { top:=if neg=true then -(tp:Int) else (tp:Int),low:=lw,measure:=m } dg,start:=p,halt_:=e })->Q v H')) (fun X hX=>?_) ?_
 ·simp! [tSeq]
  refine ⟨bs t,.inl ht2,?_⟩;rw [bW_];have nomeas:(∀ r2,rest≠91::r2)->X [some (.ref a),some (.int (p:Int)),some (.int (d:Int)),some (.int ((d+n:Nat):Int)),some (.ref b),none,none] H2':=fun hno=>by
   refine hX _ _ ⟨sm2,b,none,d+n,(if n=1 then some (if neg=true then -(tp:Int) else (tp:Int)) else none),none,rfl,hb,?_,by omega,?_⟩
   ·by_cases h1:n=1
    ·subst h1
     simp
    rw [if_neg h1,decide_eq_false (by omega)];rfl
   split at k
   ·exact absurd rfl (hno _)
   exact fun v H' s' q=>k v H' s' q
  refine ite2 (fun hlt=>?_) fun hlt=>nomeas fun r2 z=>?_
  ·have hlt':d+n<t.length:=by omega
   have hg1:t[d+n]? = some t[d+n]:=getElem?_eq_getElem hlt';have hd1:=dD_ hg1;generalize t[d+n]=c3 at hg1 hd1;refine ⟨bs t,ht2,_,bv_ (dS_ hg1),rfl,ite2 (fun h=>?_) fun h=>nomeas fun r2 z=>?_⟩
   ·have hc3:c3=91:=by injection h with h;omega
    subst hc3;rw [<- hrest'] at hd1;rw [hd1] at k;change RES T.C_q122 H Q E (if _\/_ then _ else _) _ at k;refine ⟨a,t,d+n,_,rfl,ht2,by rw [<- hrest'];exact hd1,hl,?_⟩;generalize t.drop (d+n+1)=r2 at k hd1 ⊢;by_cases hbad:(r2.takeWhile fun c=>c != 93).length=r2.length\/measureText ((r2.takeWhile fun c=>c != 93).length+1) (r2.takeWhile fun c=>c != 93)=false
    ·rw [if_pos hbad] at k ⊢
     exact ExF.mono k sm2
    rw [if_neg hbad] at k ⊢
    rintro v H3 s3 rfl
    simp! [tSeq,fd_];refine ⟨_,_,_,_,rfl,hb.same s3,fun b3 H4 s4 hb4=>⟨?_,?_⟩⟩
    ·have h1:=dU_ (fun c=>c != 93) r2
     have h2:=cx_ (hrest'.symm.trans hd1);have h3:=iF_ (hrest'.symm.trans hd1) (Nat.le_of_lt h2);rw [length_cons] at h3;exact Nat.le_trans (show _<=10000 by omega) (by decide)
    refine hX _ _ ⟨sm2.trans (s3.trans s4),b3,some (r2.takeWhile fun c=>c != 93),d+n+(r2.takeWhile fun c=>c != 93).length+2,none,_,rfl,hb4,?_,by omega,?_⟩
    ·rw [decide_eq_false (by omega)]
     rfl
    exact fun v H' s' q=>k v H' s' q
   rw [hrest',hd1] at z;cases z;exact h rfl
  rw [hrest'] at z;exact absurd (cx_ z) (by omega)
 rintro σ' H3 ⟨sm3,am,m,e,dg,mz,rfl,ham,hdg,hde,k⟩
 refine dr_ (fun σ' H'=>Same H H'/\∃ (am:Addr) (mz:Option V),σ'=[some (.ref a),some (.int (p:Int)),some (.int (d:Int)),some (.int (e:Int)),some (.ref am),mz,none]/\aW_ T.C_q114 H' am (if neg=true then -(tp:Int) else (tp:Int)) (lw:Int) (m.getD [])) (fun X hX=>?_) ?_
 ·simp! [tSeq,gx_]
  refine ite2 (fun h=>?_) fun h=>?_
  ·have hn:neg=true:=by
    cases neg with
    | true=>rfl
    | false=>simp at hd;omega
   rw [if_pos hn] at hX;exact ⟨_,_,_,ham,fun b4 H4 s4 hb4=>hX _ _ ⟨sm3.trans s4,_,_,rfl,hb4⟩⟩
  have hn:neg=false:=by
   cases neg with
   | false=>rfl
   | true=>simp at hd;omega
  rw [if_neg (by rw [hn];simp)] at hX;exact hX _ _ ⟨sm3,_,_,rfl,ham⟩
 rintro σ' H4 ⟨sm4,am,mz,rfl,ham⟩
 simp! [tSeq,cg_,bz_];refine ite2 (fun h=>?_) fun h=>?_
 ·intro x dx hx hdx hne
  refine k _ _ (sm4.trans (aX_ hx hdx)) ⟨x,rfl,dx,.ref am,?_,am,rfl,ham.same (aX_ hx hdx)⟩;rw [ab_];have hk:kindOf (.num { top:=if neg=true then -(tp:Int) else (tp:Int),low:=lw,measure:=m } dg)=Vaunid.txt "digit":=if_pos (by rw [hdg];exact decide_eq_true (by omega));show _=some (HO.ins T.C_q120 dx (dW_ 1 (S (kindOf (.num _ dg))) _ _ _));rw [hk,<- aq_];rfl
 intro x dx hx hdx hne;refine k _ _ (sm4.trans (aX_ hx hdx)) ⟨x,rfl,dx,.ref am,?_,am,rfl,ham.same (aX_ hx hdx)⟩;rw [ab_];have hk:kindOf (.num { top:=if neg=true then -(tp:Int) else (tp:Int),low:=lw,measure:=m } dg)=Vaunid.txt "number":=if_neg (by rw [hdg,decide_eq_true_eq];omega);show _=some (HO.ins T.C_q120 dx (dW_ 1 (S (kindOf (.num _ dg))) _ _ _));rw [hk,<- aq_];rfl
def oj_ (core:Bool) (Ca Ct C:Addr) (K:PySem.W.Frag):Sp:=fun vs H Q E=>∃ (a:Addr) (t:List Nat) (p:Nat),vs=[.ref a,.int (p:Int)]/\SqL K H a (bs t)/\p<t.length/\t.length<=10000 /\
 RES C H Q E (token core p (t.drop p)) (fun x v H'=>∃ b,v = .ref b/\cD_ Ca Ct H' b x.1)
theorem ok_q32 (T:TX w K mg):FnOk P w K mg base (CX1 P w) 5 T.f_q32 T.d_q32 ["text","place"] (on_ true T.C_q122 K):=by
 have G_q107:=ok_q107 (P:=P) (base:=base) T;have G_q104:=ok_q104 (P:=P) (base:=base) T;have PD:lh_ P w K mg base 2 T.f_q104 (fun c=>c == 32):=⟨_,_,G_q104.mono (by decide),T.F_q104.b,T.F_q104.fn.kp⟩;refine T.F_q32.fn.okX sc_q32 (fun _ _ _ _ h=>?_) (fun _ _ _ _ H _ Q E hr h=>?_)
 ·obtain ⟨a,t,p,rfl,_⟩:=h
  rfl
 obtain ⟨a,t,p,rfl,ht,hp,k⟩:=h;refine ⟨_,(ae_ (aj_ (aE_ T.F_q107 G_q107 hr.m ar_ (aa_ (pv 0) (aa_ (pv 1) (aa_ (pe_r T.F_q104.mg) ac_)))))),?_⟩;simp! [tSeq,jK_];refine ⟨t,ht,_,PD,?_⟩;rw [fq_] at k;exact k _ H (Same.refl H) rfl
theorem hB_ {t:List Nat}{p c:Nat} (hd:t.drop p=c::t.drop (p+1)):(minusDigit (t.drop p)=true)↔(c=45/\∃ d r,t.drop (p+1)=d::r/\Vaunid.isDigit d=true):=by
 rw [hd];unfold minusDigit
 constructor
 ·intro h
  split at h
  ·rename_i d r e
   injection e with e1 e2;exact ⟨e1,d,r,e2,h⟩
  cases h
 rintro ⟨rfl,d,r,e,h⟩
 rw [e];exact h
theorem ok_q75 (T:TX w K mg):FnOk P w K mg base (CX1 P w) 8 T.f_q75 T.d_q75 ["text","begin"] (oj_ true T.C_q114 T.C_q120 T.C_q122 K):=by
 have G_q86:=ok_q86 (P:=P) (base:=base) T;have G_q99:=ok_q99 (P:=P) (base:=base) T;have G_q65:=ok_q65 (P:=P) (base:=base) T;have G_q35:=ok_q35 (P:=P) (base:=base) T;have G_q60:=ok_q60 (P:=P) (base:=base) T;refine T.F_q75.fn.okX sc_q75 (fun _ _ _ _ h=>?_) (fun _ _ _ _ H _ Q E hr h=>?_)
 ·obtain ⟨a,t,p,rfl,_⟩:=h
  rfl
 obtain ⟨a,t,p,rfl,ht,hp,hl,k⟩:=h;refine ⟨_,(ad_ (aT_ (bR_ (aE_ T.F_q86 G_q86 hr.m ar_ (aa_ (aC_ ao_ (pv 0) (pv 1) (fun _ _=>rfl)) ac_))) (ae_ (aj_ (aE_ T.F_q65 G_q65 hr.m aK_ (aa_ (pv 0) (aa_ (pv 1) ac_))))) atz_)
  (ad_ (az_ 2 sc_q75.nd (b3_ (am_ bn_ (aC_ ao_ (pv 0) (pv 1) (fun _ _=>rfl)) (pe_g T.g_q121) (au_ _)) (aI_ cc_ (pv 1) ai_) (pv 1)))
  (ad_ (aT_ (PW.pt (pw_and (am_ hw_ (pv 2) (aG_ aZ_ rfl T.b_len PySem.boot_len (aa_ (pv 0) ac_)) (au_ _)) (pw_and1 (bR_ (aE_ T.F_q99 G_q99 hr.m ar_ (aa_ (aC_ ao_ (pv 0) (pv 2) (fun _ _=>rfl)) ac_)))))) (ae_ (aj_ (aE_ T.F_q35 G_q35 hr.m aK_ (aa_ (pv 0) (aa_ (pv 1) (aa_ (pv 2) ac_)))))) atz_)
  (ae_ (aj_ (aE_ T.F_q60 G_q60 hr.m aK_ (aa_ (pv 0) (aa_ (pv 1) (aa_ (pe_r T.g_q72) ac_))))))))),?_⟩
 simp! [tSeq];have hg1:t[p]? = some t[p]:=getElem?_eq_getElem hp;have hd1:=dD_ hg1;generalize t[p]=c at hg1 hd1;have md:=hB_ hd1;rw [hd1] at k;unfold token at k;dsimp only at k;rw [<- hd1] at k;refine ⟨bs t,ht,_,bv_ (dS_ hg1),?_⟩;simp! [tSeq,spB];refine b6_ (fun h=>?_) fun h=>⟨bs t,ht,_,bv_ (dS_ hg1),?_⟩
 ·rw [if_pos h] at k
  exact ⟨a,t,p,rfl,ht,Nat.le_of_lt hp,hl,k⟩
 rw [if_neg (by rw [h];simp)] at k;have signs : ¬ Vaunid.isDigit c=true->¬ minusDigit (t.drop p)=true->gv_ T.C_q114 T.C_q120 T.C_q122 K [.ref a,.int (p:Int),.ref T.a_q72] H Q E:=fun h2 h3=>by
  rw [if_neg h2,if_neg (fun z=>h3 z.2)] at k;refine ⟨a,_,t,p,coreSigns,rfl,ht,hp,hl,kN_,fun H'=>?_,k⟩;rw [<- k3_];exact T.t_q72 H'
 simp! [tSeq,spB];refine ite2 (fun h45=>?_) fun h45=>?_
 ·have e45:c=45:=by omega
  subst e45;refine ⟨bs t,.inl ht,?_⟩;rw [bW_];refine ite2 (fun h2=>?_) fun h2=>?_
  ·have h2':p+1<t.length:=by omega
   have hg2:t[p+1]? = some t[p+1]:=getElem?_eq_getElem h2';have hd2:=dD_ hg2;generalize t[p+1]=d at hg2 hd2;refine ⟨bs t,ht,_,bv_ (dS_ hg2),?_⟩;simp! [tSeq,spB];refine b6_ (fun h3=>?_) fun h3=>?_
   ·rw [if_neg (by decide),if_pos ⟨rfl,md.mpr ⟨rfl,d,_,hd2,h3⟩⟩] at k
    exact ⟨a,t,p,p+1,d,_,true,rfl,ht,hl,rfl,hd2,h3,k⟩
   exact signs (by decide) (fun z=>by
    obtain ⟨_,d',r',e1,e2⟩:=md.mp z;rw [hd2] at e1;cases e1;rw [h3] at e2;cases e2)
  exact signs (by decide) (fun z=>by
   obtain ⟨_,d',r',e1,e2⟩:=md.mp z;rw [drop_eq_nil_of_le (by omega)] at e1;cases e1)
 have e45 : ¬ c=45:=by omega
 refine ⟨bs t,.inl ht,?_⟩;rw [bW_];refine ite2 (fun h2=>?_) fun h2=>?_
 ·refine ⟨bs t,ht,_,bv_ (dS_ hg1),?_⟩
  simp! [tSeq,spB];refine b6_ (fun h3=>?_) fun h3=>?_
  ·rw [if_pos h3] at k
   exact ⟨a,t,p,p,c,_,false,rfl,ht,hl,rfl,hd1,h3,k⟩
  exact signs (by rw [h3];simp) (fun z=>e45 (md.mp z).1)
 omega
end
set_option maxHeartbeats 2000000
section
variable {P:Program}{w:World}{K:PySem.W.Frag}{mg:Str->Option Value}{base:Heap}
def GapF (P:Program) (w:World) (K:PySem.W.Frag) (mg:Str->Option Value) (base:Heap) (k:Nat) (C f:Addr) (core:Bool):Prop:=∃ fd ps,FnOk P w K mg base (CX1 P w) k f fd ps (on_ core C K)/\a9_ K fd ps []/\keepIn K (.ref f)=true
def TokF (P:Program) (w:World) (K:PySem.W.Frag) (mg:Str->Option Value) (base:Heap) (k:Nat) (Ca Ct C f:Addr) (core:Bool):Prop:=∃ fd ps,FnOk P w K mg base (CX1 P w) k f fd ps (oj_ core Ca Ct C K)/\a9_ K fd ps []/\keepIn K (.ref f)=true
def ig_ (Ca Ct:Addr) (l:List Vaunid.Token) (v:V) (H:Hp):Prop:=∃ (b:Addr) (as:List Addr),v = .ref b/\H b=some (.lst (as.map V.ref))/\ce_ Ca Ct H as l
def jP_ (P:Program) (w:World) (K:PySem.W.Frag) (mg:Str->Option Value) (base:Heap) (Ca Ct C:Addr):Sp:=fun vs H Q E=>∃ (a f g:Addr) (t:List Nat) (core:Bool),vs=[.ref a,.ref f,.ref g]/\SqL K H a (bs t)/\t.length<=10000/\GapF P w K mg base 8 C f core/\TokF P w K mg base 8 Ca Ct C g core /\
 RES C H Q E (dV_ core 0 t) (ig_ Ca Ct)
theorem ok_q11 (T:TX w K mg):FnOk P w K mg base (CX1 P w) 9 T.f_q11 T.d_q11 ["text","gap_end","token_at"] (jP_ P w K mg base T.C_q114 T.C_q120 T.C_q122):=by
 refine T.F_q11.fn.okX sc_q11 (fun _ _ _ _ h=>?_) (fun _ _ _ _ H _ Q E hr h=>?_)
 ·obtain ⟨a,f,g,t,core,rfl,_⟩:=h
  rfl
 obtain ⟨a,f,g,t,core,rfl,ht,hl,⟨fd1,ps1,F1,b1,k1⟩,⟨fd2,ps2,F2,b2,k2⟩,k⟩:=h;refine ⟨_,(ad_ (az_ 3 sc_q11.nd (ax_ ac_))
  (ad_ (az_ 4 sc_q11.nd (bI_ (CX:=CX1 P w) (k:=8) 1 hr.m aK_ (aa_ (pv 0) (aa_ ai_ ac_))))
  (ad_ (bq_ ip_ (am_ hw_ (pv 4) (aG_ aZ_ rfl T.b_len PySem.boot_len (aa_ (pv 0) ac_)) (au_ _)) (ad_ (az_ 5 sc_q11.nd (bI_ (CX:=CX1 P w) (k:=8) 2 hr.m aK_ (aa_ (pv 0) (aa_ (pv 4) ac_))))
  (ad_ (a2_ (c5_ pla sla tla aR_ (pv 3) (aa_ (pv 5) ac_)))
  (ae_ (az_ 4 sc_q11.nd (bI_ (CX:=CX1 P w) (k:=8) 1 hr.m aK_ (aa_ (pv 0) (aa_ (ah_ (pv 5) rfl) ac_))))))))
  (ae_ (aj_ (pv 3)))))),?_⟩
 simp! [tSeq,dI_];refine ⟨zero_le _,fun b hb=>⟨fd1,ps1,_,F1,b1,k1,a,t,0,rfl,(Same.upd hb).seq ht,zero_le _,?_⟩⟩;rw [drop_zero];cases q0:gapT core 0 t with
 | error e =>
  rw [do_,q0] at k;exact ExF.mono k (Same.upd hb)
 | ok x =>
 obtain ⟨g1,g2,g3⟩:=d8_ core _ _ _ _ q0;rw [sub_zero] at g3;rw [zero_add] at g2
 rintro v H1 s1 rfl
 have hk0:dV_ core 0 t=preR [] (aN_ core (x.1,t.drop x.1)):=by
  rw [do_,q0];show aN_ core x=_;rw [<- g3];show aN_ core (x.1,x.2)=_;cases aN_ core (x.1,x.2) <;> rfl
 obtain ⟨Pv,hPv⟩ : ∃ Pv:Nat->L2.St->Hp->Prop,Pv=fun m σ H'=>Same H H'/\∃ (q:Nat) (as:List Addr) (l:List Vaunid.Token) (z:Option V),m=t.length - q/\q<=t.length/\as.length<=q/\σ=[some (.ref a),some (.ref f),some (.ref g),some (.ref b),some (.int (q:Int)),z] /\
  H' b=some (.lst (as.map V.ref))/\ce_ T.C_q114 T.C_q120 H' as l/\dV_ core 0 t=preR l (aN_ core (q,t.drop q)):=⟨_,rfl⟩
 refine bL_ Pv _ (by rw [hPv];exact ⟨(Same.upd hb).trans s1,x.1,[],[],none,rfl,g2,zero_le _,rfl,s1 _ _ ab_,.nil,hk0⟩) fun m σ H' hp=>?_;rw [hPv] at hp;obtain ⟨sm,q,as,l,z,rfl,hq,hal,rfl,hbl,hto,hk⟩:=hp;have ht':=sm.seq ht;simp! [tSeq,dI_];refine ⟨bs t,.inl ht',?_⟩;rw [bW_];refine ite2 (fun hlt=>?_) fun hlt=>?_
 ·have hlt':q<t.length:=by omega
  have hg1:t[q]? = some t[q]:=getElem?_eq_getElem hlt';have hd1:=dD_ hg1;generalize t[q]=c at hg1 hd1;refine ⟨_,fun _ _ z=>z,fd2,ps2,_,F2,b2,k2,a,t,q,rfl,ht',hlt',hl,?_⟩;cases qt:token core q (t.drop q) with
  | error e =>
   have e1:dV_ core 0 t = .error e:=by
    rw [hk];unfold aN_;rw [hd1] at qt;rw [hd1];dsimp only;rw [qt];rfl
   rw [e1] at k;exact ExF.mono k sm
  | ok y =>
  obtain ⟨kt,rest⟩:=y;have tf:=bO_ qt;have hhl:kt.halt_<=t.length:=by have:=tf.le;rw [length_drop] at this;omega
  have hqh:q<kt.halt_:=tf.lt;have hrest:rest=t.drop kt.halt_:=by rw [tf.rest,drop_drop];congr 1;omega
  rintro v H2 s2 ⟨bt,rfl,htk⟩
  have hk2:dV_ core 0 t=preR l (match gapT core kt.halt_ (t.drop kt.halt_) with | .error e => .error e | .ok y=>preR [kt] (aN_ core y)):=by
   rw [hk];congr 1;have e2:aN_ core (q,t.drop q)=(match dV_ core kt.halt_ rest with | .error e => .error e | .ok l => .ok (kt::l)):=by
    unfold aN_;rw [hd1] at qt ⊢;dsimp only;rw [qt] <;> rfl
   rw [e2,hrest,do_];cases gapT core kt.halt_ (t.drop kt.halt_) with
   | error e=>rfl
   | ok y =>
   show (match aN_ core y with | .error e => .error e | .ok l => .ok (kt::l))=preR [kt] (aN_ core y)
   cases aN_ core y <;> rfl
  simp! [tSeq,tBM,bc_,tFld,dI_];have hbl2:=s2 _ _ hbl;obtain ⟨dt,ct,hins,hcont⟩:=htk;have nbt:bt≠b:=bG_ hins hbl2 (by intro z;cases z);have sI:dY_ H2 (upd H2 b (.lst (as.map V.ref++[.ref bt]))):=dY_.lst hbl2;have sH:Same H (upd H2 b (.lst (as.map V.ref++[.ref bt]))):=fun c o e=>by
   rw [al_ (ag_ e hb)];exact s2 _ _ (sm _ _ e)
  refine ⟨.inl ⟨rfl,_,SqL.of hbl2⟩,_,hbl2,?_,?_⟩
  ·rw [length_map]
   exact Nat.lt_of_le_of_lt (show as.length<=10000 by omega) (by decide)
  refine ⟨fd1,ps1,_,F1,b1,k1,T.C_q120,dt,_,by rw [al_ nbt];exact hins,T.cl_q120,T.n_q93,_,rfl,a,t,kt.halt_,rfl,sH.seq ht,hhl,?_⟩;cases qg:gapT core kt.halt_ (t.drop kt.halt_) with
  | error e =>
   rw [qg] at hk2;rw [hk2] at k;exact ExF.mono k sH
  | ok y =>
  obtain ⟨g1,g2,g3⟩:=d8_ core _ _ _ _ qg;rw [length_drop] at g2
  rintro v H3 s3 rfl
  refine ⟨t.length - y.1,by omega,?_⟩;rw [hPv];refine ⟨sH.trans s3,y.1,as++[bt],l++[kt],_,rfl,by omega,by rw [length_append,length_singleton];omega,rfl,?_,?_,?_⟩
  ·rw [map_append]
   exact s3 _ _ ab_
  ·exact ce_.snoc (ce_.sameI hto ((Same.insts s2).trans (sI.trans (Same.insts s3)))) (cD_.sameI ⟨dt,ct,hins,hcont⟩ (sI.trans (Same.insts s3)))
  rw [hk2,qg];dsimp only;have e3:y=(y.1,t.drop y.1):=by
   have:y.2=t.drop y.1:=by rw [g3,drop_drop];congr 1;omega
   rw [<- this]
  rw [<- e3];cases aN_ core y with
  | error e=>rfl
  | ok l2 =>
  show Except.ok _=Except.ok _;rw [append_assoc]
 have e0:t.drop q=[]:=drop_eq_nil_of_le (by omega);rw [e0] at hk;have e1:dV_ core 0 t = .ok l:=by
  rw [hk];show Except.ok (l++[])=_;rw [append_nil]
 rw [e1] at k;exact k _ H' sm ⟨b,as,rfl,hbl,hto⟩
def gw_ (core:Bool) (Ca Ct C:Addr) (K:PySem.W.Frag):Sp:=fun vs H Q E=>∃ (a:Addr) (t:List Nat),vs=[.ref a]/\SqL K H a (bs t)/\t.length<=10000/\RES C H Q E (allTokens core t) (ig_ Ca Ct)
theorem ok_q53 (T:TX w K mg):FnOk P w K mg base (CX1 P w) 10 T.f_q53 T.d_q53 ["text"] (gw_ true T.C_q114 T.C_q120 T.C_q122 K):=by
 have G_q11:=ok_q11 (P:=P) (base:=base) T;have GF:GapF P w K mg base 8 T.C_q122 T.f_q32 true:=⟨_,_,(ok_q32 T).mono (by decide),T.F_q32.b,T.F_q32.fn.kp⟩;have TF:TokF P w K mg base 8 T.C_q114 T.C_q120 T.C_q122 T.f_q75 true:=⟨_,_,ok_q75 T,T.F_q75.b,T.F_q75.fn.kp⟩;refine T.F_q53.fn.okX sc_q53 (fun _ _ _ _ h=>?_) (fun _ _ _ _ H _ Q E hr h=>?_)
 ·obtain ⟨a,t,rfl,_⟩:=h
  rfl
 obtain ⟨a,t,rfl,ht,hl,k⟩:=h;refine ⟨_,(ae_ (aj_ (aE_ T.F_q11 G_q11 hr.m aK_ (aa_ (pv 0) (aa_ (pe_r T.F_q32.mg) (aa_ (pe_r T.F_q75.mg) ac_)))))),?_⟩;simp! [tSeq];exact ⟨a,_,_,t,true,rfl,ht,hl,GF,TF,k⟩
end
set_option maxHeartbeats 2000000
section
variable {P:Program}{w:World}{K:PySem.W.Frag}{mg:Str->Option Value}{base:Heap}
def gy_ (Ca:Addr):Sp:=fun vs H Q _=>∃ (a:Addr) (v:Lit),vs=[.ref a]/\aW_ Ca H a v.top (v.low:Int) (v.measure.getD [])/\gd_ v/\Q (.str (S (Vaunid.shownLit v))) H
theorem ok_q48 (T:TX w K mg):FnOk P w K mg base CX0 1 T.f_q48 T.d_q48 ["amount"] (gy_ T.C_q114):=by
 refine T.F_q48.fn.ok sc_q48 (fun _ _ _ _ h=>?_) (fun _ _ _ _ H _ Q E hr h=>?_)
 ·obtain ⟨a,v,rfl,_⟩:=h
  rfl
 obtain ⟨a,v,rfl,⟨dx,ha⟩,g,k⟩:=h;refine ⟨_,(ad_ (az_ 1 sc_q48.nd (bC_ dR_ rfl T.b_str eY_ (aa_ (ah_ (pv 0) rfl) ac_)))
  (ad_ (aT_ (am_ km_ (ah_ (pv 0) rfl) ai_ (au_ _)) (ae_ (az_ 1 sc_q48.nd (aI_ aB_ (aI_ aB_ (pv 1) ak_) (bC_ dR_ rfl T.b_str eY_ (aa_ (ah_ (pv 0) rfl) ac_))))) atz_)
  (ad_ (aT_ (am_ km_ (ah_ (pv 0) rfl) ak_ (au_ _)) (ae_ (az_ 1 sc_q48.nd (aI_ aB_ (aI_ aB_ (aI_ aB_ (pv 1) ak_) (ah_ (pv 0) rfl)) ak_))) atz_)
  (ae_ (aj_ (pv 1)))))),?_⟩
 have big : ∀ n:Nat,n<=20000->n<=sizeLine:=fun n h=>Nat.le_trans h (by decide);have d1:=cF_ g.2.1;have d2:=cS_ g.2.2;have lm:(v.measure.getD []).length<=10000:=by
  cases h:v.measure with
  | none=>exact zero_le _
  | some m=>exact (g.1 m h).2
 rw [gD_ v g] at k;simp! [tSeq,tFld,ha];refine ⟨T.cl_q114,T.n_q46,_,rfl,_,rfl,gA_ g.2.1,?_⟩;refine ⟨T.cl_q114,T.n_q30,_,rfl,rfl,?_⟩;rw [str_int];generalize hm:v.measure.getD []=m at *;have tail : ∀ l:List Nat,l.length<=1000->Q (.str (S (l++(if m=[] then [] else 91::(m++[93]))))) H->Cls K T.C_q114/\aD_ K T.C_q114 (Str.ofString "measure")/\∃ x,List.lookup (Str.ofString "measure") (afs v.top (↑v.low) (S m))=some x/\scal x (V.str (Str.ofString ""))=true /\
   if (!decide (x=V.str (Str.ofString "")))=true then (S l).length+(Str.ofString "[").length<=sizeLine/\Cls K T.C_q114/\aD_ K T.C_q114 (Str.ofString "measure")/\∃ x,List.lookup (Str.ofString "measure") (afs v.top (↑v.low) (S m))=some x/\∃ x_1,x=V.str x_1 /\
    (S l++Str.ofString "[").length+x_1.length<=sizeLine/\(S l++Str.ofString "["++x_1).length+(Str.ofString "]").length<=sizeLine/\Q (V.str (S l++Str.ofString "["++x_1++Str.ofString "]")) H
   else Q (V.str (S l)) H:=fun l hl q=>by
  refine ⟨T.cl_q114,T.n_q9,_,rfl,rfl,?_⟩;simp only [lO_,k6_,kU_,V.str.injEq,bH_,bX_,aM_,length_append,length_singleton];by_cases hm0:m=[]
  ·rw [if_pos hm0,append_nil] at q
   rw [decide_eq_true hm0];exact q
  rw [if_neg hm0] at q;rw [decide_eq_false hm0];refine ⟨big _ (by omega),T.cl_q114,T.n_q9,_,rfl,S m,rfl,big _ (by rw [aM_];omega),?_⟩;simp only [bX_,aM_,length_append,length_singleton,append_assoc,List.singleton_append];exact ⟨big _ (by simp only [length_cons];omega),q⟩
 by_cases h1:v.low=1
 ·rw [if_pos h1,append_nil] at k
  rw [if_neg (by simp [h1])];exact tail _ (by omega) k
 rw [if_neg h1] at k;rw [if_pos (by simp;omega)];refine ⟨by rw [aM_,gC_,aM_];exact big _ (by simp;omega),T.cl_q114,T.n_q30,_,rfl,_,rfl,gA_ (by rw [Int.natAbs_natCast];exact g.2.2),?_⟩;rw [str_int,gC_,bX_,bX_,e6_,append_assoc];refine ⟨by simp only [aM_,length_append,length_singleton];exact big _ (by omega),?_⟩;exact tail _ (by simp;omega) k
theorem ok_q124 (T:TX w K mg):FnOk P w K mg base CX0 1 T.f_q15 T.d_q15 ["self","form","words","parts","begin","end"] (bz_ T.C_q124 ["form","words","parts","begin","end"]):=by
 refine T.F_q15.ok sc_q15 (fun _ _ _ _ h=>?_) (fun _ _ _ _ H _ Q E hr h=>?_)
 ·obtain ⟨p,dx,args,rfl,hl,_⟩:=h
  simp only [length_cons,length_nil] at hl ⊢;rw [hl]
 obtain ⟨p,dx,args,rfl,hl,hp,k⟩:=h;obtain ⟨a,b,c,d,e,rfl⟩:=len5 hl;refine ⟨_,(ad_ (bj_ (pv 0) (pv 1) rfl)
  (ad_ (bj_ (pv 0) (pv 2) rfl)
  (ad_ (bj_ (pv 0) (pv 3) rfl)
  (ad_ (bj_ (pv 0) (pv 4) rfl)
  (ae_ (bj_ (pv 0) (pv 5) rfl)))))),?_⟩
 simp! [tSeq,sFld];refine ⟨_,_,_,hp,T.cl_q124,T.n_q94,few0,T.cl_q124,T.n_q55,few1,T.cl_q124,T.n_q70,few2,T.cl_q124,T.n_q58,few3,T.cl_q124,T.n_q98,few4,?_⟩;exact k
theorem ok_q123 (T:TX w K mg):FnOk P w K mg base CX0 1 T.f_q23 T.d_q23 ["self","kind","owner","depth"] (bz_ T.C_q123 ["kind","owner","depth"]):=by
 refine T.F_q23.ok sc_q23 (fun _ _ _ _ h=>?_) (fun _ _ _ _ H _ Q E hr h=>?_)
 ·obtain ⟨p,dx,args,rfl,hl,_⟩:=h
  simp only [length_cons,length_nil] at hl ⊢;rw [hl]
 obtain ⟨p,dx,args,rfl,hl,hp,k⟩:=h;obtain ⟨a,b,c,rfl⟩:=len3 hl;refine ⟨_,(ad_ (bj_ (pv 0) (pv 1) rfl)
  (ad_ (bj_ (pv 0) (pv 2) rfl)
  (ae_ (bj_ (pv 0) (pv 3) rfl)))),?_⟩
 simp! [tSeq,sFld];refine ⟨_,_,_,hp,T.cl_q123,T.n_q87,few0,T.cl_q123,T.n_q78,few1,T.cl_q123,T.n_q68,few2,?_⟩;exact k
def jL_ (Ca Ct Cr:Addr):Sp:=fun vs H Q _=>∃ (p dx b:Addr) (as:List Addr) (l:Toks) (hl:Nat),vs=[.ref p,.ref b,.int (hl:Int)]/\H p=some (.ins Cr dx [])/\H b=some (.lst (as.map V.ref))/\as.length<=10000/\ce_ Ca Ct H as l /\
 ∀ (la:Addr) (H':Hp),H la=none->ap_ [p] H H'->bh_ Ca Ct Cr H' p la (l++[sent hl])->Q .non H'
theorem oE_ (T:TX w K mg):FnOk P w K mg base CX0 3 T.f_q25 T.d_q25 ["self","found","length"] (jL_ T.C_q114 T.C_q120 T.C_Row):=by
 have G_q120:=ok_q120 (P:=P) (base:=base) T;refine T.F_q25.ok sc_q25 (fun _ _ _ _ h=>?_) (fun _ _ _ _ H _ Q E hr h=>?_)
 ·obtain ⟨p,dx,b,as,l,hl,rfl,_⟩:=h
  rfl
 obtain ⟨p,dx,b,as,l,hl,rfl,hp,hb,hn,hto,k⟩:=h;refine ⟨_,(ad_ (bj_ (pv 0) (aI_ bw_ (pv 1) (ax_ (aa_ (a5_ T.M_q120 G_q120 hr.m rfl T.G_q120 T.b_q6 .nil ar_ (aa_ (pe_g T.g_q76) (aa_ ak_ (aa_ (pv 2) (aa_ (pv 2) (aa_ ak_ ac_)))))) ac_))) rfl)
  (ae_ (bj_ (pv 0) ai_ rfl))),?_⟩
 simp! [tSeq,sFld,cg_,rCat];refine ck_ rfl fun x dx1 H1 hx s1 e1=>⟨by decide,fun q hq=>?_⟩;have s2:Same H1 (upd H1 q (.lst [.ref x])):=Same.upd hq;have e2:upd H1 q (.lst [.ref x]) q=some (.lst [.ref x]):=ab_;generalize upd H1 q (.lst [.ref x])=H2 at s2 e2 ⊢;have s12:Same H H2:=s1.trans s2;refine ⟨_,s12 _ _ hb,_,rfl,?_,fun la hla=>?_⟩
 ·rw [length_map]
  exact Nat.le_trans (show as.length+1<=10001 by omega) (by decide)
 have hla0:=none_of s12 hla;have nla:la≠p:=fun z=>by rw [z,s12 _ _ hp] at hla;cases hla
 have s3:Same H2 (upd H2 la (.lst (as.map V.ref++[.ref x]))):=Same.upd hla;have e3:upd H2 la (.lst (as.map V.ref++[.ref x])) la=some (.lst (as.map V.ref++[.ref x])):=ab_;generalize upd H2 la (.lst (as.map V.ref++[.ref x]))=H3 at s3 e3 ⊢;have s13:Same H H3:=s12.trans s3;have hp3:=s13 _ _ hp;refine ⟨_,_,_,hp3,T.cl_Row,T.n_q85,few0,T.cl_Row,T.n_q89,few1,?_⟩;have im:Imm H3 (upd H3 p (.ins T.C_Row dx (hp_ la 0))):=⟨fun a C dx' g k b e c q=>by
   rw [al_ (bG_ q hp3 (by intro z;injection z with _ _ z;cases z))];exact q,fun a C dx' o u m q=>by
   rw [al_ (bG_ q hp3 (by intro z;injection z with _ _ z;cases z))];exact q⟩
 refine k la (upd H3 p (.ins T.C_Row dx (hp_ la 0))) hla0 (fun a o n e=>?_) ⟨dx,as++[x],0,ab_,?_,?_⟩
 ·rw [al_ (fun z=>n (by rw [z];exact List.mem_singleton.mpr rfl))]
  exact s13 _ _ e
 ·rw [al_ nla,e3,map_append]
  rfl
 rw [drop_zero];refine bd_ (Paired.mapP hto fun a k z=>((z.same s13).b).imm im) ?_;refine TokB.imm ⟨dx1,.str (Str.ofString ""),?_,trivial⟩ im;rw [s3 _ _ (s2 _ _ e1)];show some (HO.ins T.C_q120 dx1 (dW_ 2 (Str.ofString "end") (hl:Int) (hl:Int) (.str (Str.ofString ""))))=_;rw [aq_];rfl
def bQ_ (Ca Ct Cr:Addr):Sp:=fun vs H Q _=>∃ (row la:Addr) (t:Vaunid.Token) (l:Toks),vs=[.ref row]/\bh_ Ca Ct Cr H row la (t::l)/\∀ b,TokB Ca Ct H b t->Q (.ref b) H
theorem id_ {Ca Ct:Addr}{H:Hp}{as:List Addr}{i:Nat}{t:Vaunid.Token}{l:Toks} (h:Paired (fun a k=>TokB Ca Ct H a k) (as.drop i) (t::l)) : ∃ b,as[i]? = some b/\TokB Ca Ct H b t/\Paired (fun a k=>TokB Ca Ct H a k) (as.drop (i+1)) l:=by
 cases q:as.drop i with
 | nil=>rw [q] at h;cases h
 | cons b r =>
 rw [q] at h;cases h with
 | cons h1 h2 =>
 refine ⟨b,?_,h1,?_⟩
 ·rw [<- List.head?_drop,q]
  rfl
 rw [<- List.tail_drop,q];exact h2
theorem b4_ (T:TX w K mg):FnOk P w K mg base CX0 1 T.f_q26 T.d_q26 ["self"] (bQ_ T.C_q114 T.C_q120 T.C_Row):=by
 refine T.F_q26.ok sc_q26 (fun _ _ _ _ h=>?_) (fun _ _ _ _ H _ Q E hr h=>?_)
 ·obtain ⟨row,la,t,l,rfl,_⟩:=h
  rfl
 obtain ⟨row,la,t,l,rfl,⟨dx,as,i,h1,h2,h3⟩,k⟩:=h;obtain ⟨b,hb,htk,_⟩:=id_ h3;refine ⟨_,(ae_ (aj_ (aC_ ao_ (ah_ (pv 0) rfl) (ah_ (pv 0) rfl) (fun _ _=>rfl)))),?_⟩;simp! [tSeq,tFld,h1];refine ⟨T.cl_Row,T.n_q85,_,rfl,T.cl_Row,T.n_q89,_,rfl,_,rfl,_,_,rfl,SqL.of h2,_,bv_ (by rw [getElem?_map,hb];rfl),?_⟩;exact k b htk
def h9_ (Ca Ct Cr:Addr):Sp:=fun vs H Q _=>∃ (row la:Addr) (t:Vaunid.Token) (l:Toks),vs=[.ref row]/\bh_ Ca Ct Cr H row la (t::l)/\∀ b H',TokB Ca Ct H' b t->ap_ [row] H H'->bh_ Ca Ct Cr H' row la l->Q (.ref b) H'
theorem hy_ (T:TX w K mg):FnOk P w K mg base CX0 2 T.f_q96 T.d_q96 ["self"] (h9_ T.C_q114 T.C_q120 T.C_Row):=by
 have G_q26:=b4_ (P:=P) (base:=base) T;refine T.F_q96.ok sc_q96 (fun _ _ _ _ h=>?_) (fun _ _ _ _ H _ Q E hr h=>?_)
 ·obtain ⟨row,la,t,l,rfl,_⟩:=h
  rfl
 obtain ⟨row,la,t,l,rfl,hrow,k⟩:=h;have hr0:=hrow;obtain ⟨dx,as,i,h1,h2,h3⟩:=hrow;obtain ⟨b,hb,htk,hrest⟩:=id_ h3;refine ⟨_,(ad_ (az_ 1 sc_q96.nd (bl_ (pv 0) T.cl_Row T.m_q26 G_q26 hr.m T.b_q26 .nil ar_))
  (ad_ (j3_ (pv 0) ai_ oQ_)
  (ae_ (aj_ (pv 1))))),?_⟩
 simp! [tSeq,hk_,bQ_,jZ_,rAdd,h1];refine ⟨rfl,la,t,l,hr0,fun b' hb'=>⟨T.cl_Row,T.n_q89,_,rfl,_,rfl,(by show 2<1000;decide),?_⟩⟩;have sx:ap_ [row] H (upd H row (.ins T.C_Row dx (hp_ la ((i+1:Nat):Int)))):=ap_.upd (List.mem_singleton.mpr rfl);have nt : ∀ x∈[row],NT H x:=fun x hx=>by rw [List.mem_singleton.mp hx];exact hr0.nt
 have im:=Imm.of sx nt;have nla:la≠row:=bG_ h2 h1 (by intro z;cases z);exact k b' _ (hb'.imm im) sx ⟨dx,as,i+1,ab_,by rw [al_ nla];exact h2,Paired.mapP hrest fun a k z=>z.imm im⟩
def fb_ (Ca Ct Cr C:Addr):Sp:=fun vs H Q E=>∃ (row la:Addr) (t:Vaunid.Token) (l:Toks) (x:List Nat),vs=[.ref row,.str (S x)]/\bh_ Ca Ct Cr H row la (t::l) /\
 if kindOf t.tok=x then (∀ b H',TokB Ca Ct H' b t->ap_ [row] H H'->bh_ Ca Ct Cr H' row la l->Q (.ref b) H') else ExF C E H 6 (t.start:Int)
theorem gO_ (T:TX w K mg):FnOk P w K mg base (CX1 P w) 3 T.f_q19 T.d_q19 ["self","kind"] (fb_ T.C_q114 T.C_q120 T.C_Row T.C_q122):=by
 have G_q26:=b4_ (P:=P) (base:=base) T;have G_q96:=hy_ (P:=P) (base:=base) T;have G_q122:=ok_q122 (P:=P) (base:=base) T;refine T.F_q19.okX sc_q19 (fun _ _ _ _ h=>?_) (fun _ _ _ _ H _ Q E hr h=>?_)
 ·obtain ⟨row,la,t,l,x,rfl,_⟩:=h
  rfl
 obtain ⟨row,la,t,l,x,rfl,hrow,k⟩:=h;have hr0:=hrow;obtain ⟨dx,as,i,h1,h2,h3⟩:=hrow;refine ⟨_,(ad_ (aT_ (am_ km_ (ah_ (bl_ (pv 0) T.cl_Row T.m_q26 G_q26 hr.m T.b_q26 .nil ar_) rfl) (pv 1) (au_ _)) (ae_ (bx_ T.X_q122 G_q122 hr.m rfl T.G_q122 T.b_q13 bi_ rfl (aa_ ai_ (aa_ (ah_ (bl_ (pv 0) T.cl_Row T.m_q26 G_q26 hr.m T.b_q26 .nil ar_) rfl) ac_)))) atz_)
  (ae_ (aj_ (bl_ (pv 0) T.cl_Row T.m_q96 G_q96 hr.m T.b_q96 .nil ar_)))),?_⟩
 simp! [tSeq,hk_,bQ_,h9_,cE_,tFld,h1];refine ⟨rfl,la,t,l,hr0,fun b ⟨dt,ct,e1,_⟩=>?_⟩;refine ⟨T.C_q120,dt,_,e1,T.cl_q120,T.n_q80,_,rfl,rfl,?_⟩;by_cases hk:kindOf t.tok=x
 ·rw [if_pos hk] at k
  rw [if_neg (by rw [hk];simp)];exact ⟨rfl,la,t,l,hr0,k⟩
 rw [if_neg hk] at k;rw [if_pos (by simp only [V.str.injEq,bH_];simp [hk])];refine ⟨rfl,la,t,l,hr0,fun b2 ⟨dt2,ct2,e2,_⟩=>⟨T.C_q120,dt2,_,e2,T.cl_q120,T.n_q47,_,rfl,by decide,?_⟩⟩;exact bp_ k
theorem i3_ {k:Vaunid.Tok} (g:aP_ k):(∃ w,k = .word w/\kindOf k=Vaunid.txt "name"/\Vaunid.leafOf k=some (.name w))\/(∃ v d,k = .num v d/\(kindOf k=Vaunid.txt "number"\/kindOf k=Vaunid.txt "digit")/\Vaunid.leafOf k=some (.num v)) \/
  (¬ kindOf k=Vaunid.txt "name"/\¬ kindOf k=Vaunid.txt "number"/\¬ kindOf k=Vaunid.txt "digit"/\((kindOf k∈[Vaunid.txt "true",Vaunid.txt "false",Vaunid.txt "nil"]/\∃ x,Vaunid.leafOf k=some x/\Vaunid.txt (dd_ x)=kindOf k/\ba_ x=[])\/(¬ kindOf k∈[Vaunid.txt "true",Vaunid.txt "false",Vaunid.txt "nil"]/\Vaunid.leafOf k=none))):=by
 cases k with
 | word w =>
  by_cases h:isTaken w=true
  ·have e:kindOf (.word w)=w:=by simp only [kindOf];rw [if_pos h]
   rw [e];refine .inr (.inr ⟨fun z=>?_,fun z=>?_,fun z=>?_,?_⟩)
   ·rw [z] at h;exact absurd h (by decide +kernel)
   ·rw [z] at h;exact absurd h (by decide +kernel)
   ·rw [z] at h;exact absurd h (by decide +kernel)
   by_cases h1:w=Vaunid.txt "true"
   ·refine .inl ⟨by rw [h1];simp,.truth true,?_,h1.symm,rfl⟩
    simp only [Vaunid.leafOf];rw [if_pos h1]
   by_cases h2:w=Vaunid.txt "false"
   ·refine .inl ⟨by rw [h2];simp,.truth false,?_,h2.symm,rfl⟩
    simp only [Vaunid.leafOf];rw [if_neg h1,if_pos h2]
   by_cases h3:w=Vaunid.txt "nil"
   ·refine .inl ⟨by rw [h3];simp,.nil,?_,h3.symm,rfl⟩
    simp only [Vaunid.leafOf];rw [if_neg h1,if_neg h2,if_pos h3]
   refine .inr ⟨by simp [h1,h2,h3],?_⟩;simp only [Vaunid.leafOf];rw [if_neg h1,if_neg h2,if_neg h3,if_neg];unfold isName;rw [h];simp
  have e:kindOf (.word w)=Vaunid.txt "name":=by simp only [kindOf];rw [if_neg h]
  refine .inl ⟨w,rfl,e,?_⟩;obtain ⟨w',q,hn⟩:=(eN_ g).mp e;cases q;simp only [Vaunid.leafOf];rw [if_neg (fun z=>by rw [z] at h;exact h (by decide +kernel)),if_neg (fun z=>by rw [z] at h;exact h (by decide +kernel)),if_neg (fun z=>by rw [z] at h;exact h (by decide +kernel)),if_pos hn]
 | num v d =>
  refine .inr (.inl ⟨v,d,rfl,?_,rfl⟩);cases d with
  | none=>exact .inl rfl
  | some n=>exact .inr rfl
 | sign s =>
 have q : ∀ x∈coreSigns++[Vaunid.txt "end"],¬ x=Vaunid.txt "name"/\¬ x=Vaunid.txt "number"/\¬ x=Vaunid.txt "digit"/\¬ x∈[Vaunid.txt "true",Vaunid.txt "false",Vaunid.txt "nil"]:=by decide +kernel
 have hs:s∈coreSigns++[Vaunid.txt "end"]:=by
  rcases g with g | g
  ·exact mem_append_left _ g
  rw [g];exact mem_append_right _ (List.mem_singleton.mpr rfl)
 obtain ⟨q1,q2,q3,q4⟩:=q s hs;exact .inr (.inr ⟨q1,q2,q3,.inr ⟨q4,rfl⟩⟩)
theorem iU_:[V.str "true",V.str "false",V.str "nil"]=(([Vaunid.txt "true",Vaunid.txt "false",Vaunid.txt "nil"]).map S).map V.str:=by decide +kernel
theorem it_ {Cn:Addr}{H H1 H2 H3:Hp}{n dx wl pl:Addr}{f:List Nat}{ws:List (List Nat)}{b e:Nat} (h1:H wl=none) (s1:Same H H1) (e1:H1 wl=some (.lst ((ws.map S).map V.str))) (h2:H1 pl=none) (s2:Same H1 H2) (e2:H2 pl=some (.lst [])) (h3:H2 n=none) (s3:Same H2 H3) (e3:H3 n=some (.ins Cn dx (bg_ (S f) wl pl (b:Int) (e:Int)))) :
  TreeAt Cn H3 n (.mk f ws b e []) [n,wl,pl]/\[n,wl,pl].Nodup/\∀ a∈[n,wl,pl],H a=none:=by
 refine ⟨.mk (as:=[]) e3 (s3 _ _ (s2 _ _ e1)) (s3 _ _ e2) .nil,?_,?_⟩
 ·have q1:wl≠pl:=ag_ e1 h2
  have q2:wl≠n:=ag_ (s2 _ _ e1) h3;have q3:pl≠n:=ag_ e2 h3;simp [q1,q2.symm,q3.symm]
 intro a ha;have:=none_of (s1.trans s2) h3;have:=none_of s1 h2;simp at ha;rcases ha with rfl | rfl | rfl <;> assumption
def ok_ (Ca Ct Cn C:Addr):Sp:=fun vs H Q E=>∃ (b:Addr) (t:Vaunid.Token),vs=[.ref b]/\TokB Ca Ct H b t/\aP_ t.tok/\(match Vaunid.leafOf t.tok with
 | none=>ExF C E H 6 (t.start:Int)
 | some x=>∀ (n:Addr) (F:List Addr) (H':Hp),Same H H'->TreeAt Cn H' n (gT_ t x) F->F.Nodup->(∀ a∈F,H a=none)->Q (.ref n) H')
theorem ok_q126 (T:TX w K mg):FnOk P w K mg base (CX1 P w) 3 T.f_q126 T.d_q126 ["token"] (ok_ T.C_q114 T.C_q120 T.C_q124 T.C_q122):=by
 have G_q124:=ok_q124 (P:=P) (base:=base) T;have G_q48:=ok_q48 (P:=P) (base:=base) T;have G_q122:=ok_q122 (P:=P) (base:=base) T;refine T.F_q126.fn.okX sc_q126 (fun _ _ _ _ h=>?_) (fun _ _ _ _ H _ Q E hr h=>?_)
 ·obtain ⟨b,t,rfl,_⟩:=h
  rfl
 obtain ⟨b,t,rfl,⟨dt,ct,hb,hc⟩,g,k⟩:=h;refine ⟨_,(ad_ (aT_ (am_ bn_ (ah_ (pv 0) rfl) ak_ (au_ _)) (ae_ (aj_ (a5_ T.M_q124 G_q124 hr.m rfl T.G_q124 T.b_q15 .nil ar_ (aa_ ak_ (aa_ (ax_ (aa_ (ah_ (pv 0) rfl) ac_)) (aa_ (ax_ ac_) (aa_ (ah_ (pv 0) rfl) (aa_ (ah_ (pv 0) rfl) ac_)))))))) atz_)
  (ad_ (aT_ (PW.pt (pw_or (am_ bn_ (ah_ (pv 0) rfl) ak_ (au_ _)) (pw_or1 (am_ bn_ (ah_ (pv 0) rfl) ak_ (au_ _))))) (ae_ (aj_ (a5_ T.M_q124 G_q124 hr.m rfl T.G_q124 T.b_q15 .nil ar_ (aa_ ak_ (aa_ (ax_ (aa_ (aE_ T.F_q48 G_q48 hr.m ar_ (aa_ (ah_ (pv 0) rfl) ac_)) ac_)) (aa_ (ax_ ac_) (aa_ (ah_ (pv 0) rfl) (aa_ (ah_ (pv 0) rfl) ac_)))))))) atz_)
  (ad_ (aT_ (am_ c7_ (ah_ (pv 0) rfl) (pe_r T.g_q42) rfl) (ae_ (aj_ (a5_ T.M_q124 G_q124 hr.m rfl T.G_q124 T.b_q15 .nil ar_ (aa_ (ah_ (pv 0) rfl) (aa_ (ax_ ac_) (aa_ (ax_ ac_) (aa_ (ah_ (pv 0) rfl) (aa_ (ah_ (pv 0) rfl) ac_)))))))) atz_)
  (ae_ (bx_ T.X_q122 G_q122 hr.m rfl T.G_q122 T.b_q13 bi_ rfl (aa_ ai_ (aa_ (ah_ (pv 0) rfl) ac_))))))),?_⟩
 simp! [tSeq,tFld,hb,cg_,cE_];refine ⟨T.cl_q120,T.n_q80,_,rfl,rfl,?_⟩;have l1:(1:Nat)<=sizeLine:=by decide
 have l0:(0:Nat)<=sizeLine:=zero_le _;have tail : ∀ (f:List Nat) (fs:Str) (ws:List (List Nat)) (xs:List V),fs=S f->xs=(ws.map S).map V.str->(∀ (n:Addr) (F:List Addr) (H':Hp),Same H H'->TreeAt T.C_q124 H' n (.mk f ws t.start t.halt_ []) F->F.Nodup->(∀ a∈F,H a=none)->Q (.ref n) H') ->
   ∀ p,H p=none->0<=sizeLine/\∀ p1,upd H p (.lst xs) p1=none->∃ x1 x2 x3,upd (upd H p (.lst xs)) p1 (.lst []) b=some (.ins x1 x2 x3)/\Cls K x1/\aD_ K x1 (Str.ofString "begin")/\∃ x4,List.lookup (Str.ofString "begin") x3=some x4 /\
    ∃ x5 x6 x7,upd (upd H p (.lst xs)) p1 (.lst []) b=some (.ins x5 x6 x7)/\Cls K x5/\aD_ K x5 (Str.ofString "end")/\∃ x8,List.lookup (Str.ofString "end") x7=some x8 /\
     ∀ x9 dx,upd (upd H p (.lst xs)) p1 (.lst []) x9=none->upd (upd H p (.lst xs)) p1 (.lst []) dx=none->dx≠x9->bz_ T.C_q124 [Str.ofString "form",Str.ofString "words",Str.ofString "parts",Str.ofString "begin",Str.ofString "end"] [V.ref x9,V.str fs,V.ref p,V.ref p1,x4,x8]
      (upd (upd (upd (upd H p (.lst xs)) p1 (.lst [])) dx (HO.own x9)) x9 (HO.ins T.C_q124 dx [])) (fun v H2=>v=V.non/\Q (V.ref x9) H2) (fun _ _ _=>False):=fun f fs ws xs ef ex kk p hp=>⟨l0,fun p1 hp1=>by
  subst ef ex;have s1:Same H (upd H p (.lst ((ws.map S).map V.str))):=Same.upd hp;have e1:upd H p (.lst ((ws.map S).map V.str)) p=some (.lst ((ws.map S).map V.str)):=ab_;generalize upd H p (.lst ((ws.map S).map V.str))=H1 at s1 e1 hp1 ⊢;have s2:Same H1 (upd H1 p1 (.lst [])):=Same.upd hp1;have e2:upd H1 p1 (.lst []) p1=some (.lst []):=ab_;generalize upd H1 p1 (.lst [])=H2 at s2 e2 ⊢;have hb2:=(s1.trans s2) _ _ hb;refine ⟨_,_,_,hb2,T.cl_q120,T.n_q47,_,rfl,_,_,_,hb2,T.cl_q120,T.n_q93,_,rfl,?_⟩;refine ck_ rfl fun n dx H3 hn s3 e3=>?_;obtain ⟨t1,t2,t3⟩:=it_ (f:=f) (ws:=ws) (b:=t.start) (e:=t.halt_) hp s1 e1 hp1 s2 e2 hn s3 e3;exact kk n _ H3 (s1.trans (s2.trans s3)) t1 t2 t3⟩
 rcases i3_ g with ⟨w,e1,e2,e3⟩ | ⟨v,d,e1,e2,e3⟩ | ⟨n1,n2,n3,hp⟩
 ·rw [e3] at k
  rw [e2,if_pos (by rw [aq_])];rw [e1] at hc;refine ⟨T.cl_q120,T.n_q24,_,rfl,l1,?_⟩;exact tail (Vaunid.txt "name") _ [w] _ (aq_ _) (by rw [show ct=V.str (S w) from hc];rfl) k
 ·rw [e3] at k
  rw [e1] at hc g;obtain ⟨a,ec,ha⟩:=hc;have gl:gd_ v:=⟨g.1,g.2.1,g.2.2.1⟩;have amt:=tail (Vaunid.txt "number") _ [Vaunid.shownLit v] _ (aq_ _) rfl k;rw [if_neg (by rw [aq_];simp only [V.str.injEq,bH_];rcases e2 with q | q <;> (rw [q];decide +kernel))]
  refine ⟨T.cl_q120,T.n_q80,_,rfl,rfl,?_⟩;rcases e2 with q | q
  ·rw [q,if_pos (by rw [aq_])]
   exact ⟨T.cl_q120,T.n_q24,_,rfl,a,v,by rw [ec],ha,gl,l1,amt⟩
  rw [q,if_neg (by rw [aq_];simp only [V.str.injEq,bH_];decide +kernel)];refine ⟨T.cl_q120,T.n_q80,_,rfl,rfl,?_⟩;rw [if_pos (by rw [aq_])];exact ⟨T.cl_q120,T.n_q24,_,rfl,a,v,by rw [ec],ha,gl,l1,amt⟩
 rw [if_neg (by rw [aq_];simp only [V.str.injEq,bH_];exact n1)];refine ⟨T.cl_q120,T.n_q80,_,rfl,rfl,?_⟩;rw [if_neg (by rw [aq_];simp only [V.str.injEq,bH_];exact n2)];refine ⟨T.cl_q120,T.n_q80,_,rfl,rfl,?_⟩;rw [if_neg (by rw [aq_];simp only [V.str.injEq,bH_];exact n3)];refine ⟨T.cl_q120,T.n_q80,_,rfl,_,.inr (T.t_q42 H),rfl,rfl,?_⟩;rw [iU_,in_S];rcases hp with ⟨hm,x,e1,e2,e3⟩ | ⟨hm,e1⟩
 ·rw [e1] at k
  rw [decide_eq_true hm];refine ⟨T.cl_q120,T.n_q80,_,rfl,l0,?_⟩;refine tail (kindOf t.tok) _ [] _ rfl rfl ?_;rw [<- e2,<- e3];exact k
 rw [e1] at k;rw [decide_eq_false hm];exact ⟨T.cl_q120,T.n_q47,_,rfl,by decide,bp_ k⟩
end
set_option maxHeartbeats 2000000
section
variable {P:Program}{w:World}{K:PySem.W.Frag}{mg:Str->Option Value}{base:Heap}
def jO_ (Ca Ct Cr Cn:Addr):Sp:=fun vs H Q _=>∃ (row la:Addr) (t:Vaunid.Token) (l:Toks),vs=[.ref row]/\bh_ Ca Ct Cr H row la (t::l)/\bf_ l/\l≠[] /\
 ∀ (n dx wl pl:Addr) (H':Hp),ap_ [row] H H'->bh_ Ca Ct Cr H' row la (an_ l).2->H' n=some (.ins Cn dx (bg_ (S (Vaunid.txt (an_ l).1.word)) wl pl (t.start:Int) (t.start:Int)))->H' wl=some (.lst [])->H' pl=some (.lst [])->[n,wl,pl].Nodup->(∀ a∈[n,wl,pl],H a=none)->Q (.ref n) H'
theorem ok_q20 (T:TX w K mg):FnOk P w K mg base CX0 3 T.f_q20 T.d_q20 ["row"] (jO_ T.C_q114 T.C_q120 T.C_Row T.C_q124):=by
 have G_q26:=b4_ (P:=P) (base:=base) T;have G_q96:=hy_ (P:=P) (base:=base) T;have G_q124:=ok_q124 (P:=P) (base:=base) T;refine T.F_q20.fn.ok sc_q20 (fun _ _ _ _ h=>?_) (fun _ _ _ _ H _ Q E hr h=>?_)
 ·obtain ⟨row,la,t,l,rfl,_⟩:=h
  rfl
 obtain ⟨row,la,t,l,rfl,hrow,hg,hne,k⟩:=h;obtain ⟨ad,md,sq,_⟩:=T.t_q119;refine ⟨_,(ad_ (az_ 1 sc_q20.nd (ah_ (bl_ (pv 0) T.cl_Row T.m_q96 G_q96 hr.m T.b_q96 .nil ar_) rfl))
  (ad_ (az_ 2 sc_q20.nd ak_)
  (ad_ (aT_ (nn_ (ah_ (bl_ (pv 0) T.cl_Row T.m_q26 G_q26 hr.m T.b_q26 .nil ar_) rfl) (pe_r T.g_q119)) (ae_ (az_ 2 sc_q20.nd (ah_ (bl_ (pv 0) T.cl_Row T.m_q96 G_q96 hr.m T.b_q96 .nil ar_) rfl))) atz_)
  (ae_ (aj_ (a5_ T.M_q124 G_q124 hr.m rfl T.G_q124 T.b_q15 .nil ar_ (aa_ (pv 2) (aa_ (ax_ ac_) (aa_ (ax_ ac_) (aa_ (pv 1) (aa_ (pv 1) ac_))))))))))),?_⟩
 have hr0:=hrow;obtain ⟨dx,as,i,h1,h2,h3⟩:=hrow;simp! [tSeq,hk_,h9_,bQ_,tFld,m6_,cg_,h1];refine ⟨rfl,la,t,l,hr0,fun b H1 ⟨dt,ct,e1,_⟩ sx1 hr1=>?_⟩;refine ⟨T.C_q120,dt,_,e1,T.cl_q120,T.n_q47,_,rfl,?_⟩;have hr1':=hr1;obtain ⟨dx1,as1,i1,r1,r2,r3⟩:=hr1
 match l,hne,hg,k,hr1',r3 with
 | t2::l2,_,hg,k,hr1',r3 =>
  have gt:=hg t2 (mem_cons_self ..);simp! [tSeq,r1];refine ⟨rfl,la,t2,l2,hr1',fun b2 ⟨dt2,ct2,e2,_⟩=>?_⟩;refine ⟨T.C_q120,dt2,_,e2,T.cl_q120,T.n_q80,_,rfl,_,_,rfl,md,?_⟩;have tail : ∀ (H2:Hp) (f:Fm) (r:Toks) (fs:Str),fs=S (Vaunid.txt f.word)->ap_ [row] H H2->bh_ T.C_q114 T.C_q120 T.C_Row H2 row la r->an_ (t2::l2)=(f,r)->0<=sizeLine/\∀ p,H2 p=none->0<=sizeLine/\∀ p1,upd H2 p (.lst []) p1=none ->
    ∀ x dx,upd (upd H2 p (.lst [])) p1 (.lst []) x=none->upd (upd H2 p (.lst [])) p1 (.lst []) dx=none->dx≠x->bz_ T.C_q124 [Str.ofString "form",Str.ofString "words",Str.ofString "parts",Str.ofString "begin",Str.ofString "end"] [V.ref x,V.str fs,V.ref p,V.ref p1,V.int ↑t.start,V.int ↑t.start]
     (upd (upd (upd (upd H2 p (.lst [])) p1 (.lst [])) dx (.own x)) x (.ins T.C_q124 dx [])) (fun v H2=>v=V.non/\Q (V.ref x) H2) (fun _ _ _=>False):=fun H2 f r fs ef sx hrw eb=>⟨zero_le _,fun p hp=>⟨zero_le _,fun p1 hp1=>by
   subst ef;have s1:Same H2 (upd H2 p (.lst [])):=Same.upd hp;have e1:upd H2 p (.lst []) p=some (.lst []):=ab_;generalize upd H2 p (.lst [])=H3 at s1 e1 hp1 ⊢;have s2:Same H3 (upd H3 p1 (.lst [])):=Same.upd hp1;have e2:upd H3 p1 (.lst []) p1=some (.lst []):=ab_;generalize upd H3 p1 (.lst [])=H4 at s2 e2 ⊢;refine ck_ rfl fun n dx H5 hn s3 e3=>?_;obtain ⟨t1,t2,t3⟩:=it_ (f:=Vaunid.txt f.word) (ws:=[]) (b:=t.start) (e:=t.start) hp s1 e1 hp1 s2 e2 hn s3 e3;have sA:Same H2 H5:=s1.trans (s2.trans s3);rw [eb] at k;have nr : ∀ a,H2 a=none->a≠row:=fun a ha z=>by
    obtain ⟨_,_,_,q,_,_⟩:=hrw;rw [z,q] at ha;cases ha
   exact k n dx p p1 H5 (sx.trans (ap_.of sA)) (hrw.same sA) e3 (s3 _ _ (s2 _ _ e1)) (s3 _ _ e2) t2 fun a ha=>is_ sx (nin (nr a (t3 a ha))) (t3 a ha)⟩⟩
  rw [jg_,kM_ gt];cases hf:fmOf t2.tok with
  | none =>
   have eb:an_ (t2::l2)=(.app,t2::l2):=by unfold an_;dsimp only;rw [hf]
   exact tail H1 .app (t2::l2) _ (aq_ _) sx1 hr1' eb
  | some f =>
  have eb:an_ (t2::l2)=(f,l2):=by unfold an_;dsimp only;rw [hf]
  refine ⟨rfl,la,t2,l2,hr1',fun b3 H2 ⟨dt3,ct3,e3,_⟩ sx2 hr2=>⟨T.C_q120,dt3,_,e3,T.cl_q120,T.n_q80,_,rfl,?_⟩⟩;exact tail H2 f l2 _ (by rw [kR_ hf]) (sx1.trans sx2) hr2 eb
def o7_ (Cs:Addr) (H:Hp) (s:Addr) (k:String) (o:Addr) (d:Nat):Prop:=∃ dx,H s=some (.ins Cs dx (gr_ (Str.ofString k) o (d:Int)))
def ne_ (Ca Ct Cr Cn Cs C:Addr):Sp:=fun vs H Q E=>∃ (row la todo s o dxo wl pl:Addr) (k:String) (d:Nat) (t:Vaunid.Token) (l:Toks) (xs ps:List V) (f:Str) (b e:Int),vs=[.ref row,.ref todo,.ref s]/\o7_ Cs H s k o d/\bh_ Ca Ct Cr H row la (t::l)/\bf_ (t::l) /\
 H todo=some (.lst xs)/\xs.length<=1000/\H o=some (.ins Cn dxo (bg_ f wl pl b e))/\H pl=some (.lst ps)/\ps.length<=100/\todo≠pl/\la≠todo/\la≠pl /\
 (if d=40 then ExF C E H 8 (t.start:Int)
  else if kindOf t.tok=Vaunid.txt "(" then l≠[]/\∀ (n dx wl' pl':Addr) (ss:List Addr) (H':Hp),ap_ [row,todo,pl] H H'->bh_ Ca Ct Cr H' row la (an_ l).2->H' todo=some (.lst (xs++ss.reverse.map V.ref))->cX_ Cs H' ss ((an_ l).1.sk.map SK.w++[")"]) n (d+1)->H' pl=some (.lst (ps++[.ref n])) ->
   H' n=some (.ins Cn dx (bg_ (S (Vaunid.txt (an_ l).1.word)) wl' pl' (t.start:Int) (t.start:Int)))->H' wl'=some (.lst [])->H' pl'=some (.lst [])->((n::wl'::pl'::ss):List Addr).Nodup->(∀ a∈n::wl'::pl'::ss,H a=none)->Q .non H'
  else match Vaunid.leafOf t.tok with
  | none=>ExF C E H 6 (t.start:Int)
  | some x=>∀ (n:Addr) (F:List Addr) (H':Hp),ap_ [row,pl] H H'->bh_ Ca Ct Cr H' row la l->H' pl=some (.lst (ps++[.ref n]))->TreeAt Cn H' n (gT_ t x) F->F.Nodup->(∀ a∈F,H a=none)->Q .non H')
theorem ok_q69 (T:TX w K mg):FnOk P w K mg base (CX1 P w) 5 T.f_q69 T.d_q69 ["row","todo","step"] (ne_ T.C_q114 T.C_q120 T.C_Row T.C_q124 T.C_q123 T.C_q122):=by
 have G_q26:=b4_ (P:=P) (base:=base) T;have G_q96:=hy_ (P:=P) (base:=base) T;have G_q122:=ok_q122 (P:=P) (base:=base) T;have G_q20:=ok_q20 (P:=P) (base:=base) T;have G_q126:=ok_q126 (P:=P) (base:=base) T;have G_q123:=ok_q123 (P:=P) (base:=base) T;refine T.F_q69.fn.okX sc_q69 (fun _ _ _ _ h=>?_) (fun _ _ _ _ H _ Q E hr h=>?_)
 ·obtain ⟨row,la,todo,s,o,dxo,wl,pl,k,d,t,l,xs,ps,f,b,e,rfl,_⟩:=h
  rfl
 obtain ⟨row,la,todo,s,o,dxo,wl,pl,k,d,t,l,xs,ps,f,b,e,rfl,⟨dxs,hs⟩,hrow,hg,hto,hxs,ho,hpl,hps,n1,n2,n3,kk⟩:=h;obtain ⟨ad,md,sq,_⟩:=T.t_q119;refine ⟨_,(ad_ (aT_ (am_ bn_ (ah_ (pv 2) rfl) (pe_g T.g_q64) (au_ _)) (ae_ (bx_ T.X_q122 G_q122 hr.m rfl T.G_q122 T.b_q13 bi_ rfl (aa_ ai_ (aa_ (ah_ (bl_ (pv 0) T.cl_Row T.m_q26 G_q26 hr.m T.b_q26 .nil ar_) rfl) ac_)))) atz_)
  (ad_ (aT_ (am_ bn_ (ah_ (bl_ (pv 0) T.cl_Row T.m_q26 G_q26 hr.m T.b_q26 .nil ar_) rfl) ak_ (au_ _)) (ad_ (az_ 3 sc_q69.nd (aE_ T.F_q20 G_q20 hr.m ar_ (aa_ (pv 0) ac_)))
  (ad_ (a2_ (c5_ pla sla tla aR_ (pv 1) (aa_ (a5_ T.M_q123 G_q123 hr.m rfl T.G_q123 T.b_q23 .nil ar_ (aa_ ak_ (aa_ (pv 3) (aa_ (aI_ cc_ (ah_ (pv 2) rfl) ai_) ac_)))) ac_)))
  (ae_ (ff_ ip_ rfl (gJ_ rfl T.b_reversed (aa_ (c4_ (pe_r T.g_q119) (ah_ (pv 3) rfl)) ac_)) (pg_q 4 sc_q69.nd) (ae_ (a2_ (c5_ pla sla tla aR_ (pv 1) (aa_ (a5_ T.M_q123 G_q123 hr.m rfl T.G_q123 T.b_q23 .nil ar_ (aa_ (pv 4) (aa_ (pv 3) (aa_ (aI_ cc_ (ah_ (pv 2) rfl) ai_) ac_)))) ac_)))))))) (ad_ (az_ 3 sc_q69.nd (aE_ T.F_q126 G_q126 hr.m aK_ (aa_ (bl_ (pv 0) T.cl_Row T.m_q26 G_q26 hr.m T.b_q26 .nil ar_) ac_)))
  (ae_ (a2_ (bl_ (pv 0) T.cl_Row T.m_q96 G_q96 hr.m T.b_q96 .nil ar_)))))
  (ae_ (a2_ (c5_ pla sla tla aR_ (ah_ (ah_ (pv 2) rfl) rfl) (aa_ (pv 3) ac_)))))),?_⟩
 have hr0:=hrow;obtain ⟨dx,as,i,h1,h2,h3⟩:=hrow;simp! [tSeq,hk_,h9_,bQ_,tFld,ep_,cg_,cE_,hs,h1];refine ⟨T.cl_q123,T.n_q68,_,rfl,rfl,?_⟩;by_cases hd:d=40
 ·subst hd
  rw [if_pos rfl] at kk;rw [if_pos (show V.int ((40:Nat):Int)=V.int 40 from rfl)];exact ⟨rfl,la,t,l,hr0,fun b ⟨dt,ct,e1,_⟩=>⟨T.C_q120,dt,_,e1,T.cl_q120,T.n_q47,_,rfl,by decide,bp_ kk⟩⟩
 rw [if_neg hd] at kk;rw [if_neg (by simp only [V.int.injEq];omega)];refine ⟨rfl,la,t,l,hr0,fun b ⟨dt,ct,e1,_⟩=>⟨T.C_q120,dt,_,e1,T.cl_q120,T.n_q80,_,rfl,rfl,?_⟩⟩;by_cases hk:kindOf t.tok=Vaunid.txt "("
 ·rw [if_pos hk] at kk
  rw [if_pos (by rw [hk,aq_])];obtain ⟨hl,kk⟩:=kk;refine ⟨row,la,t,l,rfl,hr0,fun k hk=>hg k (mem_cons_of_mem _ hk),hl,fun n dx wl' pl' H1 sx1 hr1 e1 e2 e3 nd fr=>?_⟩;generalize hff:(an_ l).1=ff at kk e1;generalize (an_ l).2=rr at kk hr1;have nrow:row≠todo:=bG_ h1 hto (by intro z;cases z);have hto1:H1 todo=some (.lst xs):=sx1 _ _ (nin nrow.symm) hto;have hs1:H1 s=some (.ins T.C_q123 dxs (gr_ (Str.ofString k) o (d:Int))):=sx1 _ _ (nin (bG_ hs h1 (by intro z;injection z with _ _ z;cases z))) hs;have b0:BI T.C_q114 T.C_q120 T.C_Row T.C_q124 T.C_q123 H row la todo xs rr n dx wl' pl' (S (Vaunid.txt ff.word)) (t.start:Int) (d+1) H1 [] []:=⟨sx1.more (by simp),hr1,by rw [hto1];simp,.nil,e1,e2,e3,nd,fr⟩;simp! [tSeq,tBM,bc_,cg_,tFld,hs1,hto1];refine ⟨.inl ⟨rfl,_,SqL.of hto1⟩,T.cl_q123,T.n_q68,_,rfl,_,rfl,?_⟩;refine ck_ rfl fun s1 dx1 H2 hx1 sm1 es1=>⟨_,sm1 _ _ hto1,Nat.lt_of_le_of_lt hxs (by decide),?_⟩;have b1:=b0.add hto n2 (k:=")") hx1 sm1 es1;rw [List.reverse_nil,map_nil,append_nil] at b1;generalize upd H2 todo (.lst (xs++[.ref s1]))=H3 at b1 ⊢;refine bo_ ?_;simp! [tSeq,ep_,oR_,tFld];have wd:=kP_ ad ff;rw [aq_] at wd;refine ⟨_,_,_,b1.node,T.cl_q124,T.n_q94,_,rfl,_,_,rfl,md,_,wd,_,rfl,_,sq ff H3,?_⟩;refine je_ (((ff.kt.map fun s=>Str.ofString s)).map V.str) (fun i σ H'=>(∃ z,σ=[some (.ref row),some (.ref todo),some (.ref s),some (.ref n),z])/\∃ ss,BI T.C_q114 T.C_q120 T.C_Row T.C_q124 T.C_q123 H row la todo xs rr n dx wl' pl' (S (Vaunid.txt ff.word)) (t.start:Int) (d+1) H' ss (ff.kt.drop (ff.kt.length - i)++[")"]))
   ⟨⟨_,rfl⟩,[s1],by rw [sub_zero,drop_length];exact b1⟩ (fun i σ H' _ _=>sq ff H') (fun i x σ H' hx q=>?_) fun σ H' q=>?_
  ·obtain ⟨⟨z,rfl⟩,ss,b2⟩:=q
   have hkl:ss.length=i+1/\ff.kt.length<=5/\i<ff.kt.length:=by
    have h1:=b2.steps.length;rw [length_append,length_drop,length_singleton] at h1;have h2:i<((((ff.kt.map fun s=>Str.ofString s)).map V.str).reverse).length:=(List.getElem?_eq_some_iff.mp hx).1;rw [length_reverse,length_map,length_map] at h2;have h3:=mA_ ff;have h4:ff.kt.length=ff.sk.length:=by rw [<- oq_,length_map]
    omega
   obtain ⟨hl1,hl2,hl3⟩:=hkl;have hkx : ∃ kx,ff.kt.drop (ff.kt.length - (i+1))=kx::ff.kt.drop (ff.kt.length - i)/\x=V.str (Str.ofString kx):=by
    have e1:ff.kt.length - i=ff.kt.length - (i+1)+1:=by omega
    have hlt:ff.kt.length - (i+1)<ff.kt.length:=by omega
    refine ⟨ff.kt[ff.kt.length - (i+1)],by rw [e1];exact drop_eq_getElem_cons hlt,?_⟩;rw [getElem?_reverse (by rw [length_map,length_map];exact hl3),length_map,length_map,getElem?_map,getElem?_map,show ff.kt.length - 1 - i=ff.kt.length - (i+1) by omega,getElem?_eq_getElem hlt] at hx;exact (Option.some.inj hx).symm
   obtain ⟨kx,ek,rfl⟩:=hkx;have hs2:H' s=some (.ins T.C_q123 dxs (gr_ (Str.ofString k) o (d:Int))):=b2.sx _ _ (by
    have q1:s≠row:=bG_ hs h1 (by intro z;injection z with _ _ z;cases z);have q2:s≠todo:=bG_ hs hto (by intro z;cases z);simp [q1,q2]) hs
   have hto2:=b2.todo;simp! [tSeq,tBM,bc_,cg_,tFld,hs2];refine ⟨.inl ⟨rfl,_,SqL.of hto2⟩,T.cl_q123,T.n_q68,_,rfl,_,rfl,?_⟩;refine ck_ rfl fun s2 dx2 H4 hx2 sm2 es2=>⟨_,sm2 _ _ hto2,?_,?_⟩
   ·rw [length_append,length_map,length_reverse]
    exact Nat.lt_of_le_of_lt (show _<=2000 by omega) (by decide)
   refine ⟨s2::ss,?_⟩;rw [ek];exact b2.add hto n2 hx2 sm2 es2
  obtain ⟨⟨z,rfl⟩,ss,b2⟩:=q;rw [length_map,length_map,Nat.sub_self,drop_zero,<- oq_] at b2;have keep : ∀ a u,H a=some u->a≠row->a≠todo->H' a=some u:=fun a u e q1 q2=>b2.sx _ _ (by simp [q1,q2]) e;have hs2:=keep _ _ hs (bG_ hs h1 (by intro z;injection z with _ _ z;cases z)) (bG_ hs hto (by intro z;cases z));have ho2:=keep _ _ ho (bG_ ho h1 (by intro z;injection z with _ _ z;cases z)) (bG_ ho hto (by intro z;cases z));have hpl2:=keep _ _ hpl (bG_ hpl h1 (by intro z;cases z)) n1.symm;simp! [tSeq,tBM,bc_,tFld,hs2];refine ⟨T.cl_q123,T.n_q78,_,rfl,_,rfl,_,_,_,ho2,T.cl_q124,T.n_q70,_,rfl,(show tyV K "list" (.ref pl) _ from .inl ⟨rfl,_,SqL.of hpl2⟩),_,rfl,_,hpl2,Nat.lt_of_le_of_lt hps (by decide),?_⟩;have nn : ∀ a,H a=none->a≠pl:=fun a ha z=>by rw [z,hpl] at ha;cases ha
  have su:ap_ [pl] H' (upd H' pl (.lst (ps++[.ref n]))):=ap_.upd (List.mem_singleton.mpr rfl);have nt : ∀ x∈[pl],NT H' x:=fun x hx=>by rw [List.mem_singleton.mp hx];exact .lst hpl2
  have nrp:row≠pl:=bG_ h1 hpl (by intro z;cases z);have fr2 : ∀ a∈n::wl'::pl'::ss,a∉[pl]:=fun a ha=>nin (nn a (b2.fr a ha));exact kk n dx wl' pl' ss _ ((b2.sx.more (by simp)).trans (su.more (by simp))) (b2.row.keep su nt (nin nrp) (nin n3)) (su _ _ (nin n1) b2.todo) (b2.steps.keep (Kp.of su fun a ha=>fr2 a (by simp [ha]))) ab_
   (su _ _ (fr2 n (by simp)) b2.node) (su _ _ (fr2 wl' (by simp)) b2.words) (su _ _ (fr2 pl' (by simp)) b2.parts) b2.nd b2.fr
 rw [if_neg hk] at kk;rw [if_neg (by rw [aq_];simp only [V.str.injEq,bH_];exact hk)];have gt:=hg t (mem_cons_self ..);refine ⟨rfl,la,t,l,hr0,fun b htk=>⟨b,t,rfl,htk,gt,?_⟩⟩;cases hx:Vaunid.leafOf t.tok with
 | none=>rw [hx] at kk;exact kk
 | some x =>
 rw [hx] at kk;intro n F H1 sm tr nd fr;have hr1:=hr0.same sm;have hr1':=hr1;obtain ⟨dx1,as1,i1,q1,q2,q3⟩:=hr1';refine ⟨_,_,q1,rfl,la,t,l,hr1,fun b2 H2 _ sx2 hr2=>?_⟩;have keep : ∀ a u,H a=some u->a≠row->H2 a=some u:=fun a u e q1=>sx2 _ _ (by simp [q1]) (sm _ _ e);have hs2:=keep _ _ hs (bG_ hs h1 (by intro z;injection z with _ _ z;cases z));have ho2:=keep _ _ ho (bG_ ho h1 (by intro z;injection z with _ _ z;cases z));have hpl2:=keep _ _ hpl (bG_ hpl h1 (by intro z;cases z));simp! [tSeq,tBM,bc_,tFld,hs2];refine ⟨T.cl_q123,T.n_q78,_,rfl,_,rfl,_,_,_,ho2,T.cl_q124,T.n_q70,_,rfl,(show tyV K "list" (.ref pl) _ from .inl ⟨rfl,_,SqL.of hpl2⟩),_,rfl,_,hpl2,Nat.lt_of_le_of_lt hps (by decide),?_⟩;have su:ap_ [pl] H2 (upd H2 pl (.lst (ps++[.ref n]))):=ap_.upd (List.mem_singleton.mpr rfl);have nt : ∀ x∈[pl],NT H2 x:=fun x hx=>by rw [List.mem_singleton.mp hx];exact .lst hpl2
 have nrp:row≠pl:=bG_ h1 hpl (by intro z;cases z);have nn : ∀ a,H a=none->a≠pl/\a≠row:=fun a ha=>⟨fun z=>(by rw [z,hpl] at ha;cases ha),fun z=>(by rw [z,h1] at ha;cases ha)⟩;exact kk n F _ (((ap_.of sm).trans (sx2.more (by simp))).trans (su.more (by simp))) (hr2.keep su nt (nin nrp) (nin n3)) ab_ (tr.keep fun a ha u e=>su _ _ (nin (nn a (fr a ha)).1) (sx2 _ _ (nin (nn a (fr a ha)).2) e)) nd fr
def ol_ (Ca Ct Cr Cn Cs C:Addr):Sp:=fun vs H Q E=>∃ (row la todo wh st:Addr) (H0:Hp) (s:MS) (ss own:List Addr) (r:Res MS),vs=[.ref row,.ref todo,.ref st]/\Same H0 H/\bh_ Ca Ct Cr H row la s.l/\bf_ s.l/\Lv s.fs/\Stk Cn Cs H wh s.fs [] (st::ss) own/\H todo=some (.lst (ss.reverse.map V.ref)) /\
 (row::todo::la::(own++(st::ss))).Nodup/\(∀ a∈row::todo::own,H0 a=none)/\b1_ s=some r/\(match r with
  | .error e=>ExF C E H (e.kind:Int) (e.place:Int)
  | .ok s'=>∀ H',AtM Ca Ct Cr Cn Cs H0 H' row la todo wh s'->Q .non H')
theorem c6_:[V.str "part",V.str "body"]=(([Vaunid.txt "part",Vaunid.txt "body"]).map S).map V.str:=by decide +kernel
theorem ok_q117 (T:TX w K mg):FnOk P w K mg base (CX1 P w) 6 T.f_q117 T.d_q117 ["row","todo","step"] (ol_ T.C_q114 T.C_q120 T.C_Row T.C_q124 T.C_q123 T.C_q122):=by
 have G_q19:=gO_ (P:=P) (base:=base) T;have G_q69:=ok_q69 (P:=P) (base:=base) T;have G_q48:=ok_q48 (P:=P) (base:=base) T;refine T.F_q117.fn.okX sc_q117 (fun _ _ _ _ h=>?_) (fun _ _ _ _ H _ Q E hr h=>?_)
 ·obtain ⟨row,la,todo,wh,st,H0,s,ss,own,r,rfl,_⟩:=h
  rfl
 obtain ⟨row,la,todo,wh,st,H0,⟨fs,l,res⟩,ss,own,r,rfl,sm0,hrow,hg,hlv,hstk,hto,hnd,hfr,hst,k⟩:=h;refine ⟨_,(ad_ (az_ 3 sc_q117.nd (ah_ (pv 2) rfl))
  (ae_ (aT_ (am_ c7_ (ah_ (pv 2) rfl) (pe_r T.g_q66) rfl) (ae_ (a2_ (aE_ T.F_q69 G_q69 hr.m aK_ (aa_ (pv 0) (aa_ (pv 1) (aa_ (pv 2) ac_)))))) (ae_ (aT_ (am_ bn_ (ah_ (pv 2) rfl) ak_ (au_ _)) (ae_ (a2_ (c5_ pla sla tla aR_ (ah_ (pv 3) rfl) (aa_ (ah_ (hu_ (pv 0) T.cl_Row T.m_q19 G_q19 hr.m T.b_q19 .nil aK_ (aa_ ak_ ac_)) rfl) ac_)))) (ae_ (aT_ (am_ bn_ (ah_ (pv 2) rfl) ak_ (au_ _)) (ae_ (a2_ (c5_ pla sla tla aR_ (ah_ (pv 3) rfl) (aa_ (aE_ T.F_q48 G_q48 hr.m ar_ (aa_ (ah_ (hu_ (pv 0) T.cl_Row T.m_q19 G_q19 hr.m T.b_q19 .nil aK_ (aa_ ak_ ac_)) rfl) ac_)) ac_)))) (ae_ (bj_ (pv 3) (ah_ (hu_ (pv 0) T.cl_Row T.m_q19 G_q19 hr.m T.b_q19 .nil aK_ (aa_ (ah_ (pv 2) rfl) ac_)) rfl) rfl))))))))),?_⟩
 have hr0:=hrow;obtain ⟨dx,as,i,h1,h2,h3⟩:=hrow;cases fs with
 | nil=>cases hst
 | cons pf fs =>
 cases l with
 | nil=>cases hst
 | cons t l =>
 obtain ⟨n,ss1,ss2,own2,dxn,wl,pl,as',F,e0,hf,hb,ess,rfl⟩:=hstk.top;have lvs : ∀ s',b1_ ⟨pf::fs,t::l,res⟩=some (.ok s')->Lv s'.fs:=fun s' e=>nG_ hlv e;obtain ⟨form,ws,b,ts,ks,c,d⟩:=pf;have gl:bf_ l:=fun k hk=>hg k (mem_cons_of_mem _ hk);have gt:aP_ t.tok:=hg t (mem_cons_self ..);have hn:=hf.node;have hw:=hf.words;have hp:=hf.parts;have hstp:=hf.steps;have hnd':=hnd;rw [ess] at hnd';have dj:=mf_ hnd';have ra:=dj.ra;have ta:=dj.ta;have laa:=dj.laa;simp at ra ta laa;obtain ⟨rn,rw',rp⟩:=ra;obtain ⟨tn,tw,tp⟩:=ta;obtain ⟨lan,law,lap⟩:=laa;have cnt5:=hlv.1;simp only [cnt] at cnt5;obtain ⟨kw,krest,ek⟩ : ∃ kw krest,ks.map SK.w++[c]=kw::krest:=by
  cases ks with
  | nil=>exact ⟨_,_,rfl⟩
  | cons a r=>exact ⟨_,_,rfl⟩
 replace hstp:cX_ T.C_q123 H ss1 (ks.map SK.w++[c]) n d:=hstp;rw [ek] at hstp;cases hstp with
 | cons h5 h6 =>
 rename_i st' ss1;obtain ⟨dxs,hs⟩:=h5;injection ess with ess1 ess2;subst ess1 ess2;have hc:=hlv.2.1;simp! [tSeq,hk_,fb_,tFld,tBM,bc_,sFld,hs,h1];refine ⟨T.cl_q123,T.n_q78,_,rfl,T.cl_q123,T.n_q87,_,rfl,_,.inr (T.t_q66 H),rfl,rfl,?_⟩;cases ks with
 | nil =>
  injection ek with ek1 ek2;subst ek1 ek2;cases h6;have hc:c=")"\/c="end":=hc;rw [show (V.str (Str.ofString c))=V.str (S (Vaunid.txt c)) by rw [aq_],c6_,in_S,decide_eq_false (by rcases hc with rfl | rfl <;> decide +kernel)]
  rw [if_neg (by simp)];refine ⟨T.cl_q123,T.n_q87,_,rfl,rfl,?_⟩;rw [if_neg (show ¬ V.str (Str.ofString c)=V.str (Str.ofString "name") by simp only [V.str.injEq];rcases hc with rfl | rfl <;> decide +kernel)]
  refine ⟨T.cl_q123,T.n_q87,_,rfl,rfl,?_⟩;rw [if_neg (show ¬ V.str (Str.ofString c)=V.str (Str.ofString "power") by simp only [V.str.injEq];rcases hc with rfl | rfl <;> decide +kernel)]
  refine ⟨rfl,T.cl_q123,T.n_q87,_,rfl,la,t,l,Vaunid.txt c,by rw [<- aq_],hr0,?_⟩;by_cases hk:kindOf t.tok=Vaunid.txt c
  ·rw [if_pos hk]
   intro b2 H1 ⟨dt,ct,e3,_⟩ sx1 hr1;have hn1:H1 n=some (.ins T.C_q124 dxn (bg_ (S form) wl pl (b:Int) (e0:Int))):=sx1 _ _ (nin (Ne.symm rn)) hn;refine ⟨T.C_q120,dt,_,e3,T.cl_q120,T.n_q93,_,rfl,_,rfl,_,_,_,hn1,T.cl_q124,T.n_q98,(by show 5<1000;decide),?_⟩;have su:ap_ [n] H1 (upd H1 n (.ins T.C_q124 dxn (bg_ (S form) wl pl (b:Int) (t.halt_:Int)))):=ap_.upd (List.mem_singleton.mpr rfl);have nt : ∀ x∈[n],NT H1 x:=fun x hx=>by rw [List.mem_singleton.mp hx];exact .node hn1
   have sxx:ap_ [row,n] H (upd H1 n (.ins T.C_q124 dxn (bg_ (S form) wl pl (b:Int) (t.halt_:Int)))):=(sx1.more (by simp)).trans (su.more (by simp));have fin:=ld_ (e':=t.halt_) (res:=res) sm0 hto hr0 hf hb hnd' hfr sxx (hr1.keep su nt (nin rn) (nin lan)) gl ab_;show Q V.non (upd H1 n (.ins T.C_q124 dxn (bg_ (S form) wl pl (b:Int) (t.halt_:Int))));cases fs with
   | nil =>
    have hst':b1_ ⟨[⟨form,ws,b,ts,[],c,d⟩],t::l,res⟩=some (if kindOf t.tok=Vaunid.txt c then .ok ⟨[],l,[PF.done ⟨form,ws,b,ts,[],c,d⟩ t.halt_]⟩ else fault 6 t.start):=rfl;rw [hst',if_pos hk] at hst;injection hst with hst;subst hst;exact k _ fin
   | cons g fs =>
   have hst':b1_ ⟨⟨form,ws,b,ts,[],c,d⟩::g::fs,t::l,res⟩=some (if kindOf t.tok=Vaunid.txt c then .ok ⟨{ g with ts:=g.ts++[PF.done ⟨form,ws,b,ts,[],c,d⟩ t.halt_] }::fs,l,res⟩ else fault 6 t.start):=rfl;have lv2:=lvs _ (by rw [hst',if_pos hk]);rw [hst',if_pos hk] at hst;injection hst with hst;subst hst;exact k _ (fin lv2)
  rw [if_neg hk];have hst' : ∃ z,b1_ ⟨⟨form,ws,b,ts,[],c,d⟩::fs,t::l,res⟩=some (if kindOf t.tok=Vaunid.txt c then z else fault 6 t.start):=⟨_,rfl⟩;obtain ⟨z,hst'⟩:=hst';rw [hst',if_neg hk] at hst;injection hst with hst;subst hst;exact k
 | cons kk ks =>
 injection ek with ek1 ek2;subst ek1 ek2;rw [length_cons] at cnt5;cases kk with
 | n =>
  rw [show (V.str (Str.ofString SK.n.w))=V.str (S (Vaunid.txt "name")) by rw [aq_];rfl,c6_,in_S,decide_eq_false (by decide +kernel)];rw [if_neg (by simp)];refine ⟨T.cl_q123,T.n_q87,_,rfl,rfl,?_⟩;rw [if_pos (show V.str (Str.ofString SK.n.w)=V.str (Str.ofString "name") from rfl)];refine ⟨_,rfl,_,_,_,hn,T.cl_q124,T.n_q55,_,rfl,(show tyV K "list" (.ref wl) _ from .inl ⟨rfl,_,SqL.of hw⟩),rfl,la,t,l,Vaunid.txt "name",aq_ _,hr0,?_⟩;have hst':b1_ ⟨⟨form,ws,b,ts,.n::ks,c,d⟩::fs,t::l,res⟩=some (if kindOf t.tok=Vaunid.txt "name" then .ok ⟨⟨form,ws++[eg_ t.tok],b,ts,ks,c,d⟩::fs,l,res⟩ else fault 6 t.start):=rfl;rw [hst'] at hst;injection hst with hst;by_cases hk:kindOf t.tok=Vaunid.txt "name"
  ·rw [if_pos hk] at hst ⊢
   rw [if_pos hk] at hst';subst hst;have lv2:=lvs _ hst';intro b2 H1 htk sx1 hr1;obtain ⟨wd,e1,e2⟩:=(eN_ gt).mp hk;obtain ⟨dt,ct,e3,e4⟩:=htk;rw [e1] at e4;have ec:ct=V.str (S wd):=e4;have hw1:H1 wl=some (.lst ((ws.map S).map V.str)):=sx1 _ _ (nin (Ne.symm rw')) hw;refine ⟨T.C_q120,dt,_,e3,T.cl_q120,T.n_q24,_,rfl,_,rfl,_,hw1,?_,?_⟩
   ·rw [length_map,length_map]
    exact Nat.lt_of_le_of_lt (show ws.length<=5 by omega) (by decide)
   rw [ec];refine k _ ?_;have su:ap_ [wl] H1 (upd H1 wl (.lst ((ws.map S).map V.str++[.str (S wd)]))):=ap_.upd (List.mem_singleton.mpr rfl);have nt : ∀ x∈[wl],NT H1 x:=fun x hx=>by rw [List.mem_singleton.mp hx];exact .lst hw1
   have sxx:ap_ [row,n,wl,pl] H (upd H1 wl (.lst ((ws.map S).map V.str++[.str (S wd)]))):=(sx1.more (by simp)).trans (su.more (by simp));have s2:ap_ [row,wl] H (upd H1 wl (.lst ((ws.map S).map V.str++[.str (S wd)]))):=(sx1.more (by simp)).trans (su.more (by simp));refine hV_ (as':=as') (G:=[]) (e':=e0) sm0 hto hr0 hf hb hnd' hfr sxx (hr1.keep su nt (nin rw') (nin law)) gl lv2 (s2 _ _ (by simp;exact ⟨Ne.symm rn,dj.nw⟩) hn) ?_ (s2 _ _ (by simp;exact ⟨Ne.symm rp,Ne.symm dj.wp⟩) (by rw [hp,append_nil])) ?_ .nil (by simp) h6
   ·rw [ab_,e1]
    simp only [eg_,map_append,map_cons,map_nil]
   rw [append_nil];exact hf.trees.keep fun a ha o q=>sxx a o (fun m=>dj.out a (by simp [ha]) (by simp at m ⊢;rcases m with h | h | h | h <;> simp [h])) q
  rw [if_neg hk] at hst ⊢;subst hst;exact k
 | pw =>
  rw [show (V.str (Str.ofString SK.pw.w))=V.str (S (Vaunid.txt "power")) by rw [aq_];rfl,c6_,in_S,decide_eq_false (by decide +kernel)];rw [if_neg (by simp)];refine ⟨T.cl_q123,T.n_q87,_,rfl,rfl,?_⟩;rw [if_neg (show ¬ V.str (Str.ofString SK.pw.w)=V.str (Str.ofString "name") by simp only [V.str.injEq];decide +kernel)];refine ⟨T.cl_q123,T.n_q87,_,rfl,rfl,?_⟩;rw [if_pos (show V.str (Str.ofString SK.pw.w)=V.str (Str.ofString "power") from rfl)];refine ⟨_,rfl,_,_,_,hn,T.cl_q124,T.n_q55,_,rfl,(show tyV K "list" (.ref wl) _ from .inl ⟨rfl,_,SqL.of hw⟩),rfl,la,t,l,Vaunid.txt "digit",aq_ _,hr0,?_⟩;have hst':b1_ ⟨⟨form,ws,b,ts,.pw::ks,c,d⟩::fs,t::l,res⟩=some (if kindOf t.tok=Vaunid.txt "digit" then .ok ⟨⟨form,ws++[hK_ t.tok],b,ts,ks,c,d⟩::fs,l,res⟩ else fault 6 t.start):=rfl;rw [hst'] at hst;injection hst with hst;by_cases hk:kindOf t.tok=Vaunid.txt "digit"
  ·rw [if_pos hk] at hst ⊢
   rw [if_pos hk] at hst';subst hst;have lv2:=lvs _ hst';intro b2 H1 htk sx1 hr1;obtain ⟨v,m,e1⟩:=(dy_ gt).mp hk;obtain ⟨dt,ct,e3,e4⟩:=htk;rw [e1] at e4 gt;obtain ⟨am,ec,ha⟩:=e4;have glit:gd_ v:=⟨gt.1,gt.2.1,gt.2.2.1⟩;have hw1:H1 wl=some (.lst ((ws.map S).map V.str)):=sx1 _ _ (nin (Ne.symm rw')) hw;refine ⟨T.C_q120,dt,_,e3,T.cl_q120,T.n_q24,_,rfl,am,v,by rw [ec],ha,glit,_,rfl,_,hw1,?_,?_⟩
   ·rw [length_map,length_map]
    exact Nat.lt_of_le_of_lt (show ws.length<=5 by omega) (by decide)
   refine k _ ?_;have su:ap_ [wl] H1 (upd H1 wl (.lst ((ws.map S).map V.str++[.str (S (Vaunid.shownLit v))]))):=ap_.upd (List.mem_singleton.mpr rfl);have nt : ∀ x∈[wl],NT H1 x:=fun x hx=>by rw [List.mem_singleton.mp hx];exact .lst hw1
   have sxx:ap_ [row,n,wl,pl] H (upd H1 wl (.lst ((ws.map S).map V.str++[.str (S (Vaunid.shownLit v))]))):=(sx1.more (by simp)).trans (su.more (by simp));have s2:ap_ [row,wl] H (upd H1 wl (.lst ((ws.map S).map V.str++[.str (S (Vaunid.shownLit v))]))):=(sx1.more (by simp)).trans (su.more (by simp));refine hV_ (as':=as') (G:=[]) (e':=e0) sm0 hto hr0 hf hb hnd' hfr sxx (hr1.keep su nt (nin rw') (nin law)) gl lv2 (s2 _ _ (by simp;exact ⟨Ne.symm rn,dj.nw⟩) hn) ?_ (s2 _ _ (by simp;exact ⟨Ne.symm rp,Ne.symm dj.wp⟩) (by rw [hp,append_nil])) ?_ .nil (by simp) h6
   ·rw [ab_,e1]
    simp only [hK_,map_append,map_cons,map_nil]
   rw [append_nil];exact hf.trees.keep fun a ha o q=>sxx a o (fun m=>dj.out a (by simp [ha]) (by simp at m ⊢;rcases m with h | h | h | h <;> simp [h])) q
  rw [if_neg hk] at hst ⊢;subst hst;exact k
 | p bb =>
 rw [show (V.str (Str.ofString (SK.p bb).w))=V.str (S (Vaunid.txt (SK.p bb).w)) by rw [aq_],c6_,in_S,decide_eq_true (by cases bb <;> decide +kernel)]
 rw [if_pos rfl];have hlen:((ss1++ss2).reverse.map V.ref).length<=1000:=by
  have q1:=hb.len hlv.2.2.2.2;have q2:=hf.steps.length;have q3:=hlv.2.2.1;have q4:=hlv.2.2.2.1;rw [length_map,length_reverse,length_append];simp only [length_append,length_map,length_cons,length_nil] at q2 q3 q4;omega
 refine ⟨row,la,todo,st,n,dxn,wl,pl,(SK.p bb).w,d,t,l,_,as'.map V.ref,S form,(b:Int),(e0:Int),rfl,⟨dxs,hs⟩,hr0,hg,hto,hlen,hn,by rw [hp,append_nil],?_,tp,Ne.symm dj.tla,lap,?_⟩
 ·rw [length_map,hf.trees.length]
  show ts.length<=100;omega
 have hst':b1_ ⟨⟨form,ws,b,ts,.p bb::ks,c,d⟩::fs,t::l,res⟩=(if d=40 then some (fault 8 t.start)
   else if kindOf t.tok=Vaunid.txt "(" then (if l.isEmpty=true then none else some (.ok ⟨dK_ t.start (d+1) l::⟨form,ws,b,ts,ks,c,d⟩::fs,(an_ l).2,res⟩))
   else match Vaunid.leafOf t.tok with
    | some x=>some (.ok ⟨⟨form,ws,b,ts++[gT_ t x],ks,c,d⟩::fs,l,res⟩)
    | none=>some (fault 6 t.start)):=rfl
 rw [hst'] at hst;by_cases hd:d=40
 ·rw [if_pos hd] at hst ⊢
  injection hst with hst;subst hst;exact k
 rw [if_neg hd] at hst hst' ⊢;by_cases hk:kindOf t.tok=Vaunid.txt "("
 ·rw [if_pos hk] at hst hst' ⊢
  by_cases hl:l.isEmpty=true
  ·rw [if_pos hl] at hst
   cases hst
  rw [if_neg hl] at hst hst';injection hst with hst;subst hst;have lv2:=lvs _ hst';refine ⟨fun z=>hl (by rw [z];rfl),fun n' dx' wl' pl' ss' H' sx hr' hto' st' pa' no' wo' pp' nd' fr'=>k H' ?_⟩;have gb:bf_ (an_ l).2:=by
   obtain ⟨pre,epre⟩:=eZ_ l;rw [epre] at gl;exact gl.suf
  exact mj_ (pn:=dK_ t.start (d+1) l) (e':=t.start) sm0 hto hr0 hf hb hnd' hfr lv2 sx hr' gb hto' st' pa' no' wo' pp' rfl rfl nd' fr' rfl rfl rfl rfl h6
 rw [if_neg hk] at hst hst' ⊢;cases hx:Vaunid.leafOf t.tok with
 | none =>
  rw [hx] at hst;injection hst with hst;subst hst;exact k
 | some x =>
 rw [hx] at hst hst';injection hst with hst;subst hst;have lv2:=lvs _ hst';intro n' F' H' sx hr' pa' tr' nd' fr';have out : ∀ a,a∉[row,n,wl,pl]->a∉[row,pl]:=fun a m z=>m (by simp at z ⊢;rcases z with h | h <;> simp [h])
 refine k H' (hV_ (as':=as'++[n']) (G:=F') (e':=e0) sm0 hto hr0 hf hb hnd' hfr (sx.more (by simp)) hr' gl lv2 (sx _ _ (by simp;exact ⟨Ne.symm rn,dj.np⟩) hn) (sx _ _ (by simp;exact ⟨Ne.symm rw',dj.wp⟩) hw) (by rw [pa',map_append];rfl) ?_ nd' fr' h6);exact (hf.trees.keep fun a ha o q=>sx a o (fun m=>dj.out a (by simp [ha]) (by simp at m ⊢;rcases m with h | h <;> simp [h])) q).snoc tr'
end
set_option maxHeartbeats 2000000
section
variable {P:Program}{w:World}{K:PySem.W.Frag}{mg:Str->Option Value}{base:Heap}
def fc_ (Cn:Addr):Sp:=fun vs H Q _=>∃ (a:Addr) (tr:Tr) (F:List Addr),vs=[.ref a]/\TreeAt Cn H a tr F/\(bb_ 1 tr).length<=10000/\∀ (p:Addr) (items:List Addr) (H':Hp),Same H H'->H' p=some (.lst (items.map V.ref))->Paired (bY_ Cn H H') items (bb_ 1 tr)->Q (.ref p) H'
theorem bY_.keep {Cn:Addr}{H H1 H2:Hp}{xs:List Addr} (sx:ap_ xs H1 H2) (nt : ∀ x∈xs,∃ l,H1 x=some (.lst l)) {it:Addr}{p:Nat×Tr} (h:bY_ Cn H H1 it p):bY_ Cn H H2 it p:=by
 obtain ⟨a,F,e,t⟩:=h;refine ⟨a,F,sx _ _ (fun m=>?_) e,t⟩;obtain ⟨l,q⟩:=nt _ m;rw [q] at e;cases e
theorem a7_ {A B:Type}{R:A->B->Prop}{l l2:List A}{m m2:List B} (h:Paired R l m) (q:Paired R l2 m2):Paired R (l++l2) (m++m2):=by
 induction h with
 | nil=>exact q
 | cons r t ih=>exact .cons r ih
theorem ok_q103 (T:TX w K mg):FnOk P w K mg base CX0 1 T.f_q103 T.d_q103 ["term"] (fc_ T.C_q124):=by
 refine T.F_q103.fn.ok sc_q103 (fun _ _ _ _ h=>?_) (fun _ _ _ _ H _ Q E hr h=>?_)
 ·obtain ⟨a,tr,F,rfl,_⟩:=h
  rfl
 obtain ⟨a,tr,F,rfl,htr,hlen,k⟩:=h;refine ⟨_,(ad_ (az_ 1 sc_q103.nd (ax_ ac_))
  (ad_ (az_ 2 sc_q103.nd (ax_ (aa_ (bk_ (aa_ (pv 0) (aa_ ai_ ac_))) ac_)))
  (ad_ (bq_ PassesOwn.never (fR_ (pv 2) (fun _=>rfl)) (ad_ (az_ 3 sc_q103.nd (kf_ pla slp tlp kt_ (pv 2)))
  (ad_ (a2_ (c5_ pla sla tla aR_ (pv 1) (aa_ (pv 3) ac_)))
  (ae_ (ff_ PassesOwn.never rfl (ez_ rfl T.b_reversed (aa_ (ah_ (aC_ cn_ (pv 3) ai_ (fun _ _=>rfl)) rfl) ac_)) (pg_q 4 sc_q103.nd) (ae_ (a2_ (c5_ pla sla tla aR_ (pv 2) (aa_ (bk_ (aa_ (pv 4) (aa_ (aI_ cc_ (aC_ cn_ (pv 3) ai_ (fun _ _=>rfl)) ai_) ac_))) ac_)))))))))
  (ae_ (aj_ (pv 1)))))),?_⟩
 simp! [tSeq];refine ⟨zero_le _,fun fd hfd=>⟨by decide,fun it0 hit0=>⟨by decide,fun td htd=>?_⟩⟩⟩;have nf:fd≠it0:=fun z=>by rw [z,ab_] at hit0;cases hit0
 have hit00:H it0=none:=by rw [al_ (Ne.symm nf)] at hit0;exact hit0
 have ntd:td≠it0:=fun z=>by rw [z,ab_] at htd;cases htd
 have ntf:td≠fd:=fun z=>by rw [al_ ntd,z,ab_] at htd;cases htd
 have htd0:H td=none:=by rw [al_ ntd,al_ ntf] at htd;exact htd
 obtain ⟨Pv,hPv⟩ : ∃ Pv:Nat->L2.St->Hp->Prop,Pv=fun m σ H'=>Same H H'/\∃ (dn sk:List Addr) (dl sl:List (Nat×Tr)) (z z2:Option V),m=(dg_ sl).length/\σ=[some (.ref a),some (.ref fd),some (.ref td),z,z2]/\H' fd=some (.lst (dn.map V.ref))/\H' td=some (.lst (sk.map V.ref)) /\
  Paired (bY_ T.C_q124 H H') dn dl/\Paired (bY_ T.C_q124 H H') sk sl/\bb_ 1 tr=dl++dg_ sl:=⟨_,rfl⟩
 refine bL_ Pv _ (by
  rw [hPv];refine ⟨?_,[],[it0],[],[(1,tr)],none,none,rfl,rfl,?_,ab_,.nil,.cons ⟨a,F,?_,htr⟩ .nil,?_⟩
  ·exact (Same.upd hfd).trans ((Same.upd hit0).trans (Same.upd htd))
  ·rw [al_ (Ne.symm ntf),al_ nf]
   exact ab_
  ·rw [al_ (Ne.symm ntd)]
   exact ab_
  show bb_ 1 tr=[]++dg_ ([]++[(1,tr)]);rw [cy_];show _=bb_ 1 tr++[];rw [append_nil]) fun m σ H' hp=>?_
 rw [hPv] at hp;obtain ⟨sm,dn,sk,dl,sl,z,z2,rfl,rfl,hf,ht,pd,ps,hfl⟩:=hp;simp! [tSeq];by_cases hsk:sk=[]
 ·subst hsk
  cases ps;refine ⟨false,.inl ⟨_,SqL.of ht,rfl⟩,?_⟩;rw [if_neg (by simp)];rw [show dg_ []=[] from rfl,append_nil] at hfl;exact k fd dn H' sm hf (by rw [hfl];exact pd)
 refine ⟨true,.inl ⟨_,SqL.of ht,by cases sk with | nil=>exact absurd rfl hsk | cons _ _=>rfl⟩,?_⟩;rw [if_pos rfl];refine ⟨_,fun _ _ z=>z,?_⟩;obtain ⟨sk',it,sl',⟨d,t⟩,rfl,rfl,ps',hit⟩:=eC_ ps hsk;obtain ⟨n,Fn,hitv,htn⟩:=hit;have hlens:dn.length<=10000/\sk'.length<=10000/\sk'.length+t.parts.length<=10000:=by
  have q1:=Paired.length pd;have q2:=Paired.length ps';have q3:=kS_ (sl'++(t.parts.reverse.map fun x=>(d+1,x)));rw [cQ_,length_append,length_map,length_reverse] at q3;rw [hfl,length_append,cy_,length_append] at hlen;have q4:bb_ d t=(d,t)::cB_ (d+1) t.parts:=by cases t;rfl
  rw [q4,length_cons] at hlen;rw [length_append] at q3;omega
 obtain ⟨hl1,hl2,hl3⟩:=hlens;have ht':H' td=some (.lst (sk'.map V.ref++[.ref it])):=by rw [ht,map_append];rfl
 simp! [tSeq,tBM0,rPop,tBM,bc_];refine ⟨.inl ⟨rfl,_,SqL.of ht⟩,_,ht',V.ref it,by simp,?_⟩;rw [List.dropLast_concat];have sx1:ap_ [td] H' (upd H' td (.lst (sk'.map V.ref))):=ap_.upd (List.mem_singleton.mpr rfl);have e1:upd H' td (.lst (sk'.map V.ref)) td=some (.lst (sk'.map V.ref)):=ab_;generalize upd H' td (.lst (sk'.map V.ref))=H1 at sx1 e1 ⊢;have hf1:=sx1 _ _ (nin (Ne.symm ntf)) hf;refine ⟨.inl ⟨rfl,_,SqL.of hf1⟩,_,hf1,by rw [length_map];exact Nat.lt_of_le_of_lt hl1 (by decide),?_⟩;have sx2:ap_ [fd] H1 (upd H1 fd (.lst (dn.map V.ref++[.ref it]))):=ap_.upd (List.mem_singleton.mpr rfl);have e2:upd H1 fd (.lst (dn.map V.ref++[.ref it])) fd=some (.lst (dn.map V.ref++[.ref it])):=ab_;have e12:=sx2 _ _ (nin ntf) e1;generalize upd H1 fd (.lst (dn.map V.ref++[.ref it]))=H2 at sx2 e2 e12 ⊢;have sx12:ap_ [fd,td] H' H2:=(sx1.more (by simp)).trans (sx2.more (by simp));have nt12 : ∀ x∈[fd,td],∃ l,H' x=some (.lst l):=fun x hx=>by
  rcases List.mem_cons.mp hx with rfl | hx
  ·exact ⟨_,hf⟩
  rw [List.mem_singleton.mp hx];exact ⟨_,ht⟩
 have pd2:Paired (bY_ T.C_q124 H H2) dn dl:=Paired.mapP pd fun _ _ q=>q.keep sx12 nt12;have ps2:Paired (bY_ T.C_q124 H H2) sk' sl':=Paired.mapP ps' fun _ _ q=>q.keep sx12 nt12;have it2:bY_ T.C_q124 H H2 it (d,t):=bY_.keep sx12 nt12 ⟨n,Fn,hitv,htn⟩;obtain ⟨n',Fn',hitv2,_⟩:=it2;have hn':n'=n:=by
  have:=sx12 _ _ (fun m=>by
   obtain ⟨l,q⟩:=nt12 _ m;rw [q] at hitv;cases hitv) hitv
  rw [this] at hitv2;cases hitv2;rfl
 subst hn';have sm2:Same H H2:=sx12.base sm (fun x hx=>by
  rcases List.mem_cons.mp hx with rfl | hx
  ·exact hfd
  rw [List.mem_singleton.mp hx];exact htd0)
 cases htn with
 | @mk _ dxn wl pl f ws b e as ps3 G t1 t2 t3 t4 =>
 have t1':=sm2 _ _ t1;have t3':=sm2 _ _ t3;refine bo_ ?_;simp! [tSeq,iRev,tFld];refine ⟨_,SqT.of hitv2,_,rfl,_,rfl,_,_,_,t1',T.cl_q124,T.n_q70,_,rfl,_,rfl,_,SqL.of t3',?_⟩;refine g0_ (as.map V.ref) (fun i σ H3=>(∃ z2,σ=[some (.ref a),some (.ref fd),some (.ref td),some (.ref it),z2])/\ap_ [td] H2 H3/\∃ nw,H3 td=some (.lst ((sk'++nw).map V.ref))/\Paired (bY_ T.C_q124 H H3) nw ((ps3.reverse.take i).map fun t=>(d+1,t)))
  ⟨⟨_,rfl⟩,fun _ _ _ q=>q,[],by rw [append_nil];exact e12,.nil⟩ (fun i σ H3 _ q=>SqL.of (q.2.1 _ _ (nin (ag_ t3 htd0)) t3')) (fun i x σ H3 hx q=>?_) fun σ H3 q=>?_
 ·obtain ⟨⟨z2,rfl⟩,sx3,nw,hnw,pnw⟩:=q
  have hit3:=sx3 _ _ (nin (bG_ hitv2 e12 (by intro z;cases z))) hitv2;rw [<- List.map_reverse,getElem?_map] at hx;cases qa:as.reverse[i]? with
  | none=>rw [qa] at hx;cases hx
  | some c =>
  rw [qa] at hx;cases hx;have hil:i<as.length:=by
   have:=(List.getElem?_eq_some_iff.mp qa).1;rw [length_reverse] at this;exact this
  have hal:=t4.length;rw [getElem?_reverse hil] at qa;obtain ⟨tc,Gc,hc1,hc2⟩:=t4.get qa;have hnl:nw.length=i:=by
   have:=Paired.length pnw;rw [length_map,length_take,length_reverse] at this;omega
  simp! [tSeq,tBM,bc_];refine ⟨.inl ⟨rfl,_,SqL.of hnw⟩,_,SqT.of hit3,_,rfl,_,rfl,by decide,fun q hq=>?_⟩;have s4:Same H3 (upd H3 q (.tup [.ref c,.int ((d:Int)+1)])):=Same.upd hq;have e4:upd H3 q (.tup [.ref c,.int ((d:Int)+1)]) q=some (.tup [.ref c,.int ((d:Int)+1)]):=ab_;generalize upd H3 q (.tup [.ref c,.int ((d:Int)+1)])=H4 at s4 e4 ⊢;have hnw4:=s4 _ _ hnw;have sx5:ap_ [td] H4 (upd H4 td (.lst ((sk'++nw).map V.ref++[.ref q]))):=ap_.upd (List.mem_singleton.mpr rfl);have nt5 : ∀ x∈[td],∃ l,H4 x=some (.lst l):=fun x hx=>by rw [List.mem_singleton.mp hx];exact ⟨_,hnw4⟩
  refine ⟨_,hnw4,?_,sx3.trans ((ap_.of s4).trans sx5),nw++[q],?_,?_⟩
  ·rw [length_map,length_append]
   have:(Tr.mk f ws b e ps3).parts.length=ps3.length:=rfl;exact Nat.lt_of_le_of_lt (show _<=10000 by omega) (by decide)
  ·rw [<- append_assoc,map_append (l₁:=sk'++nw)]
   rfl
  have hr:ps3.reverse[i]? = some tc:=by rw [getElem?_reverse (by omega),<- hal];exact hc1
  rw [take_succ,hr,map_append (f:=fun t=>(d+1,t))];refine bd_ (Paired.mapP pnw fun _ _ q=>(q.keep (ap_.of (xs:=[]) s4) (by simp)).keep sx5 nt5) ?_;exact bY_.keep sx5 nt5 ⟨c,Gc,e4,hc2⟩
 obtain ⟨⟨z2,rfl⟩,sx3,nw,hnw,pnw⟩:=q;have hal:=t4.length;rw [length_map,hal,<- length_reverse,take_length] at pnw;have nt3 : ∀ x∈[td],∃ l,H2 x=some (.lst l):=fun x hx=>by rw [List.mem_singleton.mp hx];exact ⟨_,e12⟩
 refine ⟨(dg_ (sl'++(ps3.reverse.map fun t=>(d+1,t)))).length,?_,?_⟩
 ·rw [cQ_,cy_]
  show _<((d,Tr.mk f ws b e ps3)::cB_ (d+1) ps3++dg_ sl').length;rw [cons_append,length_cons];exact lt_succ_self _
 rw [hPv];refine ⟨sx3.base sm2 (fun x hx=>by rw [List.mem_singleton.mp hx];exact htd0),dn++[it],sk'++nw,dl++[(d,.mk f ws b e ps3)],_,_,_,rfl,rfl,?_,hnw,?_,?_,?_⟩
 ·rw [sx3 _ _ (nin (Ne.symm ntf)) e2,map_append]
  rfl
 ·exact bd_ (Paired.mapP pd2 fun _ _ q=>q.keep sx3 nt3) (bY_.keep sx3 nt3 ⟨n',_,hitv2,.mk t1 t2 t3 t4⟩)
 ·exact a7_ (Paired.mapP ps2 fun _ _ q=>q.keep sx3 nt3) pnw
 rw [hfl,cQ_,cy_,append_assoc];rfl
def ib_ (Cn C:Addr):Sp:=fun vs H Q E=>∃ (a:Addr) (tr:Tr) (F:List Addr),vs=[.ref a]/\TreeAt Cn H a tr F/\(bb_ 1 tr).length<=10000/\(match limT 0 (bb_ 1 tr) with
 | none=>∀ H',Same H H'->Q .non H'
 | some (k,b)=>ExF C E H (k:Int) (b:Int))
theorem ok_q37 (T:TX w K mg):FnOk P w K mg base (CX1 P w) 3 T.f_q37 T.d_q37 ["term"] (ib_ T.C_q124 T.C_q122):=by
 have G_q103:=ok_q103 (P:=P) (base:=base) T;have G_q122:=ok_q122 (P:=P) (base:=base) T;refine T.F_q37.fn.okX sc_q37 (fun _ _ _ _ h=>?_) (fun _ _ _ _ H _ Q E hr h=>?_)
 ·obtain ⟨a,tr,F,rfl,_⟩:=h
  rfl
 obtain ⟨a,tr,F,rfl,htr,hlen,k⟩:=h;refine ⟨_,(ae_ (ff_ ip_ rfl (nq_ rfl T.b_enumerate (aa_ (aE_ T.F_q103 G_q103 hr.m ar_ (aa_ (pv 0) ac_)) ac_)) (ow_ rfl (ik_ (pg_q 1 sc_q37.nd) (ik_ (pg_q 2 sc_q37.nd) nr_))) (ad_ (aT_ (am_ hx_ (aC_ cn_ (pv 2) ai_ (fun _ _=>rfl)) (pe_g T.g_q64) (au_ _)) (ae_ (bx_ T.X_q122 G_q122 hr.m rfl T.G_q122 T.b_q13 bi_ rfl (aa_ ai_ (aa_ (ah_ (aC_ cn_ (pv 2) ai_ (fun _ _=>rfl)) rfl) ac_)))) atz_)
  (ae_ (aT_ (am_ bn_ (pv 1) (pe_g T.g_q74) (au_ _)) (ae_ (bx_ T.X_q122 G_q122 hr.m rfl T.G_q122 T.b_q13 bi_ rfl (aa_ ai_ (aa_ (ah_ (aC_ cn_ (pv 2) ai_ (fun _ _=>rfl)) rfl) ac_)))) atz_))))),?_⟩
 refine bo_ ?_;simp! [tSeq,fc_,oS_];refine ⟨tr,F,htr,hlen,fun p items H1 s1 hp hit=>⟨_,SqL.of hp,?_⟩⟩;refine jf_ (items.map V.ref) (fun i σ H2=>Same H1 H2/\(∃ z1 z2,σ=[some (.ref a),z1,z2])/\limT 0 (bb_ 1 tr)=limT i ((bb_ 1 tr).drop i)) ⟨Same.refl _,⟨_,_,rfl⟩,rfl⟩ (fun i σ H2 _ q=>SqL.of (q.1 _ _ hp)) (fun i x σ H2 A hx q hA=>?_) fun σ H2 q=>?_
 ·obtain ⟨sm,⟨z1,z2,rfl⟩,hlim⟩:=q
  rw [getElem?_map] at hx;cases qa:items[i]? with
  | none=>rw [qa] at hx;cases hx
  | some it =>
  rw [qa] at hx;cases hx;obtain ⟨⟨d,t⟩,hd,n,G,hit1,htn⟩:=dt_ hit qa;have hdr:(bb_ 1 tr).drop i=(d,t)::(bb_ 1 tr).drop (i+1):=by
   obtain ⟨hlt,e⟩:=List.getElem?_eq_some_iff.mp hd;rw [drop_eq_getElem_cons hlt,e]
  rw [hdr] at hlim;have hlim':limT i ((d,t)::(bb_ 1 tr).drop (i+1))=if 40<d then some (8,t.b) else if i=300 then some (9,t.b) else limT (i+1) ((bb_ 1 tr).drop (i+1)):=rfl;rw [hlim'] at hlim;have s3:Same H2 (upd H2 A (.tup [.int (i:Nat),.ref it])):=Same.upd hA;have e3:upd H2 A (.tup [.int (i:Nat),.ref it]) A=some (.tup [.int (i:Nat),.ref it]):=ab_;generalize upd H2 A (.tup [.int (i:Nat),.ref it])=H3 at s3 e3 ⊢;have sm3:=sm.trans s3;have hit3:=sm3 _ _ hit1;have htn3:=htn.same (s1.trans sm3);simp! [tSeq,gTup,oU_,gNil,cE_,tFld];have hnode : ∃ dxn f wl pl e,H3 n=some (.ins T.C_q124 dxn (bg_ f wl pl (t.b:Int) e)):=by
   cases htn3 with
   | @mk _ dxn wl pl f ws b e as ps3 G t1 t2 t3 t4=>exact ⟨dxn,_,wl,pl,_,t1⟩
  obtain ⟨dxn,f,wl,pl,e,hn⟩:=hnode;refine ⟨_,SqT.of e3,rfl,_,_,rfl,_,_,rfl,rfl,_,rfl,_,SqT.of hit3,_,rfl,_,rfl,?_⟩;by_cases h40:40<d
  ·rw [if_pos h40] at hlim
   rw [hlim] at k;rw [if_pos (show (40:Int)<(d:Int) by omega)];exact ⟨_,rfl,_,SqT.of hit3,_,rfl,_,rfl,_,_,_,hn,T.cl_q124,T.n_q58,_,rfl,by decide,bp_ (k.mono (s1.trans sm3))⟩
  rw [if_neg h40] at hlim;rw [if_neg (show ¬ (40:Int)<(d:Int) by omega)];refine ⟨rfl,?_⟩;by_cases h300:i=300
  ·rw [if_pos h300] at hlim
   rw [hlim] at k;rw [if_pos (by rw [h300];rfl)];exact ⟨_,rfl,_,SqT.of hit3,_,rfl,_,rfl,_,_,_,hn,T.cl_q124,T.n_q58,_,rfl,by decide,bp_ (k.mono (s1.trans sm3))⟩
  rw [if_neg h300] at hlim;rw [if_neg (by simp only [V.int.injEq];omega)];exact ⟨sm3,hlim⟩
 obtain ⟨sm,⟨z1,z2,rfl⟩,hlim⟩:=q;have e1:items.length=(bb_ 1 tr).length:=Paired.length hit;rw [length_map,e1,drop_length] at hlim;rw [hlim] at k;exact k H2 (s1.trans sm)
def d6_ (Cn:Addr) (x:Term) (v:V) (H:Hp):Prop:=∃ (b:Addr) (tr:Tr) (F:List Addr),v = .ref b/\Rep x tr/\TreeAt Cn H b tr F/\(bb_ 1 tr).length<=300/\hM_ tr<=40/\WB (allX x)
def op_ (Cn C:Addr) (K:PySem.W.Frag):Sp:=fun vs H Q E=>∃ (a:Addr) (t:List Nat),vs=[.ref a]/\SqL K H a (bs t)/\t.length<=10000/\RES C H Q E (readCore t) (d6_ Cn)
theorem ei_ (tr:Tr):(bb_ 1 tr).length=(ct_ tr).length:=by rw [<- cW_ 1 tr,length_map]
theorem hi_ : ∀ (n p:Nat) (s:List Nat) (l:List Vaunid.Token),tokens true n p s = .ok l->l.length<=s.length
 | n,p,[],l,h=>by
  have:l=[]:=by cases n <;> (cases h;rfl)
  subst this;simp
 | 0,p,c::r,l,h=>by
  cases h;simp
 | n+1,p,c::r,l,h=>by
  unfold tokens at h;rw [length_cons];split at h
  ·have:=hi_ n _ r l h
   omega
  split at h
  ·rename_i hz
   cases hz.1
  cases q:token true p (c::r) with
  | error e=>rw [q] at h;cases h
  | ok x =>
  obtain ⟨k,s⟩:=x;rw [q] at h;dsimp only at h;have tf:=bO_ q;have hs:s.length<=r.length:=by
   have h3:=tf.lt;rw [tf.rest,length_drop,length_cons];omega
  cases q2:tokens true n k.halt_ s with
  | error e=>rw [q2] at h;cases h
  | ok l2 =>
  rw [q2] at h;cases h;have:=hi_ n _ s l2 q2;rw [length_cons];omega
theorem lr_ {t u:TS}{D:Ends}{σ:L2.St}{H:Hp} (h:t { D with nx:=u D } σ H):tSeq t u D σ H:=h
theorem ok_q92 (T:TX w K mg):FnOk P w K mg base (CX1 P w) 12 T.f_q92 T.d_q92 ["text"] (op_ T.C_q124 T.C_q122 K):=by
 have G_q53:=ok_q53 (P:=P) (base:=base) T;have G_Row:=oE_ (P:=P) (base:=base) T;have G_q124:=ok_q124 (P:=P) (base:=base) T;have G_q123:=ok_q123 (P:=P) (base:=base) T;have G_q117:=ok_q117 (P:=P) (base:=base) T;have G_q37:=ok_q37 (P:=P) (base:=base) T;refine T.F_q92.fn.okX sc_q92 (fun _ _ _ _ h=>?_) (fun _ _ _ _ H _ Q E hr h=>?_)
 ·obtain ⟨a,t,rfl,_⟩:=h
  rfl
 obtain ⟨a,t,rfl,ht,hl,k⟩:=h;refine ⟨_,(ad_ (az_ 1 sc_q92.nd (a5_ T.M_Row G_Row hr.m rfl T.G_Row T.b_q25 .nil ar_ (aa_ (aE_ T.F_q53 G_q53 hr.m aK_ (aa_ (pv 0) ac_)) (aa_ (aG_ aZ_ rfl T.b_len PySem.boot_len (aa_ (pv 0) ac_)) ac_))))
  (ad_ (az_ 2 sc_q92.nd (a5_ T.M_q124 G_q124 hr.m rfl T.G_q124 T.b_q15 .nil ar_ (aa_ ak_ (aa_ (ax_ ac_) (aa_ (ax_ ac_) (aa_ ai_ (aa_ ai_ ac_)))))))
  (ad_ (az_ 3 sc_q92.nd (ax_ (aa_ (a5_ T.M_q123 G_q123 hr.m rfl T.G_q123 T.b_q23 .nil ar_ (aa_ ak_ (aa_ (pv 2) (aa_ ai_ ac_)))) (aa_ (a5_ T.M_q123 G_q123 hr.m rfl T.G_q123 T.b_q23 .nil ar_ (aa_ ak_ (aa_ (pv 2) (aa_ ai_ ac_)))) ac_))))
  (ad_ (bq_ ip_ (fR_ (pv 3) (fun _=>rfl)) (ae_ (a2_ (aE_ T.F_q117 G_q117 hr.m aK_ (aa_ (pv 1) (aa_ (pv 3) (aa_ (kf_ pla slp tlp kt_ (pv 3)) ac_)))))))
  (ad_ (az_ 4 sc_q92.nd (aC_ ao_ (ah_ (pv 2) rfl) ai_ (fun _ _=>rfl)))
  (ad_ (a2_ (aE_ T.F_q37 G_q37 hr.m aK_ (aa_ (pv 4) ac_)))
  (ae_ (aj_ (pv 4))))))))),?_⟩
 refine lr_ ?_;simp! [gw_,cg_];rw [hq_] at k;refine ⟨t,ht,hl,?_⟩;cases qt:allTokens true t with
 | error e=>rw [qt] at k;exact k
 | ok l =>
 rw [qt] at k;intro v H1 s1 ⟨b,as,ev,hb,hto⟩;subst ev;refine ⟨bs t,.inl (s1.seq ht),?_⟩;rw [bW_];have gts:=cO_ _ _ _ _ hl qt;have ltk:=hi_ _ _ _ _ qt;have las:as.length=l.length:=Paired.length hto;have run : ∃ R n,Run (fa_ t.length l) R n/\(match R with
   | .error e=>ExF T.C_q122 E H (e.kind:Int) (e.place:Int)
   | .ok wt=>∃ x tr e,wt = .mk (Vaunid.txt "whole") [] 0 e [tr]/\Rep x tr/\hM_ tr<=40/\(ct_ tr).length<=10000/\(if 300<(ct_ tr).length then ExF T.C_q122 E H 9 (((ct_ tr).getD 300 0:Nat):Int) else ∀ v H',Same H H'->d6_ T.C_q124 x v H'->Q v H')):=by
  have wr:=ju_ t.length l (fun k hk=>(gts k hk).1) (fun k hk=>(gts k hk).2);dsimp only at k;cases qc:bu_ t.length 40 l with
  | error e =>
   rw [qc] at wr k;obtain ⟨n,hn⟩:=wr;exact ⟨_,n,hn,k⟩
  | ok v =>
  obtain ⟨x,pl,r⟩:=v;rw [qc] at wr k;cases r with
  | cons k0 r =>
   obtain ⟨n,hn⟩:=wr;exact ⟨_,n,hn,k⟩
  | nil =>
  obtain ⟨tr,n,e,w1,w2,w3,w4,w5⟩:=wr;refine ⟨_,n,w5,x,tr,e,rfl,w1,w3,by rw [w2];omega,?_⟩;rw [w2];dsimp only at k;by_cases h3:300<pl.length
  ·rw [if_pos h3] at k ⊢
   exact k
  rw [if_neg h3] at k ⊢;exact k
 obtain ⟨R,n0,hrun,hR⟩:=run;intro row dxr hrow0 hdxr hner;have sA:=aX_ (o1:=HO.own row) (o2:=HO.ins T.C_Row dxr []) hrow0 hdxr;refine ⟨row,dxr,b,as,l,t.length,rfl,ab_,sA _ _ hb,by omega,Paired.mapP hto fun _ _ z=>z.same sA,fun la H2 hla sx2 hr2=>⟨rfl,lr_ ?_⟩⟩;simp! [cg_];refine ⟨zero_le _,fun wl hwl=>⟨zero_le _,fun pl hpl=>?_⟩⟩;have s12:Same H1 H2:=sx2.base sA (fun x hx=>by rw [List.mem_singleton.mp hx];exact hrow0);have hla1:H1 la=none:=none_of sA hla;have s02:=s1.trans s12;have s3:Same H2 (upd H2 wl (.lst [])):=Same.upd hwl;have e3:upd H2 wl (.lst []) wl=some (.lst []):=ab_;generalize upd H2 wl (.lst [])=H3 at s3 e3 hpl ⊢;have s4:Same H3 (upd H3 pl (.lst [])):=Same.upd hpl;have e4:upd H3 pl (.lst []) pl=some (.lst []):=ab_;generalize upd H3 pl (.lst [])=H4 at s4 e4 ⊢;refine ck_ rfl fun wh dxw H5 hwh s5 e5=>lr_ ?_;simp! [cg_];refine ck_ rfl fun st0 dx0 H6 hst0 s6 e6=>?_;refine ck_ rfl fun st1 dx1 H7 hst1 s7 e7=>⟨by decide,fun todo htd=>?_⟩;have s8:Same H7 (upd H7 todo (.lst [.ref st0,.ref st1])):=Same.upd htd;have e8:upd H7 todo (.lst [.ref st0,.ref st1]) todo=some (.lst [.ref st0,.ref st1]):=ab_;generalize upd H7 todo (.lst [.ref st0,.ref st1])=H8 at s8 e8 ⊢;have hr2':=hr2;obtain ⟨dxr2,asr,ir,r1,r2,r3⟩:=hr2';have s28:Same H2 H8:=s3.trans (s4.trans (s5.trans (s6.trans (s7.trans s8))));have s58:Same H5 H8:=s6.trans (s7.trans s8);have nd:(row::todo::la::([wh,wl,pl]++[st1,st0])).Nodup:=by
  have x1:row≠la:=bG_ r1 r2 (by intro z;cases z);have y2 : ∀ x,H2 x=none->row≠x/\la≠x:=fun x hx=>⟨ag_ r1 hx,ag_ r2 hx⟩;have x2:=y2 wl hwl;have x3:=y2 pl (none_of s3 hpl);have x4:=y2 wh (none_of (s3.trans s4) hwh);have x5:=y2 st0 (none_of (s3.trans (s4.trans s5)) hst0);have x6:=y2 st1 (none_of (s3.trans (s4.trans (s5.trans s6))) hst1);have x7:=y2 todo (none_of (s3.trans (s4.trans (s5.trans (s6.trans s7)))) htd);have z1:wl≠pl:=ag_ e3 hpl;have z2:wl≠wh:=ag_ (s4 _ _ e3) hwh;have z3:pl≠wh:=ag_ e4 hwh;have z4:wl≠st0:=ag_ (s5 _ _ (s4 _ _ e3)) hst0;have z5:pl≠st0:=ag_ (s5 _ _ e4) hst0;have z6:wh≠st0:=ag_ e5 hst0;have z7:wl≠st1:=ag_ (s6 _ _ (s5 _ _ (s4 _ _ e3))) hst1;have z8:pl≠st1:=ag_ (s6 _ _ (s5 _ _ e4)) hst1;have z9:wh≠st1:=ag_ (s6 _ _ e5) hst1;have z10:st0≠st1:=ag_ e6 hst1;have z11:wl≠todo:=ag_ (s7 _ _ (s6 _ _ (s5 _ _ (s4 _ _ e3)))) htd;have z12:pl≠todo:=ag_ (s7 _ _ (s6 _ _ (s5 _ _ e4))) htd;have z13:wh≠todo:=ag_ (s7 _ _ (s6 _ _ e5)) htd;have z14:st0≠todo:=ag_ (s7 _ _ e6) htd;have z15:st1≠todo:=ag_ e7 htd;simp [x1,x2,x3,x4,x5,x6,x7,z1,z2,z3,z4,z5,z6,z7,z8,z9,z10,z11,z12,z13,z14,z15,Ne.symm z1,Ne.symm z2,Ne.symm z3,Ne.symm z4,Ne.symm z5,Ne.symm z6,Ne.symm z7,Ne.symm z8,Ne.symm z9,Ne.symm z10,Ne.symm z11,Ne.symm z12,Ne.symm z13,Ne.symm z14,Ne.symm z15,Ne.symm x7.1,Ne.symm x7.2]
 have at0:AtM T.C_q114 T.C_q120 T.C_Row T.C_q124 T.C_q123 H H8 row la todo wh (fa_ t.length l):=by
  refine ⟨s02.trans s28,hr2.same s28,bf_.sent (fun k hk=>(gts k hk).1) _,?_,.inl ⟨by simp [fa_],[st1,st0],[wh,wl,pl],.bot (e:=0) (dx:=dxw) (wl:=wl) (pl:=pl) (as:=[]) (F:=[]) ⟨?_,?_,?_,.nil,.cons ⟨dx1,?_⟩ (.cons ⟨dx0,?_⟩ .nil)⟩,e8,nd,?_⟩⟩
  ·exact ⟨by show 0+0+1<=5;decide,.inr rfl,rfl,zero_le _,trivial⟩
  ·show H8 wh=some (.ins T.C_q124 dxw (bg_ (S (Vaunid.txt "whole")) wl pl 0 0))
   rw [<- aq_];exact s58 _ _ e5
  ·exact s58 _ _ (s5 _ _ (s4 _ _ e3))
  ·exact s58 _ _ (s5 _ _ e4)
  ·exact s8 _ _ e7
  ·exact s8 _ _ (s7 _ _ e6)
  have q1:=none_of s1 hrow0;have q2:=none_of s02 hwl;have q3:=none_of (s02.trans s3) hpl;have q4:=none_of (s02.trans (s3.trans s4)) hwh;have q5:=none_of (s02.trans (s3.trans (s4.trans (s5.trans (s6.trans s7))))) htd;intro x hx;simp only [mem_cons,not_mem_nil,or_false] at hx;rcases hx with rfl | rfl | rfl | rfl | rfl <;> assumption
 obtain ⟨Pv,hPv⟩ : ∃ Pv:Nat->L2.St->Hp->Prop,Pv=fun m σ H'=>σ=[some (.ref a),some (.ref row),some (.ref wh),some (.ref todo),none]/\∃ s,AtM T.C_q114 T.C_q120 T.C_Row T.C_q124 T.C_q123 H H' row la todo wh s/\Run s R m:=⟨_,rfl⟩;refine lr_ (bL_ Pv n0 (by rw [hPv];exact ⟨rfl,_,at0,hrun⟩) fun m σ H' hp=>?_);rw [hPv] at hp;obtain ⟨rfl,s,hat,hrn⟩:=hp;simp! [tRet];rcases hat.frames with ⟨hne,ss,own,hstk,htd',hnd,hfr⟩ | ⟨hnil,htd',wt,F,hres,htree⟩
 ·obtain ⟨fs,l',res⟩:=s
  cases fs with
  | nil=>exact absurd rfl hne
  | cons pf fs =>
  obtain ⟨n,ss1,ss2,own2,dxn,wln,pln,as',Fn,en,hf,hbel,ess,eown⟩:=hstk.top;have hss : ∃ st ss',ss=st::ss':=by
   have q:=hf.steps.length;rw [length_append,length_singleton] at q;cases ss1 with
   | nil=>simp at q
   | cons st ss1=>exact ⟨st,ss1++ss2,ess⟩
  obtain ⟨st,ss',rfl⟩:=hss;have htd2:H' todo=some (.lst (ss'.reverse.map V.ref++[.ref st])):=by
   rw [htd',reverse_cons,map_append];rfl
  refine ⟨true,.inl ⟨_,SqL.of htd2,by simp⟩,?_⟩;rw [if_pos rfl];refine ⟨_,fun _ _ z=>z,?_⟩;simp! [tBM0,rPop];refine ⟨.inl ⟨rfl,_,SqL.of htd2⟩,_,htd2,V.ref st,by simp,?_⟩;rw [List.dropLast_concat];have su:ap_ [todo] H' (upd H' todo (.lst (ss'.reverse.map V.ref))):=ap_.upd (List.mem_singleton.mpr rfl);have nt : ∀ x∈[todo],NT H' x:=fun x hx=>by rw [List.mem_singleton.mp hx];exact .lst htd2
  have hnd2:=hnd;simp only [List.nodup_cons,mem_cons,not_or] at hnd2;have hst : ∃ r,b1_ ⟨pf::fs,l',res⟩=some r/\(match r with
    | .error e=>R = .error e
    | .ok s'=>∃ m',m=m'+1/\Run s' R m'):=by
   cases hrn with
   | bad h=>exact ⟨_,h,rfl⟩
   | go h h2=>exact ⟨_,h,_,rfl,h2⟩
  obtain ⟨r,hr1,hr2⟩:=hst;refine ⟨row,la,todo,wh,st,H,⟨pf::fs,l',res⟩,ss',own,r,rfl,su.base hat.same (fun x hx=>by rw [List.mem_singleton.mp hx];exact hfr _ (by simp)),hat.rowAt.keep su nt (nin hnd2.1.1) (nin (Ne.symm hnd2.2.1.1)),hat.goods,hat.lv,hstk.keep (Kp.of su fun x hx=>nin fun z=>hnd2.2.1.2 (by rw [<- z];exact hx)),ab_,hnd,hfr,hr1,?_⟩;cases r with
  | error e =>
   have e1:R = .error e:=hr2;rw [e1] at hR;exact ExF.mono hR (su.base hat.same (fun x hx=>by rw [List.mem_singleton.mp hx];exact hfr _ (by simp)))
  | ok s' =>
  obtain ⟨m',e1,h2⟩:=hr2;intro H'' at'';refine ⟨m',by omega,?_⟩;rw [hPv];exact ⟨rfl,s',at'',h2⟩
 refine ⟨false,.inl ⟨_,SqL.of htd',rfl⟩,?_⟩;rw [if_neg (by simp)];obtain ⟨fs,l',res⟩:=s;have hnil:fs=[]:=hnil;have hres:res=[wt]:=hres;subst hnil hres;have e1:R = .ok wt:=by
  cases hrn with
  | done=>rfl
  | bad h=>cases h
  | go h h2=>cases h
 rw [e1] at hR;have hwb:WB (allW wt):=gH_ hrun ⟨fun pf hpf=>by rw [List.mem_singleton.mp hpf];exact ⟨show WB [] from fun _ q=>(by cases q),show WB [] from fun _ q=>(by cases q)⟩,bf_.sent (fun k hk=>(gts k hk).1) _,show WB [] from fun _ q=>(by cases q)⟩ wt e1;obtain ⟨x,tr,e,rfl,hrep,hdeep,hbl,hfin⟩:=hR;have hwx:WB (allX x):=by
  rw [j0_ hrep];exact (WB.app.mp (WB.app.mp hwb).2).1
 cases htree with
 | @mk _ dxn wl2 pl2 f ws b2 e2 as2 ps2 G t1 t2 t3 t4 =>
 cases t4 with
 | @cons ac tc F1 G1 as3 ts3 c1 c2 =>
 cases c2;simp! [tSeq,tFld,ib_,t1];have hlow:=kz_ (bb_ 1 tr) 0 (by omega) (fun p hp=>by have:=g4_ 1 tr p hp;omega);rw [cW_,sub_zero,zero_add,ei_] at hlow;refine ⟨T.cl_q124,T.n_q70,_,rfl,_,rfl,_,SqL.of t3,_,rfl,ac,rfl,tr,_,c1,by rw [ei_];exact hbl,?_⟩;rw [hlow];by_cases h3:300<(ct_ tr).length
 ·rw [if_pos h3] at hfin ⊢
  exact ExF.mono hfin hat.same
 rw [if_neg h3] at hfin ⊢;intro H9 s9;exact hfin _ H9 (hat.same.trans s9) ⟨ac,tr,_,rfl,hrep,c1.same s9,by rw [ei_];omega,hdeep,hwx⟩
end
set_option maxHeartbeats 2000000
section
variable {P:Program}{w:World}{K:PySem.W.Frag}{mg:Str->Option Value}{base:Heap}
def PcI {A:Type} (It:A->V->Hp->Prop) (H:Hp) (v:V):Pc A->Prop
 | .inl w=>v = .str (S w)
 | .inr a=>It a v H
structure Unf (P:Program) (w:World) (K:PySem.W.Frag) (mg:Str->Option Value) (base:Heap) (H:Hp) (f:Addr) {A:Type} (It:A->V->Hp->Prop) (pcs:A->List (Pc A)):Prop where
 keep : ∀ a v H1 H2 xs,It a v H1->ap_ xs H1 H2->(∀ x∈xs,∃ l,H1 x=some (.lst l))->It a v H2
 ns : ∀ a v H1,It a v H1->Same H H1->∃ t,TyOf K H1 v t/\kitOne K t (.type "str")=some false
 fn : ∃ fd ps sp,FnOk P w K mg base CX0 10 f fd ps sp/\a9_ K fd ps []/\keepIn K (.ref f)=true /\
  ∀ a v H1 Q E,It a v H1->Same H H1->(∀ (p:Addr) (us:List V) (H2:Hp),H1 p=none->Same H1 H2->H2 p=some (.lst us)->Paired (PcI It H2) us (pcs a)->Q (.ref p) H2)->sp [v] H1 Q E
theorem PcI.keep {P:Program}{w:World}{K:PySem.W.Frag}{mg:Str->Option Value}{base:Heap}{H:Hp}{f:Addr}{A:Type}{It:A->V->Hp->Prop}{pcs:A->List (Pc A)} (U:Unf P w K mg base H f It pcs) {H1 H2:Hp}{xs:List Addr} (sx:ap_ xs H1 H2) (nt : ∀ x∈xs,∃ l,H1 x=some (.lst l)) {v:V}{c:Pc A} (h:PcI It H1 v c):PcI It H2 v c:=by
 cases c with
 | inl w=>exact h
 | inr a=>exact U.keep a v H1 H2 xs h sx nt
def oi_ (P:Program) (w:World) (K:PySem.W.Frag) (mg:Str->Option Value) (base:Heap):Sp:=fun vs H Q _=>∃ (v:V) (f:Addr) (A:Type) (It:A->V->Hp->Prop) (pcs:A->List (Pc A)) (tx:A->List Nat) (cost:A->Nat) (a0:A),vs=[v,.ref f]/\Unf P w K mg base H f It pcs/\It a0 v H /\
 (∀ a,tx a=pcsT tx (pcs a))/\(∀ a,1+pcsC cost (pcs a)<=cost a)/\cost a0<=1000000/\(tx a0).length<=16777216/\∀ H',Same H H'->Q (.str (S (tx a0))) H'
theorem cw_ {A:Type} (c:A->Nat) (l m:List (Pc A)):pcsC c (l++m)=pcsC c l+pcsC c m:=by
 unfold pcsC;rw [map_append,List.sum_append]
theorem fU_ {A:Type} (c:A->Nat) : ∀ l:List (Pc A),pcsC c l.reverse=pcsC c l
 | []=>rfl
 | x::r=>by
  rw [reverse_cons,cw_,fU_ c r];unfold pcsC;simp;omega
theorem in_ {A:Type} (c:A->List Nat) (l m:List (Pc A)):pcsT c (l++m)=pcsT c l++pcsT c m:=by
 unfold pcsT;rw [flatMap_append]
theorem d7_ {A:Type}{c:A->Nat} (h : ∀ a,1<=c a) : ∀ l:List (Pc A),l.length<=pcsC c l
 | []=>Nat.le_refl _
 | x::r=>by
  have ih:=d7_ h r;have hx:1<=pcC c x:=by
   cases x with
   | inl w=>exact Nat.le_refl _
   | inr a=>exact h a
  unfold pcsC at ih ⊢;rw [map_cons,sum_cons,length_cons];omega
theorem gV_ : ∀ l:List (List Nat),dx_ [] l=l.flatten
 | []=>rfl
 | [c]=>by
  show c=c++[];rw [append_nil]
 | c::d::r=>by
  have ih:=gV_ (d::r);show c++([]++dx_ [] (d::r))=_;rw [ih];rfl
theorem h8_ : ∀ l:List (List Nat),((l.map S).map (·.length)).sum=l.flatten.length
 | []=>rfl
 | c::r=>by
  rw [map_cons,map_cons,sum_cons,h8_ r,List.flatten_cons,length_append,aM_]
theorem ok_q105 (T:TX w K mg):FnOk P w K mg base CX0 11 T.f_q105 T.d_q105 ["whole","pieces_of"] (oi_ P w K mg base):=by
 refine T.F_q105.fn.ok sc_q105 (fun _ _ _ _ h=>?_) (fun _ _ _ _ H _ Q E hr h=>?_)
 ·obtain ⟨v,f,A,It,pcs,tx,cost,a0,rfl,_⟩:=h
  rfl
 obtain ⟨v0,f,B,It,pcs,tx,cost,a0,rfl,U,hit,htx,hco,hc0,hlen,k⟩:=h;obtain ⟨fdf,psf,spf,Ff,Bf,Kf,Hf⟩:=U.fn;refine ⟨_,(ad_ (az_ 2 sc_q105.nd (ax_ ac_))
  (ad_ (az_ 3 sc_q105.nd (ax_ (aa_ (pv 0) ac_)))
  (ad_ (bq_ PassesOwn.never (fR_ (pv 3) (fun _=>rfl)) (ad_ (az_ 4 sc_q105.nd (kf_ pla slp tlp kt_ (pv 3)))
  (ae_ (aT_ (bR_ (lI_ (pv 4) rfl T.b_isinstance rfl T.b_str)) (ae_ (a2_ (c5_ pla sla tla aR_ (pv 2) (aa_ (pv 4) ac_)))) (ae_ (ff_ PassesOwn.never rfl (ez_ rfl T.b_reversed (aa_ (bI_ (CX:=CX0) (k:=10) 1 hr.m ar_ (aa_ (pv 4) ac_)) ac_)) (pg_q 5 sc_q105.nd) (ae_ (a2_ (c5_ pla sla tla aR_ (pv 3) (aa_ (pv 5) ac_))))))))))
  (ae_ (aj_ (kc_ ak_ (pv 2))))))),?_⟩
 simp! [tSeq];refine ⟨zero_le _,fun sh hsh=>⟨by decide,fun td htd=>?_⟩⟩;have nst:sh≠td:=fun z=>by rw [<- z,ab_] at htd;cases htd
 have htd0:H td=none:=by rw [al_ (Ne.symm nst)] at htd;exact htd
 have hcp : ∀ a,1<=cost a:=fun a=>by have:=hco a;omega
 obtain ⟨Pv,hPv⟩ : ∃ Pv:Nat->L2.St->Hp->Prop,Pv=fun m σ H'=>Same H H'/\∃ (dn:List (List Nat)) (sk:List (Pc B)) (us:List V) (z1 z2:Option V),m=pcsC cost sk/\σ=[some v0,some (.ref f),some (.ref sh),some (.ref td),z1,z2]/\H' sh=some (.lst ((dn.map S).map V.str))/\H' td=some (.lst us) /\
  Paired (PcI It H') us sk/\tx a0=dn.flatten++pcsT tx sk.reverse/\dn.length+pcsC cost sk<=cost a0:=⟨_,rfl⟩
 refine bL_ Pv _ (by
  rw [hPv];refine ⟨?_,[],[.inr a0],[v0],none,none,rfl,rfl,?_,ab_,.cons ?_ .nil,?_,?_⟩
  ·exact (Same.upd hsh).trans (Same.upd htd)
  ·rw [al_ nst]
   exact ab_
  ·exact U.keep a0 v0 H _ [] hit (ap_.of ((Same.upd hsh).trans (Same.upd htd))) (by simp)
  ·show tx a0=[]++(tx a0++[])
   rw [append_nil];rfl
  show 0+(cost a0+0)<=_;omega) fun m σ H' hp=>?_
 rw [hPv] at hp;obtain ⟨sm,dn,sk,us,z1,z2,rfl,rfl,hs,ht,ps,htxt,hcost⟩:=hp;simp! [tSeq];have hun:us.length=sk.length:=Paired.length ps;by_cases hsk:us=[]
 ·subst hsk
  cases ps;refine ⟨false,.inl ⟨_,SqL.of ht,rfl⟩,?_⟩;rw [if_neg (by simp)];rw [show ([]:List (Pc B)).reverse=[] from rfl,show pcsT tx []=[] from rfl,append_nil] at htxt;refine ⟨dn.map S,.inl (SqL.of hs),?_,?_⟩
  ·rw [h8_,<- htxt,length_map]
   show (tx a0).length+dn.length * 0<=16777216;omega
  have e1:Txt.join (Str.ofString "") (dn.map S)=S (tx a0):=by
   refine cd_ ?_;rw [kF_,fI_,map_map,htxt];have e2:dn.map (tl ∘ S)=dn:=by
    have:(tl ∘ S)=id:=by funext l;rfl
    rw [this,List.map_id]
   rw [e2];exact gV_ _
  rw [e1];exact k H' sm
 refine ⟨true,.inl ⟨_,SqL.of ht,by cases us with | nil=>exact absurd rfl hsk | cons _ _=>rfl⟩,?_⟩;rw [if_pos rfl];refine ⟨_,fun _ _ z=>z,?_⟩;obtain ⟨us',u,sk',c,rfl,rfl,ps',hu⟩:=eC_ ps hsk;rw [reverse_append,in_] at htxt;rw [cw_] at hcost;have hl2:sk'.length<=pcsC cost sk':=d7_ hcp sk';have hl3:us'.length=sk'.length:=Paired.length ps';simp! [tSeq,tBM0,rPop,tBM,bc_,mq_];refine ⟨.inl ⟨rfl,_,SqL.of ht⟩,_,ht,u,by simp,?_⟩;rw [List.dropLast_concat];have sx1:ap_ [td] H' (upd H' td (.lst us')):=ap_.upd (List.mem_singleton.mpr rfl);have e1:upd H' td (.lst us') td=some (.lst us'):=ab_;have hlt : ∀ x∈[td],∃ l,H' x=some (.lst l):=fun x hx=>by rw [List.mem_singleton.mp hx];exact ⟨_,ht⟩
 generalize upd H' td (.lst us')=H1 at sx1 e1 ⊢;have sm1:Same H H1:=sx1.base sm fun x hx=>by rw [List.mem_singleton.mp hx];exact htd0
 have hs1:=sx1 _ _ (nin nst) hs;have ps1:Paired (PcI It H1) us' sk':=Paired.mapP ps' fun _ _ q=>q.keep U sx1 hlt;have hu1:PcI It H1 u c:=hu.keep U sx1 hlt;cases c with
 | inl wd =>
  have hu2:u = .str (S wd):=hu1;subst hu2;refine ⟨_,.str _,true,rfl,?_⟩;rw [if_pos rfl];have ec:pcsC cost [(Sum.inl wd:Pc B)]=1:=rfl;rw [ec] at hcost;refine ⟨.inl ⟨rfl,_,SqL.of hs1⟩,_,hs1,?_,pcsC cost sk',?_,?_⟩
  ·rw [length_map,length_map]
   exact Nat.lt_of_le_of_lt (show _<=1000000 by omega) (by decide)
  ·rw [cw_,ec]
   omega
  rw [hPv];have sx2:ap_ [sh] H1 (upd H1 sh (.lst ((dn.map S).map V.str++[V.str (S wd)]))):=ap_.upd (List.mem_singleton.mpr rfl);have hlt2 : ∀ x∈[sh],∃ l,H1 x=some (.lst l):=fun x hx=>by rw [List.mem_singleton.mp hx];exact ⟨_,hs1⟩
  refine ⟨sx2.base sm1 (fun x hx=>by rw [List.mem_singleton.mp hx];exact hsh),dn++[wd],sk',us',_,_,rfl,rfl,?_,sx2 _ _ (nin (Ne.symm nst)) e1,Paired.mapP ps1 fun _ _ q=>q.keep U sx2 hlt2,?_,?_⟩
  ·rw [ab_,map_append,map_append]
   rfl
  ·rw [htxt,List.flatten_append,append_assoc]
   show _++(pcsT tx [Sum.inl wd]++_)=_;rw [show pcsT tx [(Sum.inl wd:Pc B)]=wd++[] from rfl];simp
  rw [length_append];show dn.length+1+_<=_;omega
 | inr b =>
 obtain ⟨ty,hty,hk⟩:=U.ns b u H1 hu1 sm1;refine ⟨ty,hty,false,hk,?_⟩;rw [if_neg (by simp)];refine bo_ ?_;simp! [tSeq,dI_,iRev];refine ⟨fdf,psf,spf,Ff,Bf,Kf,Hf b u H1 _ _ hu1 sm1 fun p qs H2 hp s2 e2 pq=>⟨p,rfl,qs,SqL.of e2,?_⟩⟩;have hlc:=hco b;have hlq:qs.length=(pcs b).length:=Paired.length pq;have hlp:=d7_ hcp (pcs b);have ec:pcsC cost [Sum.inr b]=cost b:=by show cost b+0=_;omega
 rw [ec] at hcost;have e12:=s2 _ _ e1;have hs2:=s2 _ _ hs1;have ntp:p≠td:=fun z=>by rw [z,e1] at hp;cases hp
 refine g0_ qs (fun i σ H3=>(∃ z2,σ=[some v0,some (.ref f),some (.ref sh),some (.ref td),some u,z2])/\ap_ [td] H2 H3/\H3 td=some (.lst (us'++qs.reverse.take i)))
  ⟨⟨_,rfl⟩,fun _ _ _ q=>q,by rw [List.take_zero,append_nil];exact e12⟩ (fun i σ H3 _ q=>SqL.of (q.2.1 _ _ (nin ntp) e2)) (fun i x σ H3 hx q=>?_) fun σ H3 q=>?_
 ·obtain ⟨⟨z3,rfl⟩,sx3,h3⟩:=q
  have hil:=(List.getElem?_eq_some_iff.mp hx).1;rw [length_reverse] at hil;simp! [tSeq,dz_,tBM,bc_];refine ⟨.inl ⟨rfl,_,SqL.of h3⟩,_,h3,?_,sx3.trans (ap_.upd (List.mem_singleton.mpr rfl)),?_⟩
  ·rw [length_append,length_take,length_reverse]
   exact Nat.lt_of_le_of_lt (show _<=2000000 by omega) (by decide)
  rw [take_succ,hx,append_assoc];rfl
 obtain ⟨⟨z3,rfl⟩,sx3,h3⟩:=q;rw [<- length_reverse (as:=qs),take_length] at h3;have nt3 : ∀ x∈[td],∃ l,H2 x=some (.lst l):=fun x hx=>by rw [List.mem_singleton.mp hx];exact ⟨_,e12⟩
 refine ⟨pcsC cost (sk'++(pcs b).reverse),?_,?_⟩
 ·rw [cw_,cw_,fU_,ec]
  omega
 rw [hPv];refine ⟨sx3.base (sm1.trans s2) (fun x hx=>by rw [List.mem_singleton.mp hx];exact htd0),dn,_,us'++qs.reverse,_,_,rfl,rfl,sx3 _ _ (nin nst) hs2,h3,?_,?_,?_⟩
 ·refine a7_ (Paired.mapP ps1 fun _ _ q=>((q.keep U (ap_.of (xs:=[]) s2) (by simp)).keep U sx3 nt3)) ?_
  exact Paired.mapP (iV_ pq) fun _ _ q=>q.keep U sx3 nt3
 ·rw [htxt,reverse_append,List.reverse_reverse,in_]
  show _++(pcsT tx [Sum.inr b]++_)=_;rw [show pcsT tx [Sum.inr b]=tx b++[] from rfl,append_nil,htx b]
 rw [cw_,fU_];omega
def ItS (Cn:Addr) (H0:Hp) (i:SI) (v:V) (H1:Hp):Prop:=∃ (it a:Addr),v = .ref it/\H1 it=some (.tup [.ref a,.int (i.2:Int)])/\SubT Cn H0 a i.1
abbrev PS1 (Cn:Addr) (H0 H1:Hp):V->Pc SI->Prop:=PcI (ItS Cn H0) H1
theorem PS1.keep {Cn:Addr}{H0 H1 H2:Hp}{xs:List Addr} (sx:ap_ xs H1 H2) (nt : ∀ x∈xs,∃ l,H1 x=some (.lst l)) {v:V}{c:Pc SI} (h:PS1 Cn H0 H1 v c):PS1 Cn H0 H2 v c:=by
 cases c with
 | inl w=>exact h
 | inr i =>
 obtain ⟨it,a,e,h1,h2⟩:=h;refine ⟨it,a,e,sx _ _ (fun m=>?_) h1,h2⟩;obtain ⟨l,q⟩:=nt _ m;rw [q] at h1;cases h1
theorem PS1.same {Cn:Addr}{H0 H1 H2:Hp} (s:Same H1 H2) {v:V}{c:Pc SI} (h:PS1 Cn H0 H1 v c):PS1 Cn H0 H2 v c:=PS1.keep (ap_.of (xs:=[]) s) (by simp) h
def cK_ (Cn:Addr) (ok:Term->Prop) (pcs:Term->List (Pc SI)):Sp:=fun vs H Q _=>∃ (a:Addr) (x:Term) (H0:Hp),vs=[.ref a]/\ok x/\Same H0 H/\SubT Cn H0 a x/\szX x<=300/\WB (allX x)/\∀ (p:Addr) (us:List V) (H':Hp),H p=none->Same H H'->H' p=some (.lst us)->Paired (PS1 Cn H0 H') us (pcs x)->Q (.ref p) H'
theorem pr1 {A B:Type}{R:A->B->Prop}{l:List A}{x:B} (h:Paired R l [x]) : ∃ a,l=[a]/\R a x:=by
 cases h with
 | cons r t=>cases t;exact ⟨_,rfl,r⟩
theorem pr2 {A B:Type}{R:A->B->Prop}{l:List A}{x y:B} (h:Paired R l [x,y]) : ∃ a b,l=[a,b]/\R a x/\R b y:=by
 cases h with
 | cons r t =>
 obtain ⟨b,rfl,q⟩:=pr1 t;exact ⟨_,b,rfl,r,q⟩
theorem pr3 {A B:Type}{R:A->B->Prop}{l:List A}{x y z:B} (h:Paired R l [x,y,z]) : ∃ a b c,l=[a,b,c]/\R a x/\R b y/\R c z:=by
 cases h with
 | cons r t =>
 obtain ⟨b,c,rfl,q⟩:=pr2 t;exact ⟨_,b,c,rfl,r,q⟩
theorem ok_q7 (T:TX w K mg):FnOk P w K mg base CX0 1 T.f_q7 T.d_q7 ["node"] (cK_ T.C_q124 (fun x=>(∃ y,x = .leaf (.name y))\/∃ v,x = .leaf (.num v)) aw_):=by
 refine T.F_q7.fn.ok sc_q7 (fun _ _ _ _ h=>?_) (fun _ _ _ _ H _ Q E hr h=>?_)
 ·obtain ⟨a,x,H0,rfl,_⟩:=h
  rfl
 obtain ⟨a,x,H0,rfl,hok,s0,hx,hsz,hwb,k⟩:=h;refine ⟨_,(ae_ (aj_ (ax_ (aa_ (aC_ ao_ (ah_ (pv 0) rfl) ai_ (fun _ _=>rfl)) ac_)))),?_⟩;obtain ⟨dx,wl,pl,b,e,as,t1,t2,t3,t4⟩:=a3_ hx;have t1':=s0 _ _ t1;have t2':=s0 _ _ t2;simp! [tSeq,tFld,t1'];have hw : ∃ wd,ee_ x=[wd]/\aw_ x=[.inl wd]:=by
  rcases hok with ⟨y,rfl⟩ | ⟨v,rfl⟩
  ·exact ⟨y,rfl,rfl⟩
  exact ⟨_,rfl,rfl⟩
 obtain ⟨wd,hw1,hw2⟩:=hw;rw [hw1] at t2';exact ⟨T.cl_q124,T.n_q55,_,rfl,_,rfl,_,SqL.of t2',.str (S wd),rfl,by decide,fun p hp=>k p _ _ hp (Same.upd hp) ab_ (by rw [hw2];exact .cons rfl .nil)⟩
theorem ok_q27 (T:TX w K mg):FnOk P w K mg base CX0 1 T.f_q27 T.d_q27 ["node"] (cK_ T.C_q124 (fun x=>∃ b,x = .leaf (.truth b)) aw_):=by
 refine T.F_q27.fn.ok sc_q27 (fun _ _ _ _ h=>?_) (fun _ _ _ _ H _ Q E hr h=>?_)
 ·obtain ⟨a,x,H0,rfl,_⟩:=h
  rfl
 obtain ⟨a,x,H0,rfl,⟨b,rfl⟩,s0,hx,hsz,hwb,k⟩:=h;refine ⟨_,(ae_ (aj_ (ax_ (aa_ (ah_ (pv 0) rfl) ac_)))),?_⟩;obtain ⟨dx,wl,pl,b0,e,as,t1,t2,t3,t4⟩:=a3_ hx;have t1':=s0 _ _ t1;simp! [tSeq,tFld,t1'];exact ⟨T.cl_q124,T.n_q94,_,rfl,by decide,fun p hp=>k p _ _ hp (Same.upd hp) ab_ (.cons (by cases b <;> rfl) .nil)⟩
theorem ok_q79 (T:TX w K mg):FnOk P w K mg base CX0 1 T.f_q79 T.d_q79 ["node"] (cK_ T.C_q124 (fun x=>x = .leaf .nil) aw_):=by
 refine T.F_q79.fn.ok sc_q79 (fun _ _ _ _ h=>?_) (fun _ _ _ _ H _ Q E hr h=>?_)
 ·obtain ⟨a,x,H0,rfl,_⟩:=h
  rfl
 obtain ⟨a,x,H0,rfl,rfl,s0,hx,hsz,hwb,k⟩:=h;refine ⟨_,(ae_ (aj_ (ax_ (aa_ ak_ ac_)))),?_⟩;simp! [tSeq];exact ⟨by decide,fun p hp=>k p _ _ hp (Same.upd hp) ab_ (.cons (by rw [aq_];rfl) .nil)⟩
end
set_option maxHeartbeats 2000000
section
variable {P:Program}{w:World}{K:PySem.W.Frag}{mg:Str->Option Value}{base:Heap}
theorem ok_q90 (T:TX w K mg):FnOk P w K mg base CX0 1 T.f_q90 T.d_q90 ["node"] (cK_ T.C_q124 (fun x=>∃ a b c,x = .three .cond a b c) aw_):=by
 refine T.F_q90.fn.ok sc_q90 (fun _ _ _ _ h=>?_) (fun _ _ _ _ H _ Q E hr h=>?_)
 ·obtain ⟨a,x,H0,rfl,_⟩:=h
  rfl
 obtain ⟨a,x,H0,rfl,⟨x0,x1,x2,rfl⟩,s0,hx,hsz,hwb,k⟩:=h;refine ⟨_,(ae_ (aj_ (ax_ (aa_ ak_ (aa_ (bk_ (aa_ (aC_ ao_ (ah_ (pv 0) rfl) ai_ (fun _ _=>rfl)) (aa_ (pe_g T.g_q91) ac_))) (aa_ ak_ (aa_ (bk_ (aa_ (aC_ ao_ (ah_ (pv 0) rfl) ai_ (fun _ _=>rfl)) (aa_ (pe_g T.g_q91) ac_))) (aa_ ak_ (aa_ (bk_ (aa_ (aC_ ao_ (ah_ (pv 0) rfl) ai_ (fun _ _=>rfl)) (aa_ (pe_g T.g_q91) ac_))) ac_))))))))),?_⟩;obtain ⟨dx,wl,pl,b0,e,as,t1,t2,t3,t4⟩:=a3_ hx;obtain ⟨a0,a1,a2,rfl,h0,h1,h2⟩:=pr3 t4;have t1':=s0 _ _ t1;have t2':=s0 _ _ t2;have t3':=s0 _ _ t3;simp! [tSeq,tFld,t1'];refine ⟨T.cl_q124,T.n_q70,_,rfl,_,rfl,_,SqL.of t3',.ref a0,rfl,by decide,fun p1 hp1=>?_⟩;have s1:Same H (upd H p1 (.tup [.ref a0,.int 0])):=Same.upd hp1;have e1:upd H p1 (.tup [.ref a0,.int 0]) p1=some (.tup [.ref a0,.int 0]):=ab_;generalize upd H p1 (.tup [.ref a0,.int 0])=H1 at s1 e1 ⊢;have c1:Same H H1:=s1;refine ⟨_,_,_,c1 _ _ t1',T.cl_q124,T.n_q70,_,rfl,_,rfl,_,SqL.of (c1 _ _ t3'),.ref a1,rfl,by decide,fun p2 hp2=>?_⟩;have s2:Same H1 (upd H1 p2 (.tup [.ref a1,.int 0])):=Same.upd hp2;have e2:upd H1 p2 (.tup [.ref a1,.int 0]) p2=some (.tup [.ref a1,.int 0]):=ab_;generalize upd H1 p2 (.tup [.ref a1,.int 0])=H2 at s2 e2 ⊢;have c2:Same H H2:=c1.trans s2;refine ⟨_,_,_,c2 _ _ t1',T.cl_q124,T.n_q70,_,rfl,_,rfl,_,SqL.of (c2 _ _ t3'),.ref a2,rfl,by decide,fun p3 hp3=>?_⟩;have s3:Same H2 (upd H2 p3 (.tup [.ref a2,.int 0])):=Same.upd hp3;have e3:upd H2 p3 (.tup [.ref a2,.int 0]) p3=some (.tup [.ref a2,.int 0]):=ab_;generalize upd H2 p3 (.tup [.ref a2,.int 0])=H3 at s3 e3 ⊢
 have c3:Same H H3:=c2.trans s3;exact ⟨by decide,fun q hq=>k q _ _ (none_of c3 hq) (c3.trans (Same.upd hq)) ab_ (.cons (by rw [aq_];rfl) (.cons ⟨p1,a0,rfl,(Same.upd hq) _ _ (s3 _ _ (s2 _ _ (e1))),h0⟩ (.cons (by rw [aq_];rfl) (.cons ⟨p2,a1,rfl,(Same.upd hq) _ _ (s3 _ _ (e2)),h1⟩ (.cons (by rw [aq_];rfl) (.cons ⟨p3,a2,rfl,(Same.upd hq) _ _ (e3),h2⟩ (.nil)))))))⟩
theorem ok_q28 (T:TX w K mg):FnOk P w K mg base CX0 1 T.f_q28 T.d_q28 ["node"] (cK_ T.C_q124 (fun x=>∃ a b,x = .two .app a b) aw_):=by
 refine T.F_q28.fn.ok sc_q28 (fun _ _ _ _ h=>?_) (fun _ _ _ _ H _ Q E hr h=>?_)
 ·obtain ⟨a,x,H0,rfl,_⟩:=h
  rfl
 obtain ⟨a,x,H0,rfl,⟨x0,x1,rfl⟩,s0,hx,hsz,hwb,k⟩:=h;refine ⟨_,(ae_ (aj_ (ax_ (aa_ (bk_ (aa_ (aC_ ao_ (ah_ (pv 0) rfl) ai_ (fun _ _=>rfl)) (aa_ (pe_g T.g_q73) ac_))) (aa_ ak_ (aa_ (bk_ (aa_ (aC_ ao_ (ah_ (pv 0) rfl) ai_ (fun _ _=>rfl)) (aa_ (pe_g T.g_q88) ac_))) ac_)))))),?_⟩;obtain ⟨dx,wl,pl,b0,e,as,t1,t2,t3,t4⟩:=a3_ hx;obtain ⟨a0,a1,rfl,h0,h1⟩:=pr2 t4;have t1':=s0 _ _ t1;have t2':=s0 _ _ t2;have t3':=s0 _ _ t3;simp! [tSeq,tFld,t1'];refine ⟨T.cl_q124,T.n_q70,_,rfl,_,rfl,_,SqL.of t3',.ref a0,rfl,by decide,fun p1 hp1=>?_⟩;have s1:Same H (upd H p1 (.tup [.ref a0,.int 9])):=Same.upd hp1;have e1:upd H p1 (.tup [.ref a0,.int 9]) p1=some (.tup [.ref a0,.int 9]):=ab_;generalize upd H p1 (.tup [.ref a0,.int 9])=H1 at s1 e1 ⊢;have c1:Same H H1:=s1;refine ⟨_,_,_,c1 _ _ t1',T.cl_q124,T.n_q70,_,rfl,_,rfl,_,SqL.of (c1 _ _ t3'),.ref a1,rfl,by decide,fun p2 hp2=>?_⟩;have s2:Same H1 (upd H1 p2 (.tup [.ref a1,.int 10])):=Same.upd hp2;have e2:upd H1 p2 (.tup [.ref a1,.int 10]) p2=some (.tup [.ref a1,.int 10]):=ab_;generalize upd H1 p2 (.tup [.ref a1,.int 10])=H2 at s2 e2 ⊢;have c2:Same H H2:=c1.trans s2;exact ⟨by decide,fun q hq=>k q _ _ (none_of c2 hq) (c2.trans (Same.upd hq)) ab_ (.cons ⟨p1,a0,rfl,(Same.upd hq) _ _ (s2 _ _ (e1)),h0⟩ (.cons (by rw [aq_];rfl) (.cons ⟨p2,a1,rfl,(Same.upd hq) _ _ (e2),h1⟩ (.nil))))⟩
theorem ok_q33 (T:TX w K mg):FnOk P w K mg base CX0 1 T.f_q33 T.d_q33 ["node"] (cK_ T.C_q124 (fun x=>∃ n a,x = .one (.pow n) a) aw_):=by
 refine T.F_q33.fn.ok sc_q33 (fun _ _ _ _ h=>?_) (fun _ _ _ _ H _ Q E hr h=>?_)
 ·obtain ⟨a,x,H0,rfl,_⟩:=h
  rfl
 obtain ⟨a,x,H0,rfl,⟨x0,x1,rfl⟩,s0,hx,hsz,hwb,k⟩:=h;refine ⟨_,(ae_ (aj_ (ax_ (aa_ (bk_ (aa_ (aC_ ao_ (ah_ (pv 0) rfl) ai_ (fun _ _=>rfl)) (aa_ (c4_ (pe_r T.g_q118) ak_) ac_))) (aa_ (aI_ aB_ ak_ (aC_ ao_ (ah_ (pv 0) rfl) ai_ (fun _ _=>rfl))) ac_))))),?_⟩;obtain ⟨dx,wl,pl,b0,e,as,t1,t2,t3,t4⟩:=a3_ hx;obtain ⟨a0,rfl,h0⟩:=pr1 t4;have t1':=s0 _ _ t1;have t2':=s0 _ _ t2;have t3':=s0 _ _ t3;have hl0:(Vaunid.decimalInt x0).length<=10100:=hwb _ (mem_cons_self ..);have q1:(Vaunid.txt " ^ ").length=3:=rfl;simp! [tSeq,tFld,t1',ep_];refine ⟨T.cl_q124,T.n_q70,_,rfl,_,rfl,_,SqL.of t3',.ref a0,rfl,_,T.t_q118,.int 8,rfl,by decide,fun p1 hp1=>?_⟩;have s1:Same H (upd H p1 (.tup [.ref a0,.int 8])):=Same.upd hp1;have e1:upd H p1 (.tup [.ref a0,.int 8]) p1=some (.tup [.ref a0,.int 8]):=ab_;generalize upd H p1 (.tup [.ref a0,.int 8])=H1 at s1 e1 ⊢;have c1:Same H H1:=s1;refine ⟨_,_,_,c1 _ _ t1',T.cl_q124,T.n_q55,_,rfl,_,rfl,_,SqL.of (c1 _ _ t2'),.str (S (Vaunid.decimalInt x0)),rfl,_,rfl,?_,?_⟩
 ·exact Nat.le_trans (show _<=30000 by simp only [aq_,bX_,aM_,length_append];omega) (by decide)
 exact ⟨by decide,fun q hq=>k q _ _ (none_of c1 hq) (c1.trans (Same.upd hq)) ab_ (.cons ⟨p1,a0,rfl,(Same.upd hq) _ _ (e1),h0⟩ (.cons (by simp only [aq_,bX_,append_assoc];rfl) (.nil)))⟩
theorem ok_q41 (T:TX w K mg):FnOk P w K mg base CX0 1 T.f_q41 T.d_q41 ["node"] (cK_ T.C_q124 (fun x=>∃ l a h t b,x = .case l a h t b) aw_):=by
 refine T.F_q41.fn.ok sc_q41 (fun _ _ _ _ h=>?_) (fun _ _ _ _ H _ Q E hr h=>?_)
 ·obtain ⟨a,x,H0,rfl,_⟩:=h
  rfl
 obtain ⟨a,x,H0,rfl,⟨x0,x1,w0,w1,x2,rfl⟩,s0,hx,hsz,hwb,k⟩:=h;refine ⟨_,(ad_ (az_ 1 sc_q41.nd (aI_ aB_ (aI_ aB_ (aI_ aB_ (aI_ aB_ ak_ (aC_ ao_ (ah_ (pv 0) rfl) ai_ (fun _ _=>rfl))) ak_) (aC_ ao_ (ah_ (pv 0) rfl) ai_ (fun _ _=>rfl))) ak_))
  (ae_ (aj_ (ax_ (aa_ ak_ (aa_ (bk_ (aa_ (aC_ ao_ (ah_ (pv 0) rfl) ai_ (fun _ _=>rfl)) (aa_ (pe_g T.g_q91) ac_))) (aa_ ak_ (aa_ (bk_ (aa_ (aC_ ao_ (ah_ (pv 0) rfl) ai_ (fun _ _=>rfl)) (aa_ (pe_g T.g_q91) ac_))) (aa_ (pv 1) (aa_ (bk_ (aa_ (aC_ ao_ (ah_ (pv 0) rfl) ai_ (fun _ _=>rfl)) (aa_ (pe_g T.g_q91) ac_))) ac_)))))))))),?_⟩
 obtain ⟨dx,wl,pl,b0,e,as,t1,t2,t3,t4⟩:=a3_ hx;obtain ⟨a0,a1,a2,rfl,h0,h1,h2⟩:=pr3 t4;have t1':=s0 _ _ t1;have t2':=s0 _ _ t2;have t3':=s0 _ _ t3;have hl0:w0.length<=10100:=hwb w0 (mem_cons_self ..);have hl1:w1.length<=10100:=hwb w1 (mem_cons_of_mem _ (mem_cons_self ..));have small : ∀ n:Nat,n<=30000->n<=sizeLine:=fun n h=>Nat.le_trans h (by decide);have q1:(Vaunid.txt " | ").length=3:=rfl;have q2:(Vaunid.txt " :: ").length=4:=rfl;have q3:(Vaunid.txt " -> ").length=4:=rfl;simp! [tSeq,tFld,t1'];refine ⟨T.cl_q124,T.n_q55,_,rfl,_,rfl,_,SqL.of t2',.str (S w0),rfl,_,rfl,?_,?_,T.cl_q124,T.n_q55,_,rfl,_,rfl,_,SqL.of t2',.str (S w1),rfl,_,rfl,?_,?_,?_⟩
 ·exact small _ (by simp only [aq_,bX_,aM_,length_append];omega)
 ·exact small _ (by simp only [aq_,bX_,aM_,length_append];omega)
 ·exact small _ (by simp only [aq_,bX_,aM_,length_append];omega)
 ·exact small _ (by simp only [aq_,bX_,aM_,length_append];omega)
 refine ⟨T.cl_q124,T.n_q70,_,rfl,_,rfl,_,SqL.of t3',.ref a0,rfl,by decide,fun p1 hp1=>?_⟩;have s1:Same H (upd H p1 (.tup [.ref a0,.int 0])):=Same.upd hp1;have e1:upd H p1 (.tup [.ref a0,.int 0]) p1=some (.tup [.ref a0,.int 0]):=ab_;generalize upd H p1 (.tup [.ref a0,.int 0])=H1 at s1 e1 ⊢;have c1:Same H H1:=s1;refine ⟨_,_,_,c1 _ _ t1',T.cl_q124,T.n_q70,_,rfl,_,rfl,_,SqL.of (c1 _ _ t3'),.ref a1,rfl,by decide,fun p2 hp2=>?_⟩;have s2:Same H1 (upd H1 p2 (.tup [.ref a1,.int 0])):=Same.upd hp2;have e2:upd H1 p2 (.tup [.ref a1,.int 0]) p2=some (.tup [.ref a1,.int 0]):=ab_;generalize upd H1 p2 (.tup [.ref a1,.int 0])=H2 at s2 e2 ⊢;have c2:Same H H2:=c1.trans s2;refine ⟨_,_,_,c2 _ _ t1',T.cl_q124,T.n_q70,_,rfl,_,rfl,_,SqL.of (c2 _ _ t3'),.ref a2,rfl,by decide,fun p3 hp3=>?_⟩;have s3:Same H2 (upd H2 p3 (.tup [.ref a2,.int 0])):=Same.upd hp3;have e3:upd H2 p3 (.tup [.ref a2,.int 0]) p3=some (.tup [.ref a2,.int 0]):=ab_;generalize upd H2 p3 (.tup [.ref a2,.int 0])=H3 at s3 e3 ⊢;have c3:Same H H3:=c2.trans s3;exact ⟨by decide,fun q hq=>k q _ _ (none_of c3 hq) (c3.trans (Same.upd hq)) ab_ (.cons (by rw [aq_];rfl) (.cons ⟨p1,a0,rfl,(Same.upd hq) _ _ (s3 _ _ (s2 _ _ (e1))),h0⟩ (.cons (by rw [aq_];rfl) (.cons ⟨p2,a1,rfl,(Same.upd hq) _ _ (s3 _ _ (e2)),h1⟩ (.cons (by simp only [aq_,bX_,append_assoc];rfl) (.cons ⟨p3,a2,rfl,(Same.upd hq) _ _ (e3),h2⟩ (.nil)))))))⟩
def nd_ (Cn:Addr):Sp:=fun vs H Q _=>∃ (a:Addr) (o:Two) (x0 x1:Term) (sg:String) (r0 r1:Nat) (H0:Hp),vs=[.ref a,.str (Str.ofString sg)]/\(sg,r0,r1)∈[("<",5,5),("=",5,5),("::",6,5),("+",6,7),("-",6,7),("*",7,8),("/",7,8)]/\Same H0 H/\SubT Cn H0 a (.two o x0 x1)/\∀ (p:Addr) (us:List V) (H':Hp),H p=none->Same H H'->H' p=some (.lst us)->Paired (PS1 Cn H0 H') us (M.ca_ sg r0 r1 x0 x1)->Q (.ref p) H'
theorem ok_q108 (T:TX w K mg):FnOk P w K mg base CX0 1 T.f_q108 T.d_q108 ["node","sign"] (nd_ T.C_q124):=by
 refine T.F_q108.fn.ok sc_q108 (fun _ _ _ _ h=>?_) (fun _ _ _ _ H _ Q E hr h=>?_)
 ·obtain ⟨a,o,x0,x1,sg,r0,r1,H0,rfl,_⟩:=h
  rfl
 obtain ⟨a,o,x0,x1,sg,r0,r1,H0,rfl,hsg,s0,hx,k⟩:=h;refine ⟨_,(ad_ (az_ 2 sc_q108.nd (c4_ (pe_r T.g_q22) (pv 1)))
  (ae_ (aj_ (ax_ (aa_ (bk_ (aa_ (aC_ ao_ (ah_ (pv 0) rfl) ai_ (fun _ _=>rfl)) (aa_ (aC_ cn_ (pv 2) ai_ (fun _ _=>rfl)) ac_))) (aa_ (aI_ aB_ (aI_ aB_ ak_ (pv 1)) ak_) (aa_ (bk_ (aa_ (aC_ ao_ (ah_ (pv 0) rfl) ai_ (fun _ _=>rfl)) (aa_ (aC_ cn_ (pv 2) ai_ (fun _ _=>rfl)) ac_))) ac_))))))),?_⟩
 obtain ⟨dx,wl,pl,b0,e,as,t1,t2,t3,t4⟩:=a3_ hx;obtain ⟨a0,a1,rfl,h0,h1⟩:=pr2 t4;have t1':=s0 _ _ t1;have t2':=s0 _ _ t2;have t3':=s0 _ _ t3;have hrk : ∃ rk,bP_ [("<",V.ref T.o_OPERAND_RANKS_0),("=",.ref T.o_OPERAND_RANKS_1),("::",.ref T.o_OPERAND_RANKS_2),("+",.ref T.o_OPERAND_RANKS_3),("-",.ref T.o_OPERAND_RANKS_4),("*",.ref T.o_OPERAND_RANKS_5),("/",.ref T.o_OPERAND_RANKS_6)] (Str.ofString sg)=some (.ref rk)/\(∀ H,SqT K H rk [.int (r0:Int),.int (r1:Int)])/\(Vaunid.txt sg).length<=2:=by
  simp only [mem_cons,Prod.mk.injEq,not_mem_nil,or_false] at hsg;rcases hsg with ⟨rfl,rfl,rfl⟩ | ⟨rfl,rfl,rfl⟩ | ⟨rfl,rfl,rfl⟩ | ⟨rfl,rfl,rfl⟩ | ⟨rfl,rfl,rfl⟩ | ⟨rfl,rfl,rfl⟩ | ⟨rfl,rfl,rfl⟩
  ·exact ⟨_,rfl,T.u_OPERAND_RANKS_0,by decide⟩
  ·exact ⟨_,rfl,T.u_OPERAND_RANKS_1,by decide⟩
  ·exact ⟨_,rfl,T.u_OPERAND_RANKS_2,by decide⟩
  ·exact ⟨_,rfl,T.u_OPERAND_RANKS_3,by decide⟩
  ·exact ⟨_,rfl,T.u_OPERAND_RANKS_4,by decide⟩
  ·exact ⟨_,rfl,T.u_OPERAND_RANKS_5,by decide⟩
  exact ⟨_,rfl,T.u_OPERAND_RANKS_6,by decide⟩
 obtain ⟨rk,g1,g2,g3⟩:=hrk;simp! [tSeq,tFld,t1',ep_];have q1:(Vaunid.txt " ").length=1:=rfl;refine ⟨_,T.t_q22,_,g1,?_⟩;refine ⟨T.cl_q124,T.n_q70,_,rfl,_,rfl,_,SqL.of t3',.ref a0,rfl,_,rfl,_,g2 _,.int (r0:Int),rfl,by decide,fun p1 hp1=>?_⟩;have s1:Same H (upd H p1 (.tup [.ref a0,.int (r0:Int)])):=Same.upd hp1;have e1:upd H p1 (.tup [.ref a0,.int (r0:Int)]) p1=some (.tup [.ref a0,.int (r0:Int)]):=ab_;generalize upd H p1 (.tup [.ref a0,.int (r0:Int)])=H1 at s1 e1 ⊢;have c1:Same H H1:=s1;refine ⟨?_,?_,?_⟩
 ·exact Nat.le_trans (show _<=30000 by simp only [aq_,bX_,aM_,length_append];omega) (by decide)
 ·exact Nat.le_trans (show _<=30000 by simp only [aq_,bX_,aM_,length_append];omega) (by decide)
 refine ⟨_,_,_,c1 _ _ t1',T.cl_q124,T.n_q70,_,rfl,_,rfl,_,SqL.of (c1 _ _ t3'),.ref a1,rfl,_,rfl,_,g2 _,.int (r1:Int),rfl,by decide,fun p2 hp2=>?_⟩;have s2:Same H1 (upd H1 p2 (.tup [.ref a1,.int (r1:Int)])):=Same.upd hp2;have e2:upd H1 p2 (.tup [.ref a1,.int (r1:Int)]) p2=some (.tup [.ref a1,.int (r1:Int)]):=ab_;generalize upd H1 p2 (.tup [.ref a1,.int (r1:Int)])=H2 at s2 e2 ⊢;have c2:Same H H2:=c1.trans s2;exact ⟨by decide,fun q hq=>k q _ _ (none_of c2 hq) (c2.trans (Same.upd hq)) ab_ (.cons ⟨p1,a0,rfl,(Same.upd hq) _ _ (s2 _ _ (e1)),h0⟩ (.cons (by simp only [aq_,bX_,append_assoc];rfl) (.cons ⟨p2,a1,rfl,(Same.upd hq) _ _ (e2),h1⟩ (.nil))))⟩
theorem ok_q3 (T:TX w K mg):FnOk P w K mg base CX0 2 T.f_q3 T.d_q3 ["node"] (cK_ T.C_q124 (fun x=>∃ o a b v,x = .two o a b/\opW o=some v) aw_):=by
 have G_q108:=ok_q108 (P:=P) (base:=base) T;refine T.F_q3.fn.ok sc_q3 (fun _ _ _ _ h=>?_) (fun _ _ _ _ H _ Q E hr h=>?_)
 ·obtain ⟨a,x,H0,rfl,_⟩:=h
  rfl
 obtain ⟨a,x,H0,rfl,⟨o,x0,x1,⟨sg,r0,r1⟩,rfl,ho⟩,s0,hx,hsz,hwb,k⟩:=h;refine ⟨_,(ae_ (aj_ (aE_ T.F_q108 G_q108 hr.m ar_ (aa_ (pv 0) (aa_ (ah_ (pv 0) rfl) ac_))))),?_⟩;obtain ⟨dx,wl,pl,b0,e,as,t1,t2,t3,t4⟩:=a3_ hx;have t1':=s0 _ _ t1;have hop:a4_ (.two o x0 x1)=Vaunid.txt sg/\(sg,r0,r1)∈[("<",5,5),("=",5,5),("::",6,5),("+",6,7),("-",6,7),("*",7,8),("/",7,8)]/\aw_ (.two o x0 x1)=M.ca_ sg r0 r1 x0 x1:=by
  cases o <;> first | (cases ho;done) | (cases ho;exact ⟨rfl,by simp,rfl⟩)
 obtain ⟨o1,o2,o3⟩:=hop;rw [o3] at k;simp! [tSeq,tFld,t1',nd_];exact ⟨T.cl_q124,T.n_q94,_,rfl,o,x0,x1,sg,by rw [o1,aq_],r0,r1,o2,H0,s0,hx,k⟩
end
set_option maxHeartbeats 2000000
section
variable {P:Program}{w:World}{K:PySem.W.Frag}{mg:Str->Option Value}{base:Heap}
def lx_ (Cn:Addr):Sp:=fun vs H Q _=>∃ (nl bd:Addr) (names:List (List Nat)) (u:Term) (sep:List Nat) (H0:Hp),vs=[.ref nl,.ref bd,.str (S sep)]/\H nl=some (.lst ((names.map S).map V.str))/\names.length<=2/\WB names/\Same H0 H/\SubT Cn H0 bd u/\szX u<=300/\WB (allX u)/\∀ (p:Addr) (us:List V) (H':Hp),H p=none->Same H H'->H' p=some (.lst us)->Paired (PS1 Cn H0 H') us (fnP names u sep)->Q (.ref p) H'
theorem lk_ : ∀ f∈e7_,∀ g∈e7_,Vaunid.txt f.word=Vaunid.txt g.word->f=g:=by decide +kernel
theorem lf_ (f:Fm):f∈e7_:=by cases f <;> decide +kernel
theorem ma_ {u:Term}{f:Fm} (h:a4_ u=Vaunid.txt f.word):fmX u=some f:=by
 cases q:fmX u with
 | none =>
  cases u with
  | leaf l =>
   have h1:=hE_ l;have h2:de_ (Vaunid.txt f.word)=true:=List.any_eq_true.mpr ⟨f,lf_ f,by simp⟩;rw [<- h,show a4_ (.leaf l)=Vaunid.txt (dd_ l) from rfl,h1] at h2;cases h2
  | _=>cases q
 | some g =>
 rw [f4_ q] at h;rw [lk_ g (lf_ g) f (lf_ f) h]
theorem kQ_ {u:Term}:a4_ u=Vaunid.txt "fn"↔∃ x a,u = .fn x a:=by
 constructor
 ·intro h
  have q:=ma_ (f := .fn) h;cases u with
  | fn x a=>exact ⟨x,a,rfl⟩
  | leaf l=>cases q
  | one o a=>cases o <;> cases q
  | two o a b=>cases o <;> cases q
  | three o a b c=>cases o <;> cases q
  | _=>cases q
 rintro ⟨x,a,rfl⟩
 rfl
theorem hI_ {sep:List Nat}{u:Term} (h : ∀ x a,¬ u = .fn x a):aO_ sep u=[.inl sep,.inr (u,0)]:=by
 cases u with
 | fn x a=>exact absurd rfl (h x a)
 | _=>rfl
theorem fj_ {Cn:Addr}{H0 H1:Hp} : ∀ ws:List (List Nat),Paired (PS1 Cn H0 H1) (ws.map fun w=>V.str (S w)) (ws.map fun w=>(.inl w:Pc SI))
 | [] => .nil
 | _::r => .cons rfl (fj_ r)
theorem ok_q2 (T:TX w K mg):FnOk P w K mg base CX0 1 T.f_q2 T.d_q2 ["names","body","sign"] (lx_ T.C_q124):=by
 refine T.F_q2.fn.ok sc_q2 (fun _ _ _ _ h=>?_) (fun _ _ _ _ H _ Q E hr h=>?_)
 ·obtain ⟨nl,bd,names,u,sep,H0,rfl,_⟩:=h
  rfl
 obtain ⟨nl,bd,names,u,sep,H0,rfl,hnl,hn2,hwn,s0,hu,hsz,hwb,k⟩:=h;refine ⟨_,(ad_ (lE_ (i:=3) rfl sc_q2.nd rfl rfl rfl (eA_ (pv 0)) (cz_ (own:=[("name",4)]) (by kernel_rfl)) (fun _ _ _ _ _=>pg_q 4 sc_q2.nd) (fun _ _ _ _ _=>ds_) (fun _ _ _ _ _=>(aI_ aB_ ak_ (pv 4))))
  (ad_ (bq_ PassesOwn.never (am_ bn_ (ah_ (pv 1) rfl) ak_ (au_ _)) (ad_ (a2_ (c5_ pla sla tla aR_ (pv 3) (aa_ (aI_ aB_ ak_ (aC_ ao_ (ah_ (pv 1) rfl) ai_ (fun _ _=>rfl))) ac_)))
  (ae_ (az_ 1 sc_q2.nd (aC_ ao_ (ah_ (pv 1) rfl) ai_ (fun _ _=>rfl))))))
  (ae_ (aj_ (aI_ bw_ (pv 3) (ax_ (aa_ (pv 2) (aa_ (bk_ (aa_ (pv 1) (aa_ (pe_g T.g_q91) ac_))) ac_)))))))),?_⟩
 have small : ∀ n:Nat,n<=30000->n<=sizeLine:=fun n h=>Nat.le_trans h (by decide);have q1:(Vaunid.txt " ").length=1:=rfl;simp! [tSeq];refine n7_ (Itl K nl) ((names.map S).map V.str) (names.map fun n=>V.str (S (32::n))) (H1:=H) (fun R h=>?_) (by rw [length_map,length_map];exact small _ (by omega)) (by rw [length_map,length_map,length_map]) (hG_ (SqL.of hnl)) (fun i y z H2 D acc Nx hx hy sm hD hacc nx=>?_) fun pc H1 hpc s1 e1=>?_
 ·simp! [tSeq]
  exact ⟨⟨_,SqL.of hnl⟩,h⟩
 ·rw [getElem?_map,getElem?_map] at hx
  rw [getElem?_map] at hy;cases qa:names[i]? with
  | none=>rw [qa] at hx;cases hx
  | some n =>
  rw [qa] at hx hy;cases hx;cases hy;have hl:=hwn n (mem_of_getElem? qa);simp! [tSeq];have e5:Str.ofString " "++S n=S (32::n):=by rw [aq_,bX_];rfl
  refine ⟨small _ (by simp only [aq_,aM_];omega),acc,hD,hacc,?_⟩;rw [e5];exact nx _ (Same.refl _)
 obtain ⟨Pv,hPv⟩ : ∃ Pv:Nat->L2.St->Hp->Prop,Pv=fun m σ H'=>∃ (bd':Addr) (u':Term) (ws:List (List Nat)),m=szX u'/\σ=[some (.ref nl),some (.ref bd'),some (.str (S sep)),some (.ref pc),none]/\ap_ [pc] H1 H'/\H' pc=some (.lst (ws.map fun w=>V.str (S w)))/\SubT T.C_q124 H0 bd' u' /\
  fnP names u sep=ws.map (fun w=>(.inl w:Pc SI))++aO_ sep u'/\ws.length+szX u'<=302/\WB (allX u'):=⟨_,rfl⟩
 refine bL_ Pv _ (by
  rw [hPv];refine ⟨bd,u,names.map fun n=>32::n,rfl,rfl,fun _ _ _ q=>q,?_,hu,?_,?_,hwb⟩
  ·rw [e1,map_map]
   rfl
  ·unfold fnP
   rw [map_map];rfl
  rw [length_map];omega) fun m σ H' hp=>?_
 rw [hPv] at hp;obtain ⟨bd',u',ws,rfl,rfl,sx,hpc',hu',hfn,hle,hwb'⟩:=hp;have sm':Same H H':=sx.base s1 fun x hx=>by rw [List.mem_singleton.mp hx];exact hpc
 obtain ⟨dx,wl,pl,b0,e,as,t1,t2,t3,t4⟩:=a3_ hu';have t1':=sm' _ _ (s0 _ _ t1);have t2':=sm' _ _ (s0 _ _ t2);have t3':=sm' _ _ (s0 _ _ t3);simp! [tSeq,tFld,t1'];refine ⟨T.cl_q124,T.n_q94,_,rfl,rfl,?_⟩;by_cases hf:a4_ u'=Vaunid.txt "fn"
 ·rw [if_pos (by rw [hf,aq_])]
  obtain ⟨x,b,rfl⟩:=kQ_.mp hf;obtain ⟨a0,rfl,h0⟩:=pr1 t4;have hl:=hwb' x (mem_cons_self ..);have hsz':szX (.fn x b)=1+szX b:=rfl;refine ⟨_,fun _ _ z=>z,?_⟩;simp! [tSeq,tBM,bc_,tFld,t1'];have e5:Str.ofString " "++S x=S (32::x):=by rw [aq_,bX_];rfl
  refine ⟨.inl ⟨rfl,_,SqL.of hpc'⟩,T.cl_q124,T.n_q55,_,rfl,_,rfl,_,SqL.of t2',.str (S x),rfl,_,rfl,small _ (by simp only [aq_,aM_];omega),_,hpc',?_,?_⟩
  ·rw [length_map]
   exact Nat.lt_of_le_of_lt (show _<=302 by omega) (by decide)
  rw [e5];have sx2:ap_ [pc] H' (upd H' pc (.lst ((ws.map fun w=>V.str (S w))++[V.str (S (32::x))]))):=ap_.upd (List.mem_singleton.mpr rfl);have e6:upd H' pc (.lst ((ws.map fun w=>V.str (S w))++[V.str (S (32::x))])) pc=some (.lst ((ws.map fun w=>V.str (S w))++[V.str (S (32::x))])):=ab_;generalize upd H' pc (.lst ((ws.map fun w=>V.str (S w))++[V.str (S (32::x))]))=H2 at sx2 e6 ⊢;have ne1:bd'≠pc:=bG_ t1' hpc' (by intro z;cases z);have ne3:pl≠pc:=fun z=>by have:=none_of s0 hpc;rw [<- z,t3] at this;cases this
  refine ⟨_,_,_,sx2 _ _ (nin ne1) t1',T.cl_q124,T.n_q70,_,rfl,_,rfl,_,SqL.of (sx2 _ _ (nin ne3) t3'),.ref a0,rfl,szX b,by omega,?_⟩;rw [hPv];refine ⟨a0,b,ws++[32::x],rfl,rfl,sx.trans sx2,?_,h0,?_,?_,fun w hw=>hwb' w (mem_cons_of_mem _ hw)⟩
  ·rw [e6,map_append]
   rfl
  ·rw [hfn,map_append,append_assoc]
   rfl
  rw [length_append];show ws.length+1+_<=_;omega
 rw [if_neg (by rw [aq_];simp only [V.str.injEq,bH_];exact hf)];simp! [tSeq,rCat];refine ⟨by decide,fun it hit=>⟨by decide,fun l2 hl2=>?_⟩⟩;have s3:Same H' (upd H' it (.tup [.ref bd',.int 0])):=Same.upd hit;have e3:upd H' it (.tup [.ref bd',.int 0]) it=some (.tup [.ref bd',.int 0]):=ab_;generalize upd H' it (.tup [.ref bd',.int 0])=H3 at s3 e3 hl2 ⊢;have s4:Same H3 (upd H3 l2 (.lst [.str (S sep),.ref it])):=Same.upd hl2;have e4:upd H3 l2 (.lst [.str (S sep),.ref it]) l2=some (.lst [.str (S sep),.ref it]):=ab_;generalize upd H3 l2 (.lst [.str (S sep),.ref it])=H4 at s4 e4 ⊢;refine ⟨_,s4 _ _ (s3 _ _ hpc'),_,rfl,?_,fun q hq=>?_⟩
 ·rw [length_map]
  exact small _ (by show _+2<=_;omega)
 have sm4:=sm'.trans (s3.trans s4);refine k q _ _ (none_of sm4 hq) (sm4.trans (Same.upd hq)) ab_ ?_;rw [hfn,hI_ fun x a z=>hf (kQ_.mpr ⟨x,a,z⟩)];exact a7_ (fj_ ws) (.cons rfl (.cons ⟨it,bd',rfl,(Same.upd hq) _ _ (s4 _ _ e3),hu'⟩ .nil))
end
set_option maxHeartbeats 2000000
section
variable {P:Program}{w:World}{K:PySem.W.Frag}{mg:Str->Option Value}{base:Heap}
theorem fu_ (sep:List Nat) : ∀ u:Term,(aO_ sep u).length<=1+szX u
 | .fn x a=>by
  have:=fu_ sep a;simp only [aO_,length_cons,szX];omega
 | .leaf l=>by simp [aO_,szX]
 | .one o a=>by simp [aO_,szX];omega
 | .two o a b=>by simp [aO_,szX];omega
 | .three o a b c=>by simp [aO_,szX];omega
 | .rec_ f x a=>by simp [aO_,szX];omega
 | .let_ x a b=>by simp [aO_,szX];omega
 | .case l a h t b=>by simp [aO_,szX];omega
theorem eQ_ (names:List (List Nat)) (u:Term) (sep:List Nat):(fnP names u sep).length<=names.length+1+szX u:=by
 unfold fnP;have:=fu_ sep u;rw [length_append,length_map];omega
theorem ok_q82 (T:TX w K mg):FnOk P w K mg base CX0 2 T.f_q82 T.d_q82 ["node"] (cK_ T.C_q124 (fun x=>∃ y a,x = .fn y a) aw_):=by
 have G_q2:=ok_q2 (P:=P) (base:=base) T;refine T.F_q82.fn.ok sc_q82 (fun _ _ _ _ h=>?_) (fun _ _ _ _ H _ Q E hr h=>?_)
 ·obtain ⟨a,x,H0,rfl,_⟩:=h
  rfl
 obtain ⟨a,x,H0,rfl,⟨y,b,rfl⟩,s0,hx,hsz,hwb,k⟩:=h;refine ⟨_,(ae_ (aj_ (aI_ bw_ (ax_ (aa_ ak_ ac_)) (aE_ T.F_q2 G_q2 hr.m ar_ (aa_ (ax_ ac_) (aa_ (pv 0) (aa_ ak_ ac_))))))),?_⟩;simp! [tSeq,rCat,lx_];refine ⟨by decide,fun l1 hl1=>⟨zero_le _,fun n0 hn0=>?_⟩⟩;have s1:Same H (upd H l1 (.lst [.str (Str.ofString "fun")])):=Same.upd hl1;have e1:upd H l1 (.lst [.str (Str.ofString "fun")]) l1=some (.lst [.str (Str.ofString "fun")]):=ab_;generalize upd H l1 (.lst [.str (Str.ofString "fun")])=H1 at s1 e1 hn0 ⊢;have s2:Same H1 (upd H1 n0 (.lst [])):=Same.upd hn0;refine ⟨[],.fn y b,Vaunid.txt " -> ",aq_ _,rfl,by decide,(fun _ q=>by cases q),H0,s0.trans (s1.trans s2),hx,hsz,hwb,fun p us H' hp s' e' pu=>⟨_,s' _ _ (s2 _ _ e1),_,e',?_,fun q hq=>?_⟩⟩
 ·have:=Paired.length pu
  have:=eQ_ [] (.fn y b) (Vaunid.txt " -> ");simp only [length_cons,length_nil] at *;exact Nat.le_trans (show _<=1000 by omega) (by decide)
 have sm:=s1.trans (s2.trans s');exact k q _ _ (none_of sm hq) (sm.trans (Same.upd hq)) ab_ (.cons (by rw [aq_];rfl) (Paired.mapP pu fun _ _ z=>z.same (Same.upd hq)))
theorem ok_q71 (T:TX w K mg):FnOk P w K mg base CX0 2 T.f_q71 T.d_q71 ["node"] (cK_ T.C_q124 (fun x=>∃ f y a,x = .rec_ f y a) aw_):=by
 have G_q2:=ok_q2 (P:=P) (base:=base) T;refine T.F_q71.fn.ok sc_q71 (fun _ _ _ _ h=>?_) (fun _ _ _ _ H _ Q E hr h=>?_)
 ·obtain ⟨a,x,H0,rfl,_⟩:=h
  rfl
 obtain ⟨a,x,H0,rfl,⟨f,y,b,rfl⟩,s0,hx,hsz,hwb,k⟩:=h;refine ⟨_,(ae_ (aj_ (aI_ bw_ (ax_ (aa_ ak_ ac_)) (aE_ T.F_q2 G_q2 hr.m ar_ (aa_ (ah_ (pv 0) rfl) (aa_ (aC_ ao_ (ah_ (pv 0) rfl) ai_ (fun _ _=>rfl)) (aa_ ak_ ac_))))))),?_⟩;obtain ⟨dx,wl,pl,b0,e,as,t1,t2,t3,t4⟩:=a3_ hx;obtain ⟨a0,rfl,h0⟩:=pr1 t4;simp! [tSeq,rCat,lx_,tFld];refine ⟨by decide,fun l1 hl1=>?_⟩;have s1:Same H (upd H l1 (.lst [.str (Str.ofString "rec")])):=Same.upd hl1;have e1:upd H l1 (.lst [.str (Str.ofString "rec")]) l1=some (.lst [.str (Str.ofString "rec")]):=ab_;generalize upd H l1 (.lst [.str (Str.ofString "rec")])=H1 at s1 e1 ⊢;have c1:=s0.trans s1;have hszb:szX (.rec_ f y b)=1+szX b:=rfl;refine ⟨_,_,_,c1 _ _ t1,T.cl_q124,T.n_q55,_,rfl,_,_,_,c1 _ _ t1,T.cl_q124,T.n_q70,_,rfl,_,rfl,_,SqL.of (c1 _ _ t3),.ref a0,rfl,_,rfl,_,rfl,[f,y],b,Vaunid.txt " -> ",aq_ _,c1 _ _ t2,Nat.le_refl 2,fun w hw=>hwb w ?_,H0,c1,h0,by omega,fun w hw=>hwb w (mem_cons_of_mem _ (mem_cons_of_mem _ hw)),fun p us H' hp s' e' pu=>⟨_,s' _ _ e1,_,e',?_,fun q hq=>?_⟩⟩
 ·rcases List.mem_cons.mp hw with rfl | hw
  ·exact mem_cons_self ..
  rw [List.mem_singleton.mp hw];exact mem_cons_of_mem _ (mem_cons_self ..)
 ·have:=Paired.length pu
  have:=eQ_ [f,y] b (Vaunid.txt " -> ");simp only [length_cons,length_nil] at *;exact Nat.le_trans (show _<=1000 by omega) (by decide)
 have sm:=s1.trans s';exact k q _ _ (none_of sm hq) (sm.trans (Same.upd hq)) ab_ (.cons (by rw [aq_];rfl) (Paired.mapP pu fun _ _ z=>z.same (Same.upd hq)))
theorem m5_ {t u:TS}{D:Ends}{σ:L2.St}{H:Hp} (h:t { D with nx:=u D } σ H):tSeq t u D σ H:=h
theorem kA_ {y:List Nat}{va:Term} (vb:Term) (h : ∀ f z c,¬ va = .rec_ f z c):aw_ (.let_ y va vb)=(.inl (Vaunid.txt "let")::fnP [y] va (Vaunid.txt " = "))++[.inl (Vaunid.txt " in "),.inr (vb,0)]:=by
 show letP y va vb=_;unfold letP;cases va with
 | rec_ f z c=>exact absurd rfl (h f z c)
 | _=>rfl
theorem iC_ {u:Term}:a4_ u=Vaunid.txt "rec"↔∃ f x a,u = .rec_ f x a:=by
 constructor
 ·intro h
  have q:=ma_ (f := .rec_) h;cases u with
  | rec_ f x a=>exact ⟨f,x,a,rfl⟩
  | leaf l=>cases q
  | one o a=>cases o <;> cases q
  | two o a b=>cases o <;> cases q
  | three o a b c=>cases o <;> cases q
  | _=>cases q
 rintro ⟨f,x,a,rfl⟩
 rfl
theorem ok_q63 (T:TX w K mg):FnOk P w K mg base CX0 2 T.f_q63 T.d_q63 ["node"] (cK_ T.C_q124 (fun x=>∃ y a b,x = .let_ y a b) aw_):=by
 have G_q2:=ok_q2 (P:=P) (base:=base) T;refine T.F_q63.fn.ok sc_q63 (fun _ _ _ _ h=>?_) (fun _ _ _ _ H _ Q E hr h=>?_)
 ·obtain ⟨a,x,H0,rfl,_⟩:=h
  rfl
 obtain ⟨a,x,H0,rfl,⟨y,va,vb,rfl⟩,s0,hx,hsz,hwb,k⟩:=h;refine ⟨_,(ad_ (az_ 1 sc_q63.nd (aC_ ao_ (ah_ (pv 0) rfl) ai_ (fun _ _=>rfl)))
  (ad_ (aT_ (PW.pt (pw_and (am_ bn_ (ah_ (pv 1) rfl) ak_ (au_ _)) (pw_and1 (am_ bn_ (aC_ ao_ (ah_ (pv 1) rfl) ai_ (fun _ _=>rfl)) (aC_ ao_ (ah_ (pv 0) rfl) ai_ (fun _ _=>rfl)) (au_ _))))) (ae_ (az_ 2 sc_q63.nd (aI_ bw_ (ax_ (aa_ ak_ ac_)) (aE_ T.F_q2 G_q2 hr.m ar_ (aa_ (ah_ (pv 1) rfl) (aa_ (aC_ ao_ (ah_ (pv 1) rfl) ai_ (fun _ _=>rfl)) (aa_ ak_ ac_))))))) (ae_ (az_ 2 sc_q63.nd (aI_ bw_ (ax_ (aa_ ak_ ac_)) (aE_ T.F_q2 G_q2 hr.m ar_ (aa_ (ah_ (pv 0) rfl) (aa_ (pv 1) (aa_ ak_ ac_))))))))
  (ae_ (aj_ (aI_ bw_ (pv 2) (ax_ (aa_ ak_ (aa_ (bk_ (aa_ (aC_ ao_ (ah_ (pv 0) rfl) ai_ (fun _ _=>rfl)) (aa_ (pe_g T.g_q91) ac_))) ac_)))))))),?_⟩
 obtain ⟨dx,wl,pl,b0,e,as,t1,t2,t3,t4⟩:=a3_ hx;obtain ⟨a0,a1,rfl,h0,h1⟩:=pr2 t4;have t1':=s0 _ _ t1;have t2':=s0 _ _ t2;have t3':=s0 _ _ t3;obtain ⟨dv,wv,pv,bv,ev,av,v1,v2,v3,v4⟩:=a3_ h0;have v1':=s0 _ _ v1;have v2':=s0 _ _ v2;have v3':=s0 _ _ v3;have hszl:szX (.let_ y va vb)=1+szX va+szX vb:=rfl;obtain ⟨hw1,hw2⟩:=WB.cons.mp hwb;obtain ⟨hwa,hwb2⟩:=WB.app.mp hw2;have hrec:(a4_ va=Vaunid.txt "rec"/\∃ z c,va = .rec_ y z c)\/(a4_ va=Vaunid.txt "rec"/\∃ f z c,va = .rec_ f z c/\¬ f=y)\/((¬ a4_ va=Vaunid.txt "rec")/\∀ f z c,¬ va = .rec_ f z c):=by
  by_cases q:a4_ va=Vaunid.txt "rec"
  ·obtain ⟨f,z,c,rfl⟩:=iC_.mp q
   by_cases q2:f=y
   ·subst q2
    exact .inl ⟨q,z,c,rfl⟩
   exact .inr (.inl ⟨q,f,z,c,rfl,q2⟩)
  exact .inr (.inr ⟨q,fun f z c e=>q (iC_.mpr ⟨f,z,c,e⟩)⟩)
 refine m5_ ?_;simp! [tFld,t1'];refine ⟨T.cl_q124,T.n_q70,_,rfl,_,rfl,_,SqL.of t3',.ref a0,rfl,?_⟩;refine dr_ (fun σ' HQ=>∃ p2 uQ fQ,σ'=[some (.ref a),some (.ref a0),some (.ref p2)]/\Same H HQ/\HQ p2=some (.lst uQ)/\Paired (PS1 T.C_q124 H0 HQ) uQ fQ/\uQ.length<=1000/\aw_ (.let_ y va vb)=fQ++[.inl (Vaunid.txt " in "),.inr (vb,0)]) (fun X hX=>?_) (fun σ' HQ hh=>?_)
 ·simp! [tFld,t1',v1',rCat,lx_]
  refine ⟨T.cl_q124,T.n_q94,_,rfl,rfl,?_⟩;rcases hrec with ⟨q,z,c,hv⟩ | ⟨q,f,z,c,hv,hne⟩ | ⟨q,hno⟩
  ·rw [if_pos (by rw [q,aq_])]
   subst hv;obtain ⟨ac,rfl,hc⟩:=pr1 v4;refine ⟨T.cl_q124,T.n_q55,_,rfl,_,rfl,_,SqL.of v2',.str (S y),rfl,T.cl_q124,T.n_q55,_,rfl,_,rfl,_,SqL.of t2',.str (S y),rfl,rfl,?_⟩;rw [if_pos rfl];refine ⟨by decide,fun l1 hl1=>?_⟩;have s1:Same H (upd H l1 (.lst [.str (Str.ofString "let rec")])):=Same.upd hl1;have e1:upd H l1 (.lst [.str (Str.ofString "let rec")]) l1=some (.lst [.str (Str.ofString "let rec")]):=ab_;generalize upd H l1 (.lst [.str (Str.ofString "let rec")])=H1 at s1 e1 ⊢;have c1:=s0.trans s1;have hszr:szX (.rec_ y z c)=1+szX c:=rfl;refine ⟨_,_,_,c1 _ _ v1,T.cl_q124,T.n_q55,_,rfl,_,_,_,c1 _ _ v1,T.cl_q124,T.n_q70,_,rfl,_,rfl,_,SqL.of (c1 _ _ v3),.ref ac,rfl,_,rfl,_,rfl,[y,z],c,Vaunid.txt " = ",aq_ _,c1 _ _ v2,Nat.le_refl 2,fun w hw=>hwa w ?_,H0,c1,hc,by omega,fun w hw=>hwa w (mem_cons_of_mem _ (mem_cons_of_mem _ hw)),fun p us H' hp s' e' pu=>?_⟩
   ·rcases List.mem_cons.mp hw with rfl | hw
    ·exact mem_cons_self ..
    rw [List.mem_singleton.mp hw];exact mem_cons_of_mem _ (mem_cons_self ..)
   have hl1:=Paired.length pu;have hl2:=eQ_ [y,z] c (Vaunid.txt " = ");simp only [length_cons,length_nil] at hl2;refine ⟨_,s' _ _ e1,_,e',Nat.le_trans (show 1+us.length<=1000 by omega) (by decide),fun p2 hp2=>?_⟩;have sQ:Same H (upd H' p2 (.lst ([.str (Str.ofString "let rec")]++us))):=s1.trans (s'.trans (Same.upd hp2));have eQ:upd H' p2 (.lst ([.str (Str.ofString "let rec")]++us)) p2=some (.lst (.str (Str.ofString "let rec")::us)):=ab_;have pQ:Paired (PS1 T.C_q124 H0 (upd H' p2 (.lst ([.str (Str.ofString "let rec")]++us)))) (.str (Str.ofString "let rec")::us) (.inl (Vaunid.txt "let rec")::fnP [y,z] c (Vaunid.txt " = ")) := .cons (by rw [aq_];rfl) (Paired.mapP pu fun _ _ z=>z.same (Same.upd hp2));have lQ:(V.str (Str.ofString "let rec")::us).length<=1000:=by rw [length_cons];omega
   have bQ:aw_ (.let_ y (.rec_ y z c) vb)=(.inl (Vaunid.txt "let rec")::fnP [y,z] c (Vaunid.txt " = "))++[.inl (Vaunid.txt " in "),.inr (vb,0)]:=by show letP y (.rec_ y z c) vb=_;unfold letP;simp only [if_true]
   exact hX _ _ ⟨p2,_,_,rfl,sQ,eQ,pQ,lQ,bQ⟩
  ·rw [if_pos (by rw [q,aq_])]
   subst hv;refine ⟨T.cl_q124,T.n_q55,_,rfl,_,rfl,_,SqL.of v2',.str (S f),rfl,T.cl_q124,T.n_q55,_,rfl,_,rfl,_,SqL.of t2',.str (S y),rfl,rfl,?_⟩;rw [if_neg (by simp only [V.str.injEq,bH_];exact hne)];refine ⟨by decide,fun l1 hl1=>?_⟩;have s1:Same H (upd H l1 (.lst [.str (Str.ofString "let")])):=Same.upd hl1;have e1:upd H l1 (.lst [.str (Str.ofString "let")]) l1=some (.lst [.str (Str.ofString "let")]):=ab_;generalize upd H l1 (.lst [.str (Str.ofString "let")])=H1 at s1 e1 ⊢;have c1:=s0.trans s1;refine ⟨_,_,_,c1 _ _ t1,T.cl_q124,T.n_q55,_,rfl,_,rfl,[y],.rec_ f z c,Vaunid.txt " = ",aq_ _,c1 _ _ t2,by show 1<=2;omega,fun w hw=>by rw [List.mem_singleton.mp hw];exact hw1,H0,c1,h0,by omega,hwa,fun p us H' hp s' e' pu=>?_⟩;have hl1:=Paired.length pu;have hl2:=eQ_ [y] (.rec_ f z c) (Vaunid.txt " = ");simp only [length_cons,length_nil] at hl2;refine ⟨_,s' _ _ e1,_,e',Nat.le_trans (show 1+us.length<=1000 by omega) (by decide),fun p2 hp2=>?_⟩;have sQ:Same H (upd H' p2 (.lst ([.str (Str.ofString "let")]++us))):=s1.trans (s'.trans (Same.upd hp2));have eQ:upd H' p2 (.lst ([.str (Str.ofString "let")]++us)) p2=some (.lst (.str (Str.ofString "let")::us)):=ab_;have pQ:Paired (PS1 T.C_q124 H0 (upd H' p2 (.lst ([.str (Str.ofString "let")]++us)))) (.str (Str.ofString "let")::us) (.inl (Vaunid.txt "let")::fnP [y] (.rec_ f z c) (Vaunid.txt " = ")) := .cons (by rw [aq_];rfl) (Paired.mapP pu fun _ _ z=>z.same (Same.upd hp2));have lQ:(V.str (Str.ofString "let")::us).length<=1000:=by rw [length_cons];omega
   have bQ:aw_ (.let_ y (.rec_ f z c) vb)=(.inl (Vaunid.txt "let")::fnP [y] (.rec_ f z c) (Vaunid.txt " = "))++[.inl (Vaunid.txt " in "),.inr (vb,0)]:=by show letP y (.rec_ f z c) vb=_;unfold letP;simp only [if_neg hne]
   exact hX _ _ ⟨p2,_,_,rfl,sQ,eQ,pQ,lQ,bQ⟩
  rw [if_neg (by rw [aq_];simp only [V.str.injEq,bH_];exact q)];refine ⟨by decide,fun l1 hl1=>?_⟩;have s1:Same H (upd H l1 (.lst [.str (Str.ofString "let")])):=Same.upd hl1;have e1:upd H l1 (.lst [.str (Str.ofString "let")]) l1=some (.lst [.str (Str.ofString "let")]):=ab_;generalize upd H l1 (.lst [.str (Str.ofString "let")])=H1 at s1 e1 ⊢;have c1:=s0.trans s1;refine ⟨_,_,_,c1 _ _ t1,T.cl_q124,T.n_q55,_,rfl,_,rfl,[y],va,Vaunid.txt " = ",aq_ _,c1 _ _ t2,by show 1<=2;omega,fun w hw=>by rw [List.mem_singleton.mp hw];exact hw1,H0,c1,h0,by omega,hwa,fun p us H' hp s' e' pu=>?_⟩;have hl1:=Paired.length pu;have hl2:=eQ_ [y] va (Vaunid.txt " = ");simp only [length_cons,length_nil] at hl2;refine ⟨_,s' _ _ e1,_,e',Nat.le_trans (show 1+us.length<=1000 by omega) (by decide),fun p2 hp2=>?_⟩;have sQ:Same H (upd H' p2 (.lst ([.str (Str.ofString "let")]++us))):=s1.trans (s'.trans (Same.upd hp2));have eQ:upd H' p2 (.lst ([.str (Str.ofString "let")]++us)) p2=some (.lst (.str (Str.ofString "let")::us)):=ab_;have pQ:Paired (PS1 T.C_q124 H0 (upd H' p2 (.lst ([.str (Str.ofString "let")]++us)))) (.str (Str.ofString "let")::us) (.inl (Vaunid.txt "let")::fnP [y] va (Vaunid.txt " = ")) := .cons (by rw [aq_];rfl) (Paired.mapP pu fun _ _ z=>z.same (Same.upd hp2));have lQ:(V.str (Str.ofString "let")::us).length<=1000:=by rw [length_cons];omega
  have bQ:aw_ (.let_ y va vb)=(.inl (Vaunid.txt "let")::fnP [y] va (Vaunid.txt " = "))++[.inl (Vaunid.txt " in "),.inr (vb,0)]:=kA_ vb hno;exact hX _ _ ⟨p2,_,_,rfl,sQ,eQ,pQ,lQ,bQ⟩
 obtain ⟨p2,uQ,fQ,rfl,sQ,eQ,pQ,lQ,bQ⟩:=hh;simp! [tFld,rCat];have cQ:=s0.trans sQ;refine ⟨_,_,_,cQ _ _ t1,T.cl_q124,T.n_q70,_,rfl,_,rfl,_,SqL.of (cQ _ _ t3),.ref a1,rfl,by decide,fun it hit=>⟨by decide,fun l3 hl3=>?_⟩⟩;have s5:Same HQ (upd HQ it (.tup [.ref a1,.int 0])):=Same.upd hit;have e5:upd HQ it (.tup [.ref a1,.int 0]) it=some (.tup [.ref a1,.int 0]):=ab_;generalize upd HQ it (.tup [.ref a1,.int 0])=H5 at s5 e5 hl3 ⊢;have s6:Same H5 (upd H5 l3 (.lst [.str (Str.ofString " in "),.ref it])):=Same.upd hl3;have e6:upd H5 l3 (.lst [.str (Str.ofString " in "),.ref it]) l3=some (.lst [.str (Str.ofString " in "),.ref it]):=ab_;generalize upd H5 l3 (.lst [.str (Str.ofString " in "),.ref it])=H6 at s6 e6 ⊢;refine ⟨_,s6 _ _ (s5 _ _ eQ),_,rfl,Nat.le_trans (show uQ.length+2<=1002 by omega) (by decide),fun q hq=>?_⟩;have sm:=sQ.trans (s5.trans s6);refine k q _ _ (none_of sm hq) (sm.trans (Same.upd hq)) ab_ ?_;rw [bQ];exact a7_ (Paired.mapP pQ fun _ _ z=>z.same (s5.trans (s6.trans (Same.upd hq)))) (.cons (by rw [aq_];rfl) (.cons ⟨it,a1,rfl,(Same.upd hq) _ _ (s6 _ _ e5),h1⟩ .nil))
end
set_option maxHeartbeats 2000000
section
variable {P:Program}{w:World}{K:PySem.W.Frag}{mg:Str->Option Value}{base:Heap}
theorem ok_q50 (T:TX w K mg):FnOk P w K mg base CX0 1 T.f_q50 T.d_q50 ["node"] (cK_ T.C_q124 (fun x=>aw_ x=cf_ (a4_ x) (bD_ x)) aw_):=by
 refine T.F_q50.fn.ok sc_q50 (fun _ _ _ _ h=>?_) (fun _ _ _ _ H _ Q E hr h=>?_)
 ·obtain ⟨a,x,H0,rfl,_⟩:=h
  rfl
 obtain ⟨a,x,H0,rfl,hb,s0,hx,hsz,hwb,k⟩:=h;refine ⟨_,(ad_ (az_ 1 sc_q50.nd (ax_ (aa_ (ah_ (pv 0) rfl) ac_)))
  (ad_ (ff_ PassesOwn.never rfl (eA_ (ah_ (pv 0) rfl)) (pg_q 2 sc_q50.nd) (ae_ (az_ 1 sc_q50.nd (aI_ bw_ (pv 1) (ax_ (aa_ ak_ (aa_ (bk_ (aa_ (pv 2) (aa_ (pe_g T.g_q88) ac_))) ac_)))))))
  (ae_ (aj_ (pv 1))))),?_⟩
 obtain ⟨dx,wl,pl,b0,e,as,t1,t2,t3,t4⟩:=a3_ hx;have t1':=s0 _ _ t1;have t3':=s0 _ _ t3;simp! [tSeq,tFld,t1'];refine ⟨T.cl_q124,T.n_q94,_,rfl,by decide,fun l1 hl1=>?_⟩;have s1:Same H (upd H l1 (.lst [.str (S (a4_ x))])):=Same.upd hl1;have e1:upd H l1 (.lst [.str (S (a4_ x))]) l1=some (.lst [.str (S (a4_ x))]):=ab_;generalize upd H l1 (.lst [.str (S (a4_ x))])=H1 at s1 e1 ⊢;have hpl:(bD_ x).length<=3:=by cases x <;> simp [bD_]
 have hal:as.length=(bD_ x).length:=Paired.length t4;obtain ⟨Pv,hPv⟩ : ∃ Pv:Nat->L2.St->Hp->Prop,Pv=fun i σ H3=>∃ (pc:Addr) (us:List V) (z:Option V),σ=[some (.ref a),some (.ref pc),z]/\H pc=none/\Same H1 H3/\H3 pc=some (.lst us)/\us.length<=1+2 * i/\Paired (PS1 T.C_q124 H0 H3) us (cf_ (a4_ x) ((bD_ x).take i)):=⟨_,rfl⟩;refine bo_ ?_;simp! [tSeq,tFld];refine ⟨_,_,_,s1 _ _ t1',T.cl_q124,T.n_q70,_,rfl,_,rfl,⟨_,SqL.of (s1 _ _ t3')⟩,?_⟩;refine dA_ (as.map V.ref) Pv (by rw [hPv];exact ⟨l1,_,none,rfl,hl1,Same.refl _,e1,Nat.le_refl _,.cons rfl .nil⟩) (fun i σ H3 _ q=>?_) (fun i v σ H3 hv q=>?_) fun σ H3 q=>?_
 ·rw [hPv] at q
  obtain ⟨pc,us,z,rfl,hpc,s3,h3,hul,pu⟩:=q;exact SqL.of (s3 _ _ (s1 _ _ t3'))
 ·rw [hPv] at q
  obtain ⟨pc,us,z,rfl,hpc,s3,h3,hul,pu⟩:=q;rw [getElem?_map] at hv;cases qi:as[i]? with
  | none=>rw [qi] at hv;cases hv
  | some ac =>
  rw [qi] at hv;cases hv;have hil:=(List.getElem?_eq_some_iff.mp qi).1;obtain ⟨t,ht,hsub⟩:=dt_ t4 qi;simp! [tSeq,dz_,rCat];refine ⟨by decide,fun it hit=>⟨by decide,fun l3 hl3=>?_⟩⟩;have s5:Same H3 (upd H3 it (.tup [.ref ac,.int 10])):=Same.upd hit;have e5:upd H3 it (.tup [.ref ac,.int 10]) it=some (.tup [.ref ac,.int 10]):=ab_;generalize upd H3 it (.tup [.ref ac,.int 10])=H5 at s5 e5 hl3 ⊢;have s6:Same H5 (upd H5 l3 (.lst [.str (Str.ofString " "),.ref it])):=Same.upd hl3;generalize upd H5 l3 (.lst [.str (Str.ofString " "),.ref it])=H6 at s6 ⊢;refine ⟨_,s6 _ _ (s5 _ _ h3),_,rfl,Nat.le_trans (show us.length+2<=1002 by omega) (by decide),fun q hq=>?_⟩;have sm:=s3.trans (s5.trans s6);rw [hPv];refine ⟨q,_,_,rfl,none_of (s1.trans sm) hq,sm.trans (Same.upd hq),ab_,by rw [length_append];show us.length+2<=_;omega,?_⟩;have en:cf_ (a4_ x) ((bD_ x).take (i+1))=cf_ (a4_ x) ((bD_ x).take i)++[.inl [32],.inr (t,10)]:=by
   unfold cf_;rw [take_succ,ht,flatMap_append];rfl
  rw [en];exact a7_ (Paired.mapP pu fun _ _ z=>z.same (s5.trans (s6.trans (Same.upd hq)))) (.cons (by rw [aq_];rfl) (.cons ⟨it,ac,rfl,(Same.upd hq) _ _ (s6 _ _ e5),hsub⟩ .nil))
 rw [hPv] at q;obtain ⟨pc,us,z,rfl,hpc,s3,h3,hul,pu⟩:=q;rw [length_map,hal,take_length] at pu;simp! [tSeq];exact k pc us H3 hpc (s1.trans s3) h3 (by rw [hb];exact pu)
def fN_ (Cn:Addr):Sp:=fun vs H Q _=>∃ (ml:Addr) (as:List Addr) (m:Term) (ms:List Term) (H0:Hp),vs=[.ref ml]/\H ml=some (.lst (as.map V.ref))/\Same H0 H/\Paired (SubT Cn H0) as (m::ms)/\ms.length<=1000/\∀ (p:Addr) (us:List V) (H':Hp),H p=none->Same H H'->H' p=some (.lst us)->Paired (PS1 Cn H0 H') us (dj_ (m::ms))->us.length<=2001->Q (.ref p) H'
theorem nS_ (x:V) (r:List V):cutV (x::r) (some 1) none=r:=by
 unfold cutV;have e1:HT.sIx (x::r).length 0 (some 1)=1:=by
  have:=HT.sIx_nat (x::r).length 0 1;rw [show (1:Int)=((1:Nat):Int) from rfl,this,length_cons];omega
 rw [e1,HT.sIx_none,length_cons];show r.take (r.length+1 - 1)=r;rw [Nat.add_sub_cancel,take_length]
theorem ok_q38 (T:TX w K mg):FnOk P w K mg base CX0 1 T.f_q38 T.d_q38 ["members"] (fN_ T.C_q124):=by
 refine T.F_q38.fn.ok sc_q38 (fun _ _ _ _ h=>?_) (fun _ _ _ _ H _ Q E hr h=>?_)
 ·obtain ⟨ml,as,m,ms,H0,rfl,_⟩:=h
  rfl
 obtain ⟨ml,as,m,ms,H0,rfl,hml,s0,pm,hlm,k⟩:=h;refine ⟨_,(ad_ (az_ 1 sc_q38.nd (ax_ (aa_ (bk_ (aa_ (aC_ ao_ (pv 0) ai_ (fun _ _=>rfl)) (aa_ (pe_g T.g_q91) ac_))) ac_)))
  (ad_ (ff_ PassesOwn.never rfl (eA_ (b2_ ew_ (pv 0) (bB_ ai_) hs_)) (pg_q 2 sc_q38.nd) (ae_ (az_ 1 sc_q38.nd (aI_ bw_ (pv 1) (ax_ (aa_ ak_ (aa_ (bk_ (aa_ (pv 2) (aa_ (pe_g T.g_q91) ac_))) ac_)))))))
  (ae_ (aj_ (pv 1))))),?_⟩
 cases pm with
 | @cons a0 _ as _ h0 pm =>
 have hal:as.length=ms.length:=Paired.length pm;simp! [tSeq];refine ⟨_,SqL.of hml,.ref a0,bv_ (j:=0) rfl,by decide,fun it0 hit0=>⟨by decide,fun l1 hl1=>?_⟩⟩;have s1:Same H (upd H it0 (.tup [.ref a0,.int 0])):=Same.upd hit0;have e1:upd H it0 (.tup [.ref a0,.int 0]) it0=some (.tup [.ref a0,.int 0]):=ab_;generalize upd H it0 (.tup [.ref a0,.int 0])=H1 at s1 e1 hl1 ⊢;have s2:Same H1 (upd H1 l1 (.lst [.ref it0])):=Same.upd hl1;have e2:upd H1 l1 (.lst [.ref it0]) l1=some (.lst [.ref it0]):=ab_;generalize upd H1 l1 (.lst [.ref it0])=H2 at s2 e2 ⊢;have s12:=s1.trans s2;refine bo_ ?_;simp! [tSeq];refine ⟨_,SqL.of (s12 _ _ hml),fun sl hsl=>?_⟩;have ecut:cutV (((a0::as).map V.ref)) (some 1) none=as.map V.ref:=nS_ _ _;rw [ecut];have s3:Same H2 (upd H2 sl (.lst (as.map V.ref))):=Same.upd hsl;have e3:upd H2 sl (.lst (as.map V.ref)) sl=some (.lst (as.map V.ref)):=ab_;generalize upd H2 sl (.lst (as.map V.ref))=H3 at s3 e3 ⊢;refine ⟨⟨_,SqL.of e3⟩,?_⟩;obtain ⟨Pv,hPv⟩ : ∃ Pv:Nat->L2.St->Hp->Prop,Pv=fun i σ H4=>∃ (pc:Addr) (us:List V) (z:Option V),σ=[some (.ref ml),some (.ref pc),z]/\H pc=none/\Same H3 H4/\H4 pc=some (.lst us)/\us.length<=1+2 * i/\Paired (PS1 T.C_q124 H0 H4) us (dj_ (m::ms.take i)):=⟨_,rfl⟩;refine dA_ (as.map V.ref) Pv (by rw [hPv];exact ⟨l1,_,none,rfl,none_of s1 hl1,Same.refl _,s3 _ _ e2,Nat.le_refl _,.cons ⟨it0,a0,rfl,s3 _ _ (s2 _ _ e1),h0⟩ .nil⟩) (fun i σ H4 _ q=>?_) (fun i v σ H4 hv q=>?_) fun σ H4 q=>?_
 ·rw [hPv] at q
  obtain ⟨pc,us,z,rfl,hpc,s4,h4,hul,pu⟩:=q;exact SqL.of (s4 _ _ e3)
 ·rw [hPv] at q
  obtain ⟨pc,us,z,rfl,hpc,s4,h4,hul,pu⟩:=q;rw [getElem?_map] at hv;cases qi:as[i]? with
  | none=>rw [qi] at hv;cases hv
  | some ac =>
  rw [qi] at hv;cases hv;have hil:=(List.getElem?_eq_some_iff.mp qi).1;obtain ⟨t,ht,hsub⟩:=dt_ pm qi;simp! [tSeq,dz_,rCat];refine ⟨by decide,fun it hit=>⟨by decide,fun l3 hl3=>?_⟩⟩;have s5:Same H4 (upd H4 it (.tup [.ref ac,.int 0])):=Same.upd hit;have e5:upd H4 it (.tup [.ref ac,.int 0]) it=some (.tup [.ref ac,.int 0]):=ab_;generalize upd H4 it (.tup [.ref ac,.int 0])=H5 at s5 e5 hl3 ⊢;have s6:Same H5 (upd H5 l3 (.lst [.str (Str.ofString ", "),.ref it])):=Same.upd hl3;generalize upd H5 l3 (.lst [.str (Str.ofString ", "),.ref it])=H6 at s6 ⊢;refine ⟨_,s6 _ _ (s5 _ _ h4),_,rfl,Nat.le_trans (show us.length+2<=3000 by omega) (by decide),fun q hq=>?_⟩;have sm:=s4.trans (s5.trans s6);rw [hPv];refine ⟨q,_,_,rfl,none_of (s12.trans (s3.trans sm)) hq,sm.trans (Same.upd hq),ab_,by rw [length_append];show us.length+2<=_;omega,?_⟩;have en:dj_ (m::ms.take (i+1))=dj_ (m::ms.take i)++[.inl [44,32],.inr (t,0)]:=by
   show Sum.inr (m,0)::(ms.take (i+1)).flatMap (fun x=>[.inl [44,32],.inr (x,0)])=(Sum.inr (m,0)::(ms.take i).flatMap (fun x=>[.inl [44,32],.inr (x,0)]))++_;rw [take_succ,ht,flatMap_append];rfl
  rw [en];exact a7_ (Paired.mapP pu fun _ _ z=>z.same (s5.trans (s6.trans (Same.upd hq)))) (.cons (by rw [aq_];rfl) (.cons ⟨it,ac,rfl,(Same.upd hq) _ _ (s6 _ _ e5),hsub⟩ .nil))
 rw [hPv] at q;obtain ⟨pc,us,z,rfl,hpc,s4,h4,hul,pu⟩:=q;rw [length_map,hal] at hul pu;rw [take_length] at pu;simp! [tSeq];exact k pc us H4 hpc (s12.trans (s3.trans s4)) h4 pu (by omega)
theorem dC_ {u:Term}:a4_ u=Vaunid.txt "cons"↔∃ a b,u = .two .cons a b:=by
 constructor
 ·intro h
  have q:=ma_ (f := .cons) h;cases u with
  | two o a b=>cases o <;> first | (cases q;done) | exact ⟨a,b,rfl⟩
  | leaf l=>cases q
  | one o a=>cases o <;> cases q
  | three o a b c=>cases o <;> cases q
  | _=>cases q
 rintro ⟨a,b,rfl⟩
 rfl
theorem jj_ {u:Term}:a4_ u=Vaunid.txt "pair"↔∃ a b,u = .two .pair a b:=by
 constructor
 ·intro h
  have q:=ma_ (f := .pair) h;cases u with
  | two o a b=>cases o <;> first | (cases q;done) | exact ⟨a,b,rfl⟩
  | leaf l=>cases q
  | one o a=>cases o <;> cases q
  | three o a b c=>cases o <;> cases q
  | _=>cases q
 rintro ⟨a,b,rfl⟩
 rfl
theorem nC_ {u:Term} (hf : ¬ a4_ u=Vaunid.txt "cons"):Vaunid.endsNil u=true↔a4_ u=Vaunid.txt "nil":=by
 constructor
 ·intro h
  rcases fx_ h with rfl | ⟨a,b,rfl,_⟩
  ·rfl
  exact absurd rfl hf
 intro h;cases q:fmX u with
 | none =>
  cases u with
  | leaf l =>
   cases l with
   | nil=>rfl
   | truth b=>cases b <;> exact absurd h (by decide +kernel)
   | name y=>exact absurd h (show ¬ Vaunid.txt "name"=Vaunid.txt "nil" by decide +kernel)
   | num v=>exact absurd h (show ¬ Vaunid.txt "number"=Vaunid.txt "nil" by decide +kernel)
  | _=>cases q
 | some f =>
 rw [f4_ q] at h;cases f <;> exact absurd h (by decide +kernel)
def fM_ (Cn:Addr):Sp:=fun vs H Q _=>∃ (a:Addr) (x:Term),vs=[.ref a]/\SubT Cn H a x/\Q (.bl (Vaunid.endsNil x)) H
theorem ok_q106 (T:TX w K mg):FnOk P w K mg base CX0 1 T.f_q106 T.d_q106 ["node"] (fM_ T.C_q124):=by
 refine T.F_q106.fn.ok sc_q106 (fun _ _ _ _ h=>?_) (fun _ _ _ _ H _ Q E hr h=>?_)
 ·obtain ⟨a,x,rfl,_⟩:=h
  rfl
 obtain ⟨a,x,rfl,hx,k⟩:=h;refine ⟨_,(ad_ (bq_ PassesOwn.never (am_ bn_ (ah_ (pv 0) rfl) ak_ (au_ _)) (ae_ (az_ 0 sc_q106.nd (aC_ ao_ (ah_ (pv 0) rfl) ai_ (fun _ _=>rfl)))))
  (ae_ (aj_ (eB_ bn_ (ah_ (pv 0) rfl) ak_ (au_ _))))),?_⟩
 simp! [tSeq];obtain ⟨Pv,hPv⟩ : ∃ Pv:Nat->L2.St->Hp->Prop,Pv=fun m σ H'=>H'=H/\∃ (b:Addr) (y:Term),m=szX y/\σ=[some (.ref b)]/\SubT T.C_q124 H b y/\Vaunid.endsNil x=Vaunid.endsNil y:=⟨_,rfl⟩;refine bL_ Pv _ (by rw [hPv];exact ⟨rfl,a,x,rfl,rfl,hx,rfl⟩) fun m σ H' hp=>?_;rw [hPv] at hp;obtain ⟨rfl,b,y,rfl,rfl,hy,he⟩:=hp;obtain ⟨dx,wl,pl,b0,e,as,t1,t2,t3,t4⟩:=a3_ hy;simp! [tSeq,tFld,t1];refine ⟨T.cl_q124,T.n_q94,_,rfl,rfl,?_⟩;by_cases hf:a4_ y=Vaunid.txt "cons"
 ·rw [if_pos (by rw [hf,aq_])]
  obtain ⟨c,d,rfl⟩:=dC_.mp hf;obtain ⟨a0,a1,rfl,h0,h1⟩:=pr2 t4;refine ⟨_,fun _ _ z=>z,T.cl_q124,T.n_q70,_,rfl,_,rfl,_,SqL.of t3,.ref a1,rfl,szX d,by simp only [szX];omega,?_⟩;rw [hPv];exact ⟨rfl,a1,d,rfl,rfl,h1,he⟩
 rw [if_neg (by rw [aq_];simp only [V.str.injEq,bH_];exact hf)];refine ⟨T.cl_q124,T.n_q94,_,rfl,rfl,?_⟩;have e2:decide (V.str (S (a4_ y))=V.str (Str.ofString "nil"))=Vaunid.endsNil y:=by
  rw [Bool.eq_iff_iff,decide_eq_true_eq,aq_];simp only [V.str.injEq,bH_];exact (nC_ hf).symm
 rw [e2,<- he];exact k
end
set_option maxHeartbeats 2000000
section
variable {P:Program}{w:World}{K:PySem.W.Frag}{mg:Str->Option Value}{base:Heap}
theorem kk_ : ∀ u:Term,(aF_ u).length<=szX u:=by
 intro u;have h:=f9_ u;have : ∀ l:List Term,13 * l.length<=(l.map fun x=>1+12 * szX x).sum:=by
  intro l
  induction l with
  | nil=>exact Nat.le_refl _
  | cons x r ih =>
  rw [map_cons,sum_cons,length_cons];have:1<=szX x:=by cases x <;> simp only [szX] <;> omega
  omega
 have:=this (aF_ u);omega
theorem ok_q39 (T:TX w K mg):FnOk P w K mg base CX0 2 T.f_q39 T.d_q39 ["node"] (cK_ T.C_q124 (fun x=>∃ a b,x = .two .pair a b) aw_):=by
 have G_q38:=ok_q38 (P:=P) (base:=base) T;refine T.F_q39.fn.ok sc_q39 (fun _ _ _ _ h=>?_) (fun _ _ _ _ H _ Q E hr h=>?_)
 ·obtain ⟨a,x,H0,rfl,_⟩:=h
  rfl
 obtain ⟨a,x,H0,rfl,⟨xa,xb,rfl⟩,s0,hx,hsz,hwb,k⟩:=h;refine ⟨_,(ad_ (az_ 1 sc_q39.nd (ax_ ac_))
  (ad_ (bq_ PassesOwn.never (am_ bn_ (ah_ (pv 0) rfl) ak_ (au_ _)) (ad_ (a2_ (c5_ pla sla tla aR_ (pv 1) (aa_ (aC_ ao_ (ah_ (pv 0) rfl) ai_ (fun _ _=>rfl)) ac_)))
  (ae_ (az_ 0 sc_q39.nd (aC_ ao_ (ah_ (pv 0) rfl) ai_ (fun _ _=>rfl))))))
  (ad_ (a2_ (c5_ pla sla tla aR_ (pv 1) (aa_ (pv 0) ac_)))
  (ae_ (aj_ (aI_ bw_ (aI_ bw_ (ax_ (aa_ ak_ ac_)) (aE_ T.F_q38 G_q38 hr.m ar_ (aa_ (pv 1) ac_))) (ax_ (aa_ ak_ ac_)))))))),?_⟩
 simp! [tSeq];refine ⟨zero_le _,fun ml hml=>?_⟩;have s1:Same H (upd H ml (.lst [])):=Same.upd hml;have e1:upd H ml (.lst []) ml=some (.lst []):=ab_;generalize upd H ml (.lst [])=H1 at s1 e1 ⊢;have hml0:H0 ml=none:=none_of s0 hml;obtain ⟨Pv,hPv⟩ : ∃ Pv:Nat->L2.St->Hp->Prop,Pv=fun m σ H'=>∃ (b:Addr) (y:Term) (as:List Addr) (dn:List Term),m=szX y/\σ=[some (.ref b),some (.ref ml)]/\ap_ [ml] H1 H'/\H' ml=some (.lst (as.map V.ref))/\SubT T.C_q124 H0 b y/\Paired (SubT T.C_q124 H0) as dn/\aF_ (.two .pair xa xb)=dn++aF_ y/\dn.length+szX y<=300:=⟨_,rfl⟩;refine bL_ Pv _ (by rw [hPv];exact ⟨a,_,[],[],rfl,rfl,fun _ _ _ q=>q,e1,hx,.nil,rfl,by show 0+_<=_;omega⟩) fun m σ H' hp=>?_;rw [hPv] at hp;obtain ⟨b,y,as,dn,rfl,rfl,sx,hm',hy,pd,hM,hle⟩:=hp;have sm':Same H H':=sx.base s1 fun z hz=>by rw [List.mem_singleton.mp hz];exact hml
 obtain ⟨dx,wl,pl,b0,e,cs,t1,t2,t3,t4⟩:=a3_ hy;have t1':=sm' _ _ (s0 _ _ t1);have t3':=sm' _ _ (s0 _ _ t3);have hal:as.length=dn.length:=Paired.length pd;simp! [tSeq,tFld,t1'];refine ⟨T.cl_q124,T.n_q94,_,rfl,rfl,?_⟩;by_cases hf:a4_ y=Vaunid.txt "pair"
 ·rw [if_pos (by rw [hf,aq_])]
  obtain ⟨c,d,rfl⟩:=jj_.mp hf;obtain ⟨a0,a1,rfl,h0,h1⟩:=pr2 t4;have hsy:szX (.two .pair c d)=1+szX c+szX d:=rfl;refine ⟨_,fun _ _ z=>z,?_⟩;simp! [tSeq,tBM,bc_,tFld,t1'];refine ⟨.inl ⟨rfl,_,SqL.of hm'⟩,T.cl_q124,T.n_q70,_,rfl,_,rfl,_,SqL.of t3',.ref a0,rfl,_,hm',?_,?_⟩
  ·rw [length_map]
   exact Nat.lt_of_le_of_lt (show _<=300 by omega) (by decide)
  have sx2:ap_ [ml] H' (upd H' ml (.lst (as.map V.ref++[.ref a0]))):=ap_.upd (List.mem_singleton.mpr rfl);have e6:upd H' ml (.lst (as.map V.ref++[.ref a0])) ml=some (.lst (as.map V.ref++[.ref a0])):=ab_;generalize upd H' ml (.lst (as.map V.ref++[.ref a0]))=H2 at sx2 e6 ⊢;have ne1:b≠ml:=ag_ t1 hml0;have ne3:pl≠ml:=ag_ t3 hml0;refine ⟨_,_,_,sx2 _ _ (nin ne1) t1',T.cl_q124,T.n_q70,_,rfl,_,rfl,_,SqL.of (sx2 _ _ (nin ne3) t3'),.ref a1,rfl,szX d,by omega,?_⟩;rw [hPv];refine ⟨a1,d,as++[a0],dn++[c],rfl,rfl,sx.trans sx2,by rw [e6,map_append];rfl,h1,bd_ pd h0,?_,by rw [length_append];show dn.length+1+_<=_;omega⟩;rw [hM,append_assoc];rfl
 rw [if_neg (by rw [aq_];simp only [V.str.injEq,bH_];exact hf)];simp! [tSeq,tBM,bc_];refine ⟨.inl ⟨rfl,_,SqL.of hm'⟩,_,hm',by rw [length_map];exact Nat.lt_of_le_of_lt (show _<=300 by omega) (by decide),?_⟩;have sx2:ap_ [ml] H' (upd H' ml (.lst (as.map V.ref++[.ref b]))):=ap_.upd (List.mem_singleton.mpr rfl);have e6:upd H' ml (.lst (as.map V.ref++[.ref b])) ml=some (.lst ((as++[b]).map V.ref)):=by rw [ab_,map_append];rfl
 generalize upd H' ml (.lst (as.map V.ref++[.ref b]))=H2 at sx2 e6 ⊢;have sm2:Same H H2:=(sx.trans sx2).base s1 fun z hz=>by rw [List.mem_singleton.mp hz];exact hml
 have eM:aF_ (.two .pair xa xb)=dn++[y]:=by
  rw [hM];congr 1;cases y with
  | two o c d=>cases o with
   | pair=>exact absurd rfl hf
   | _=>rfl
  | _=>rfl
 have pd2:Paired (SubT T.C_q124 H0) (as++[b]) (xa::aF_ xb):=by
  have:=bd_ pd hy;rw [<- eM] at this;exact this
 have hml2:=kk_ xb;have hsx:szX (.two .pair xa xb)=1+szX xa+szX xb:=rfl;simp! [tSeq,rCat,fN_];refine ⟨by decide,fun l1 hl1=>?_⟩;have s3:Same H2 (upd H2 l1 (.lst [.str (Str.ofString "(")])):=Same.upd hl1;have e3:upd H2 l1 (.lst [.str (Str.ofString "(")]) l1=some (.lst [.str (Str.ofString "(")]):=ab_;generalize upd H2 l1 (.lst [.str (Str.ofString "(")])=H3 at s3 e3 ⊢;refine ⟨_,s3 _ _ e6,xa,aF_ xb,H0,s0.trans (sm2.trans s3),pd2,by omega,fun p us H4 hp s4 e4 pu hul=>⟨_,s4 _ _ e3,_,e4,Nat.le_trans (show 1+us.length<=3000 by omega) (by decide),fun p2 hp2=>⟨by decide,fun l3 hl3=>?_⟩⟩⟩;have s5:Same H4 (upd H4 p2 (.lst ([.str (Str.ofString "(")]++us))):=Same.upd hp2;have e5:upd H4 p2 (.lst ([.str (Str.ofString "(")]++us)) p2=some (.lst ([.str (Str.ofString "(")]++us)):=ab_;generalize upd H4 p2 (.lst ([.str (Str.ofString "(")]++us))=H5 at s5 e5 hl3 ⊢;have s6:Same H5 (upd H5 l3 (.lst [.str (Str.ofString ")")])):=Same.upd hl3;generalize upd H5 l3 (.lst [.str (Str.ofString ")")])=H6 at s6 ⊢;refine ⟨_,s6 _ _ e5,_,rfl,Nat.le_trans (show _<=3000 by simp only [length_append,length_cons,length_nil];omega) (by decide),fun q hq=>?_⟩;have sm:=sm2.trans (s3.trans (s4.trans (s5.trans s6)));refine k q _ _ (none_of sm hq) (sm.trans (Same.upd hq)) ab_ ?_;have eb:aw_ (.two .pair xa xb) = .inl [40]::(dj_ (xa::aF_ xb)++[.inl [41]]):=rfl;rw [eb];exact .cons (by rw [aq_];rfl) (a7_ (Paired.mapP pu fun _ _ z=>z.same (s5.trans (s6.trans (Same.upd hq)))) (.cons (by rw [aq_];rfl) .nil))
theorem kx_ : ∀ u:Term,(aY_ u).length<=szX u:=by
 intro u;have h:=ga_ u;have : ∀ l:List Term,13 * l.length<=(l.map fun x=>1+12 * szX x).sum:=by
  intro l
  induction l with
  | nil=>exact Nat.le_refl _
  | cons x r ih =>
  rw [map_cons,sum_cons,length_cons];have:1<=szX x:=by cases x <;> simp only [szX] <;> omega
  omega
 have:=this (aY_ u);omega
theorem ok_q45 (T:TX w K mg):FnOk P w K mg base CX0 2 T.f_q45 T.d_q45 ["node"] (cK_ T.C_q124 (fun x=>∃ a b,x = .two .cons a b) aw_):=by
 have G_q106:=ok_q106 (P:=P) (base:=base) T;have G_q108:=ok_q108 (P:=P) (base:=base) T;have G_q38:=ok_q38 (P:=P) (base:=base) T;refine T.F_q45.fn.ok sc_q45 (fun _ _ _ _ h=>?_) (fun _ _ _ _ H _ Q E hr h=>?_)
 ·obtain ⟨a,x,H0,rfl,_⟩:=h
  rfl
 obtain ⟨a,x,H0,rfl,⟨xa,xb,rfl⟩,s0,hx,hsz,hwb,k⟩:=h;refine ⟨_,(ad_ (aT_ (j1_ (bR_ (aE_ T.F_q106 G_q106 hr.m ar_ (aa_ (pv 0) ac_)))) (ae_ (aj_ (aE_ T.F_q108 G_q108 hr.m ar_ (aa_ (pv 0) (aa_ ak_ ac_))))) atz_)
  (ad_ (az_ 1 sc_q45.nd (ax_ ac_))
  (ad_ (bq_ PassesOwn.never (am_ bn_ (ah_ (pv 0) rfl) ak_ (au_ _)) (ad_ (a2_ (c5_ pla sla tla aR_ (pv 1) (aa_ (aC_ ao_ (ah_ (pv 0) rfl) ai_ (fun _ _=>rfl)) ac_)))
  (ae_ (az_ 0 sc_q45.nd (aC_ ao_ (ah_ (pv 0) rfl) ai_ (fun _ _=>rfl))))))
  (ae_ (aj_ (aI_ bw_ (aI_ bw_ (ax_ (aa_ ak_ ac_)) (aE_ T.F_q38 G_q38 hr.m ar_ (aa_ (pv 1) ac_))) (ax_ (aa_ ak_ ac_)))))))),?_⟩
 simp! [tSeq,fM_];refine ⟨.two .cons xa xb,hx.imp fun tr h=>h.imp fun F h=>⟨h.1,h.2.same s0⟩,?_⟩;by_cases hen:Vaunid.endsNil xb=true
 case' neg =>
  have e1:Vaunid.endsNil (.two .cons xa xb)=false:=by
   show Vaunid.endsNil xb=false;simpa using hen
  rw [e1,if_pos (by rfl)];simp! [tSeq,nd_];exact ⟨.cons,xa,xb,"::",rfl,6,5,by simp,H0,s0,hx,by
   have e2:aw_ (.two .cons xa xb)=M.ca_ "::" 6 5 xa xb:=by simp only [aw_,if_neg hen]
   rw [e2] at k;exact k⟩
 have e1:Vaunid.endsNil (.two .cons xa xb)=true:=hen;rw [e1,if_neg (by simp)];clear e1;refine ⟨zero_le _,fun ml hml=>?_⟩;have s1:Same H (upd H ml (.lst [])):=Same.upd hml;have e1:upd H ml (.lst []) ml=some (.lst []):=ab_;generalize upd H ml (.lst [])=H1 at s1 e1 ⊢;have hml0:H0 ml=none:=none_of s0 hml;obtain ⟨Pv,hPv⟩ : ∃ Pv:Nat->L2.St->Hp->Prop,Pv=fun m σ H'=>∃ (b:Addr) (y:Term) (as:List Addr) (dn:List Term),m=szX y/\σ=[some (.ref b),some (.ref ml)]/\ap_ [ml] H1 H'/\H' ml=some (.lst (as.map V.ref))/\SubT T.C_q124 H0 b y/\Paired (SubT T.C_q124 H0) as dn/\aY_ (.two .cons xa xb)=dn++aY_ y/\dn.length+szX y<=300:=⟨_,rfl⟩;refine bL_ Pv _ (by rw [hPv];exact ⟨a,_,[],[],rfl,rfl,fun _ _ _ q=>q,e1,hx,.nil,rfl,by show 0+_<=_;omega⟩) fun m σ H' hp=>?_;rw [hPv] at hp;obtain ⟨b,y,as,dn,rfl,rfl,sx,hm',hy,pd,hM,hle⟩:=hp;have sm':Same H H':=sx.base s1 fun z hz=>by rw [List.mem_singleton.mp hz];exact hml
 obtain ⟨dx,wl,pl,b0,e,cs,t1,t2,t3,t4⟩:=a3_ hy;have t1':=sm' _ _ (s0 _ _ t1);have t3':=sm' _ _ (s0 _ _ t3);have hal:as.length=dn.length:=Paired.length pd;simp! [tSeq,tFld,t1'];refine ⟨T.cl_q124,T.n_q94,_,rfl,rfl,?_⟩;by_cases hf:a4_ y=Vaunid.txt "cons"
 ·rw [if_pos (by rw [hf,aq_])]
  obtain ⟨c,d,rfl⟩:=dC_.mp hf;obtain ⟨a0,a1,rfl,h0,h1⟩:=pr2 t4;have hsy:szX (.two .cons c d)=1+szX c+szX d:=rfl;refine ⟨_,fun _ _ z=>z,?_⟩;simp! [tSeq,tBM,bc_,tFld,t1'];refine ⟨.inl ⟨rfl,_,SqL.of hm'⟩,T.cl_q124,T.n_q70,_,rfl,_,rfl,_,SqL.of t3',.ref a0,rfl,_,hm',?_,?_⟩
  ·rw [length_map]
   exact Nat.lt_of_le_of_lt (show _<=300 by omega) (by decide)
  have sx2:ap_ [ml] H' (upd H' ml (.lst (as.map V.ref++[.ref a0]))):=ap_.upd (List.mem_singleton.mpr rfl);have e6:upd H' ml (.lst (as.map V.ref++[.ref a0])) ml=some (.lst (as.map V.ref++[.ref a0])):=ab_;generalize upd H' ml (.lst (as.map V.ref++[.ref a0]))=H2 at sx2 e6 ⊢;have ne1:b≠ml:=ag_ t1 hml0;have ne3:pl≠ml:=ag_ t3 hml0;refine ⟨_,_,_,sx2 _ _ (nin ne1) t1',T.cl_q124,T.n_q70,_,rfl,_,rfl,_,SqL.of (sx2 _ _ (nin ne3) t3'),.ref a1,rfl,szX d,by omega,?_⟩;rw [hPv];refine ⟨a1,d,as++[a0],dn++[c],rfl,rfl,sx.trans sx2,by rw [e6,map_append];rfl,h1,bd_ pd h0,?_,by rw [length_append];show dn.length+1+_<=_;omega⟩;rw [hM,append_assoc];rfl
 rw [if_neg (by rw [aq_];simp only [V.str.injEq,bH_];exact hf)];have sm2:=sm';have e6:=hm';have eM:aY_ (.two .cons xa xb)=dn:=by
  rw [hM];have:aY_ y=[]:=by
   cases y with
   | two o c d=>cases o with
    | cons=>exact absurd rfl hf
    | _=>rfl
   | _=>rfl
  rw [this,append_nil]
 have pd2:Paired (SubT T.C_q124 H0) as (xa::aY_ xb):=by
  rw [<- eM] at pd;exact pd
 have hml2:=kx_ xb;have hsx:szX (.two .cons xa xb)=1+szX xa+szX xb:=rfl;simp! [tSeq,rCat,fN_];refine ⟨by decide,fun l1 hl1=>?_⟩;have s3:Same H' (upd H' l1 (.lst [.str (Str.ofString "[")])):=Same.upd hl1;have e3:upd H' l1 (.lst [.str (Str.ofString "[")]) l1=some (.lst [.str (Str.ofString "[")]):=ab_;generalize upd H' l1 (.lst [.str (Str.ofString "[")])=H3 at s3 e3 ⊢;refine ⟨_,s3 _ _ e6,xa,aY_ xb,H0,s0.trans (sm2.trans s3),pd2,by omega,fun p us H4 hp s4 e4 pu hul=>⟨_,s4 _ _ e3,_,e4,Nat.le_trans (show 1+us.length<=3000 by omega) (by decide),fun p2 hp2=>⟨by decide,fun l3 hl3=>?_⟩⟩⟩;have s5:Same H4 (upd H4 p2 (.lst ([.str (Str.ofString "[")]++us))):=Same.upd hp2;have e5:upd H4 p2 (.lst ([.str (Str.ofString "[")]++us)) p2=some (.lst ([.str (Str.ofString "[")]++us)):=ab_;generalize upd H4 p2 (.lst ([.str (Str.ofString "[")]++us))=H5 at s5 e5 hl3 ⊢;have s6:Same H5 (upd H5 l3 (.lst [.str (Str.ofString "]")])):=Same.upd hl3;generalize upd H5 l3 (.lst [.str (Str.ofString "]")])=H6 at s6 ⊢;refine ⟨_,s6 _ _ e5,_,rfl,Nat.le_trans (show _<=3000 by simp only [length_append,length_cons,length_nil];omega) (by decide),fun q hq=>?_⟩;have sm:=sm2.trans (s3.trans (s4.trans (s5.trans s6)));refine k q _ _ (none_of sm hq) (sm.trans (Same.upd hq)) ab_ ?_;have eb:aw_ (.two .cons xa xb) = .inl [91]::(dj_ (xa::aY_ xb)++[.inl [93]]):=by simp only [aw_,if_pos hen];rfl
 rw [eb];exact .cons (by rw [aq_];rfl) (a7_ (Paired.mapP pu fun _ _ z=>z.same (s5.trans (s6.trans (Same.upd hq)))) (.cons (by rw [aq_];rfl) .nil))
end
set_option maxHeartbeats 2000000
section
variable {P:Program}{w:World}{K:PySem.W.Frag}{mg:Str->Option Value}{base:Heap}
def my_ (Cn:Addr):Sp:=fun vs H Q _=>∃ (a:Addr) (x:Term),vs=[.ref a]/\SubT Cn H a x/\WB (allX x)/\Q (.int (bA_ x:Int)) H
theorem l6_ {u:Term}:a4_ u=Vaunid.txt "number"↔∃ v,u = .leaf (.num v):=by
 constructor
 ·intro h
  cases q:fmX u with
  | none =>
   cases u with
   | leaf l =>
    cases l with
    | num v=>exact ⟨v,rfl⟩
    | truth b=>cases b <;> exact absurd h (by decide +kernel)
    | nil=>exact absurd h (by decide +kernel)
    | name y=>exact absurd h (show ¬ Vaunid.txt "name"=Vaunid.txt "number" by decide +kernel)
   | _=>cases q
  | some f =>
  rw [f4_ q] at h;cases f <;> exact absurd h (by decide +kernel)
 rintro ⟨v,rfl⟩
 rfl
theorem g5_ (n:Nat) : ∃ c r,decimal n=c::r/\¬ c=45:=by
 unfold decimal;have hne:=Nat.toDigits_ne_nil (n:=n) (b:=10);cases q:Nat.toDigits 10 n with
 | nil=>exact absurd q hne
 | cons c r =>
 refine ⟨c.toNat,r.map fun c=>c.toNat,rfl,fun z=>?_⟩;have hd:c.isDigit=true:=Nat.isDigit_of_mem_toDigits (b:=10) (n:=n) (by decide) (by decide) (by rw [q];exact mem_cons_self ..);unfold Char.isDigit at hd;simp only [and_eq_true,decide_eq_true_eq,ge_iff_le,UInt32.le_iff_toNat_le] at hd;have h48:=hd.1;have:c.val.toNat=45:=z;rw [this] at h48;exact absurd h48 (by decide)
theorem kw_ (v:Lit):Txt.startswith (S (Vaunid.shownLit v)) (Str.ofString "-")=decide (v.top<0):=by
 rw [dJ_,decide_eq_decide];unfold Vaunid.shownLit Vaunid.decimalInt;by_cases h:v.top<0
 ·rw [if_pos h]
  simp [h]
 rw [if_neg h];obtain ⟨c,r,e,hc⟩:=g5_ v.top.natAbs;rw [e];simp [h,hc]
theorem ok_q112 (T:TX w K mg):FnOk P w K mg base CX0 2 T.f_q112 T.d_q112 ["node"] (my_ T.C_q124):=by
 have G_q106:=ok_q106 (P:=P) (base:=base) T;refine T.F_q112.fn.ok sc_q112 (fun _ _ _ _ h=>?_) (fun _ _ _ _ H _ Q E hr h=>?_)
 ·obtain ⟨a,x,rfl,_⟩:=h
  rfl
 obtain ⟨a,x,rfl,hx,hwb,k⟩:=h;refine ⟨_,(ad_ (aT_ (am_ bn_ (ah_ (pv 0) rfl) ak_ (au_ _)) (ae_ (aj_ (b3_ (bR_ (ka_ F.slot_str_startswith F.type_str_startswith c9_ (aC_ ao_ (ah_ (pv 0) rfl) ai_ (fun _ _=>rfl)) ak_)) (pe_g T.g_q73) (pe_g T.g_q88)))) atz_)
  (ad_ (aT_ (am_ bn_ (ah_ (pv 0) rfl) ak_ (au_ _)) (ae_ (aj_ (b3_ (bR_ (aE_ T.F_q106 G_q106 hr.m ar_ (aa_ (pv 0) ac_))) (pe_g T.g_q88) (pe_g T.g_q31)))) atz_)
  (ae_ (aj_ (c4_ (pe_r T.g_q118) (ah_ (pv 0) rfl)))))),?_⟩
 obtain ⟨dx,wl,pl,b0,e,as,t1,t2,t3,t4⟩:=a3_ hx;simp! [tSeq,tFld,t1,fM_,ep_];refine ⟨T.cl_q124,T.n_q94,_,rfl,rfl,?_⟩;by_cases h1:a4_ x=Vaunid.txt "number"
 ·rw [if_pos (by rw [h1,aq_])]
  obtain ⟨v,rfl⟩:=l6_.mp h1;refine ⟨T.cl_q124,T.n_q55,_,rfl,_,rfl,_,SqL.of t2,.str (S (Vaunid.shownLit v)),rfl,⟨_,rfl⟩,_,rfl,?_⟩;have er:bA_ (.leaf (.num v))=if v.top<0 then 9 else 10:=rfl;rw [er] at k;rw [kw_];by_cases hv:v.top<0
  ·rw [if_pos hv] at k
   rw [if_pos (decide_eq_true hv)];exact k
  rw [if_neg hv] at k;rw [if_neg (by rw [decide_eq_false hv];simp)];exact k
 rw [if_neg (by rw [aq_];simp only [V.str.injEq,bH_];exact h1)];refine ⟨T.cl_q124,T.n_q94,_,rfl,rfl,?_⟩;by_cases h2:a4_ x=Vaunid.txt "cons"
 ·rw [if_pos (by rw [h2,aq_])]
  obtain ⟨c,d,rfl⟩:=dC_.mp h2;refine ⟨_,hx,?_⟩;have er:bA_ (.two .cons c d)=if Vaunid.endsNil d=true then 10 else 5:=rfl;rw [er] at k;by_cases hd:Vaunid.endsNil d=true
  ·rw [if_pos hd] at k
   rw [if_pos (show Vaunid.endsNil (.two .cons c d)=true from hd)];exact k
  rw [if_neg hd] at k;rw [if_neg (show ¬ Vaunid.endsNil (.two .cons c d)=true from hd)];exact k
 rw [if_neg (by rw [aq_];simp only [V.str.injEq,bH_];exact h2)];refine ⟨T.cl_q124,T.n_q94,_,rfl,_,_,rfl,T.t_q118,.int (bA_ x:Int),?_,k⟩;have key : ∀ (s:String) (tab:List (Str×V)),a4_ x=Vaunid.txt s->bP_ tab (Str.ofString s)=some (.int (bA_ x:Int))->bP_ tab (S (a4_ x))=some (.int (bA_ x:Int)):=fun s tab h h2=>by rw [h,<- aq_];exact h2
 cases x with
 | leaf l =>
  cases l with
  | num v=>exact absurd rfl h1
  | truth c =>
   cases c with
   | true=>exact key "true" _ rfl rfl
   | false=>exact key "false" _ rfl rfl
  | nil=>exact key "nil" _ rfl rfl
  | name y=>exact key "name" _ rfl rfl
 | one o c =>
  cases o with
  | fst=>exact key "fst" _ rfl rfl
  | snd=>exact key "snd" _ rfl rfl
  | root=>exact key "root" _ rfl rfl
  | pow n=>exact key "^" _ rfl rfl
 | two o c d =>
  cases o with
  | cons=>exact absurd rfl h2
  | app=>exact key "apply" _ rfl rfl
  | pair=>exact key "pair" _ rfl rfl
  | plus=>exact key "+" _ rfl rfl
  | minus=>exact key "-" _ rfl rfl
  | times=>exact key "*" _ rfl rfl
  | over=>exact key "/" _ rfl rfl
  | less=>exact key "<" _ rfl rfl
  | equal=>exact key "=" _ rfl rfl
  | floor=>exact key "floor" _ rfl rfl
  | rest=>exact key "rest" _ rfl rfl
 | three o c d f =>
  cases o with
  | cond=>exact key "if" _ rfl rfl
  | fold=>exact key "fold" _ rfl rfl
 | fn y c=>exact key "fn" _ rfl rfl
 | rec_ f y c=>exact key "rec" _ rfl rfl
 | let_ y c d=>exact key "let" _ rfl rfl
 | case l c h t d=>exact key "case" _ rfl rfl
end
set_option maxHeartbeats 2000000
section
variable {P:Program}{w:World}{K:PySem.W.Frag}{mg:Str->Option Value}{base:Heap}
noncomputable def c3_ {w:World}{K:PySem.W.Frag}{mg:Str->Option Value} (T:TX w K mg):List (Str×V):=[("name",.ref T.f_q7),("number",.ref T.f_q7),("true",.ref T.f_q27),("false",.ref T.f_q27),("fn",.ref T.f_q82),("rec",.ref T.f_q71),("let",.ref T.f_q63),("if",.ref T.f_q90),("case",.ref T.f_q41),("<",.ref T.f_q3),("=",.ref T.f_q3),("+",.ref T.f_q3),("-",.ref T.f_q3),("*",.ref T.f_q3),("/",.ref T.f_q3),("^",.ref T.f_q33),("apply",.ref T.f_q28),("fst",.ref T.f_q50),("snd",.ref T.f_q50),("root",.ref T.f_q50),("floor",.ref T.f_q50),("rest",.ref T.f_q50),("fold",.ref T.f_q50),("nil",.ref T.f_q79),("cons",.ref T.f_q45),("pair",.ref T.f_q39)]
def mT_ (P:Program) (w:World) (K:PySem.W.Frag) (mg:Str->Option Value) (base:Heap) (Cn:Addr) (tab:List (Str×V)) (x:Term):Prop:=∃ (f:Addr) (fd:FuncData) (ps:List Str) (sp:Sp),bP_ tab (S (a4_ x))=some (.ref f)/\FnOk P w K mg base CX0 2 f fd ps sp/\a9_ K fd ps []/\keepIn K (.ref f)=true /\
 ∀ (a:Addr) (H0 H1:Hp) (Q:VK) (E:XK),Same H0 H1->SubT Cn H0 a x->szX x<=300->WB (allX x)->(∀ (p:Addr) (us:List V) (H':Hp),H1 p=none->Same H1 H'->H' p=some (.lst us)->Paired (PS1 Cn H0 H') us (aw_ x)->Q (.ref p) H')->sp [.ref a] H1 Q E
theorem nQ_ (T:TX w K mg) (x:Term):mT_ P w K mg base T.C_q124 (c3_ T) x:=by
    have key : ∀ (s:String) (f:Addr) (fd:FuncData) (ok:Term->Prop),a4_ x=Vaunid.txt s->bP_ (c3_ T) (Str.ofString s)=some (.ref f)->FnOk P w K mg base CX0 2 f fd ["node"] (cK_ T.C_q124 ok aw_)->a9_ K fd ["node"] []->keepIn K (.ref f)=true->ok x->mT_ P w K mg base T.C_q124 (c3_ T) x:=fun s f fd ok h1 h2 h3 h4 h5 h6=>⟨f,fd,_,_,by rw [h1,<- aq_];exact h2,h3,h4,h5,fun a H0 H1 Q E s0 hs hsz hwb k=>⟨a,x,H0,rfl,h6,s0,hs,hsz,hwb,k⟩⟩;cases x with
    | leaf l =>
     cases l with
     | name y =>
      exact key "name" T.f_q7 T.d_q7 _ rfl rfl ((ok_q7 T).mono (by decide)) T.F_q7.b T.F_q7.fn.kp (.inl ⟨y,rfl⟩)
     | num v =>
      exact key "number" T.f_q7 T.d_q7 _ rfl rfl ((ok_q7 T).mono (by decide)) T.F_q7.b T.F_q7.fn.kp (.inr ⟨v,rfl⟩)
     | truth b =>
      cases b with
      | true =>
       exact key "true" T.f_q27 T.d_q27 _ rfl rfl ((ok_q27 T).mono (by decide)) T.F_q27.b T.F_q27.fn.kp (⟨_,rfl⟩)
      | false =>
      exact key "false" T.f_q27 T.d_q27 _ rfl rfl ((ok_q27 T).mono (by decide)) T.F_q27.b T.F_q27.fn.kp (⟨_,rfl⟩)
     | nil =>
     exact key "nil" T.f_q79 T.d_q79 _ rfl rfl ((ok_q79 T).mono (by decide)) T.F_q79.b T.F_q79.fn.kp (rfl)
    | one o a =>
     cases o with
     | fst =>
      exact key "fst" T.f_q50 T.d_q50 _ rfl rfl ((ok_q50 T).mono (by decide)) T.F_q50.b T.F_q50.fn.kp (rfl)
     | snd =>
      exact key "snd" T.f_q50 T.d_q50 _ rfl rfl ((ok_q50 T).mono (by decide)) T.F_q50.b T.F_q50.fn.kp (rfl)
     | root =>
      exact key "root" T.f_q50 T.d_q50 _ rfl rfl ((ok_q50 T).mono (by decide)) T.F_q50.b T.F_q50.fn.kp (rfl)
     | pow n =>
     exact key "^" T.f_q33 T.d_q33 _ rfl rfl ((ok_q33 T).mono (by decide)) T.F_q33.b T.F_q33.fn.kp (⟨_,_,rfl⟩)
    | two o a b =>
     cases o with
     | app =>
      exact key "apply" T.f_q28 T.d_q28 _ rfl rfl ((ok_q28 T).mono (by decide)) T.F_q28.b T.F_q28.fn.kp (⟨_,_,rfl⟩)
     | pair =>
      exact key "pair" T.f_q39 T.d_q39 _ rfl rfl ((ok_q39 T).mono (by decide)) T.F_q39.b T.F_q39.fn.kp (⟨_,_,rfl⟩)
     | cons =>
      exact key "cons" T.f_q45 T.d_q45 _ rfl rfl ((ok_q45 T).mono (by decide)) T.F_q45.b T.F_q45.fn.kp (⟨_,_,rfl⟩)
     | plus =>
      exact key "+" T.f_q3 T.d_q3 _ rfl rfl ((ok_q3 T).mono (by decide)) T.F_q3.b T.F_q3.fn.kp (⟨_,_,_,_,rfl,rfl⟩)
     | minus =>
      exact key "-" T.f_q3 T.d_q3 _ rfl rfl ((ok_q3 T).mono (by decide)) T.F_q3.b T.F_q3.fn.kp (⟨_,_,_,_,rfl,rfl⟩)
     | times =>
      exact key "*" T.f_q3 T.d_q3 _ rfl rfl ((ok_q3 T).mono (by decide)) T.F_q3.b T.F_q3.fn.kp (⟨_,_,_,_,rfl,rfl⟩)
     | over =>
      exact key "/" T.f_q3 T.d_q3 _ rfl rfl ((ok_q3 T).mono (by decide)) T.F_q3.b T.F_q3.fn.kp (⟨_,_,_,_,rfl,rfl⟩)
     | less =>
      exact key "<" T.f_q3 T.d_q3 _ rfl rfl ((ok_q3 T).mono (by decide)) T.F_q3.b T.F_q3.fn.kp (⟨_,_,_,_,rfl,rfl⟩)
     | equal =>
      exact key "=" T.f_q3 T.d_q3 _ rfl rfl ((ok_q3 T).mono (by decide)) T.F_q3.b T.F_q3.fn.kp (⟨_,_,_,_,rfl,rfl⟩)
     | floor =>
      exact key "floor" T.f_q50 T.d_q50 _ rfl rfl ((ok_q50 T).mono (by decide)) T.F_q50.b T.F_q50.fn.kp (rfl)
     | rest =>
     exact key "rest" T.f_q50 T.d_q50 _ rfl rfl ((ok_q50 T).mono (by decide)) T.F_q50.b T.F_q50.fn.kp (rfl)
    | three o a b c =>
     cases o with
     | cond =>
      exact key "if" T.f_q90 T.d_q90 _ rfl rfl ((ok_q90 T).mono (by decide)) T.F_q90.b T.F_q90.fn.kp (⟨_,_,_,rfl⟩)
     | fold =>
     exact key "fold" T.f_q50 T.d_q50 _ rfl rfl ((ok_q50 T).mono (by decide)) T.F_q50.b T.F_q50.fn.kp (rfl)
    | fn y a =>
     exact key "fn" T.f_q82 T.d_q82 _ rfl rfl ((ok_q82 T).mono (by decide)) T.F_q82.b T.F_q82.fn.kp (⟨_,_,rfl⟩)
    | rec_ f y a =>
     exact key "rec" T.f_q71 T.d_q71 _ rfl rfl ((ok_q71 T).mono (by decide)) T.F_q71.b T.F_q71.fn.kp (⟨_,_,_,rfl⟩)
    | let_ y a b =>
     exact key "let" T.f_q63 T.d_q63 _ rfl rfl ((ok_q63 T).mono (by decide)) T.F_q63.b T.F_q63.fn.kp (⟨_,_,_,rfl⟩)
    | case l a h t b =>
    exact key "case" T.f_q41 T.d_q41 _ rfl rfl ((ok_q41 T).mono (by decide)) T.F_q41.b T.F_q41.fn.kp (⟨_,_,_,_,_,rfl⟩)
def lu_ (Cn:Addr):Sp:=fun vs H Q _=>∃ (i:SI) (v:V) (H0:Hp),vs=[v]/\ItS Cn H0 i v H/\Same H0 H/\szX i.1<=300/\WB (allX i.1)/\∀ (p:Addr) (us:List V) (H':Hp),H p=none->Same H H'->H' p=some (.lst us)->Paired (PS1 Cn H0 H') us (pcsS i)->Q (.ref p) H'
theorem mi_ (t:Term):(aw_ t).length<=12 * szX t:=by
 have h:=g6_ t;have : ∀ l:List (Pc SI),l.length<=pcsC cS l:=d7_ fun a=>by
  have:1<=szX a.1:=by obtain ⟨t,k⟩:=a;cases t <;> simp only [szX] <;> omega
  show 1<=12 * szX a.1;omega
 have:=this (aw_ t);omega
theorem ok_q21 (T:TX w K mg):FnOk P w K mg base CX0 3 T.f_q21 T.d_q21 ["item"] (lu_ T.C_q124):=by
 have G_q112:=ok_q112 (P:=P) (base:=base) T;refine T.F_q21.fn.ok sc_q21 (fun _ _ _ _ h=>?_) (fun _ _ _ _ H _ Q E hr h=>?_)
 ·obtain ⟨i,v,H0,rfl,_⟩:=h
  rfl
 obtain ⟨⟨x,kk⟩,v,H0,rfl,⟨it,a,rfl,hit,hx⟩,s0,hsz,hwb,k⟩:=h;refine ⟨_,(ad_ (az_ 1 sc_q21.nd (aC_ cn_ (pv 0) ai_ (fun _ _=>rfl)))
  (ad_ (az_ 2 sc_q21.nd (c4_ (pe_r T.g_q113) (ah_ (pv 1) rfl)))
  (ad_ (az_ 3 sc_q21.nd (bI_ (CX:=CX0) (k:=2) 2 hr.m ar_ (aa_ (pv 1) ac_)))
  (ad_ (aT_ (am_ hw_ (aE_ T.F_q112 G_q112 hr.m ar_ (aa_ (pv 1) ac_)) (aC_ cn_ (pv 0) ai_ (fun _ _=>rfl)) (au_ _)) (ae_ (aj_ (aI_ bw_ (aI_ bw_ (ax_ (aa_ ak_ ac_)) (pv 3)) (ax_ (aa_ ak_ ac_))))) atz_)
  (ae_ (aj_ (pv 3))))))),?_⟩
 obtain ⟨dx,wl,pl,b0,e,as,t1,t2,t3,t4⟩:=a3_ hx;obtain ⟨f,fd,ps,sp,g1,g2,g3,g4,g5⟩:=nQ_ (P:=P) (base:=base) T x;have t1':=s0 _ _ t1;simp! [tSeq,tFld,ep_,dI_,my_,rCat];refine ⟨_,SqT.of hit,.ref a,rfl,_,rfl,_,_,_,t1',T.cl_q124,T.n_q94,_,rfl,c3_ T,_,rfl,T.t_q113,_,g1,f,rfl,fd,ps,sp,g2,g3,g4,g5 a H0 H _ _ s0 hx hsz hwb fun p us H1 hp s1 e1 pu=>?_⟩;have hx1:SubT T.C_q124 H1 a x:=hx.imp fun tr h=>h.imp fun F h=>⟨h.1,h.2.same (s0.trans s1)⟩;have hul:us.length=(aw_ x).length:=Paired.length pu;have hbl:=mi_ x;have hsz':szX x<=300:=hsz;refine ⟨a,rfl,x,hx1,hwb,_,SqT.of (s1 _ _ hit),.int (kk:Int),rfl,_,rfl,?_⟩;have ek:pcsS (x,kk)=if bA_ x<kk then .inl [40]::(aw_ x++[.inl [41]]) else aw_ x:=rfl;by_cases hr2:bA_ x<kk
 ·rw [if_pos (show (bA_ x:Int)<(kk:Int) by omega)]
  rw [ek,if_pos hr2] at k;refine ⟨by decide,fun l1 hl1=>?_⟩;have s3:Same H1 (upd H1 l1 (.lst [.str (Str.ofString "(")])):=Same.upd hl1;have e3:upd H1 l1 (.lst [.str (Str.ofString "(")]) l1=some (.lst [.str (Str.ofString "(")]):=ab_;generalize upd H1 l1 (.lst [.str (Str.ofString "(")])=H3 at s3 e3 ⊢;refine ⟨_,rfl,_,rfl,_,s3 _ _ e1,Nat.le_trans (show 1+us.length<=4000 by omega) (by decide),fun p2 hp2=>⟨by decide,fun l3 hl3=>?_⟩⟩;have s5:Same H3 (upd H3 p2 (.lst ([.str (Str.ofString "(")]++us))):=Same.upd hp2;have e5:upd H3 p2 (.lst ([.str (Str.ofString "(")]++us)) p2=some (.lst ([.str (Str.ofString "(")]++us)):=ab_;generalize upd H3 p2 (.lst ([.str (Str.ofString "(")]++us))=H5 at s5 e5 hl3 ⊢;have s6:Same H5 (upd H5 l3 (.lst [.str (Str.ofString ")")])):=Same.upd hl3;generalize upd H5 l3 (.lst [.str (Str.ofString ")")])=H6 at s6 ⊢;refine ⟨_,s6 _ _ e5,_,rfl,Nat.le_trans (show _<=4000 by simp only [length_append,length_cons,length_nil];omega) (by decide),fun q hq=>?_⟩;have sm:=s1.trans (s3.trans (s5.trans s6));exact k q _ _ (none_of sm hq) (sm.trans (Same.upd hq)) ab_ (.cons (by rw [aq_];rfl) (a7_ (Paired.mapP pu fun _ _ z=>z.same (s3.trans (s5.trans (s6.trans (Same.upd hq))))) (.cons (by rw [aq_];rfl) .nil)))
 rw [if_neg (show ¬ (bA_ x:Int)<(kk:Int) by omega)];rw [ek,if_neg hr2] at k;exact k p us H1 hp s1 e1 pu
def mw_ (Cn:Addr):Sp:=fun vs H Q _=>∃ (a:Addr) (x:Term),vs=[.ref a]/\SubT Cn H a x/\szX x<=300/\WB (allX x)/\∀ H',Same H H'->Q (.str (S (Vaunid.surfaceText x))) H'
theorem ok_q29 (T:TX w K mg):FnOk P w K mg base CX0 12 T.f_q29 T.d_q29 ["term"] (mw_ T.C_q124):=by
 have G_q105:=ok_q105 (P:=P) (base:=base) T;refine T.F_q29.fn.ok sc_q29 (fun _ _ _ _ h=>?_) (fun _ _ _ _ H _ Q E hr h=>?_)
 ·obtain ⟨a,x,rfl,_⟩:=h
  rfl
 obtain ⟨a,x,rfl,hx,hsz,hwb,k⟩:=h;refine ⟨_,(ae_ (aj_ (aE_ T.F_q105 G_q105 hr.m ar_ (aa_ (bk_ (aa_ (pv 0) (aa_ (pe_g T.g_q91) ac_))) (aa_ (pe_r T.F_q21.mg) ac_))))),?_⟩;simp! [tSeq,oi_];refine ⟨by decide,fun it hit=>?_⟩;have s1:Same H (upd H it (.tup [.ref a,.int 0])):=Same.upd hit;have e1:upd H it (.tup [.ref a,.int 0]) it=some (.tup [.ref a,.int 0]):=ab_;generalize upd H it (.tup [.ref a,.int 0])=H1 at s1 e1 ⊢;refine ⟨SI,fun i v H2=>ItS T.C_q124 H i v H2/\szX i.1<=300/\WB (allX i.1),pcsS,⟨fun i v H2 H3 xs h sx nt=>⟨PS1.keep (c := .inr i) sx nt h.1,h.2⟩,fun i v H2 h s2=>?_,?_⟩,txS,cS,(x,0),⟨⟨it,a,rfl,e1,hx⟩,hsz,hwb⟩,gL_,mQ_,(show 12 * szX x<=1000000 by omega),Nat.le_trans (h6_ x hsz hwb) (by decide),fun H' s'=>k H' (s1.trans s')⟩
 ·obtain ⟨⟨it2,a2,rfl,e2,_⟩,_⟩:=h
  exact ⟨_,.tup e2,rfl⟩
 refine ⟨_,_,_,(ok_q21 (P:=P) (base:=base) T).mono (by decide),T.F_q21.b,T.F_q21.fn.kp,fun i v H2 Q E h s2 k1=>⟨i,v,H,rfl,h.1,s1.trans s2,h.2.1,h.2.2,fun p us H3 hp s3 e3 pu=>k1 p us H3 hp s3 e3 ?_⟩⟩;refine ki_ pu fun u c hc hu=>?_;cases c with
 | inl w=>exact hu
 | inr j=>exact ⟨hu,od_ hc h.2.1,ms_ hc h.2.2⟩
end
set_option maxHeartbeats 2000000
section
variable {P:Program}{w:World}{K:PySem.W.Frag}{mg:Str->Option Value}{base:Heap}
def jN_:Sp:=fun vs H Q _=>∃ l:List Nat,vs=[.str (S l)]/\l.length<=20000/\∀ (p:Addr) (H':Hp),Same H H'->H' p=some (.lst (bs l))->Q (.ref p) H'
theorem ok_q95 (T:TX w K mg):FnOk P w K mg base CX0 1 T.f_q95 T.d_q95 ["shown"] jN_:=by
 refine T.F_q95.fn.ok sc_q95 (fun _ _ _ _ h=>?_) (fun _ _ _ _ H _ Q E hr h=>?_)
 ·obtain ⟨l,rfl,_⟩:=h
  rfl
 obtain ⟨l,rfl,hl,k⟩:=h;refine ⟨_,(ae_ (aj_ (kb_ rfl sc_q95.nd (j7_ (pv 0)) (cz_ (own:=[("sign",1)]) (by kernel_rfl)) (fun _ _ _ _ _=>pg_q 1 sc_q95.nd) (fun _ _ _ _ _=>ds_) (fun _ _ _ _ _=>(aG_ ec_ rfl T.b_ord dl_ (aa_ (pv 1) ac_)))))),?_⟩;simp! [tSeq];refine gp_ (Its (S l)) (l.map fun d=>V.str ⟨#[d]⟩) (fun v=>match v with | .str x=>V.int (x.cps.getD 0 0:Nat) | _ => .non) (H1:=H) (fun R h=>?_) (by rw [length_map];exact Nat.le_trans hl (by decide)) (kO_ (x:=S l)) (fun x H' D acc Nx hx sm hD hacc nx=>?_) fun D H' hD sm e=>?_
 ·simp! [tSeq]
  exact h
 ·obtain ⟨d,hd,rfl⟩:=List.mem_map.mp hx
  simp! [tSeq];exact ⟨acc,hD,hacc,nx H' (Same.refl _)⟩
 refine k D H' sm ?_;rw [e,map_map];rfl
def gu_:Sp:=fun vs H Q _=>∃ l:List Nat,vs=[.str (S l)]/\l.length<=7000000/\∀ (p:Addr) (H':Hp),Same H H'->H' p=some (.lst ((answerText l).map V.int))->Q (.ref p) H'
theorem ok_q40 (T:TX w K mg):FnOk P w K mg base CX0 2 T.f_q40 T.d_q40 ["shown"] gu_:=by
 have G_q95:=ok_q95 (P:=P) (base:=base) T;refine T.F_q40.fn.ok sc_q40 (fun _ _ _ _ h=>?_) (fun _ _ _ _ H _ Q E hr h=>?_)
 ·obtain ⟨l,rfl,_⟩:=h
  rfl
 obtain ⟨l,rfl,hl,k⟩:=h;refine ⟨_,(ad_ (aT_ (am_ hx_ (aG_ aS_ rfl T.b_len PySem.boot_len (aa_ (pv 0) ac_)) (pe_g T.g_q81) (au_ _)) (ae_ (aj_ (ax_ (aa_ (pe_g T.g_q84) ac_)))) atz_)
  (ae_ (aj_ (aI_ bw_ (ax_ (aa_ ai_ ac_)) (aE_ T.F_q95 G_q95 hr.m ar_ (aa_ (pv 0) ac_)))))),?_⟩
 have el:long l=decide (2000<l.length):=rfl;unfold answerText at k;rw [el] at k;simp! [tSeq,rCat,jN_,bH_];have small : ∀ n:Nat,n<=7000000->n<=sizeLine:=fun n h=>Nat.le_trans h (by decide);refine ⟨small _ hl,ite2 (fun h=>?_) fun h=>?_⟩
 ·rw [decide_eq_true (show 2000<l.length by omega),if_pos rfl] at k
  exact ⟨by decide,fun p hp=>k p _ (Same.upd hp) ab_⟩
 rw [decide_eq_false (show ¬ 2000<l.length by omega),if_neg (by simp)] at k;refine ⟨by decide,fun p hp=>⟨by omega,fun q H1 s1 e1=>⟨_,s1 _ _ ab_,_,e1,?_,fun r hr=>k r _ ((Same.upd hp).trans (s1.trans (Same.upd hr))) ?_⟩⟩⟩
 ·rw [bW_]
  exact small _ (by show 1+l.length<=_;omega)
 rw [ab_];unfold Vaunid.numbers bs;rw [map_cons,map_map];rfl
def pl_ (P:Program) (w:World) (K:PySem.W.Frag) (mg:Str->Option Value) (base:Heap) (C f a:Addr) (t:List Nat) {A:Type} (res:Res A) (post:A->V->Hp->Prop):Prop:=∃ fd ps sp,FnOk P w K mg base (CX1 P w) 20 f fd ps sp/\a9_ K fd ps []/\keepIn K (.ref f)=true /\
 ∀ H Q E,SqL K H a (bs t)->RES C H Q E res post->sp [.ref a] H Q E
def AnsF (P:Program) (w:World) (K:PySem.W.Frag) (mg:Str->Option Value) (base:Heap) (f:Addr) {A:Type} (res:Res A) (post:A->V->Hp->Prop) (ans:A->List Int):Prop:=∃ fd ps sp,FnOk P w K mg base CX0 20 f fd ps sp/\a9_ K fd ps []/\keepIn K (.ref f)=true /\
 ∀ x v H Q E,res = .ok x->post x v H->(∀ (p:Addr) (H':Hp),Same H H'->H' p=some (.lst ((ans x).map V.int))->Q (.ref p) H')->sp [v] H Q E
def iQ_ (P:Program) (w:World) (K:PySem.W.Frag) (mg:Str->Option Value) (base:Heap) (C:Addr):Sp:=fun vs H Q _=>∃ (a f g:Addr) (t:List Nat) (A:Type) (res:Res A) (post:A->V->Hp->Prop) (ans:A->List Int),vs=[.ref a,.ref f,.ref g]/\SqL K H a (bs t) /\
 (t.length<=2000->pl_ P w K mg base C f a t res post/\AnsF P w K mg base g res post ans)/\∀ (p:Addr) (H':Hp),Same H H'->H' p=some (.lst ((if long t=true then [-1] else Vaunid.reading res ans).map V.int))->Q (.ref p) H'
theorem ok_q97 (T:TX w K mg):FnOk P w K mg base CX0 21 T.f_q97 T.d_q97 ["text","reading","answering"] (iQ_ P w K mg base T.C_q122):=by
 refine T.F_q97.fn.ok sc_q97 (fun _ _ _ _ h=>?_) (fun _ _ _ _ H _ Q E hr h=>?_)
 ·obtain ⟨a,f,g,t,A,res,post,ans,rfl,_⟩:=h
  rfl
 obtain ⟨a,f,g,t,A,res,post,ans,rfl,ht,hF,k⟩:=h;refine ⟨_,(ad_ (aT_ (am_ hx_ (aG_ aZ_ rfl T.b_len PySem.boot_len (aa_ (pv 0) ac_)) (pe_g T.g_q81) (au_ _)) (ae_ (aj_ (ax_ (aa_ (pe_g T.g_q14) ac_)))) atz_)
  (ad_ (ot_ (i:=4) (ts:=tRet (tLst (fK_ (lq_ K (tVar 4) "kind") (fK_ (lq_ K (tVar 4) "place") tNil)))) T.X_q122 rfl T.G_q122 (sc_q97).nd rfl rfl rfl rfl
    (fun pn E' D hx=>ae_ (ie_ (i:=3) (sc_q97).nd rfl (Or.inl rfl) (lK_ (P:=P) (w:=w) (K:=K) (mg:=mg) (base:=base) (CX:=CX1 P w) (k:=20) 1 (hr.mono (by decide)) hx (aa_ (pv 0) ac_))))
    (fun a=>ae_ (aj_ (ax_ (aa_ (ke_ (pv 4) rfl) (aa_ (ke_ (pv 4) rfl) ac_))))))
  (ae_ (aj_ (bI_ (CX:=CX0) (k:=20) 2 (hr.mono (by decide)) ar_ (aa_ (pv 3) ac_)))))),?_⟩
 simp! [tSeq,mr_,dI_];refine ⟨bs t,.inl ht,?_⟩;rw [bW_];have elong:long t=decide (2000<t.length):=rfl;refine ite2 (fun h=>?_) fun h=>?_
 ·rw [elong,decide_eq_true (by omega)] at k
  exact ⟨by decide,fun p hp=>k p _ (Same.upd hp) ab_⟩
 rw [elong,decide_eq_false (by omega)] at k;obtain ⟨⟨fd1,ps1,sp1,F1,b1,k1,r1⟩,⟨fd2,ps2,sp2,F2,b2,k2,r2⟩⟩:=hF (by omega);refine ⟨fd1,ps1,sp1,F1,b1,k1,r1 _ _ _ ht ?_⟩;cases res with
 | ok x =>
  intro v H' s' hp;exact ⟨fd2,ps2,sp2,F2,b2,k2,r2 x v H' _ _ rfl hp fun p H2 s2 e=>k p H2 (s'.trans s2) e⟩
 | error e =>
 intro dx H' s' hdx;refine ⟨rfl,fun ax dx' e1 hax=>?_⟩;cases e1;have hne:dx≠ax:=ag_ hdx hax;simp! [tSeq,lq_];have hd2:upd H' ax (XGot T.C_q122 ax dx) dx=some (XDic dx (kT_ (e.kind:Int) (e.place:Int))):=by rw [al_ hne];exact hdx
 exact ⟨_,_,_,rfl,_,hd2,T.X_q122,T.n_q61,_,rfl,_,_,_,rfl,_,hd2,T.X_q122,T.n_q54,_,rfl,by decide,fun p hp=>k p _ (s'.trans ((Same.upd hax).trans (Same.upd hp))) ab_⟩
def hn_ (f:List Int->List Int) (K:PySem.W.Frag):Sp:=fun vs H Q _=>∃ (a:Addr) (ns:List Int),vs=[.ref a]/\SqL K H a (ns.map V.int)/\ns.length<=10000/\(∀ n∈ns,0<=n/\n<=255)/\∀ (H':Hp) (p:Addr),H' p=some (.lst ((f ns).map V.int))->Q (.ref p) H'
theorem nI_ {ns:List Int} (h : ∀ n∈ns,0<=n/\n<=255):ns.map V.int=bs (ns.map Int.toNat):=by
 unfold bs;rw [map_map];refine List.map_congr_left fun n hn=>?_;show V.int n=V.int ((n.toNat:Nat):Int);rw [Int.toNat_of_nonneg (h n hn).1]
theorem m2_ {ns:List Int} (h : ∀ n∈ns,0<=n/\n<=255):VaunidNeutral.text? ns=some (ns.map Int.toNat):=by
 unfold VaunidNeutral.text?;rw [if_pos];unfold NeutralIO.bytes;exact List.all_eq_true.mpr fun n hn=>by have:=h n hn;simp;omega
def jJ_ (Cn:Addr):Sp:=fun vs H Q _=>∃ (x:Term) (v:V),vs=[v]/\d6_ Cn x v H/\∀ (p:Addr) (H':Hp),Same H H'->H' p=some (.lst ((answerText (Vaunid.surfaceText x)).map V.int))->Q (.ref p) H'
theorem ok_q8 (T:TX w K mg):FnOk P w K mg base CX0 13 T.f_q8 T.d_q8 ["term"] (jJ_ T.C_q124):=by
 have G_q40:=ok_q40 (P:=P) (base:=base) T;have G_q29:=ok_q29 (P:=P) (base:=base) T;refine T.F_q8.fn.ok sc_q8 (fun _ _ _ _ h=>?_) (fun _ _ _ _ H _ Q E hr h=>?_)
 ·obtain ⟨x,v,rfl,_⟩:=h
  rfl
 obtain ⟨x,v,rfl,⟨a,tr,F,rfl,hrep,htr,hfl,hdp,hwb⟩,k⟩:=h;refine ⟨_,(ae_ (aj_ (aE_ T.F_q40 G_q40 hr.m ar_ (aa_ (aE_ T.F_q29 G_q29 hr.m ar_ (aa_ (pv 0) ac_)) ac_)))),?_⟩;simp! [tSeq,mw_,gu_,bH_];have hsz:szX x<=300:=by rw [<- or_ hrep 1];exact hfl
 exact ⟨x,⟨tr,F,hrep,htr⟩,hsz,hwb,fun H1 s1=>⟨h6_ x hsz hwb,fun p H2 s2 e2=>k p H2 (s1.trans s2) e2⟩⟩
theorem md_ {ns:List Int} (h : ∀ n∈ns,0<=n/\n<=255):PyVaunid.show_ ns=if long (ns.map Int.toNat)=true then [-1] else Vaunid.reading (readCore (ns.map Int.toNat)) fun x=>answerText (Vaunid.surfaceText x):=by
 have e:VaunidNeutral.callOf [[3],ns]=some (.show (ns.map Int.toNat)):=by
  show (VaunidNeutral.text? ns).map _=_;rw [m2_ h];rfl
 unfold PyVaunid.show_ VaunidNeutral.step;rw [e];rfl
theorem nz_ (T:TX w K mg):FnOk P w K mg base CX0 22 T.f_q125 T.d_q125 ["text"] (hn_ PyVaunid.show_ K):=by
 have G_q97:=ok_q97 (P:=P) (base:=base) T;refine T.F_q125.fn.ok sc_q125 (fun _ _ _ _ h=>?_) (fun _ _ _ _ H _ Q E hr h=>?_)
 ·obtain ⟨a,ns,rfl,_⟩:=h
  rfl
 obtain ⟨a,ns,rfl,ht,hl,hn,k⟩:=h;refine ⟨_,(ae_ (aj_ (aE_ T.F_q97 G_q97 hr.m ar_ (aa_ (pv 0) (aa_ (pe_r T.F_q92.mg) (aa_ (pe_r T.F_q8.mg) ac_)))))),?_⟩;simp! [tSeq];rw [nI_ hn] at ht;rw [md_ hn] at k;refine ⟨a,_,_,ns.map Int.toNat,_,readCore (ns.map Int.toNat),d6_ T.C_q124,_,rfl,ht,fun h2=>⟨?_,?_⟩,fun p H' _ e=>k H' p e⟩
 ·exact ⟨_,_,_,(ok_q92 T).mono (by decide),T.F_q92.b,T.F_q92.fn.kp,fun H Q E h1 h3=>⟨a,_,rfl,h1,by rw [length_map];omega,h3⟩⟩
 exact ⟨_,_,_,(ok_q8 T).mono (by decide),T.F_q8.b,T.F_q8.fn.kp,fun x v H Q E e h1 h3=>⟨x,v,rfl,h1,h3⟩⟩
end
set_option maxHeartbeats 4000000
open PySem.W (Codec nsIn findIn)
def FnIn (K:PySem.W.Frag) (nm qual:Str) (st:Stmt) (f:Addr):Prop:=∃ (oc kV dc pm cd ct:Value) (od an:Option Addr) (sl:Array (Option Value)),K.lookup f=some ⟨oc,od,.func (fnOf nm qual (dE_ st) (b8_ st) (af_ st) .none kV dc pm an cd ct),sl⟩/\codeIn K cd qual=true/\keepIn K (.ref f)=true
theorem FnIn.fn {K:PySem.W.Frag}{nm qual:Str}{st:Stmt}{f:Addr} (h:FnIn K nm qual st f) : ∃ d,Fun K nm qual st f d:=by
 obtain ⟨oc,kV,dc,pm,cd,ct,od,an,sl,l,c,k⟩:=h;exact ⟨_,mK_ l c k⟩
theorem mo {K:PySem.W.Frag}{h:Heap}{mg:Str->Option Value} (X:K.In h) (G:h.Ns mainGlobals mg) {x:Str}{u:Value} (e:PySem.W.nsIn K mainGlobals x=some (some u)):mg x=some u:=PySem.W.mg_of X G e
theorem mn {K:PySem.W.Frag}{h:Heap}{mg:Str->Option Value} (X:K.In h) (G:h.Ns mainGlobals mg) {x:Str} (e:PySem.W.nsIn K mainGlobals x=some none):mg x=none:=PySem.W.mg_none_of X G e
theorem ln0 {Q:List Value->Prop} (h:Q []) : ∀ us:List Value,us.length=0->Q us
 | [],_=>h
theorem lnS {n:Nat}{Q:List Value->Prop} (h : ∀ a us,us.length=n->Q (a::us)) : ∀ us:List Value,us.length=n+1->Q us
 | a::us,e=>h a us (Nat.succ.inj e)
theorem ln1 {Q:List Value->Prop} (h : ∀ a,Q [a]) : ∀ us:List Value,us.length=1->Q us:=lnS fun a=>ln0 (Q:=fun l=>Q (a::l)) (h a)
theorem ln2 {Q:List Value->Prop} (h : ∀ a b,Q [a,b]) : ∀ us:List Value,us.length=2->Q us:=lnS fun a=>ln1 (Q:=fun l=>Q (a::l)) (h a)
theorem ln3 {Q:List Value->Prop} (h : ∀ a b c,Q [a,b,c]) : ∀ us:List Value,us.length=3->Q us:=lnS fun a=>ln2 (Q:=fun l=>Q (a::l)) (h a)
theorem ln4 {Q:List Value->Prop} (h : ∀ a b c d,Q [a,b,c,d]) : ∀ us:List Value,us.length=4->Q us:=lnS fun a=>ln3 (Q:=fun l=>Q (a::l)) (h a)
theorem ln5 {Q:List Value->Prop} (h : ∀ a b c d e,Q [a,b,c,d,e]) : ∀ us:List Value,us.length=5->Q us:=lnS fun a=>ln4 (Q:=fun l=>Q (a::l)) (h a)
theorem ln6 {Q:List Value->Prop} (h : ∀ a b c d e f,Q [a,b,c,d,e,f]) : ∀ us:List Value,us.length=6->Q us:=lnS fun a=>ln5 (Q:=fun l=>Q (a::l)) (h a)
theorem oJ_ {K:PySem.W.Frag}{C:Addr} (h:mroIn K C (.type "str")=some false):kitOne K (.ref C) (.type "str")=some false:=by
 unfold kitOne PySem.W.kitCls;rw [if_neg (by intro z;simp at z)];show (if PySem.W.kitMeta "str"=true then PySem.W.subIn K (.ref C) (.type "str") else none)=_;rw [if_pos (by decide +kernel)];unfold PySem.W.subIn;exact h
theorem aJ_ {K:PySem.W.Frag}{H:Hp}{a:Addr}{od:Option Addr}{its:Array Value}{n:Nat}{sl:Array (Option Value)}{vs:List V} (l:K.lookup a=some ⟨.type "tuple",od,.seq its n,sl⟩) (v:Vals vs its.toList) (hs:vs.length<=sizeLine):SqT K H a vs :=
 .inr ⟨_,its,n,l,rfl,rfl,by rw [<- Array.length_toList,<- L2.Vals.length v];exact hs,v⟩
theorem o5_ {P:Program}{w:World}{K:W.Frag}{h:Heap}{mg:Str->Option Value}{fa:Addr} (X:K.In h) (G:h.Ns mainGlobals mg) (hfa:mg "show"=some (.ref fa))
  {t_q64 t_q74 t_q116 t_q18 t_q49 t_q121 t_q16 t_q34 t_q67 t_q110 t_q44 t_q5 t_q1 t_q59 t_q36 t_q76 t_q91 t_q31 t_q73 t_q88 t_q81 t_q14 t_q84:Tok}{a_q42 a_q66 a_q119 ad_q119_0 ad_q119_1 ad_q119_2 ad_q119_3 ad_q119_4 ad_q119_5 ad_q119_6 ad_q119_7 ad_q119_8 ad_q119_9 ad_q119_10 ad_q119_11 ad_q119_12 ad_q119_13 ad_q119_14 ad_q119_15 ad_q119_16 ad_q119_17 ad_q119_18 ad_q119_19 ad_q119_20 a_q12 a_q43 a_q72 a_q118 a_q22 ad_q22_0 ad_q22_1 ad_q22_2 ad_q22_3 ad_q22_4 ad_q22_5 ad_q22_6 a_q113 C_q122 N_q122 C_q124 C_q114 C_q120 C_Row C_q123 f_q13 f_q15 f_q4 f_q6 f_q25 f_q26 f_q96 f_q19 f_q23 f_q103 f_q37 f_q105 f_q86 f_q99 f_q62 f_q17 f_q104 f_q0 f_q107 f_q111 f_q100 f_q77 f_q51 f_q115 f_q10 f_q57 f_q83 f_q101 f_q102 f_q109 f_q48 f_q53 f_q11 f_q32 f_q75 f_q65 f_q35 f_q56 f_q60 f_q92 f_q117 f_q69 f_q20 f_q126 f_q29 f_q21 f_q112 f_q106 f_q7 f_q27 f_q82 f_q71 f_q63 f_q2 f_q90 f_q41 f_q3 f_q108 f_q33 f_q28 f_q50 f_q79 f_q45 f_q39 f_q38 f_q125 f_q97 f_q8 f_q40 f_q95:Addr}{od_q42 od_q66 od_q12 od_q43 od_q72 dd_q122 od_q125 an_q125:Option Addr}{its_q42 its_q66 its_q119_0 its_q119_1 its_q119_2 its_q119_3 its_q119_4 its_q119_5 its_q119_6 its_q119_7 its_q119_8 its_q119_9 its_q119_10 its_q119_11 its_q119_12 its_q119_13 its_q119_14 its_q119_15 its_q119_16 its_q119_17 its_q119_18 its_q119_19 its_q119_20 its_q12 its_q43 its_q72 its_q22_0 its_q22_1 its_q22_2 its_q22_3 its_q22_4 its_q22_5 its_q22_6:Array Value}{n_q42 n_q66 ep_q119 n_q119_0 n_q119_1 n_q119_2 n_q119_3 n_q119_4 n_q119_5 n_q119_6 n_q119_7 n_q119_8 n_q119_9 n_q119_10 n_q119_11 n_q119_12 n_q119_13 n_q119_14 n_q119_15 n_q119_16 n_q119_17 n_q119_18 n_q119_19 n_q119_20 n_q12 n_q43 n_q72 ep_q118 ep_q22 n_q22_0 n_q22_1 n_q22_2 n_q22_3 n_q22_4 n_q22_5 n_q22_6 ep_q113:Nat}{sl_q42 sl_q66 sl_q119_0 sl_q119_1 sl_q119_2 sl_q119_3 sl_q119_4 sl_q119_5 sl_q119_6 sl_q119_7 sl_q119_8 sl_q119_9 sl_q119_10 sl_q119_11 sl_q119_12 sl_q119_13 sl_q119_14 sl_q119_15 sl_q119_16 sl_q119_17 sl_q119_18 sl_q119_19 sl_q119_20 sl_q12 sl_q43 sl_q72 sl_q22_0 sl_q22_1 sl_q22_2 sl_q22_3 sl_q22_4 sl_q22_5 sl_q22_6 sl_q125:Array (Option Value)}{es_q119 es_q118 es_q22 es_q113:Array DictEntry}{nm_q122 qq_q122:Str}{bs_q122 sub_q122:List Value}{sn_q122:List Str}{ab_q122:Bool}{col_q122:Option Bool}{x0_q122 x1_q122 x2_q122 x3_q122 x5_q122:Option Value}{oc_q125 kV_q125 dc_q125 pm_q125 cd_q125 ct_q125:Value}
  (g_q64:nsIn K mainGlobals "MOST_DEPTH"=some (some (.int 40 t_q64))) (g_q74:nsIn K mainGlobals "MOST_NODES"=some (some (.int 300 t_q74))) (g_q42:nsIn K mainGlobals "PLAIN_FORMS"=some (some (.ref a_q42))) (l_q42:K.lookup a_q42=some ⟨.type "tuple",od_q42,.seq its_q42 n_q42,sl_q42⟩) (v_q42:Vals [V.str "true",V.str "false",V.str "nil"] its_q42.toList) (g_q66:nsIn K mainGlobals "PART_KINDS"=some (some (.ref a_q66))) (l_q66:K.lookup a_q66=some ⟨.type "tuple",od_q66,.seq its_q66 n_q66,sl_q66⟩) (v_q66:Vals [V.str "part",V.str "body"] its_q66.toList) (g_q119:nsIn K mainGlobals "FORMS"=some (some (.ref a_q119))) (l_q119:K.lookup a_q119=some { cls := .type "dict",data := .dict es_q119 ep_q119 }) (p_q119:Paired (dF_ w) [("fn",V.ref ad_q119_0),("rec",V.ref ad_q119_1),("let",V.ref ad_q119_2),("if",V.ref ad_q119_3),("apply",V.ref ad_q119_4),("pair",V.ref ad_q119_5),("fst",V.ref ad_q119_6),("snd",V.ref ad_q119_7),("cons",V.ref ad_q119_8),("case",V.ref ad_q119_9),("fold",V.ref ad_q119_10),("+",V.ref ad_q119_11),("-",V.ref ad_q119_12),("*",V.ref ad_q119_13),("/",V.ref ad_q119_14),("<",V.ref ad_q119_15),("=",V.ref ad_q119_16),("floor",V.ref ad_q119_17),("rest",V.ref ad_q119_18),("root",V.ref ad_q119_19),("^",V.ref ad_q119_20)] es_q119.toList) (lt_q119_0:K.lookup ad_q119_0=some ⟨.type "tuple",none,.seq its_q119_0 n_q119_0,sl_q119_0⟩) (v_q119_0:Vals [V.str "name",V.str "body"] its_q119_0.toList) (lt_q119_1:K.lookup ad_q119_1=some ⟨.type "tuple",none,.seq its_q119_1 n_q119_1,sl_q119_1⟩) (v_q119_1:Vals [V.str "name",V.str "name",V.str "body"] its_q119_1.toList) (lt_q119_2:K.lookup ad_q119_2=some ⟨.type "tuple",none,.seq its_q119_2 n_q119_2,sl_q119_2⟩) (v_q119_2:Vals [V.str "name",V.str "part",V.str "body"] its_q119_2.toList) (lt_q119_3:K.lookup ad_q119_3=some ⟨.type "tuple",none,.seq its_q119_3 n_q119_3,sl_q119_3⟩) (v_q119_3:Vals [V.str "part",V.str "part",V.str "part"] its_q119_3.toList) (lt_q119_4:K.lookup ad_q119_4=some ⟨.type "tuple",none,.seq its_q119_4 n_q119_4,sl_q119_4⟩) (v_q119_4:Vals [V.str "part",V.str "part"] its_q119_4.toList) (lt_q119_5:K.lookup ad_q119_5=some ⟨.type "tuple",none,.seq its_q119_5 n_q119_5,sl_q119_5⟩) (v_q119_5:Vals [V.str "part",V.str "part"] its_q119_5.toList) (lt_q119_6:K.lookup ad_q119_6=some ⟨.type "tuple",none,.seq its_q119_6 n_q119_6,sl_q119_6⟩) (v_q119_6:Vals [V.str "part"] its_q119_6.toList) (lt_q119_7:K.lookup ad_q119_7=some ⟨.type "tuple",none,.seq its_q119_7 n_q119_7,sl_q119_7⟩) (v_q119_7:Vals [V.str "part"] its_q119_7.toList) (lt_q119_8:K.lookup ad_q119_8=some ⟨.type "tuple",none,.seq its_q119_8 n_q119_8,sl_q119_8⟩) (v_q119_8:Vals [V.str "part",V.str "part"] its_q119_8.toList) (lt_q119_9:K.lookup ad_q119_9=some ⟨.type "tuple",none,.seq its_q119_9 n_q119_9,sl_q119_9⟩) (v_q119_9:Vals [V.str "part",V.str "part",V.str "name",V.str "name",V.str "body"] its_q119_9.toList) (lt_q119_10:K.lookup ad_q119_10=some ⟨.type "tuple",none,.seq its_q119_10 n_q119_10,sl_q119_10⟩) (v_q119_10:Vals [V.str "part",V.str "part",V.str "part"] its_q119_10.toList) (lt_q119_11:K.lookup ad_q119_11=some ⟨.type "tuple",none,.seq its_q119_11 n_q119_11,sl_q119_11⟩) (v_q119_11:Vals [V.str "part",V.str "part"] its_q119_11.toList) (lt_q119_12:K.lookup ad_q119_12=some ⟨.type "tuple",none,.seq its_q119_12 n_q119_12,sl_q119_12⟩) (v_q119_12:Vals [V.str "part",V.str "part"] its_q119_12.toList) (lt_q119_13:K.lookup ad_q119_13=some ⟨.type "tuple",none,.seq its_q119_13 n_q119_13,sl_q119_13⟩) (v_q119_13:Vals [V.str "part",V.str "part"] its_q119_13.toList) (lt_q119_14:K.lookup ad_q119_14=some ⟨.type "tuple",none,.seq its_q119_14 n_q119_14,sl_q119_14⟩) (v_q119_14:Vals [V.str "part",V.str "part"] its_q119_14.toList) (lt_q119_15:K.lookup ad_q119_15=some ⟨.type "tuple",none,.seq its_q119_15 n_q119_15,sl_q119_15⟩) (v_q119_15:Vals [V.str "part",V.str "part"] its_q119_15.toList) (lt_q119_16:K.lookup ad_q119_16=some ⟨.type "tuple",none,.seq its_q119_16 n_q119_16,sl_q119_16⟩) (v_q119_16:Vals [V.str "part",V.str "part"] its_q119_16.toList) (lt_q119_17:K.lookup ad_q119_17=some ⟨.type "tuple",none,.seq its_q119_17 n_q119_17,sl_q119_17⟩) (v_q119_17:Vals [V.str "part",V.str "part"] its_q119_17.toList) (lt_q119_18:K.lookup ad_q119_18=some ⟨.type "tuple",none,.seq its_q119_18 n_q119_18,sl_q119_18⟩) (v_q119_18:Vals [V.str "part",V.str "part"] its_q119_18.toList) (lt_q119_19:K.lookup ad_q119_19=some ⟨.type "tuple",none,.seq its_q119_19 n_q119_19,sl_q119_19⟩) (v_q119_19:Vals [V.str "part"] its_q119_19.toList) (lt_q119_20:K.lookup ad_q119_20=some ⟨.type "tuple",none,.seq its_q119_20 n_q119_20,sl_q119_20⟩) (v_q119_20:Vals [V.str "part",V.str "power"] its_q119_20.toList) (z_q119:(a_q119 == sysModules)=false) (g_q116:nsIn K mainGlobals "BLANK"=some (some (.int 32 t_q116))) (g_q18:nsIn K mainGlobals "MEASURE_BEGIN"=some (some (.int 91 t_q18))) (g_q49:nsIn K mainGlobals "MEASURE_END"=some (some (.int 93 t_q49))) (g_q121:nsIn K mainGlobals "MINUS"=some (some (.int 45 t_q121))) (g_q12:nsIn K mainGlobals "FRACTION_SIGNS"=some (some (.ref a_q12))) (l_q12:K.lookup a_q12=some ⟨.type "tuple",od_q12,.seq its_q12 n_q12,sl_q12⟩) (v_q12:Vals [V.int 46,V.int 47] its_q12.toList) (g_q16:nsIn K mainGlobals "FIRST_PRINTED"=some (some (.int 32 t_q16))) (g_q34:nsIn K mainGlobals "LAST_PRINTED"=some (some (.int 126 t_q34))) (g_q67:nsIn K mainGlobals "MOST_SIGNS"=some (some (.int 12 t_q67))) (g_q110:nsIn K mainGlobals "PRINTED"=some (some (.str " !\"#$?&'()*+,-./0123456789:;<=>?@ABCDEFGHIJKLMNOPQRSTUVWXYZ[\\]^_`abcdefghijklmnopqrstuvwxyz{|}~" t_q110))) (g_q43:nsIn K mainGlobals "TAKEN_WORDS"=some (some (.ref a_q43))) (l_q43:K.lookup a_q43=some ⟨.type "tuple",od_q43,.seq its_q43 n_q43,sl_q43⟩) (v_q43:Vals [V.str "fn",V.str "let",V.str "rec",V.str "if",V.str "cons",V.str "case",V.str "pair",V.str "fst",V.str "snd",V.str "fold",V.str "root",V.str "floor",V.str "rest",V.str "true",V.str "false",V.str "nil",V.str "truth",V.str "num",V.str "list",V.str "base",V.str "unit",V.str "def",V.str "fun",V.str "in",V.str "then",V.str "else",V.str "match",V.str "with",V.str "and",V.str "or",V.str "not"] its_q43.toList) (g_q44:nsIn K mainGlobals "MOST_DIGITS"=some (some (.int 12 t_q44))) (g_q5:nsIn K mainGlobals "FIRST_TOO_GREAT"=some (some (.int 1000000000000 t_q5))) (g_q1:nsIn K mainGlobals "MOST_POWER_DIGITS"=some (some (.int 2 t_q1))) (g_q59:nsIn K mainGlobals "WORD_GROUP"=some (some (.int 0 t_q59))) (g_q36:nsIn K mainGlobals "NUMBER_GROUP"=some (some (.int 1 t_q36))) (g_q76:nsIn K mainGlobals "SIGN_GROUP"=some (some (.int 2 t_q76))) (g_q72:nsIn K mainGlobals "CORE_SIGNS"=some (some (.ref a_q72))) (l_q72:K.lookup a_q72=some ⟨.type "tuple",od_q72,.seq its_q72 n_q72,sl_q72⟩) (v_q72:Vals [V.str "(",V.str ")",V.str "+",V.str "-",V.str "*",V.str "/",V.str "^",V.str "<",V.str "="] its_q72.toList) (g_q91:nsIn K mainGlobals "OPEN_RANK"=some (some (.int 0 t_q91))) (g_q31:nsIn K mainGlobals "CONSING_RANK"=some (some (.int 5 t_q31))) (g_q73:nsIn K mainGlobals "APPLY_RANK"=some (some (.int 9 t_q73))) (g_q88:nsIn K mainGlobals "ATOM_RANK"=some (some (.int 10 t_q88))) (g_q118:nsIn K mainGlobals "RANKS"=some (some (.ref a_q118))) (l_q118:K.lookup a_q118=some { cls := .type "dict",data := .dict es_q118 ep_q118 }) (p_q118:Paired (dF_ w) [("name",V.int 10),("true",V.int 10),("false",V.int 10),("nil",V.int 10),("pair",V.int 10),("fn",V.int 0),("rec",V.int 0),("let",V.int 0),("if",V.int 0),("case",V.int 0),("<",V.int 4),("=",V.int 4),("+",V.int 6),("-",V.int 6),("*",V.int 7),("/",V.int 7),("^",V.int 8),("apply",V.int 9),("fst",V.int 9),("snd",V.int 9),("root",V.int 9),("floor",V.int 9),("rest",V.int 9),("fold",V.int 9)] es_q118.toList) (z_q118:(a_q118 == sysModules)=false) (g_q22:nsIn K mainGlobals "OPERAND_RANKS"=some (some (.ref a_q22))) (l_q22:K.lookup a_q22=some { cls := .type "dict",data := .dict es_q22 ep_q22 }) (p_q22:Paired (dF_ w) [("<",V.ref ad_q22_0),("=",V.ref ad_q22_1),("::",V.ref ad_q22_2),("+",V.ref ad_q22_3),("-",V.ref ad_q22_4),("*",V.ref ad_q22_5),("/",V.ref ad_q22_6)] es_q22.toList) (z_q22:(a_q22 == sysModules)=false) (lt_q22_0:K.lookup ad_q22_0=some ⟨.type "tuple",none,.seq its_q22_0 n_q22_0,sl_q22_0⟩) (v_q22_0:Vals [V.int 5,V.int 5] its_q22_0.toList) (lt_q22_1:K.lookup ad_q22_1=some ⟨.type "tuple",none,.seq its_q22_1 n_q22_1,sl_q22_1⟩) (v_q22_1:Vals [V.int 5,V.int 5] its_q22_1.toList) (lt_q22_2:K.lookup ad_q22_2=some ⟨.type "tuple",none,.seq its_q22_2 n_q22_2,sl_q22_2⟩) (v_q22_2:Vals [V.int 6,V.int 5] its_q22_2.toList) (lt_q22_3:K.lookup ad_q22_3=some ⟨.type "tuple",none,.seq its_q22_3 n_q22_3,sl_q22_3⟩) (v_q22_3:Vals [V.int 6,V.int 7] its_q22_3.toList) (lt_q22_4:K.lookup ad_q22_4=some ⟨.type "tuple",none,.seq its_q22_4 n_q22_4,sl_q22_4⟩) (v_q22_4:Vals [V.int 6,V.int 7] its_q22_4.toList) (lt_q22_5:K.lookup ad_q22_5=some ⟨.type "tuple",none,.seq its_q22_5 n_q22_5,sl_q22_5⟩) (v_q22_5:Vals [V.int 7,V.int 8] its_q22_5.toList) (lt_q22_6:K.lookup ad_q22_6=some ⟨.type "tuple",none,.seq its_q22_6 n_q22_6,sl_q22_6⟩) (v_q22_6:Vals [V.int 7,V.int 8] its_q22_6.toList) (g_q113:nsIn K mainGlobals "PIECES"=some (some (.ref a_q113))) (l_q113:K.lookup a_q113=some { cls := .type "dict",data := .dict es_q113 ep_q113 }) (p_q113:Paired (dF_ w) [("name",V.ref f_q7),("number",V.ref f_q7),("true",V.ref f_q27),("false",V.ref f_q27),("fn",V.ref f_q82),("rec",V.ref f_q71),("let",V.ref f_q63),("if",V.ref f_q90),("case",V.ref f_q41),("<",V.ref f_q3),("=",V.ref f_q3),("+",V.ref f_q3),("-",V.ref f_q3),("*",V.ref f_q3),("/",V.ref f_q3),("^",V.ref f_q33),("apply",V.ref f_q28),("fst",V.ref f_q50),("snd",V.ref f_q50),("root",V.ref f_q50),("floor",V.ref f_q50),("rest",V.ref f_q50),("fold",V.ref f_q50),("nil",V.ref f_q79),("cons",V.ref f_q45),("pair",V.ref f_q39)] es_q113.toList) (z_q113:(a_q113 == sysModules)=false) (g_q81:nsIn K mainGlobals "MOST_BYTES"=some (some (.int 2000 t_q81))) (g_q14:nsIn K mainGlobals "TEXT_TOO_LONG"=some (some (.int (-1) t_q14))) (g_q84:nsIn K mainGlobals "TOO_GREAT"=some (some (.int (-4) t_q84))) (b_all:nsIn K mainGlobals "all"=some none) (b_enumerate:nsIn K mainGlobals "enumerate"=some none) (b_int:nsIn K mainGlobals "int"=some none) (b_isinstance:nsIn K mainGlobals "isinstance"=some none) (b_len:nsIn K mainGlobals "len"=some none) (b_max:nsIn K mainGlobals "max"=some none) (b_ord:nsIn K mainGlobals "ord"=some none) (b_reversed:nsIn K mainGlobals "reversed"=some none) (b_str:nsIn K mainGlobals "str"=some none) (G_q122:nsIn K mainGlobals "Fault"=some (some (.ref C_q122))) (a_q13:findIn K (.ref C_q122) "__init__"=some (some (.ref f_q13))) (i_q13:W.isFn K (.ref f_q13)=true) (l_q13:FnIn K "__init__" "Fault.__init__" s_q13 f_q13) (kc_q122:W.keepIn K (.ref C_q122)=true) (hd_q122:W.hasDictIn K C_q122=true) (sa_q122:findIn K (.ref C_q122) "__setattr__"=some (some (.builtin "object.__setattr__"))) (lx_q122:K.lookup C_q122=some (excClassObj nm_q122 qq_q122 C_q122 N_q122 bs_q122 cH_ true sn_q122 sub_q122 ab_q122 col_q122 dd_q122 x0_q122 x1_q122 x2_q122 x3_q122 x5_q122 "Exception.__new__")) (ga_q122:findIn K (.ref C_q122) "__getattribute__"=some (some (.builtin "BaseException.__getattribute__"))) (gn_q122:findIn K (.ref C_q122) "__getattr__"=some none) (n_q61:findIn K (.ref C_q122) "kind"=some none) (n_q54:findIn K (.ref C_q122) "place"=some none) (G_q124:nsIn K mainGlobals "Node"=some (some (.ref C_q124))) (a_q15:findIn K (.ref C_q124) "__init__"=some (some (.ref f_q15))) (i_q15:W.isFn K (.ref f_q15)=true) (l_q15:FnIn K "__init__" "Node.__init__" s_q15 f_q15) (kc_q124:W.keepIn K (.ref C_q124)=true) (hd_q124:W.hasDictIn K C_q124=true) (sa_q124:findIn K (.ref C_q124) "__setattr__"=some (some (.builtin "object.__setattr__"))) (pg_q124:W.plainGet K C_q124 Str.empty=true) (po_q124:W.plainOver K C_q124=true) (mk_q124:W.makesIn K C_q124=true) (y1_q124:findIn K (.ref C_q124) "__class__"=some (some (.builtin "object.__class__"))) (y2_q124:W.specialIn K (.builtin "object.__class__") "__get__"=some (some (.builtin "getset_descriptor.__get__"))) (y3_q124:W.takesIn K (.builtin "object.__class__")=some true) (y4_q124:W.mroIn K C_q124 (.type "object")=some true) (y5_q124:W.mroIn K C_q124 (.type "str")=some false) (n_q94:findIn K (.ref C_q124) "form"=some none) (n_q55:findIn K (.ref C_q124) "words"=some none) (n_q70:findIn K (.ref C_q124) "parts"=some none) (n_q58:findIn K (.ref C_q124) "begin"=some none) (n_q98:findIn K (.ref C_q124) "end"=some none) (G_q114:nsIn K mainGlobals "Amount"=some (some (.ref C_q114))) (a_q4:findIn K (.ref C_q114) "__init__"=some (some (.ref f_q4))) (i_q4:W.isFn K (.ref f_q4)=true) (l_q4:FnIn K "__init__" "Amount.__init__" s_q4 f_q4) (kc_q114:W.keepIn K (.ref C_q114)=true) (hd_q114:W.hasDictIn K C_q114=true) (sa_q114:findIn K (.ref C_q114) "__setattr__"=some (some (.builtin "object.__setattr__"))) (pg_q114:W.plainGet K C_q114 Str.empty=true) (po_q114:W.plainOver K C_q114=true) (mk_q114:W.makesIn K C_q114=true) (n_q46:findIn K (.ref C_q114) "over"=some none) (n_q30:findIn K (.ref C_q114) "under"=some none) (n_q9:findIn K (.ref C_q114) "measure"=some none) (G_q120:nsIn K mainGlobals "Token"=some (some (.ref C_q120))) (a_q6:findIn K (.ref C_q120) "__init__"=some (some (.ref f_q6))) (i_q6:W.isFn K (.ref f_q6)=true) (l_q6:FnIn K "__init__" "Token.__init__" s_q6 f_q6) (kc_q120:W.keepIn K (.ref C_q120)=true) (hd_q120:W.hasDictIn K C_q120=true) (sa_q120:findIn K (.ref C_q120) "__setattr__"=some (some (.builtin "object.__setattr__"))) (pg_q120:W.plainGet K C_q120 Str.empty=true) (po_q120:W.plainOver K C_q120=true) (mk_q120:W.makesIn K C_q120=true) (n_q52:findIn K (.ref C_q120) "group"=some none) (n_q80:findIn K (.ref C_q120) "kind"=some none) (n_q47:findIn K (.ref C_q120) "begin"=some none) (n_q93:findIn K (.ref C_q120) "end"=some none) (n_q24:findIn K (.ref C_q120) "content"=some none) (G_Row:nsIn K mainGlobals "Row"=some (some (.ref C_Row))) (a_q25:findIn K (.ref C_Row) "__init__"=some (some (.ref f_q25))) (i_q25:W.isFn K (.ref f_q25)=true) (l_q25:FnIn K "__init__" "Row.__init__" s_q25 f_q25) (a_q26:findIn K (.ref C_Row) "upcoming"=some (some (.ref f_q26))) (i_q26:W.isFn K (.ref f_q26)=true) (l_q26:FnIn K "upcoming" "Row.upcoming" s_q26 f_q26) (a_q96:findIn K (.ref C_Row) "take"=some (some (.ref f_q96))) (i_q96:W.isFn K (.ref f_q96)=true) (l_q96:FnIn K "take" "Row.take" s_q96 f_q96) (a_q19:findIn K (.ref C_Row) "take_kind"=some (some (.ref f_q19))) (i_q19:W.isFn K (.ref f_q19)=true) (l_q19:FnIn K "take_kind" "Row.take_kind" s_q19 f_q19) (kc_Row:W.keepIn K (.ref C_Row)=true) (hd_Row:W.hasDictIn K C_Row=true) (sa_Row:findIn K (.ref C_Row) "__setattr__"=some (some (.builtin "object.__setattr__"))) (pg_Row:W.plainGet K C_Row Str.empty=true) (po_Row:W.plainOver K C_Row=true) (mk_Row:W.makesIn K C_Row=true) (n_q85:findIn K (.ref C_Row) "ahead"=some none) (n_q89:findIn K (.ref C_Row) "index"=some none) (G_q123:nsIn K mainGlobals "Step"=some (some (.ref C_q123))) (a_q23:findIn K (.ref C_q123) "__init__"=some (some (.ref f_q23))) (i_q23:W.isFn K (.ref f_q23)=true) (l_q23:FnIn K "__init__" "Step.__init__" s_q23 f_q23) (kc_q123:W.keepIn K (.ref C_q123)=true) (hd_q123:W.hasDictIn K C_q123=true) (sa_q123:findIn K (.ref C_q123) "__setattr__"=some (some (.builtin "object.__setattr__"))) (pg_q123:W.plainGet K C_q123 Str.empty=true) (po_q123:W.plainOver K C_q123=true) (mk_q123:W.makesIn K C_q123=true) (n_q87:findIn K (.ref C_q123) "kind"=some none) (n_q78:findIn K (.ref C_q123) "owner"=some none) (n_q68:findIn K (.ref C_q123) "depth"=some none) (a_q103:nsIn K mainGlobals "numbered"=some (some (.ref f_q103))) (l_q103:FnIn K "numbered" "numbered" s_q103 f_q103) (a_q37:nsIn K mainGlobals "check_limits"=some (some (.ref f_q37))) (l_q37:FnIn K "check_limits" "check_limits" s_q37 f_q37) (a_q105:nsIn K mainGlobals "unfolded"=some (some (.ref f_q105))) (l_q105:FnIn K "unfolded" "unfolded" s_q105 f_q105) (a_q86:nsIn K mainGlobals "is_letter"=some (some (.ref f_q86))) (l_q86:FnIn K "is_letter" "is_letter" s_q86 f_q86) (a_q99:nsIn K mainGlobals "is_digit"=some (some (.ref f_q99))) (l_q99:FnIn K "is_digit" "is_digit" s_q99 f_q99) (a_q62:nsIn K mainGlobals "is_in_word"=some (some (.ref f_q62))) (l_q62:FnIn K "is_in_word" "is_in_word" s_q62 f_q62) (a_q17:nsIn K mainGlobals "is_short_word"=some (some (.ref f_q17))) (l_q17:FnIn K "is_short_word" "is_short_word" s_q17 f_q17) (a_q104:nsIn K mainGlobals "is_blank"=some (some (.ref f_q104))) (l_q104:FnIn K "is_blank" "is_blank" s_q104 f_q104) (a_q0:nsIn K mainGlobals "is_before_measure_end"=some (some (.ref f_q0))) (l_q0:FnIn K "is_before_measure_end" "is_before_measure_end" s_q0 f_q0) (a_q107:nsIn K mainGlobals "run_end"=some (some (.ref f_q107))) (l_q107:FnIn K "run_end" "run_end" s_q107 f_q107) (a_q111:nsIn K mainGlobals "sign_of"=some (some (.ref f_q111))) (l_q111:FnIn K "sign_of" "sign_of" s_q111 f_q111) (a_q100:nsIn K mainGlobals "signs_of"=some (some (.ref f_q100))) (l_q100:FnIn K "signs_of" "signs_of" s_q100 f_q100) (a_q77:nsIn K mainGlobals "number_end"=some (some (.ref f_q77))) (l_q77:FnIn K "number_end" "number_end" s_q77 f_q77) (a_q51:nsIn K mainGlobals "fraction_of"=some (some (.ref f_q51))) (l_q51:FnIn K "fraction_of" "fraction_of" s_q51 f_q51) (a_q115:nsIn K mainGlobals "lowest"=some (some (.ref f_q115))) (l_q115:FnIn K "lowest" "lowest" s_q115 f_q115) (a_q10:nsIn K mainGlobals "common_divisor"=some (some (.ref f_q10))) (l_q10:FnIn K "common_divisor" "common_divisor" s_q10 f_q10) (a_q57:nsIn K mainGlobals "is_measure"=some (some (.ref f_q57))) (l_q57:FnIn K "is_measure" "is_measure" s_q57 f_q57) (a_q83:nsIn K mainGlobals "is_factor"=some (some (.ref f_q83))) (l_q83:FnIn K "is_factor" "is_factor" s_q83 f_q83) (a_q101:nsIn K mainGlobals "is_power"=some (some (.ref f_q101))) (l_q101:FnIn K "is_power" "is_power" s_q101 f_q101) (a_q102:nsIn K mainGlobals "measured"=some (some (.ref f_q102))) (l_q102:FnIn K "measured" "measured" s_q102 f_q102) (a_q109:nsIn K mainGlobals "negated"=some (some (.ref f_q109))) (l_q109:FnIn K "negated" "negated" s_q109 f_q109) (a_q48:nsIn K mainGlobals "amount_text"=some (some (.ref f_q48))) (l_q48:FnIn K "amount_text" "amount_text" s_q48 f_q48) (a_q53:nsIn K mainGlobals "core_tokens"=some (some (.ref f_q53))) (l_q53:FnIn K "core_tokens" "core_tokens" s_q53 f_q53) (a_q11:nsIn K mainGlobals "tokens_between"=some (some (.ref f_q11))) (l_q11:FnIn K "tokens_between" "tokens_between" s_q11 f_q11) (a_q32:nsIn K mainGlobals "core_gap_end"=some (some (.ref f_q32))) (l_q32:FnIn K "core_gap_end" "core_gap_end" s_q32 f_q32) (a_q75:nsIn K mainGlobals "core_token"=some (some (.ref f_q75))) (l_q75:FnIn K "core_token" "core_token" s_q75 f_q75) (a_q65:nsIn K mainGlobals "word_token"=some (some (.ref f_q65))) (l_q65:FnIn K "word_token" "word_token" s_q65 f_q65) (a_q35:nsIn K mainGlobals "number_token"=some (some (.ref f_q35))) (l_q35:FnIn K "number_token" "number_token" s_q35 f_q35) (a_q56:nsIn K mainGlobals "measure_at"=some (some (.ref f_q56))) (l_q56:FnIn K "measure_at" "measure_at" s_q56 f_q56) (a_q60:nsIn K mainGlobals "sign_token"=some (some (.ref f_q60))) (l_q60:FnIn K "sign_token" "sign_token" s_q60 f_q60) (a_q92:nsIn K mainGlobals "core_term"=some (some (.ref f_q92))) (l_q92:FnIn K "core_term" "core_term" s_q92 f_q92) (a_q117:nsIn K mainGlobals "go_on"=some (some (.ref f_q117))) (l_q117:FnIn K "go_on" "go_on" s_q117 f_q117) (a_q69:nsIn K mainGlobals "begin_term"=some (some (.ref f_q69))) (l_q69:FnIn K "begin_term" "begin_term" s_q69 f_q69) (a_q20:nsIn K mainGlobals "bracket_begin"=some (some (.ref f_q20))) (l_q20:FnIn K "bracket_begin" "bracket_begin" s_q20 f_q20) (a_q126:nsIn K mainGlobals "leaf"=some (some (.ref f_q126))) (l_q126:FnIn K "leaf" "leaf" s_q126 f_q126) (a_q29:nsIn K mainGlobals "surface_text"=some (some (.ref f_q29))) (l_q29:FnIn K "surface_text" "surface_text" s_q29 f_q29) (a_q21:nsIn K mainGlobals "ranked_pieces"=some (some (.ref f_q21))) (l_q21:FnIn K "ranked_pieces" "ranked_pieces" s_q21 f_q21) (a_q112:nsIn K mainGlobals "rank_of"=some (some (.ref f_q112))) (l_q112:FnIn K "rank_of" "rank_of" s_q112 f_q112) (a_q106:nsIn K mainGlobals "is_list"=some (some (.ref f_q106))) (l_q106:FnIn K "is_list" "is_list" s_q106 f_q106) (a_q7:nsIn K mainGlobals "spelled_pieces"=some (some (.ref f_q7))) (l_q7:FnIn K "spelled_pieces" "spelled_pieces" s_q7 f_q7) (a_q27:nsIn K mainGlobals "truth_pieces"=some (some (.ref f_q27))) (l_q27:FnIn K "truth_pieces" "truth_pieces" s_q27 f_q27) (a_q82:nsIn K mainGlobals "fn_pieces"=some (some (.ref f_q82))) (l_q82:FnIn K "fn_pieces" "fn_pieces" s_q82 f_q82) (a_q71:nsIn K mainGlobals "rec_pieces"=some (some (.ref f_q71))) (l_q71:FnIn K "rec_pieces" "rec_pieces" s_q71 f_q71) (a_q63:nsIn K mainGlobals "let_pieces"=some (some (.ref f_q63))) (l_q63:FnIn K "let_pieces" "let_pieces" s_q63 f_q63) (a_q2:nsIn K mainGlobals "function_pieces"=some (some (.ref f_q2))) (l_q2:FnIn K "function_pieces" "function_pieces" s_q2 f_q2) (a_q90:nsIn K mainGlobals "if_pieces"=some (some (.ref f_q90))) (l_q90:FnIn K "if_pieces" "if_pieces" s_q90 f_q90) (a_q41:nsIn K mainGlobals "case_pieces"=some (some (.ref f_q41))) (l_q41:FnIn K "case_pieces" "case_pieces" s_q41 f_q41) (a_q3:nsIn K mainGlobals "operator_pieces"=some (some (.ref f_q3))) (l_q3:FnIn K "operator_pieces" "operator_pieces" s_q3 f_q3) (a_q108:nsIn K mainGlobals "between"=some (some (.ref f_q108))) (l_q108:FnIn K "between" "between" s_q108 f_q108) (a_q33:nsIn K mainGlobals "power_pieces"=some (some (.ref f_q33))) (l_q33:FnIn K "power_pieces" "power_pieces" s_q33 f_q33) (a_q28:nsIn K mainGlobals "apply_pieces"=some (some (.ref f_q28))) (l_q28:FnIn K "apply_pieces" "apply_pieces" s_q28 f_q28) (a_q50:nsIn K mainGlobals "word_pieces"=some (some (.ref f_q50))) (l_q50:FnIn K "word_pieces" "word_pieces" s_q50 f_q50) (a_q79:nsIn K mainGlobals "nil_pieces"=some (some (.ref f_q79))) (l_q79:FnIn K "nil_pieces" "nil_pieces" s_q79 f_q79) (a_q45:nsIn K mainGlobals "cons_pieces"=some (some (.ref f_q45))) (l_q45:FnIn K "cons_pieces" "cons_pieces" s_q45 f_q45) (a_q39:nsIn K mainGlobals "pair_pieces"=some (some (.ref f_q39))) (l_q39:FnIn K "pair_pieces" "pair_pieces" s_q39 f_q39) (a_q38:nsIn K mainGlobals "with_commas"=some (some (.ref f_q38))) (l_q38:FnIn K "with_commas" "with_commas" s_q38 f_q38) (a_q125:nsIn K mainGlobals "show"=some (some (.ref f_q125))) (l_q125:K.lookup f_q125=some ⟨oc_q125,od_q125,.func (W.fnOf "show" "show" (dE_ s_q125) (b8_ s_q125) (af_ s_q125) .none kV_q125 dc_q125 pm_q125 an_q125 cd_q125 ct_q125),sl_q125⟩) (c_show:W.codeIn K cd_q125 "show"=true) (k_q125:W.keepIn K (.ref f_q125)=true) (a_q97:nsIn K mainGlobals "answered"=some (some (.ref f_q97))) (l_q97:FnIn K "answered" "answered" s_q97 f_q97) (a_q8:nsIn K mainGlobals "surface_answer"=some (some (.ref f_q8))) (l_q8:FnIn K "surface_answer" "surface_answer" s_q8 f_q8) (a_q40:nsIn K mainGlobals "text_answer"=some (some (.ref f_q40))) (l_q40:FnIn K "text_answer" "text_answer" s_q40 f_q40) (a_q95:nsIn K mainGlobals "bytes_of"=some (some (.ref f_q95))) (l_q95:FnIn K "bytes_of" "bytes_of" s_q95 f_q95)
  : ∃ fd:FuncData,(∀ (s:Shared) (us:List Value),us.length=(["text"]:List Str).length->BindsTo s fd ⟨us,[]⟩ ((["text"]:List Str).zip us))/\∀ base:Heap,K.In base->base.Ns mainGlobals mg->FnOk P w K mg base CX0 22 fa fd ["text"] (hn_ PyVaunid.show_ K):=by
 obtain ⟨d_q13,F_q13⟩:=l_q13.fn;have B_q13:=F_q13.binds (ps:=["self","kind","place"]) fun _ _ _ _ _ _=>ln3 fun _ _ _=>rfl;obtain ⟨d_q15,F_q15⟩:=l_q15.fn;have B_q15:=F_q15.binds (ps:=["self","form","words","parts","begin","end"]) fun _ _ _ _ _ _=>ln6 fun _ _ _ _ _ _=>rfl;obtain ⟨d_q4,F_q4⟩:=l_q4.fn;have B_q4:=F_q4.binds (ps:=["self","over","under","measure"]) fun _ _ _ _ _ _=>ln4 fun _ _ _ _=>rfl;obtain ⟨d_q6,F_q6⟩:=l_q6.fn;have B_q6:=F_q6.binds (ps:=["self","group","kind","begin","end","content"]) fun _ _ _ _ _ _=>ln6 fun _ _ _ _ _ _=>rfl;obtain ⟨d_q25,F_q25⟩:=l_q25.fn;have B_q25:=F_q25.binds (ps:=["self","found","length"]) fun _ _ _ _ _ _=>ln3 fun _ _ _=>rfl;obtain ⟨d_q26,F_q26⟩:=l_q26.fn;have B_q26:=F_q26.binds (ps:=["self"]) fun _ _ _ _ _ _=>ln1 fun _=>rfl;obtain ⟨d_q96,F_q96⟩:=l_q96.fn;have B_q96:=F_q96.binds (ps:=["self"]) fun _ _ _ _ _ _=>ln1 fun _=>rfl;obtain ⟨d_q19,F_q19⟩:=l_q19.fn;have B_q19:=F_q19.binds (ps:=["self","kind"]) fun _ _ _ _ _ _=>ln2 fun _ _=>rfl;obtain ⟨d_q23,F_q23⟩:=l_q23.fn;have B_q23:=F_q23.binds (ps:=["self","kind","owner","depth"]) fun _ _ _ _ _ _=>ln4 fun _ _ _ _=>rfl;obtain ⟨d_q103,F_q103⟩:=l_q103.fn;have B_q103:=F_q103.binds (ps:=["term"]) fun _ _ _ _ _ _=>ln1 fun _=>rfl;obtain ⟨d_q37,F_q37⟩:=l_q37.fn;have B_q37:=F_q37.binds (ps:=["term"]) fun _ _ _ _ _ _=>ln1 fun _=>rfl;obtain ⟨d_q105,F_q105⟩:=l_q105.fn;have B_q105:=F_q105.binds (ps:=["whole","pieces_of"]) fun _ _ _ _ _ _=>ln2 fun _ _=>rfl;obtain ⟨d_q86,F_q86⟩:=l_q86.fn;have B_q86:=F_q86.binds (ps:=["byte"]) fun _ _ _ _ _ _=>ln1 fun _=>rfl
 obtain ⟨d_q99,F_q99⟩:=l_q99.fn;have B_q99:=F_q99.binds (ps:=["byte"]) fun _ _ _ _ _ _=>ln1 fun _=>rfl;obtain ⟨d_q62,F_q62⟩:=l_q62.fn;have B_q62:=F_q62.binds (ps:=["byte"]) fun _ _ _ _ _ _=>ln1 fun _=>rfl;obtain ⟨d_q17,F_q17⟩:=l_q17.fn;have B_q17:=F_q17.binds (ps:=["text"]) fun _ _ _ _ _ _=>ln1 fun _=>rfl;obtain ⟨d_q104,F_q104⟩:=l_q104.fn;have B_q104:=F_q104.binds (ps:=["byte"]) fun _ _ _ _ _ _=>ln1 fun _=>rfl;obtain ⟨d_q0,F_q0⟩:=l_q0.fn;have B_q0:=F_q0.binds (ps:=["byte"]) fun _ _ _ _ _ _=>ln1 fun _=>rfl;obtain ⟨d_q107,F_q107⟩:=l_q107.fn;have B_q107:=F_q107.binds (ps:=["text","place","belongs"]) fun _ _ _ _ _ _=>ln3 fun _ _ _=>rfl;obtain ⟨d_q111,F_q111⟩:=l_q111.fn;have B_q111:=F_q111.binds (ps:=["byte"]) fun _ _ _ _ _ _=>ln1 fun _=>rfl;obtain ⟨d_q100,F_q100⟩:=l_q100.fn;have B_q100:=F_q100.binds (ps:=["some_bytes"]) fun _ _ _ _ _ _=>ln1 fun _=>rfl;obtain ⟨d_q77,F_q77⟩:=l_q77.fn;have B_q77:=F_q77.binds (ps:=["text","begin"]) fun _ _ _ _ _ _=>ln2 fun _ _=>rfl;obtain ⟨d_q51,F_q51⟩:=l_q51.fn;have B_q51:=F_q51.binds (ps:=["spelling"]) fun _ _ _ _ _ _=>ln1 fun _=>rfl;obtain ⟨d_q115,F_q115⟩:=l_q115.fn;have B_q115:=F_q115.binds (ps:=["over","under"]) fun _ _ _ _ _ _=>ln2 fun _ _=>rfl;obtain ⟨d_q10,F_q10⟩:=l_q10.fn;have B_q10:=F_q10.binds (ps:=["first","second"]) fun _ _ _ _ _ _=>ln2 fun _ _=>rfl;obtain ⟨d_q57,F_q57⟩:=l_q57.fn;have B_q57:=F_q57.binds (ps:=["measure"]) fun _ _ _ _ _ _=>ln1 fun _=>rfl;obtain ⟨d_q83,F_q83⟩:=l_q83.fn;have B_q83:=F_q83.binds (ps:=["factor"]) fun _ _ _ _ _ _=>ln1 fun _=>rfl
 obtain ⟨d_q101,F_q101⟩:=l_q101.fn;have B_q101:=F_q101.binds (ps:=["power"]) fun _ _ _ _ _ _=>ln1 fun _=>rfl;obtain ⟨d_q102,F_q102⟩:=l_q102.fn;have B_q102:=F_q102.binds (ps:=["amount","measure"]) fun _ _ _ _ _ _=>ln2 fun _ _=>rfl;obtain ⟨d_q109,F_q109⟩:=l_q109.fn;have B_q109:=F_q109.binds (ps:=["amount"]) fun _ _ _ _ _ _=>ln1 fun _=>rfl;obtain ⟨d_q48,F_q48⟩:=l_q48.fn;have B_q48:=F_q48.binds (ps:=["amount"]) fun _ _ _ _ _ _=>ln1 fun _=>rfl;obtain ⟨d_q53,F_q53⟩:=l_q53.fn;have B_q53:=F_q53.binds (ps:=["text"]) fun _ _ _ _ _ _=>ln1 fun _=>rfl;obtain ⟨d_q11,F_q11⟩:=l_q11.fn;have B_q11:=F_q11.binds (ps:=["text","gap_end","token_at"]) fun _ _ _ _ _ _=>ln3 fun _ _ _=>rfl;obtain ⟨d_q32,F_q32⟩:=l_q32.fn;have B_q32:=F_q32.binds (ps:=["text","place"]) fun _ _ _ _ _ _=>ln2 fun _ _=>rfl;obtain ⟨d_q75,F_q75⟩:=l_q75.fn;have B_q75:=F_q75.binds (ps:=["text","begin"]) fun _ _ _ _ _ _=>ln2 fun _ _=>rfl;obtain ⟨d_q65,F_q65⟩:=l_q65.fn;have B_q65:=F_q65.binds (ps:=["text","begin"]) fun _ _ _ _ _ _=>ln2 fun _ _=>rfl;obtain ⟨d_q35,F_q35⟩:=l_q35.fn;have B_q35:=F_q35.binds (ps:=["text","begin","digits"]) fun _ _ _ _ _ _=>ln3 fun _ _ _=>rfl;obtain ⟨d_q56,F_q56⟩:=l_q56.fn;have B_q56:=F_q56.binds (ps:=["text","begin"]) fun _ _ _ _ _ _=>ln2 fun _ _=>rfl;obtain ⟨d_q60,F_q60⟩:=l_q60.fn;have B_q60:=F_q60.binds (ps:=["text","begin","signs"]) fun _ _ _ _ _ _=>ln3 fun _ _ _=>rfl;obtain ⟨d_q92,F_q92⟩:=l_q92.fn;have B_q92:=F_q92.binds (ps:=["text"]) fun _ _ _ _ _ _=>ln1 fun _=>rfl;obtain ⟨d_q117,F_q117⟩:=l_q117.fn;have B_q117:=F_q117.binds (ps:=["row","todo","step"]) fun _ _ _ _ _ _=>ln3 fun _ _ _=>rfl
 obtain ⟨d_q69,F_q69⟩:=l_q69.fn;have B_q69:=F_q69.binds (ps:=["row","todo","step"]) fun _ _ _ _ _ _=>ln3 fun _ _ _=>rfl;obtain ⟨d_q20,F_q20⟩:=l_q20.fn;have B_q20:=F_q20.binds (ps:=["row"]) fun _ _ _ _ _ _=>ln1 fun _=>rfl;obtain ⟨d_q126,F_q126⟩:=l_q126.fn;have B_q126:=F_q126.binds (ps:=["token"]) fun _ _ _ _ _ _=>ln1 fun _=>rfl;obtain ⟨d_q29,F_q29⟩:=l_q29.fn;have B_q29:=F_q29.binds (ps:=["term"]) fun _ _ _ _ _ _=>ln1 fun _=>rfl;obtain ⟨d_q21,F_q21⟩:=l_q21.fn;have B_q21:=F_q21.binds (ps:=["item"]) fun _ _ _ _ _ _=>ln1 fun _=>rfl;obtain ⟨d_q112,F_q112⟩:=l_q112.fn;have B_q112:=F_q112.binds (ps:=["node"]) fun _ _ _ _ _ _=>ln1 fun _=>rfl;obtain ⟨d_q106,F_q106⟩:=l_q106.fn;have B_q106:=F_q106.binds (ps:=["node"]) fun _ _ _ _ _ _=>ln1 fun _=>rfl;obtain ⟨d_q7,F_q7⟩:=l_q7.fn;have B_q7:=F_q7.binds (ps:=["node"]) fun _ _ _ _ _ _=>ln1 fun _=>rfl;obtain ⟨d_q27,F_q27⟩:=l_q27.fn;have B_q27:=F_q27.binds (ps:=["node"]) fun _ _ _ _ _ _=>ln1 fun _=>rfl;obtain ⟨d_q82,F_q82⟩:=l_q82.fn;have B_q82:=F_q82.binds (ps:=["node"]) fun _ _ _ _ _ _=>ln1 fun _=>rfl;obtain ⟨d_q71,F_q71⟩:=l_q71.fn;have B_q71:=F_q71.binds (ps:=["node"]) fun _ _ _ _ _ _=>ln1 fun _=>rfl;obtain ⟨d_q63,F_q63⟩:=l_q63.fn;have B_q63:=F_q63.binds (ps:=["node"]) fun _ _ _ _ _ _=>ln1 fun _=>rfl;obtain ⟨d_q2,F_q2⟩:=l_q2.fn;have B_q2:=F_q2.binds (ps:=["names","body","sign"]) fun _ _ _ _ _ _=>ln3 fun _ _ _=>rfl;obtain ⟨d_q90,F_q90⟩:=l_q90.fn;have B_q90:=F_q90.binds (ps:=["node"]) fun _ _ _ _ _ _=>ln1 fun _=>rfl;obtain ⟨d_q41,F_q41⟩:=l_q41.fn;have B_q41:=F_q41.binds (ps:=["node"]) fun _ _ _ _ _ _=>ln1 fun _=>rfl
 obtain ⟨d_q3,F_q3⟩:=l_q3.fn;have B_q3:=F_q3.binds (ps:=["node"]) fun _ _ _ _ _ _=>ln1 fun _=>rfl;obtain ⟨d_q108,F_q108⟩:=l_q108.fn;have B_q108:=F_q108.binds (ps:=["node","sign"]) fun _ _ _ _ _ _=>ln2 fun _ _=>rfl;obtain ⟨d_q33,F_q33⟩:=l_q33.fn;have B_q33:=F_q33.binds (ps:=["node"]) fun _ _ _ _ _ _=>ln1 fun _=>rfl;obtain ⟨d_q28,F_q28⟩:=l_q28.fn;have B_q28:=F_q28.binds (ps:=["node"]) fun _ _ _ _ _ _=>ln1 fun _=>rfl;obtain ⟨d_q50,F_q50⟩:=l_q50.fn;have B_q50:=F_q50.binds (ps:=["node"]) fun _ _ _ _ _ _=>ln1 fun _=>rfl;obtain ⟨d_q79,F_q79⟩:=l_q79.fn;have B_q79:=F_q79.binds (ps:=["node"]) fun _ _ _ _ _ _=>ln1 fun _=>rfl;obtain ⟨d_q45,F_q45⟩:=l_q45.fn;have B_q45:=F_q45.binds (ps:=["node"]) fun _ _ _ _ _ _=>ln1 fun _=>rfl;obtain ⟨d_q39,F_q39⟩:=l_q39.fn;have B_q39:=F_q39.binds (ps:=["node"]) fun _ _ _ _ _ _=>ln1 fun _=>rfl;obtain ⟨d_q38,F_q38⟩:=l_q38.fn;have B_q38:=F_q38.binds (ps:=["members"]) fun _ _ _ _ _ _=>ln1 fun _=>rfl;have F_q125:=mK_ (st:=s_q125) l_q125 c_show k_q125;have B_q125:=F_q125.binds (ps:=["text"]) fun _ _ _ _ _ _=>ln1 fun _=>rfl;obtain ⟨d_q97,F_q97⟩:=l_q97.fn;have B_q97:=F_q97.binds (ps:=["text","reading","answering"]) fun _ _ _ _ _ _=>ln3 fun _ _ _=>rfl;obtain ⟨d_q8,F_q8⟩:=l_q8.fn;have B_q8:=F_q8.binds (ps:=["term"]) fun _ _ _ _ _ _=>ln1 fun _=>rfl;obtain ⟨d_q40,F_q40⟩:=l_q40.fn;have B_q40:=F_q40.binds (ps:=["shown"]) fun _ _ _ _ _ _=>ln1 fun _=>rfl;obtain ⟨d_q95,F_q95⟩:=l_q95.fn;have B_q95:=F_q95.binds (ps:=["shown"]) fun _ _ _ _ _ _=>ln1 fun _=>rfl
 let T:TX w K mg:=⟨⟨_,mo X G g_q64,_,rfl⟩,⟨_,mo X G g_q74,_,rfl⟩,_,mo X G g_q42,fun _=>aJ_ l_q42 v_q42 (by show 3<=sizeLine;decide),_,mo X G g_q66,fun _=>aJ_ l_q66 v_q66 (by show 2<=sizeLine;decide),_,mo X G g_q119,⟨fun f=>match f with | .fn=>ad_q119_0 | .rec_=>ad_q119_1 | .let_=>ad_q119_2 | .if_=>ad_q119_3 | .app=>ad_q119_4 | .pair=>ad_q119_5 | .fst=>ad_q119_6 | .snd=>ad_q119_7 | .cons=>ad_q119_8 | .case=>ad_q119_9 | .fold=>ad_q119_10 | .plus=>ad_q119_11 | .minus=>ad_q119_12 | .times=>ad_q119_13 | .over=>ad_q119_14 | .less=>ad_q119_15 | .equal=>ad_q119_16 | .floor=>ad_q119_17 | .rest=>ad_q119_18 | .root=>ad_q119_19 | .pow=>ad_q119_20,⟨⟨es_q119,ep_q119,l_q119,p_q119⟩,l5_,z_q119⟩,fun f H=>match f with | .fn=>aJ_ lt_q119_0 v_q119_0 (by show 2<=sizeLine;decide) | .rec_=>aJ_ lt_q119_1 v_q119_1 (by show 3<=sizeLine;decide) | .let_=>aJ_ lt_q119_2 v_q119_2 (by show 3<=sizeLine;decide) | .if_=>aJ_ lt_q119_3 v_q119_3 (by show 3<=sizeLine;decide) | .app=>aJ_ lt_q119_4 v_q119_4 (by show 2<=sizeLine;decide) | .pair=>aJ_ lt_q119_5 v_q119_5 (by show 2<=sizeLine;decide) | .fst=>aJ_ lt_q119_6 v_q119_6 (by show 1<=sizeLine;decide) | .snd=>aJ_ lt_q119_7 v_q119_7 (by show 1<=sizeLine;decide) | .cons=>aJ_ lt_q119_8 v_q119_8 (by show 2<=sizeLine;decide) | .case=>aJ_ lt_q119_9 v_q119_9 (by show 5<=sizeLine;decide) | .fold=>aJ_ lt_q119_10 v_q119_10 (by show 3<=sizeLine;decide) | .plus=>aJ_ lt_q119_11 v_q119_11 (by show 2<=sizeLine;decide) | .minus=>aJ_ lt_q119_12 v_q119_12 (by show 2<=sizeLine;decide) | .times=>aJ_ lt_q119_13 v_q119_13 (by show 2<=sizeLine;decide) | .over=>aJ_ lt_q119_14 v_q119_14 (by show 2<=sizeLine;decide) | .less=>aJ_ lt_q119_15 v_q119_15 (by show 2<=sizeLine;decide) | .equal=>aJ_ lt_q119_16 v_q119_16 (by show 2<=sizeLine;decide) | .floor=>aJ_ lt_q119_17 v_q119_17 (by show 2<=sizeLine;decide) | .rest=>aJ_ lt_q119_18 v_q119_18 (by show 2<=sizeLine;decide) | .root=>aJ_ lt_q119_19 v_q119_19 (by show 1<=sizeLine;decide) | .pow=>aJ_ lt_q119_20 v_q119_20 (by show 2<=sizeLine;decide),fun f=>match f with | .fn=>⟨_,_,_,lt_q119_0,v_q119_0⟩ | .rec_=>⟨_,_,_,lt_q119_1,v_q119_1⟩ | .let_=>⟨_,_,_,lt_q119_2,v_q119_2⟩ | .if_=>⟨_,_,_,lt_q119_3,v_q119_3⟩ | .app=>⟨_,_,_,lt_q119_4,v_q119_4⟩ | .pair=>⟨_,_,_,lt_q119_5,v_q119_5⟩ | .fst=>⟨_,_,_,lt_q119_6,v_q119_6⟩ | .snd=>⟨_,_,_,lt_q119_7,v_q119_7⟩ | .cons=>⟨_,_,_,lt_q119_8,v_q119_8⟩ | .case=>⟨_,_,_,lt_q119_9,v_q119_9⟩ | .fold=>⟨_,_,_,lt_q119_10,v_q119_10⟩ | .plus=>⟨_,_,_,lt_q119_11,v_q119_11⟩ | .minus=>⟨_,_,_,lt_q119_12,v_q119_12⟩ | .times=>⟨_,_,_,lt_q119_13,v_q119_13⟩ | .over=>⟨_,_,_,lt_q119_14,v_q119_14⟩ | .less=>⟨_,_,_,lt_q119_15,v_q119_15⟩ | .equal=>⟨_,_,_,lt_q119_16,v_q119_16⟩ | .floor=>⟨_,_,_,lt_q119_17,v_q119_17⟩ | .rest=>⟨_,_,_,lt_q119_18,v_q119_18⟩ | .root=>⟨_,_,_,lt_q119_19,v_q119_19⟩ | .pow=>⟨_,_,_,lt_q119_20,v_q119_20⟩⟩,⟨_,mo X G g_q116,_,rfl⟩,⟨_,mo X G g_q18,_,rfl⟩,⟨_,mo X G g_q49,_,rfl⟩,⟨_,mo X G g_q121,_,rfl⟩,_,mo X G g_q12,fun _=>aJ_ l_q12 v_q12 (by show 2<=sizeLine;decide),⟨_,mo X G g_q16,_,rfl⟩,⟨_,mo X G g_q34,_,rfl⟩,⟨_,mo X G g_q67,_,rfl⟩,⟨_,mo X G g_q110,_,rfl⟩,_,mo X G g_q43,fun _=>aJ_ l_q43 v_q43 (by show 31<=sizeLine;decide),⟨_,mo X G g_q44,_,rfl⟩,⟨_,mo X G g_q5,_,rfl⟩,⟨_,mo X G g_q1,_,rfl⟩,⟨_,mo X G g_q59,_,rfl⟩,⟨_,mo X G g_q36,_,rfl⟩,⟨_,mo X G g_q76,_,rfl⟩,_,mo X G g_q72,fun _=>aJ_ l_q72 v_q72 (by show 9<=sizeLine;decide),⟨_,mo X G g_q91,_,rfl⟩,⟨_,mo X G g_q31,_,rfl⟩,⟨_,mo X G g_q73,_,rfl⟩,⟨_,mo X G g_q88,_,rfl⟩,_,mo X G g_q118,⟨⟨es_q118,ep_q118,l_q118,p_q118⟩,by simp only [map_cons,map_nil];decide +kernel,z_q118⟩,_,mo X G g_q22,_,fun _=>aJ_ lt_q22_0 v_q22_0 (by show 2<=sizeLine;decide),_,fun _=>aJ_ lt_q22_1 v_q22_1 (by show 2<=sizeLine;decide),_,fun _=>aJ_ lt_q22_2 v_q22_2 (by show 2<=sizeLine;decide),_,fun _=>aJ_ lt_q22_3 v_q22_3 (by show 2<=sizeLine;decide),_,fun _=>aJ_ lt_q22_4 v_q22_4 (by show 2<=sizeLine;decide),_,fun _=>aJ_ lt_q22_5 v_q22_5 (by show 2<=sizeLine;decide),_,fun _=>aJ_ lt_q22_6 v_q22_6 (by show 2<=sizeLine;decide),⟨⟨es_q22,ep_q22,l_q22,p_q22⟩,by simp only [map_cons,map_nil];decide +kernel,z_q22⟩,_,mo X G g_q113,⟨_,mo X G g_q81,_,rfl⟩,⟨_,mo X G g_q14,_,rfl⟩,⟨_,mo X G g_q84,_,rfl⟩,mn X G b_all,mn X G b_enumerate,mn X G b_int,mn X G b_isinstance,mn X G b_len,mn X G b_max,mn X G b_ord,mn X G b_reversed,mn X G b_str,_,mo X G G_q122,_,_,F_q13,B_q13,mW_ lx_q122 a_q13 i_q13 kc_q122 ga_q122 gn_q122 sa_q122 hd_q122,n_q61,n_q54,_,mo X G G_q124,_,_,F_q15,B_q15,⟨pg_q124,hd_q124,po_q124,sa_q124⟩,⟨mk_q124,a_q15,i_q15,kc_q124⟩,⟨y1_q124,y2_q124,y3_q124,y4_q124,oJ_ y5_q124⟩,n_q94,n_q55,n_q70,n_q58,n_q98,_,mo X G G_q114,_,_,F_q4,B_q4,⟨pg_q114,hd_q114,po_q114,sa_q114⟩,⟨mk_q114,a_q4,i_q4,kc_q114⟩,n_q46,n_q30,n_q9,_,mo X G G_q120,_,_,F_q6,B_q6,⟨pg_q120,hd_q120,po_q120,sa_q120⟩,⟨mk_q120,a_q6,i_q6,kc_q120⟩,n_q52,n_q80,n_q47,n_q93,n_q24,_,mo X G G_Row,_,_,F_q25,B_q25,_,_,F_q26,B_q26,⟨a_q26,i_q26,F_q26.kp⟩,_,_,F_q96,B_q96,⟨a_q96,i_q96,F_q96.kp⟩,_,_,F_q19,B_q19,⟨a_q19,i_q19,F_q19.kp⟩,⟨pg_Row,hd_Row,po_Row,sa_Row⟩,⟨mk_Row,a_q25,i_q25,kc_Row⟩,n_q85,n_q89,_,mo X G G_q123,_,_,F_q23,B_q23,⟨pg_q123,hd_q123,po_q123,sa_q123⟩,⟨mk_q123,a_q23,i_q23,kc_q123⟩,n_q87,n_q78,n_q68,_,_,⟨mo X G a_q103,F_q103,B_q103⟩,_,_,⟨mo X G a_q37,F_q37,B_q37⟩,_,_,⟨mo X G a_q105,F_q105,B_q105⟩,_,_,⟨mo X G a_q86,F_q86,B_q86⟩,_,_,⟨mo X G a_q99,F_q99,B_q99⟩,_,_,⟨mo X G a_q62,F_q62,B_q62⟩,_,_,⟨mo X G a_q17,F_q17,B_q17⟩,_,_,⟨mo X G a_q104,F_q104,B_q104⟩,_,_,⟨mo X G a_q0,F_q0,B_q0⟩,_,_,⟨mo X G a_q107,F_q107,B_q107⟩,_,_,⟨mo X G a_q111,F_q111,B_q111⟩,_,_,⟨mo X G a_q100,F_q100,B_q100⟩,_,_,⟨mo X G a_q77,F_q77,B_q77⟩,_,_,⟨mo X G a_q51,F_q51,B_q51⟩,_,_,⟨mo X G a_q115,F_q115,B_q115⟩,_,_,⟨mo X G a_q10,F_q10,B_q10⟩,_,_,⟨mo X G a_q57,F_q57,B_q57⟩,_,_,⟨mo X G a_q83,F_q83,B_q83⟩,_,_,⟨mo X G a_q101,F_q101,B_q101⟩,_,_,⟨mo X G a_q102,F_q102,B_q102⟩,_,_,⟨mo X G a_q109,F_q109,B_q109⟩,_,_,⟨mo X G a_q48,F_q48,B_q48⟩,_,_,⟨mo X G a_q53,F_q53,B_q53⟩,_,_,⟨mo X G a_q11,F_q11,B_q11⟩,_,_,⟨mo X G a_q32,F_q32,B_q32⟩,_,_,⟨mo X G a_q75,F_q75,B_q75⟩,_,_,⟨mo X G a_q65,F_q65,B_q65⟩,_,_,⟨mo X G a_q35,F_q35,B_q35⟩,_,_,⟨mo X G a_q56,F_q56,B_q56⟩,_,_,⟨mo X G a_q60,F_q60,B_q60⟩,_,_,⟨mo X G a_q92,F_q92,B_q92⟩,_,_,⟨mo X G a_q117,F_q117,B_q117⟩,_,_,⟨mo X G a_q69,F_q69,B_q69⟩,_,_,⟨mo X G a_q20,F_q20,B_q20⟩,_,_,⟨mo X G a_q126,F_q126,B_q126⟩,_,_,⟨mo X G a_q29,F_q29,B_q29⟩,_,_,⟨mo X G a_q21,F_q21,B_q21⟩,_,_,⟨mo X G a_q112,F_q112,B_q112⟩,_,_,⟨mo X G a_q106,F_q106,B_q106⟩,_,_,⟨mo X G a_q7,F_q7,B_q7⟩,_,_,⟨mo X G a_q27,F_q27,B_q27⟩,_,_,⟨mo X G a_q82,F_q82,B_q82⟩,_,_,⟨mo X G a_q71,F_q71,B_q71⟩,_,_,⟨mo X G a_q63,F_q63,B_q63⟩,_,_,⟨mo X G a_q2,F_q2,B_q2⟩,_,_,⟨mo X G a_q90,F_q90,B_q90⟩,_,_,⟨mo X G a_q41,F_q41,B_q41⟩,_,_,⟨mo X G a_q3,F_q3,B_q3⟩,_,_,⟨mo X G a_q108,F_q108,B_q108⟩,_,_,⟨mo X G a_q33,F_q33,B_q33⟩,_,_,⟨mo X G a_q28,F_q28,B_q28⟩,_,_,⟨mo X G a_q50,F_q50,B_q50⟩,_,_,⟨mo X G a_q79,F_q79,B_q79⟩,_,_,⟨mo X G a_q45,F_q45,B_q45⟩,_,_,⟨mo X G a_q39,F_q39,B_q39⟩,_,_,⟨mo X G a_q38,F_q38,B_q38⟩,_,_,⟨mo X G a_q125,F_q125,B_q125⟩,_,_,⟨mo X G a_q97,F_q97,B_q97⟩,_,_,⟨mo X G a_q8,F_q8,B_q8⟩,_,_,⟨mo X G a_q40,F_q40,B_q40⟩,_,_,⟨mo X G a_q95,F_q95,B_q95⟩,⟨⟨es_q113,ep_q113,l_q113,p_q113⟩,by simp only [map_cons,map_nil];decide +kernel,z_q113⟩⟩
 have e:=hfa.symm.trans T.F_q125.mg;cases e;exact ⟨T.d_q125,fun s us hu=>match us,hu with | [_],_ => .of_eq rfl,fun base _ _=>nz_ T⟩
end M
end Internal
set_option genInjectivity false in
set_option genSizeOfSpec false in
set_option genSizeOf false in
structure PySem.W.Fast:Prop where
 (tw206550509205646375 tw2239024360946971537 tw14717059214276778560 tw13549606381005154371 tw4538159691762867475 tw6581688876218875100 tw15564723793435851926 tw12827930688398602160 tw17226356264276834051 tw14335306061229218242 tw12951663403580845333 tw1195879177008573916 tw14867392785037935538 tw2962229990958828577 tw15415588696200001054 tw13089915551260100034 tw14111796751901478762 tw9158620514524263835 tw3849815453582009041 tw6952157712960205269 tw11582110185308471621 tw3829781860476888843 tw8474471753332032326 tw12673092024874586866 tw12878178741219513961 tw13735589335669099881 tw9767071938631726772 tw5488589783018461532 tw13870461151389747786 tw14841171057965774018 tw4230034834777482563 tw3395720401921071269 tw14513548531104849726 tw4799165927584396778 tw9269111825992825051 tw3833518570846289879 tw1833893161236981858 tw18003069518272721523 tw18319685031666320068 tw14451953522335005986 tw12342723690486485998 tw5453112711360887433 tw12305231313209086539 tw11289124724275916984 tw17870168682771506708 tw9022228989045548186 tw5677430993617398272 tw13979260884845331207 tw2807478251695818367 tw11217731110169317720 tw10455447773536022107 tw15893186516460425236 tw9224243087179779710 tw2106541566907975580 tw17582274827208651169 tw1831564693949663797 tw17000274366397768598 tw14453969312845809201 tw18432323749674910049 tw16779399867991116203 tw10722477432029996419 tw6664284467133772497 tw8071308775698375887 tw2458940451543303953 tw10977465775674435652 tw11367429130377183393 tw1371512165042910893 tw15520702487199567606 tw13397228392216450123 tw18008992117396868650 tw7795099110482908586 tw2917373907398675186 tw313105603856655900 tw1100869104887553 tw16191928204093531320 tw2311770225561547524 tw4740228230239972701 tw8754468621707204296 tw8819486457083294558 tw11633148688250338275 tw1553580345558227536 tw9983463296913450915 tw8069166280544629835 tw8817205220300834049 tw16268465006467304285 tw12435022594672811457 tw2719690121569763949 tw2439988823304668092 tw12734451739199447723 tw14903196947291840923 tw4769304032647205854 tw8198920517866764905 tw634479897189185529 tw4552828526670237447 tw12598008727746357397 tw18057050723248075765 tw12972839556997517592 tw3568669915502698237 tw15848844833849095924 tw11692306376334592988 tw12566419339202916212 tw14891956627689897890 tw13759354908678748554 tw4034054638158091535 tw14201887459985151584 tw17297420968678154419 tw7585691194533781149 tw3033635996605541249 tw11520916683645480368 tw3000692795281155394 tw4472505710653639151 tw13099486667155548162 tw3818156430395969238 tw6230294861059236657 tw11720453930552245395 tw3375103600965373379 tw2053034160916603119 tw17989357123790742656 tw11710239273537142281 tw7652272712698792370 tw11623711037596699481 tw10405634932407479585 tw11482263609719077261 tw16201807058293553955 tw17082036322600792477 tw17656630216731822432 tw13549513823598939932 tw5377750720739582355 tw17531881614650869104 tw5479605779072585083 tw16750059743313797818 tw11478975093838145695 tw9485860503699202331 tw3328408391985546220 tw12871010011734315862 tw8099283347109458119 tw4856762342841011038 tw2781069903293133586 tw16607996902351239947 tw14561372345081456876 tw3678776018072172267 tw6343030908030767994 tw3078246967443675010 tw18071895751486770336 tw10461458539761125068 tw17762517132526741416 tw13366736331514787636 tw7577577065699802739 tw16498429775048393077 tw4828505044277513574 tw14320894393936420378 tw11885882641628213889 tw2934859468965092298 tw13631009292267429018 tw12531929248878220661 tw9260264351852748706 tw12201089949884616052 tw2385603676313761252 tw6911174998695501162 tw11164185826960898528 tw7072389552845177107 tw5649926206534480123 tw17444718982519267868 tw13339397495230242114 tw4349791104177387786 tw18231622551110640929 tw4077049752405425544 tw13291534842167977837 tw15921307075798764210 tw14561362606541002197 tw14616639586824234496 tw6221622638214276538 tw18397637231409469052 tw4624409429562921242 tw18123496413416267927 tw382220524369293478 tw17554608064701103345 tw1951426950328232523 tw16210660186964821825 tw8040523813702837469 tw13699156527340965932 tw16320712774518496298 tw7196362603597140678 tw7727847055179878343 tw1553784301463310528 tw6131411166287662030 tw9151834296245141730 tw5010841771214911909 tw14848277456114696155 tw13459432826702193168 tw15871680574464729220 tw17446333604474150555 tw16386064414775660012 tw17373731777680196056 tw12714354193004613570 tw15415112260551004053 tw3101230491340912608 tw11495501580295104555 tw8478522627918399361 tw15762230134773899532 tw18164581184293551620 tw11811293661737942242 tw1909145876885853094 tw11022343984801164375 tw5315601608573610964 tw544198006828268576 tw15728758736886721332 tw872022569698770161 tw14338840681864536334 tw3099819695622030108 tw1316940963982547058 tw10500119973448618745 tw8974009386987696958 tw9894971068476607430 tw6062400261999475465 tw4835697665656934129 tw12806257943130178403 tw3175271166357566344 tw14816974917374121767 tw4701112110501636772 tw4100432856518114739 tw5117645100876887370 tw6633605218738665558 tw9725572535830595874 tw14646734776213609541 tw13572828565718102195 tw7112388948077527296 tw6802098203033935559 tw1036470584225454149 tw12103088305047368722 tw9906719323826072402 tw406965010459496424 tw10303365828413285899 tw9129299461352780060 tw8907877257644418903 tw10448918937223041405 tw15913740042164462153 tw16175211937830745541 tw6177250033076766413 tw11694656399007640615 tw1242112990387521742 tw17239208646509047788 tw8061062671010849111 tw10868832026064186590 tw17425287767492182970 tw2203222255177112800 tw12590696977152597919 tw17029447337927453531 tw4028792017728854347 tw11474199449051869863 tw11473635871230464310 tw14685186236061862565 tw2076608132013992267 tw6068095947568360018 tw13024162783948613823 tw1004111701002290197 tw2133655257446355448 tw7724220788675422058 tw9349430437685568559 tw1217532418693009430 tw11125884562894451724 tw2469166757700889996 tw10464542791977969935 tw10089551822853164559 tw13216246838622877027 tw17889998798979950973 tw17252684345383008731 tw16899256525894149690 tw7260834644099136160 tw10975355055290408164 tw7611078263778702923 tw17534012243916307151 tw7424065486251383925 tw15829390072248719967 tw11955829032283903554 tw11718235609592907463 tw10539417480402053658 tw16309302178818305423 tw9443558292027190415 tw17093721284850460407 tw15882512581144307241 tw14224040265215793893 tw6745477918304419559 tw11522112162433017255 tw16093841645749284880 tw1980590071826786517 tw13400427716356039866 tw10356342203598106751 tw14538536333772612439 tw15286369202641633071 tw6640895073945395853 tw3579456258517026388 tw17308450865443353508 tw16381924405431381951 tw4412784522098318338 tw7023288260230529220 tw14147035215474728305 tw6851934370653935109 tw3095952490073760138 tw216173499377503777 tw2449487308351855042 tw10922159742369712086 tw4094739436978722530 tw649825293691665882 tw17519566010368798022 tw13562398640959607276 tw9474551161727476467 tw3587096958823842517 tw11157026069288264817 tw16729928269258914118 tw7535100709014276892 tw5594174586234702510 tw15340806267967937407 tw8596707249871467896 tw6726253326737683094 tw13808515671322418406 tw12866858798320233580 tw9123292757490623368 tw6006834427346650177 tw9723502546863861923 tw16554307770654694828 tw14173097825925719687 tw10807357507500786811 tw214067674913190217 tw11028787686150602100 tw1227782967728600522 tw13190637317729042772 tw15812309412446872211 tw12509530698210774775 tw12598442794565839346 tw1039756672895374396 tw8297999416070695208 tw18162682240549029974 tw5492131852825561152 tw3546224034144389751 tw6800891692059874012 tw12736813954983191799 tw16970572467050778366 tw233638026663779993 tw5982035464591055918 tw169015883591866553 tw12933256265287210551 tw4989257185471562864 tw6509481172617238588 tw10654822441646950934 tw9968077295738207310 tw12789397758181634509 tw10393445363182143290 tw13488020435315667744 tw3695510013316746705 tw8752403134894619562 tw12661020693122287580 tw406295608719142229 tw5077885970544529566 tw17867645620265442310 tw15385273992364390354 tw9503673421407879829 tw506929871864675755 tw9129427988094595462 tw9105568050750280682 tw16207076616235366520 tw15409344325920132496 tw2210257784938434148 tw13350886883302785527 tw7656931727793023269 tw3694712169718718165 tw1500125906717627400 tw2070300795683887491 tw12493039833855824542 tw17450325221272887635 tw11628037821119605462 tw17626305350171019835 tw6439211872243462030 tw6864915945734502247 tw5621190161729813242 tw845360214114764121 tw10635829346942818579 tw3516263867020390348 tw14428170109392864330 tw13720253759069397303 tw4890524159573483294 tw17618555931919788085 tw15053531189815356419 tw6242029923623250288 tw7687134416041060590 tw6724426142955005282 tw617958365391449183 tw6461942924728880220 tw15636099236829191589 tw9558488117110686108 tw1898881788056915804 tw3248231062493203738 tw18085504393632215819 tw8317351413945366009 tw10235202004011753849 tw8846488625737135056 tw3463028050842339347 tw17014149260366351303 tw15841847924679319837 tw9542861719232113320 tw5794457955358854109 tw2257022210946227778 tw1814339663252559447 tw13152568921666489430 tw18315253565077101464 tw1441717357613756148 tw11205862979711620626 tw12396669582220929275 tw8631188954122138429 tw11976228948531207705 tw15350051662159506006 tw8005506987227455645 tw17910812907491886190 tw13328089728292111099 tw1182087481818525766 tw16117348521709272893 tw10906438720570661029 tw12094302497624877409 tw8852554639904885824 tw11584469062180553341 tw7154674312988986127 tw2415622745897386203 tw16658210493370510949 tw9998103026803315269 tw244950388217279214 tw9626985461966420599 tw15957892384251011554 tw16601516664567841423 tw11389908949886534640 tw9664180288519219214 tw11791194276344602508 tw10015535217008741541 tw10786333518730259190 tw11572547649534147914 tw11590671571981371407 tw13114280774854736218 tw1556427269064137910 tw12394529191402142164 tw12821931908863488553 tw4525611711804863607 tw3238224462270319975 tw15118462901707509147 tw16602116653948012401 tw16683574572299785396 tw12096307940007684751 tw16472786205977771275 tw15715438154970097379 tw4349348809707221797 tw2658332189314410346 tw9206560427217845351 tw4622052506346571331 tw4303471937560543525 tw17860753449232665382 tw195610918875568966 tw18343410239294662072 tw6152945366611717327 tw14189790494644653367 tw15867276722699517789 tw4627206682289931819 tw12469912577316797229 tw1515335772225906113 tw17466295592025595239 tw15196656298980139837 tw6536503263239215451 tw11338013182384598230 tw35328143586657631 tw15798239205172932697 tw9083662006109320726 tw16362049596963242839 tw9380860758165568514 tw3069990886776271894 tw17121339582216612683 tw8116643641802100855 tw1387924684633502531 tw7968220155890594626 tw13738503024279982495 tw1800177779018568663 tw1562945073322232016 tw3971854598948817474 tw6497410119527735049 tw8140846163793368866 tw5074326402497520227 tw5782597619233261006 tw14016049517831108778 tw4449993177126827507 tw5748825370242599783 tw14014764570085772879 tw326140103963217324 tw10492061287743471842 tw5203860341420974907 tw15286639592896452090 tw1911754675131538378 tw1149964519228095067 tw6748583706063941815 tw1699642464565766016 tw13306788546327147759 tw16979981743408008084 tw13437121683608464019 tw17200676853137851835 tw1087528911756151860 tw10346879992422988105 tw15645657656882325232 tw4220871827967986042 tw15081517183350614364 tw1049967994546264658 tw7448379578386425303 tw12732794990433896777 tw5274685270928710205 tw9833754536561365603 tw2790841282818349493 tw4328689581310838069 tw15001178909595129406 tw11094566715000747964 tw2021323585625355501 tw1813227110607919912 tw1791075761623267666 tw4463824033990916180 tw15102134413908127507 tw10075675139908787066 tw16592106775056778402 tw11076054965473044826 tw11164231671966750617 tw724515865587161780 tw9679800518469017783 tw16639182793652087756 tw11609980332123776343 tw11172974127256270758 tw2461726985160363886 tw1479359047719478516 tw12365368049183605516 tw187330650880928933 tw8558531284494626510 tw9432782995848000880 tw1974693328165415864 tw12029043994837798102 tw10855352836213337607 tw9189837056247787031 tw17617397574284669753 tw16548713862207098013 tw17179145128760562439 tw3943327532246686456 tw2929301639316457769 tw18371358523083319059 tw13779829675154889248 tw14679840664868569065 tw2681635235866612452 tw9888552824421828996 tw17668325535600767576 tw17043915960434362194 tw11016281009566428015 tw10547210918009041885 tw751742078947954967 tw15465593314218138651 tw5171295749212112331 tw11927116242821893051 tw7888320610735414209 tw1856313282544709273 tw11873589365762028878 tw6435087137156870369 tw14790420902740488442 tw12614230425240992615 tw8352606639382073739 tw3109535220713815845 tw3226789573459049602 tw14571767075773650030 tw12873583556385904881 tw17694362498210780235 tw7569779478570017871 tw15007899065834306277 tw11576576418160994025 tw9556692481491703181 tw11144520467477900450 tw6562487771682721012 tw17457555238130086165 tw6175637269990507 tw11816827739406727153 tw7191372402942648813 tw14275527970576109367 tw13441593350044132940 tw13223570881219821739 tw8698189247674485404 tw11061672441405556945 tw4970030587612986419 tw6554710115708974940 tw9301808081447458885 tw12765268157468107925:True)
open PySem PySem.W PyProof.Rows
set_option maxRecDepth 100000 in
set_option maxHeartbeats 0 in
theorem PySem.Challenge.cw_measuretext_s04_show_holds : PySem.Challenge.rw_measuretext_s04_show.Holds := by
 w_on;k_headS;(case hw=>exact ⟨[.list []],by decide +kernel,by decide +kernel⟩)
 k_fillS
 refine L2.iN_ (r:=PySem.Challenge.rw_measuretext_s04_show) (k:=22) (CX:=L2.CX0) (ps:=["text"]) (sp:=M.hn_ PyVaunid.show_) (by decide +kernel) rfl rfl ⟨rfl,by decide,by decide⟩ (fun w h Y=>PySem.W.kIn_of Y) ?F ?S (fun _ _ _ _ z=>z)
 case F =>
  intro w mg fa h Y KX G hmg;refine' M.o5_ KX G hmg ?a0 ?a1 ?a2 ?a3 ?a4 ?a5 ?a6 ?a7 ?a8 ?a9 ?a10 ?a11 ?a12 ?a13 ?a14 ?a15 ?a16 ?a17 ?a18 ?a19 ?a20 ?a21 ?a22 ?a23 ?a24 ?a25 ?a26 ?a27 ?a28 ?a29 ?a30 ?a31 ?a32 ?a33 ?a34 ?a35 ?a36 ?a37 ?a38 ?a39 ?a40 ?a41 ?a42 ?a43 ?a44 ?a45 ?a46 ?a47 ?a48 ?a49 ?a50 ?a51 ?a52 ?a53 ?a54 ?a55 ?a56 ?a57 ?a58 ?a59 ?a60 ?a61 ?a62 ?a63 ?a64 ?a65 ?a66 ?a67 ?a68 ?a69 ?a70 ?a71 ?a72 ?a73 ?a74 ?a75 ?a76 ?a77 ?a78 ?a79 ?a80 ?a81 ?a82 ?a83 ?a84 ?a85 ?a86 ?a87 ?a88 ?a89 ?a90 ?a91 ?a92 ?a93 ?a94 ?a95 ?a96 ?a97 ?a98 ?a99 ?a100 ?a101 ?a102 ?a103 ?a104 ?a105 ?a106 ?a107 ?a108 ?a109 ?a110 ?a111 ?a112 ?a113 ?a114 ?a115 ?a116 ?a117 ?a118 ?a119 ?a120 ?a121 ?a122 ?a123 ?a124 ?a125 ?a126 ?a127 ?a128 ?a129 ?a130 ?a131 ?a132 ?a133 ?a134 ?a135 ?a136 ?a137 ?a138 ?a139 ?a140 ?a141 ?a142 ?a143 ?a144 ?a145 ?a146 ?a147 ?a148 ?a149 ?a150 ?a151 ?a152 ?a153 ?a154 ?a155 ?a156 ?a157 ?a158 ?a159 ?a160 ?a161 ?a162 ?a163 ?a164 ?a165 ?a166 ?a167 ?a168 ?a169 ?a170 ?a171 ?a172 ?a173 ?a174 ?a175 ?a176 ?a177 ?a178 ?a179 ?a180 ?a181 ?a182 ?a183 ?a184 ?a185 ?a186 ?a187 ?a188 ?a189 ?a190 ?a191 ?a192 ?a193 ?a194 ?a195 ?a196 ?a197 ?a198 ?a199 ?a200 ?a201 ?a202 ?a203 ?a204 ?a205 ?a206 ?a207 ?a208 ?a209 ?a210 ?a211 ?a212 ?a213 ?a214 ?a215 ?a216 ?a217 ?a218 ?a219 ?a220 ?a221 ?a222 ?a223 ?a224 ?a225 ?a226 ?a227 ?a228 ?a229 ?a230 ?a231 ?a232 ?a233 ?a234 ?a235 ?a236 ?a237 ?a238 ?a239 ?a240 ?a241 ?a242 ?a243 ?a244 ?a245 ?a246 ?a247 ?a248 ?a249 ?a250 ?a251 ?a252 ?a253 ?a254 ?a255 ?a256 ?a257 ?a258 ?a259 ?a260 ?a261 ?a262 ?a263 ?a264 ?a265 ?a266 ?a267 ?a268 ?a269 ?a270 ?a271 ?a272 ?a273 ?a274 ?a275 ?a276 ?a277 ?a278 ?a279 ?a280 ?a281 ?a282 ?a283 ?a284 ?a285 ?a286 ?a287 ?a288 ?a289 ?a290 ?a291 ?a292 ?a293 ?a294 ?a295 ?a296 ?a297 ?a298 ?a299 ?a300 ?a301 ?a302 ?a303 ?a304 ?a305 ?a306 ?a307 ?a308 ?a309 ?a310 ?a311 ?a312 ?a313 ?a314 ?a315 ?a316 ?a317 ?a318 ?a319 ?a320 ?a321 ?a322 ?a323 ?a324 ?a325 ?a326 ?a327 ?a328 ?a329 ?a330 ?a331 ?a332 ?a333 ?a334 ?a335 ?a336
  case a0 | a1 | a2 | a3 | a4 | a5 | a6 | a7 | a8 | a9 | a10 | a11 | a12 | a13 | a14 | a15 | a16 | a17 | a18 | a19 | a20 | a21 | a22 | a23 | a24 | a25 | a26 | a27 | a28 | a29 | a30 | a31 | a32 | a33 | a34 | a35 | a36 | a37 | a38 | a39 | a40 | a41 | a42 | a43 | a44 | a45 | a46 | a47 | a48 | a49 | a50 | a51 | a52 | a53 | a54 | a55 | a56 | a57 | a58 | a59 | a60 | a61 | a62 | a63 | a64 | a65 | a66 | a67 | a68 | a69 | a70 | a71 | a72 | a73 | a74 | a75 | a76 | a77 | a78 | a79 | a80 | a81 | a82 | a83 | a84 | a85 | a86 | a87 | a88 | a89 | a90 | a91 | a92 | a93 | a94 | a95 | a96 | a97 | a98 | a99 | a100 | a101 | a102 | a103 | a104 | a105 | a106 | a107 | a108 | a109 | a110 | a111 | a112 | a113 | a114 | a115 | a116 | a117 | a118 | a119 | a120 | a121 | a122 | a123 | a124 | a125 | a126 | a127 | a128 | a129 | a130 | a131 | a132 | a133 | a134 | a135 | a136 | a137 | a138 | a139 | a140 | a141 | a142 | a143 | a144 | a145 | a146 | a147 | a148 | a149 | a150 | a151 | a152 | a153 | a154 | a155 | a156 | a157 | a158 | a159 | a160 | a161 | a162 | a163 | a164 | a165 | a166 | a167 | a168 | a169 | a170 | a171 | a172 | a173 | a174 | a175 | a176 | a177 | a178 | a179 | a180 | a181 | a182 | a183 | a184 | a185 | a186 | a187 | a188 | a189 | a190 | a191 | a192 | a193 | a194 | a195 | a196 | a197 | a198 | a199 | a200 | a201 | a202 | a203 | a204 | a205 | a206 | a207 | a208 | a209 | a210 | a211 | a212 | a213 | a214 | a215 | a216 | a217 | a218 | a219 | a220 | a221 | a222 | a223 | a224 | a225 | a226 | a227 | a228 | a229 | a230 | a231 | a232 | a233 | a234 | a235 | a236 | a237 | a238 | a239 | a240 | a241 | a242 | a243 | a244 | a245 | a246 | a247 | a248 | a249 | a250 | a251 | a252 | a253 | a254 | a255 | a256 | a257 | a258 | a259 | a260 | a261 | a262 | a263 | a264 | a265 | a266 | a267 | a268 | a269 | a270 | a271 | a272 | a273 | a274 | a275 | a276 | a277 | a278 | a279 | a280 | a281 | a282 | a283 | a284 | a285 | a286 | a287 | a288 | a289 | a290 | a291 | a292 | a293 | a294 | a295 | a296 | a297 | a298 | a299 | a300 | a301 | a302 | a303 | a304 | a305 | a306 | a307 | a308 | a309 | a310 | a311 | a312 | a313 | a314 | a315 | a316 | a317 | a318 | a319 | a320 | a321 | a322 | a323 | a324 | a325 | a326 | a327 | a328 | a329 | a330 | a331 | a332 | a333 | a334 | a335 | a336=>first | k_is | (exact ⟨_,_,_,_,_,_,_,_,_,by k_is,by k_is,by k_is⟩) | ((repeat (refine .cons ⟨_,rfl⟩ ?_));exact .nil) | decide | ((repeat (refine .cons ⟨rfl,⟨_,rfl⟩,rfl⟩ ?_));exact .nil) | ((repeat (refine .cons ⟨rfl,⟨_,rfl⟩,⟨_,rfl⟩⟩ ?_));exact .nil)
 case S =>
  intro K H xs a hO hwi hask hx;cases hx with
  | cons h1 h2 =>
  cases h2;cases h1 with
  | lst hs ha =>
  have e:=L2.kI_ a.1 _ ha;subst e;have q:((Codec.inLen 0 10000 a.1 && a.1.all (Codec.inInt 0 255)) && true)=true:=hwi;rw [and_eq_true,and_eq_true] at q;refine ⟨_,a.1,rfl,hs,(Codec.inNat_iff.mp q.1.1).2,fun n hn=>?_,fun H' p hp => .lst (L2.SqL.of hp) (L2.kW_ _)⟩;have:=List.all_eq_true.mp q.1.2 n hn;unfold Codec.inInt at this;simpa using this
#print axioms PySem.Challenge.cw_measuretext_s04_show_holds
